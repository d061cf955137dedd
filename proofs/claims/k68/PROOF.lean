import PyProof.Rows.All
import Wide.All
import OpenK.AllK
import Wide.FinOn
import Lean
import PyProof.EqAt
import PyProof.EqKinds
import PyProof.TupleCall
import PySem.Challenge.RW_fivecups_k68_whole_sums_of_changed_dance
open Array renaming getElem?_eq_getElem->An,length_toList->As,toList_append->BF,toList_push->BW,getElem?_toList->Bl,toList_inj->Cf,getD_eq_getD_getElem?->Dc,toList_reverse->EV,toList_map->FJ,toList_setIfInBounds->Fw,toList_extract->Gz,getD->HN,size_map->IU,toList->Il
open Bool renaming false_ne_true->AQ,false_eq_true->Ar,and_eq_true->Ax,eq_iff_iff->EG,not_false->Ea,not_true->Ew,or_eq_true->IM,false_and->IY,and_false->Ia,or_false->Iu,false_or->Iy,and_true->JD
open Classical renaming byContradiction->LW
open False renaming elim->Bh
open ForInStep renaming yield->Cj
open Function renaming comp_def->B1
open Int renaming natCast_mul->Bd,mul_emod->Bq,mul_assoc->Bv,emod_nonneg->B3,toNat_of_nonneg->CP,mul_one->Ce,mul_comm->Cr,toNat_natCast->Du,natCast_inj->EM,emod_lt_of_pos->E6,mul_left_comm->FM,add_emod->FN,mul_add->Fj,add_zero->G0,mul_neg->HS,natCast_add->Ij,emod_emod->JT,sub_zero->Jo,pow_succ->Js,add_mul->KM
open Int.ofNat renaming inj->LV
open List renaming range->AC,mem_cons_of_mem->AF,mem_cons_self->AH,mem_singleton->AI,map_cons->AJ,getD_eq_getElem?_getD->AK,size_toArray->AN,getElem?_eq_getElem->AR,mem_cons->AS,getElem?_set_ne->AW,getElem?_eq_some_iff->Aa,replicate->Ac,getElem?_map->Af,mem_map->Ag,mem_append_right->Aj,length_map->Ak,getElem?_set_self->Am,mem_append->Ap,getElem?_append_left->Aq,pairwise_iff_getElem->Au,map_nil->Ay,mem_filter->A5,map_append->A6,map_map->A7,sum_cons->BD,map_congr_left->BH,nodup_cons->BI,getElem?_append_right->BJ,all_eq_true->BK,pairwise_map->BN,length_append->BQ,mem_range->BU,pairwise_cons->Bb,length_cons->Be,append_assoc->Bk,find?_cons->Bp,mem_of_getElem?->Br,getElem?_eq_none->Bz,replicate_succ->B4,lookup_cons->B9,mem_reverse->CA,append_nil->CJ,idxOf_lt_length_iff->CL,any_eq_true->CO,take_of_length_le->CS,any_cons->CW,flatten_cons->CZ,nodup_range->Cm,drop_eq_getElem_cons->Co,reverse_append->Ct,getElem?_take_of_lt->Cu,filter_append->Cw,getElem?_replicate->C0,filter_cons_of_pos->C2,filter_cons_of_neg->C3,toArray->C7,drop_of_length_le->C8,filter_congr->C9,eraseIdx_eq_take_drop_succ->DH,length_singleton->DK,getElem_mem->DL,all_cons->DQ,length->DR,length_nil->DW,eq_of_mem_replicate->Dv,length_take->D3,nil_sublist->D4,foldl->EA,filter_eq_nil_iff->EC,foldl_cons->EH,sum_append->EJ,getElem?_toArray->EK,pairwise_reverse->EL,mem_append_left->EW,filterMap_cons->Ef,filter_sublist->Eo,zip_cons_cons->Ex,getElem?_drop->Ey,findIdx?_eq_some_iff_getElem->E3,drop_sublist->E9,nodup_append->FA,eraseIdxIfInBounds_toArray->FE,range'_succ->FQ,mem_eraseIdx_iff_getElem?->FT,ext_getElem->FV,filter_cons->FW,of_mem_zip->Ff,find?_some->Fh,range_succ->Fi,Nodup->Fz,take_succ->GB,length_eraseIdx_of_lt->GC,perm_ext_iff_of_nodup->GD,extract_eq_take_drop->GL,mem_or_eq_of_mem_set->GM,set_comm->GR,pairwise_singleton->Ga,getD->Gb,length_eq_zero_iff->Gd,any_map->Gi,sum_nil->Gj,dropLast_eq_take->Gs,getElem?_reverse->Gv,mem_of_mem_erase->Gw,take_append_drop->Gx,length_filter_le->G4,range'->G6,reverse_reverse->HA,mem_of_getLast?->HD,dropLast_subset->HE,length_pos_iff->HM,getElem_of_mem->HP,take_succ_cons->HQ,toList_toArray->HR,mem_filterMap->HW,zip_nil_right->Ha,getElem_idxOf->Hc,find?_eq_none->Hf,zip_nil_left->Hi,mapM_toArray->Hu,length_range->Hv,reverse_perm->Hw,drop_reverse->Hx,find?_append->H9,reverse_cons->IB,flatMap_cons->IC,length_drop->IE,drop_length->IG,getElem_map->IH,all_toArray->II,map_reverse->IJ,nil_append->IL,drop_zero->Ig,nodup_nil->Ih,map_drop->JA,map_take->JB,take_add->JC,all_map->JR,lookup->Jk,all->K8
open List.Nodup renaming not_mem_erase->K9,sublist->LA
open List.Pairwise renaming nil->Jj,sublist->Jp,map->Jq
open List.Perm renaming length_eq->GT,nodup_iff->GU,trans->HB,swap->LO,append_left->LP,eq_of_pairwise->LR,symm->LS
open List.cons renaming inj->Hd,injEq->LU
open Nat renaming le_refl->AL,lt_of_lt_of_le->Ad,le_trans->Al,lt_irrefl->Az,zero_le->A9,ne_of_lt->BA,lt_or_ge->B8,le_of_eq->Dl,zero_add->Dm,le_of_succ_le->Dt,lt_succ_self->D6,le_of_lt->ED,add_zero->EI,le_of_ble_eq_true->ES,ble->Ej,lt_of_le_of_lt->E4,lt_succ_of_lt->FH,lt_trichotomy->FK,not_lt_zero->Fv,add_assoc->Gc,ne_of_gt->Gm,le_succ->HJ,lt_or_gt_of_ne->Hz,le_add_right->IT,add_comm->Ji,lt_trans->Jl,sub_zero->Jn,sub_self->Jr,not_lt->KU,ble_eq->Kc
open Ne renaming symm->BC
open Option renaming bind_some->BG,getD_some->BV,isSome_iff_exists->Cs,none_or->De,mem_toList->Dp,isSome_some->G5,getD_none->Hb,some_inj->Hy,map_some->IA,map->JS
open Option.some renaming inj->Ab,injEq->A0
open Or renaming inr->Ck,inl->Df
open Prod renaming ext->E7,fst->LB
open PyProof.Rows renaming SortSt->Ao,seqObj->Bf,boot_tuple->Bg,slot_tuple_getitem->Bt,IntsAre->By,Keyed->B6,SortKind->CC,kindOf->Cy,callWith_type1->DB,pendingOf->Dd,assignInOrder_cons->Dw,failedOf->ET,AllBare->Eb,IsTup->Ee,get?_update_seq->Em,arrOf->E5,boot_range->FI,listUpdate_at->FU,envOfC->FZ,seqEpoch_at->GS,boot_sorted->GY,subscriptTail->HI,boot_repr->He,subscriptTail_builtinR->Hl,listItems_at->Ht,keyKind'->IR,entry_tuple_getitem->IZ,getElem?_mirror_all->Ii,args_tuple_getitem->Ip,Subscript_->Ir,keyLt'->I0,assignInOrder_nil->JI,callWith_builtin1->J7,lt_int->J8,entry_list_sort->KB,boot_list->KD,boot_tuple->KE,getItem_tuple->KG,list_sort_plain->KI,slicePart_none->KQ,slot_list_sort->KZ,args_list_sort->Kb,mergeAt'->Km,tupleItemsOf_->Kp,plain_sorted->LJ,entry_sorted->LM,args_sorted1->LN
open PyProof.Rows.SortSt renaming mk'->G9
open PySem renaming Value->AB,wpAny_bind->AD,sizeLine->AE,Shared->AG,wpAny_pure->AO,wpAny->AV,starEach->Ae,Program->Ah,FuncData->Ai,mainGlobals->Av,World->Aw,Around->A4,wpAny_mono->BE,sizeLine_eq->BM,cellsFrom->BO,wpAny_newObj_type->BR,compareOp->BY,mem_of_lookup->Bi,boot_len->Bm,wpAny_call_entry->Bu,foldedSetIterable->Bx,behindInMarks->B2,wpAny_callSpecial?_slot->B5,assignEach->B7,sysModules->CH,NameKind->CK,PyData->CM,bootBuiltins->CN,wpAny_holding->CQ,backTo->CT,binaryOp->CU,wpAny_passesOwn->Cb,Paired->Cd,Scope->Cg,wpAny_truthy_bool->Ci,attributeBase->C4,wpAny_field->DG,cLine->DV,builtinLookup_eq_fast->DX,call_meets->DZ,DictEntry->Da,wpAny_attempt->Dg,sliceBounds->Dj,wpAny_of_eq->Dn,swapsWith->Ds,isSubtype_type->Dz,getItem->D8,Keyword->D9,swapsWithSole->EE,swappedStores->EF,tupleKind->EN,pushCells->ER,pyNext->Ec,wpAny_execs_nil->Eg,letOwnedTupleGo->Eh,pushCells_keeps->Ei,typeLookup_type->Ek,wpAny_specialOf->El,IsPart->Ez,keywordEach->E1,compEnvC->E2,seqIndex?->E8,CmpOp->FO,wpAny_standAt->FP,wpAny_newList->FS,rawInt->FX,wpAny_Call_Name_kw->FY,wpAny_setField_rec->Fc,tupleKind_room_in1->Fd,codeAny->Fl,codeAny_mono->Fo,wpAny_typeOf->Fq,callerA->Fs,bindName->Ft,valueAt->Fu,wpAny_eqBool_int->GE,noFill_tuple_add->GH,wpAny_isInstance->GI,seqIndex_of->GQ,wpAny_loadPart'->GZ,BindsTo->Gf,builtinsNs->Gk,typeOf->Gp,backToKw->Gq,wpAny_rule->Gr,wpAny_bindName->Gu,atKey->Gy,assignInOrder->HG,seq_tuple_add->HH,call->HK,PassesOwn->HV,bindL->HY,bindC->HZ,isTrue->Hh,concat_meets->Hj,seqIndex_neg->Hk,wpAny_Call_method_late->Hm,ItemsOf->Hn,wpAny_isTrue_Compare1->ID,GenState->IK,wpAny_pyIter_keyiter->IS,wpAny_Name->Ik,pyIter->Io,typeLookup->Iq,typeIs_int->Iv,Model->JF,setItem->JH,standAt->JJ,wpAny_sequenceKey->JK,slot_list_getitem->JM,wpAny_collect_seq->JP,wpAny_pyIter_slot->JQ,wpAny_execs_cons->JU,small_one->JV,wpAny_forIn_list->Je,codeAny_builtin->J9,Fin->KH,recursionLimit->KP,fitsIndex_both->KR,Params->KS,newFunctionEnv->KW,compPost->KY,repr_of_reads'->Ke,argsOk->Kh,setField->Ki,firstArgMember->Kj,isSubtype_stop->Kk,wpAny_newTuple->Kl,rangeSize_one->Kn,intBits_le_64->Ko,evalPart_none->Kq,call_list_seq->K5,signature?_of->K6,wpAny_handled->K7,call_range_1->LC,newList->LG,IsRange->LH,callType_new->LI,call_meetsIn->LQ
open PySem.Around renaming under_plainId->Gh
open PySem.AutoListH renaming list___mul___list_int_3->LF
open PySem.Builtin.Dict renaming showsAll->Fe,dictSlotNone->KJ
open PySem.Builtin.List renaming listTooLong->Ca,listExtendWith->KA
open PySem.Builtin.Range renaming rangeSize->CD,small->Dy
open PySem.Builtin.Slice renaming slicePlaces->CV,sliceAdjust->DP,sliceApplied->Et,slicePartIndex->Jg,sliceFields->Jh
open PySem.Builtin.SmallTypes renaming newRecord->EB
open PySem.Builtin.Tuple renaming tupleExact->Bw,tupleItemsOf->Eu,tupleCompareSizes->Jf,tupleIsExact->Jm
open PySem.Calls renaming callWith_builtin->C5,evalArgs_plain->EO,spliced_cons->Es,Name_function_global->Fk,call_function_entry->Fy,spliced_nil->HX
open PySem.CmpOp renaming NotIn->JG,In->KN
open PySem.Data renaming cell->KO
open PySem.EqMixed renaming eq_bool_str->JW,eq_int_str->JX,eq_str_bool->JY,eq_str_int->JZ,ne_bool_str->Ja,ne_int_str->Jb,ne_str_bool->Jc,ne_str_int->Jd
open PySem.EqNone renaming eq_none_none->Jt,eq_none_bool->Ju,eq_none_int->Jv,eq_none_str->Jw,eq_bool_none->Jx,eq_int_none->Jy,eq_str_none->Jz,ne_none_none->J0,ne_none_bool->J1,ne_none_int->J2,ne_none_str->J3,ne_bool_none->J4,ne_int_none->J5,ne_str_none->J6
open PySem.F renaming slot_dict_keyiterator_next->Bn,slot_list_append->Cp,type_list_append->Cq,args_tuple_add_2->Do,entry_tuple_add->Dr,slot_tuple_add->Dx,slot_tuple_lt->D5,slot_dict_get->D7,args_dict_keyiterator_next_1->EU,entry_dict_keyiterator_next->EZ,args_tuple_lt_2->Fx,plainAttrs_list->F0,args_dict_get_3->GA,entry_tuple_lt->GF,entry_dict_get->GJ,slot_dict_iter->GK,slot_list_pop->GV,type_list_pop->GW,args_object_init_2->Ho,slot_tuple_getitem->Hs,plain_list_iadd->Ib,entry_list_pop->Iw,slot_list_pop->JN,slot_int_rmul->JO
open PySem.Flow renaming next->Kd
open PySem.Heap renaming get?_push_of_some->AM,lt_size->AY,get?_push_size->AZ,SameBut->C6,size_push->EY,get?_update_other->Gg,get?_update_self->Gn,ExtBut->G8
open PySem.Heap.IsSliceOf renaming new->JL
open PySem.Heap.SameBut renaming update->CF
open PySem.IsL renaming update->LD
open PySem.NameKind renaming free->Ba,cell->Bs
open PySem.Obj renaming mapSeq->Bc
open PySem.Paired renaming length->Dq,snoc->Iz
open PySem.PassesOwn renaming never->BZ
open PySem.PyData renaming eqvAll->A8,depthAll->BS,canLayAll0->Bj,eqv->Bo,canLay0->B0,depth->CG,int->Cv,showable->FR,leavesShortAll->Ge,leavesShort->G7,showableAll->HF,noDict_hsm->HL,hasDictAll->HU,weightAll->Hg,weight->IP
open PySem.ReadsAll renaming cons->Hr
open PySem.SeqAt renaming EqAt->Fp
open PySem.SeqAt.EqAt renaming int_str->GN,str_int->GO,int_int->GP,same->Kr,none_bool->Ks,none_int->Kt,none_str->Ku,bool_none->Kv,bool_bool->Kw,bool_int->Kx,bool_str->Ky,int_none->Kz,int_bool->K0,str_none->K1,str_bool->K3,str_str->K4
open PySem.Str renaming ofString->Di
open PySem.Value renaming ref->BP,none->CB,int->DJ,type->Dh,bool->Ep,str->FC,isStrOf->IV,isInt->JE
open PySem.W renaming Frag->AU,keepIn->CY,kas_sort->Cc,cellsFrom_some->Cz,fnOf->DU,codeIn->DY,methodObj->Er,OpenLaw->FG,kitOne->Hq,WalkO->IF,nsIn->IQ
open Std.Legacy.Range renaming forIn_eq_forIn_range'->Ic,size->Ie
open Sum renaming inl->Ed,inr->FB
open Sum.inl renaming inj->IW
open True renaming intro->DM
set_option Elab.async false
set_option linter.all false
set_option maxRecDepth 100000
namespace L2
open PySem PySem.Spec PyProof.Rows
abbrev Key:=Sum Int Str
noncomputable def keyIs:Key->AB->Bool
 | .inl k,v=>JE k v
 | .inr x,v=>IV x v
noncomputable def keyH (w:Aw):Key->Int
 | .inl k=>hashInt k
 | .inr x=>hashStr w x
theorem zAh:∀ {k:Key} {v:AB},keyIs k v=true->(∃ i t,k=Ed i/\v=DJ i t)\/(∃ x t,k=FB x/\v=FC x t)
 | .inl i,v,h=>by
  obtain⟨t,e⟩:=Value.isInt_shape (k:=i) (v:=v) h
  exact .inl ⟨i,t,rfl,e⟩
 | .inr x,v,h=>by
  obtain⟨t,e⟩:=Value.isStrOf_shape (x:=x) (v:=v) h
  exact .inr ⟨x,t,rfl,e⟩
theorem zLu(i:Int)(t:Tok):keyIs (.inl i) (.int i t)=true:=by simp[keyIs,JE]
theorem zLB(x:Str)(t:Tok):keyIs (.inr x) (.str x t)=true:=by simp[keyIs,IV]
theorem zQO(a b:Int):decide ((Ed a:Key)=Ed b)=(a == b):=by
 by_cases e:a=b
 ·subst e; simp
 ·have h:¬ (Ed a:Key)=Ed b:=fun q=>e (IW q)
  rw[decide_eq_false h]
  exact (beq_eq_false_iff_ne.mpr e).symm
theorem zPS(a b:Str):decide ((FB a:Key)=FB b)=decide (a=b):=by
 by_cases e:a=b
 ·subst e; simp
 ·have h:¬ (FB a:Key)=FB b:=fun q=>e (Sum.inr.inj q)
  rw[decide_eq_false h,decide_eq_false e]
theorem zPW(a:Int)(b:Str):decide ((Ed a:Key)=FB b)=false:=decide_eq_false (fun q=>nomatch q)
theorem zP8(a:Str)(b:Int):decide ((FB a:Key)=Ed b)=false:=decide_eq_false (fun q=>nomatch q)
noncomputable def mixKind (prog:Ah) (w:Aw):PySem.KeyKind prog w Key where
 is:=keyIs
 hash:=keyH w
 inj:=fun v a b ha hb=>by
  rcases zAh ha with ⟨i,t,rfl,rfl⟩ | ⟨x,t,rfl,rfl⟩
  ·rcases zAh hb with ⟨j,u,rfl,e⟩ | ⟨y,u,rfl,e⟩
   ·injection e with e1 _; rw[e1]
   ·exact nomatch e
  ·rcases zAh hb with ⟨j,u,rfl,e⟩ | ⟨y,u,rfl,e⟩
   ·exact nomatch e
   ·injection e with e1 _; rw[e1]
 byValue:=fun k v h=>by
  rcases zAh h with ⟨i,t,rfl,rfl⟩ | ⟨x,t,rfl,rfl⟩ <;> rfl
 pyHash:=fun hv h=>by
  rcases zAh hv with ⟨i,t,rfl,rfl⟩ | ⟨x,t,rfl,rfl⟩
  ·exact wpAny_pyHash_int h
  ·exact wpAny_pyHash_str h
 eqBool:=fun hu hv h=>by
  rcases zAh hu with ⟨i,t,rfl,rfl⟩ | ⟨x,t,rfl,rfl⟩
  ·rcases zAh hv with ⟨j,u,rfl,rfl⟩ | ⟨y,u,rfl,rfl⟩
   ·rw[zQO]at h; exact GE h
   ·rw[zPW]at h; exact GN i t y u _ _ _ _ h
  ·rcases zAh hv with ⟨j,u,rfl,rfl⟩ | ⟨y,u,rfl,rfl⟩
   ·rw[zP8]at h; exact GO x t j u _ _ _ _ h
   ·rw[zPS]at h; exact wpAny_eqBool_str h
 «strs»:=fun k x t v h=>by
  rcases zAh h with ⟨i,u,rfl,e⟩ | ⟨y,u,rfl,e⟩
  ·exact nomatch e
  ·injection e with e1 _
   subst e1
   cases v <;> rfl
theorem zIA(prog:Ah)(w:Aw)(i:Int)(t:Tok):(mixKind prog w).is (.inl i) (.int i t)=true:=zLu i t
theorem zIF(prog:Ah)(w:Aw)(x:Str)(t:Tok):(mixKind prog w).is (.inr x) (.str x t)=true:=zLB x t
inductive V where
 | non | bl (b:Bool) | int (i:Int) | str (x:Str) | byt (b:Array UInt8) | flt (b:UInt64) | ref (a:Addr) | ty (n:String)
 deriving DecidableEq
noncomputable def RelV:V->AB->Prop
 | .non,u=>u=CB
 | .bl b,u=>u=Ep b
 | .int i,u=>∃ t,u=DJ i t
 | .str x,u=>∃ t,u=FC x t
 | .byt b,u=>∃ t,u=Value.bytes b t
 | .flt b,u=>∃ t,u=Value.float b t
 | .ref a,u=>u=BP a
 | .ty n,u=>u=Dh n
noncomputable abbrev Vals:List V->List AB->Prop:=Cd RelV
theorem Vals.length{xs:List V}{us:List AB}(r:Vals xs us):xs.length=us.length:=Dq r
theorem Vals.get:∀ {xs:List V} {us:List AB} {i:Nat} {x:V},Vals xs us->xs[i]?=some x->∃ u,us[i]?=some u/\RelV x u
 | _,_,_,_,.nil,e=>by simp at e
 | _,_,0,_,.cons r _,e=>by simp at e; subst e; exact⟨_,rfl,r⟩
 | _,_,i+1,x,.cons _ t,e=>by
  obtain⟨u,h1,h2⟩:=Vals.get (i:=i) (x:=x) t (by simpa using e)
  exact⟨u,by simpa using h1,h2⟩
theorem Vals.set{x:V}{u:AB}(r:RelV x u):∀ {xs:List V} {us:List AB} (i:Nat),Vals xs us->Vals (xs.set i x) (us.set i u)
 | _,_,_,.nil=>.nil
 | _,_,0,.cons _ t=>.cons r t
 | _,_,i+1,.cons q t=>.cons q (Vals.set r i t)
theorem Vals.append:∀ {xs ys:List V} {us ws:List AB},Vals xs us->Vals ys ws->Vals (xs++ys) (us++ws)
 | _,_,_,_,.nil,s=>s
 | _,_,_,_,.cons r t,s=>.cons r (Vals.append t s)
theorem Vals.take:∀ {xs:List V} {us:List AB} (n:Nat),Vals xs us->Vals (xs.take n) (us.take n)
 | _,_,0,_=>.nil
 | _,_,_+1,.nil=>.nil
 | _,_,n+1,.cons r t=>.cons r (Vals.take n t)
theorem Vals.drop:∀ {xs:List V} {us:List AB} (n:Nat),Vals xs us->Vals (xs.drop n) (us.drop n)
 | _,_,0,r=>r
 | _,_,_+1,.nil=>.nil
 | _,_,n+1,.cons _ t=>Vals.drop n t
noncomputable def RelO:Option V->Option AB->Prop
 | some v,some u=>RelV v u
 | none,none=>True
 | _,_=>False
noncomputable def KV {κ:Type}:List (κ×V)->List (κ×AB)->Prop:=Cd fun (p:κ×V) (q:κ×AB)=>p.1=q.1/\RelV p.2 q.2
noncomputable def kV:Key->V
 | .inl i=>.int i
 | .inr x=>.str x
inductive HO where
 | lst (xs:List V)
 | tup (xs:List V)
 | dK (kvs:List (Key×V)) | dT (kvs:List (List Key×V))
 | set (S:Int->Bool) (n:Nat)
 | ins (C dx:Addr) (fs:List (Str×V))
 | own (x:Addr)
 | xd (fs:List (Str×V))
 | met (f x:Addr)
 | rng (lo hi:Int)
 | frz (o:Obj) (u:HO)
 | tbl (ps:Array AB)
 | ext (φ:Heap->Prop)
abbrev Hp:=Addr->Option HO
noncomputable def upd (H:Hp) (a:Addr) (o:HO):Hp:=fun b=>if b=a then some o else H b
theorem zAT{H:Hp}{a:Addr}{o:HO}:upd H a o a=some o:=by unfold upd; rw[if_pos rfl]
theorem zAK{H:Hp}{a b:Addr}{o:HO}(h:b≠a):upd H a o b=H b:=by unfold upd; rw[if_neg h]
theorem zQh{H:Hp}{a b:Addr}{o u:HO}(h:H a=some o)(h':H b=some u)(d:o≠u):a≠b:=by
 intro e; subst e; rw[h]at h'; exact d (Ab h')
theorem zAZ{H:Hp}{a b:Addr}{o:HO}(h:H a=some o)(h':H b=none):a≠b:=by
 intro e; subst e; rw[h]at h'; cases h'
def TupD (h:Heap) (a:Addr) (items:Array AB):Prop:=∃ o,h.get? a=some o/\o.cls=.type "tuple"/\(∃ n,o.data=.seq items n)/\o.dict=none
theorem TupD.tup{h:Heap}{a:Addr}{items:Array AB}(x:TupD h a items):Ee h a items:=let ⟨o,e,c,d,_⟩:=x; ⟨o,e,c,d⟩
theorem TupD.lt{h:Heap}{a:Addr}{items:Array AB}(x:TupD h a items):a < h.objs.size:=let ⟨_,e,_⟩:=x; AY e
theorem TupD.new(h:Heap)(items:Array AB):TupD (h.push { cls:=.type "tuple",data:=.seq items }) h.objs.size items:=⟨_,AZ _ rfl,rfl,⟨_,rfl⟩,rfl⟩
section
variable (P:Ah)(w:Aw)
noncomputable def ObjOk (H:Hp) (h:Heap) (a:Addr):HO->Prop
 | .lst xs=>xs.length<=AE/\∃ (its:List AB) (n:Nat),Vals xs its/\h.get? a=some { cls:=.type "list",data:=.seq its.toArray n }
 | .tup xs=>xs.length<=AE/\∃ its:List AB,Vals xs its/\TupD h a its.toArray
 | .dK kvs=>kvs.length<=AE/\(a == CH)=false/\∃ vs,KV kvs vs/\h.DictOf (mixKind P w) a vs
 | .dT kvs=>kvs.length<=AE/\(a == CH)=false/\∃ xs:List (List Key×Addr×AB),
   Cd (fun (p:List Key×V) (q:List Key×Addr×AB)=>p.1=q.1/\H q.2.1=some (.tup (p.1.map kV))/\RelV p.2 q.2.2) kvs xs /\
   ∃ o es ep,h.get? a=some o/\o.ExactDict/\o.data=.dict es ep/\es.toList=xs.map (entryOfKey (EN (mixKind P w)))/\(xs.map (·.1)).Nodup
 | .set S n=>h.SetOf (intKind P w) a S n
 | .ins C dx fs=>H dx=some (.own a)/\fs.length<=1000/\dx≠a/\h.get? a=some (PySem.W.instObj C dx) /\
   ∃ mA,h.Ns1 dx mA/\(∀ f,RelO (fs.lookup f) (mA f))/\PySem.Within mA (fs.map (·.1))
 | .own _=>∃ o,h.get? a=some o
 | .xd fs=>∃ mA,h.Ns1 a mA/\∀ f,RelO (fs.lookup f) (mA f)
 | .rng lo hi=>∃ t u v,h.get? a=some { cls:=.type "range",data:=.fields #[.int lo t,.int hi u,.int 1 v] }
 | .frz o u=>h.get? a=some o/\ObjOk H h a u
 | .tbl ps=>h.get? a=some { cls:=.none,data:=.fields ps }
 | .met f x=>h.get? a=some (Er (.ref f) (.ref x))
 | .ext φ=>φ h/\(∃ o,h.get? a=some o)/\∀ h1 h2:Heap,φ h1->(∀ o,h1.get? a=some o->h2.get? a=some o)->φ h2
def HOk (H:Hp) (h:Heap):Prop:=∀ a o,H a=some o->ObjOk P w H h a o
end
section
variable {P:Ah}{w:Aw}{H H':Hp}{h h':Heap}{a:Addr}{o:HO}
theorem ObjOk.lt(x:ObjOk P w H h a o):a < h.objs.size:=by
 cases o with
 | lst xs=>obtain⟨_,_,_,_,e⟩:=x; exact AY e
 | tup xs=>obtain⟨_,_,_,p⟩:=x; exact p.lt
 | dK kvs=>obtain⟨_,_,_,_,o,_,_,e,_⟩:=x; exact AY e
 | dT kvs=>obtain⟨_,_,_,_,o,_,_,e,_⟩:=x; exact AY e
 | set S n=>obtain⟨o,_,_,_,e,_⟩:=x; exact AY e
 | ins C dx fs=>obtain⟨_,_,_,e,_⟩:=x; exact AY e
 | own y=>obtain⟨_,e⟩:=x; exact AY e
 | xd fs=>obtain⟨_,⟨_,_,_,e,_⟩,_⟩:=x; exact AY e
 | rng lo hi=>obtain⟨_,_,_,e⟩:=x; exact AY e
 | frz ob u=>obtain⟨e,_⟩:=x; exact AY e
 | tbl ps=>exact AY (show h.get? a=some _ from x)
 | met f y=>exact AY (show h.get? a=some _ from x)
 | ext φ=>obtain⟨_,⟨_,e⟩,_⟩:=x; exact AY e
theorem Paired.mapP{α β:Type}{F G:α->β->Prop}:∀ {l₁:List α} {l₂:List β},Cd F l₁ l₂->(∀ a b,F a b->G a b)->Cd G l₁ l₂
 | _,_,.nil,_=>.nil
 | _,_,.cons r t,f=>.cons (f _ _ r) (Paired.mapP t f)
theorem ObjOk.stay(x:ObjOk P w H h a o)(k:∀ b u,(b=a\/H b=some (.own a))->h.get? b=some u->h'.get? b=some u)
  (ho:∀ b,H b=some (.own a)->H' b=some (.own a)) (ht:∀ b xs,H b=some (.tup xs)->H' b=some (.tup xs)):ObjOk P w H' h' a o:=by
 induction o with
 | lst xs=>obtain⟨z,its,n,r,e⟩:=x; exact⟨z,its,n,r,k _ _ (.inl rfl) e⟩
 | tup xs=>obtain⟨z,its,r,ob,e,c⟩:=x; exact⟨z,its,r,ob,k _ _ (.inl rfl) e,c⟩
 | dK kvs=>obtain⟨z,y,vs,r,ob,es,ep,e,c⟩:=x; exact⟨z,y,vs,r,ob,es,ep,k _ _ (.inl rfl) e,c⟩
 | dT kvs =>
  obtain⟨z,y,xs,r,ob,es,ep,e,c⟩:=x
  exact⟨z,y,xs,Paired.mapP r fun p q z=>⟨z.1,ht _ _ z.2.1,z.2.2⟩,ob,es,ep,k _ _ (.inl rfl) e,c⟩
 | set S n=>obtain⟨ob,es,ep,t,e,c⟩:=x; exact⟨ob,es,ep,t,k _ _ (.inl rfl) e,c⟩
 | ins C dx fs =>
  obtain⟨d,z,ne,e,mA,⟨od,es,ep,e2,c⟩,r⟩:=x
  exact⟨ho _ d,z,ne,k _ _ (.inl rfl) e,mA,⟨od,es,ep,k _ _ (.inr d) e2,c⟩,r⟩
 | own y=>obtain⟨ob,e⟩:=x; exact⟨ob,k _ _ (.inl rfl) e⟩
 | xd fs=>obtain⟨mA,⟨od,es,ep,e,c⟩,r⟩:=x; exact⟨mA,⟨od,es,ep,k _ _ (.inl rfl) e,c⟩,r⟩
 | rng lo hi=>obtain⟨t,u,v,e⟩:=x; exact⟨t,u,v,k _ _ (.inl rfl) e⟩
 | frz ob u ih=>obtain⟨e,q⟩:=x; exact⟨k _ _ (.inl rfl) e,ih q⟩
 | tbl ps =>
  have e:h.get? a=some { cls:=.none,data:=.fields ps }:=x
  show h'.get? a=some { cls:=.none,data:=.fields ps }
  exact k a _ (.inl rfl) e
 | met f y =>
  have e:h.get? a=some (Er (.ref f) (.ref y)):=x
  show h'.get? a=some (Er (.ref f) (.ref y))
  exact k a _ (.inl rfl) e
 | ext φ=>obtain⟨p,⟨o,e⟩,st⟩:=x; exact⟨st _ _ p fun o q=>k _ _ (.inl rfl) q,⟨o,k _ _ (.inl rfl) e⟩,st⟩
theorem HOk.lt(x:HOk P w H h)(e:H a=some o):a < h.objs.size:=(x a o e).lt
theorem HOk.fresh(x:HOk P w H h)(e:h.objs.size<=a):H a=none:=by
 cases q:H a with
 | none=>rfl
 | some u=>exact absurd (Ad (x.lt q) e) (Az _)
theorem HOk.kept(x:HOk P w H h)(k:∀ b u,h.get? b=some u->h'.get? b=some u):HOk P w H h':=fun a o e =>
 (x a o e).stay (fun b u _ q=>k b u q) (fun _ q=>q) fun _ _ q=>q
theorem HOk.laid(x:HOk P w H h)(k:∀ b u,h.get? b=some u->h'.get? b=some u)(hp:h.objs.size<=a)(new:ObjOk P w (upd H a o) h' a o):HOk P w (upd H a o) h':=fun b u e=>by
 have hn:=x.fresh hp
 by_cases hb:b=a
 ·subst hb; rw[zAT]at e; cases e; exact new
 ·rw[zAK hb]at e
  exact (x b u e).stay (fun c v _ q=>k c v q) (fun c q=>by rw[zAK (zAZ q hn)]; exact q) fun c xs q=>by rw[zAK (zAZ q hn)]; exact q
end
def Rd (H:Hp) (a:Addr) (u:HO):Prop:=H a=some u\/∃ o,H a=some (.frz o u)
theorem Rd.ok{P:Ah}{w:Aw}{H:Hp}{h:Heap}{a:Addr}{u:HO}(r:Rd H a u)(x:HOk P w H h):ObjOk P w H h a u:=by
 rcases r with r | ⟨o,r⟩
 ·exact x a u r
 ·obtain⟨_,q⟩:=x a _ r
  exact q
noncomputable def Mut:Option HO->Prop
 | some (.lst _)=>True
 | some (.dK _)=>True
 | some (.dT _)=>True
 | some (.set _ _)=>True
 | some (.ins _ _ _)=>True
 | some (.ext _)=>True
 | _=>False
section
variable {P:Ah}{w:Aw}{H:Hp}{h h':Heap}{x e:Addr}{o':HO}
theorem HOk.write(ok:HOk P w H h)(mu:Mut (H x))(he:e=x\/H e=some (.own x))(k:∀ b u,b≠e->h.get? b=some u->h'.get? b=some u)(heo:∃ u,h'.get? e=some u)
  (new:ObjOk P w (upd H x o') h' x o'):HOk P w (upd H x o') h':=fun b u q=>by
 have nown:∀ c y,H c=some (.own y)->c≠x:=fun c y r z=>by subst z; rw[r]at mu; exact mu
 have ntup:∀ c xs,H c=some (.tup xs)->c≠x:=fun c xs r z=>by subst z; rw[r]at mu; exact mu
 by_cases hb:b=x
 ·subst hb; rw[zAT]at q; cases q; exact new
 ·rw[zAK hb]at q
  by_cases hbe:b=e
  ·have q':H b=some (.own x):=by
    rcases he with z | z
    ·exact absurd (hbe.trans z) hb
    ·rw[hbe]; exact z
   rw[q]at q'; cases q'
   obtain⟨v,hv⟩:=heo
   exact⟨v,by rw[hbe]; exact hv⟩
  ·refine (ok b u q).stay (fun c v hc r=>k c v ?_ r) (fun c r=>by rw[zAK (nown c b r)]; exact r) fun c xs r=>by rw[zAK (ntup c xs r)]; exact r
   rcases hc with rfl | hc
   ·exact hbe
   ·rintro rfl
    rcases he with z | z
    ·exact nown c b hc z
    ·rw[hc]at z; cases z; exact hb rfl
end
structure Un(fs ex:List Addr)(H H':Hp)(h h':Heap):Prop where
 keep:∀ b o,h.get? b=some o->H b=none->b∉fs->b∉ex->h'.get? b=some o
 slot:∀ b o,h.get? b=some o->H b=none->b∈fs->b∉ex->∃ sl,h'.get? b=some { o with slots:=sl }
 free:∀ b o,h.get? b=some o->H b=none->b∉ex->H' b=none
 there:∀ b o,h.get? b=some o->b∉ex->∃ o',h'.get? b=some o'
 tups:∀ b xs,H b=some (.tup xs)->H' b=some (.tup xs)
 frzs:∀ b o u,H b=some (.frz o u)->H' b=some (.frz o u)
 tbls:∀ b ps,H b=some (.tbl ps)->∃ more,H' b=some (.tbl (ps++more))
section
variable {fs fs' ex ex':List Addr}{H H1 H2:Hp}{h h1 h2 h':Heap}{a x e:Addr}{o:HO}
theorem Un.any(u:Un fs ex H H1 h h1){b:Addr}{ob:Obj}(q:h.get? b=some ob)(n:H b=none)(hx:b∉ex):∃ sl,h1.get? b=some { ob with slots:=sl }:=by
 by_cases hb:b∈fs
 ·exact u.slot b ob q n hb hx
 ·exact⟨ob.slots,u.keep b ob q n hb hx⟩
theorem Un.kept(k:∀ b u,h.get? b=some u->h'.get? b=some u):Un fs ex H H h h' :=
 ⟨fun b ob q _ _ _=>k b ob q,fun b ob q _ _ _=>⟨ob.slots,k b ob q⟩,fun _ _ _ n _=>n,fun b ob q _=>⟨ob,k b ob q⟩,fun _ _ q=>q,fun _ _ _ q=>q,fun _ ps q=>⟨#[],by rw[q]; simp⟩⟩
theorem Un.refl:Un fs ex H H h h:=Un.kept fun _ _ q=>q
theorem Un.laid(k:∀ b u,h.get? b=some u->h'.get? b=some u)(hp:h.objs.size<=a)(hn:H a=none):Un fs ex H (upd H a o) h h' where
 keep:=fun b u q _ _ _=>k b u q
 slot:=fun b u q _ _ _=>⟨u.slots,k b u q⟩
 free:=fun b u q n _=>by rw[zAK (BA (Ad (AY q) hp))]; exact n
 there:=fun b u q _=>⟨u,k b u q⟩
 tups:=fun b xs q=>by rw[zAK (zAZ q hn)]; exact q
 frzs:=fun b u xs q=>by rw[zAK (zAZ q hn)]; exact q
 tbls:=fun b ps q=>⟨#[],by rw[zAK (zAZ q hn),q]; simp⟩
theorem Un.write(mu:Mut (H x))(he:e=x\/H e=some (.own x))(k:∀ b u,b≠e->h.get? b=some u->h'.get? b=some u)(heo:∃ u,h'.get? e=some u):Un fs ex H (upd H x o) h h':=by
 have hx:∀ b,H b=none->b≠x:=fun b n z=>by subst z; rw[n]at mu; exact mu
 have hb:∀ b,H b=none->b≠e:=fun b n z=>by
  subst z
  rcases he with r | r
  ·exact hx b n r
  ·rw[n]at r; cases r
 have hm:∀ b u,H b=some u->¬ Mut (some u)->b≠x:=fun b u q nm z=>by subst z; rw[q]at mu; exact nm mu
 refine⟨fun b u q n _ _=>k b u (hb b n) q,fun b u q n _ _=>⟨u.slots,k b u (hb b n) q⟩,fun b u q n _=>by rw[zAK (hx b n)]; exact n,fun b u q _=>?_,
  fun b xs q=>by rw[zAK (hm b _ q fun z=>z)]; exact q,fun b u xs q=>by rw[zAK (hm b _ q fun z=>z)]; exact q,fun b ps q=>⟨#[],by rw[zAK (hm b _ q fun z=>z),q]; simp⟩⟩
 by_cases hbe:b=e
 ·subst hbe; exact heo
 ·exact⟨u,k b u hbe q⟩
end
noncomputable def trk (h:Heap) (H:Hp):List Addr:=(AC h.objs.size).filter fun a=>(H a).isSome
noncomputable def hidT (h:Heap) (H:Hp):Heap:=PySem.W.hideAll h (trk h H)
theorem zLC(h:Heap)(H:Hp):(hidT h H).objs.size=h.objs.size:=PySem.W.hideAll_size _ _
theorem zMU{h:Heap}{H:Hp}{b:Addr}{o:Obj}(e:h.get? b=some o)(n:H b=none):(hidT h H).get? b=some o :=
 PySem.W.hideAll_get _ e fun hm=>by
  have q:(H b).isSome=true:=(A5.mp hm).2
  rw[n]at q; simp at q
theorem zOH{h:Heap}{H:Hp}{b:Addr}{o:Obj}(e:(hidT h H).get? b=some o):h.get? b=some o/\H b=none:=by
 have e':h.get? b=some o:=PySem.W.of_hideAll (trk h H) e
 refine⟨e',?_⟩
 cases q:H b with
 | none=>rfl
 | some x =>
  have hm:b∈trk h H:=A5.mpr ⟨BU.mpr (AY e'),by simp[q]⟩
  have z:(hidT h H).get? b=none:=PySem.W.hideAll_none (trk h H) hm
  rw[z]at e; cases e
noncomputable def allNews (g h:Heap) (L:Addr):List (Addr×Obj):=(AC h.objs.size).filterMap fun a=>if a=L\/(g.get? a).isSome=true then none else (h.get? a).map fun o=>(a,o)
noncomputable def rest (g h:Heap) (L d:Addr):List (Addr×Obj):=(allNews g h L).filter fun p=>decide (p.1≠d)
structure Mod(K:AU)(mg:Str->Option AB)(base:Heap):Prop where
 kin:K.In base
 glob:base.Ns Av mg
 blt:∃ mb,base.Ns Gk mb/\∀ x:Str,x≠"__name__"->mb x=CN x
 nolimit:base.NoLimit
structure Cx where
 prog:Ah
 w:Aw
 K:AU
 mg:Str->Option AB
 base:Heap
 A:A4
 N:List Str
 s₀:AG
 H₀:Hp
 env:Env
 outer:List Env
 stack:List Env
 ex:List Addr
 fn:Str->Bool
 calm:Bool
 pn:List (Addr×Obj)
 xe:AB->AG->Prop
noncomputable def frs (l:List Env):List Addr:=l.filterMap (·.frame)
noncomputable abbrev Cx.fs (X:Cx):List Addr:=frs X.outer
def Vis (sc:Cg) (x:Str):Prop:=sc.names.lookup x=some .local\/sc.names.lookup x=some .cell\/sc.names.lookup x=some .free
def Loc (sc:Cg) (x:Str):Prop:=sc.names.lookup x=some .local\/sc.names.lookup x=some .cell
noncomputable def Look (env:Env) (h:Heap) (m:Str->Option AB) (x:Str) (u:AB):Prop :=
 (env.kindOf x=some .local/\m x=some u)\/((env.kindOf x=some .cell\/env.kindOf x=some .free)/\∃ c,env.cells.lookup x=some c/\h.IsCell c (some u))
structure Cx.Ok(X:Cx):Prop where
 mod:Mod X.K X.mg X.base
 kind:X.env.scope.kind=.function
 glob:X.env.globals=Av
 blt:X.env.builtins=Gk
 above:X.s₀.heap.objs.size<=X.env.locals
 inj:∀ x y c,X.env.cells.lookup x=some c->X.env.cells.lookup y=some c->x=y
 has:∀ x,(X.env.kindOf x=some .cell\/X.env.kindOf x=some .free)->∃ c,X.env.cells.lookup x=some c
 cab:∀ x c,X.fn x=true->X.env.cells.lookup x=some c->X.s₀.heap.objs.size<=c
 hd:X.calm=true->X.A.handled=none
 frames:X.A.frames=some X.stack
 stk:X.stack=X.outer\/(X.stack=X.env::X.outer/\X.env.frame=some X.env.locals)
 exf:∀ b∈X.ex,b≠X.env.locals/\∀ x c,X.env.cells.lookup x=some c->c≠b
 bs:∀ b o,X.base.get? b=some o->X.s₀.heap.get? b=some o/\X.H₀ b=none
 bsz:X.base.objs.size<=X.s₀.heap.objs.size
 noex:∀ b o,X.base.get? b=some o->b∉X.ex
 exfs:∀ b∈X.ex,b∉X.fs
 funs:X.s₀.heap.FunFrames X.base X.outer
 frf:∀ b∈X.fs,X.H₀ b=none
structure Inv(X:Cx)(pins:List (Addr×Obj))(σ:List (Option V))(H:Hp)(s:AG):Prop where
 ok:X.Ok
 os:s.os=X.s₀.os
 bare:Eb s.gens
 base:Un X.fs X.ex X.H₀ H X.s₀.heap s.heap
 loc:∃ m,s.heap.Ns X.env.locals m/\∀ (i:Nat) (x:Str) (v:V),X.N[i]?=some x->σ[i]?=some (some v)->Vis X.env.scope x->∃ u,RelV v u/\Look X.env s.heap m x u
 cell:∀ x c,X.env.cells.lookup x=some c->∃ v,s.heap.IsCell c v
 free:H X.env.locals=none
 freeC:∀ x c,X.env.cells.lookup x=some c->H c=none
 pin:∀ p∈X.pn++pins,s.heap.get? p.1=some p.2/\H p.1=none/\p.1≠X.env.locals/\p.1∉X.fs/\∀ v,p.2.data≠.cell v
 hok:HOk X.prog X.w H s.heap
 len:σ.length=X.N.length
section
variable {X:Cx}{pins:List (Addr×Obj)}{σ:List (Option V)}{H H':Hp}{s:AG}{h':Heap}
theorem Cx.Ok.nofr(ok:X.Ok){b:Addr}{o:Obj}(e:X.base.get? b=some o):b∉X.fs:=fun hb=>by
 have:=(ok.funs.mem hb).1
 rw[e]at this; cases this
theorem Inv.bs(I:Inv X pins σ H s):∀ b o,X.base.get? b=some o->s.heap.get? b=some o/\H b=none:=fun b o e =>
 ⟨I.base.keep b o (I.ok.bs b o e).1 (I.ok.bs b o e).2 (I.ok.nofr e) (I.ok.noex b o e),I.base.free b o (I.ok.bs b o e).1 (I.ok.bs b o e).2 (I.ok.noex b o e)⟩
theorem Inv.bk(I:Inv X pins σ H s):∀ b o,X.base.get? b=some o->s.heap.get? b=some o:=fun b o e=>(I.bs b o e).1
theorem Inv.mod(I:Inv X pins σ H s):Mod X.K X.mg X.base:=I.ok.mod
theorem Inv.kIn(I:Inv X pins σ H s):X.K.In s.heap:=I.ok.mod.kin.keeps I.bk
theorem Inv.lt(I:Inv X pins σ H s):X.env.locals < s.heap.objs.size:=let ⟨_,hn,_⟩:=I.loc; hn.lt
theorem Inv.sz(I:Inv X pins σ H s):X.s₀.heap.objs.size<=s.heap.objs.size:=Al I.ok.above (ED I.lt)
theorem Inv.nofs(I:Inv X pins σ H s){a:Addr}(h:s.heap.objs.size<=a):a∉X.fs:=fun hb=>by
 obtain⟨_,o,ho,_⟩:=I.ok.funs.mem hb
 exact absurd (Ad (AY ho) (Al I.sz h)) (Az _)
theorem Inv.cne(I:Inv X pins σ H s):∀ x c,X.env.cells.lookup x=some c->c≠X.env.locals:=fun x c e z=>by
 obtain⟨v,o,ho,hd⟩:=I.cell x c e
 obtain⟨m,⟨o',es,ep,ho',hd',_⟩,_⟩:=I.loc
 rw[z,ho']at ho; cases ho; rw[hd']at hd; cases hd
theorem Inv.funs(I:Inv X pins σ H s):s.heap.FunFrames X.base X.outer:=by
 have all:∀ (l:List Env),(∀ b∈frs l,b∈X.fs)->X.s₀.heap.FunFrames X.base l->s.heap.FunFrames X.base l:=by
  intro l
  induction l with
  | nil=>intro _ _; trivial
  | cons env r ih =>
   intro hs hl
   obtain⟨hk,⟨L,o,hf,hn,ho,hd⟩,hr⟩:=hl
   have hL:L∈X.fs:=hs L (by unfold frs; rw[Ef,hf]; exact AH)
   obtain⟨sl,e⟩:=I.base.slot L o ho (I.ok.frf L hL) hL fun z=>I.ok.exfs L z hL
   exact⟨hk,⟨L,_,hf,hn,e,hd⟩,ih (fun b hb=>hs b (by unfold frs; rw[Ef,hf]; exact AF _ hb)) hr⟩
 exact all X.outer (fun _ hb=>hb) I.ok.funs
theorem Inv.stack(I:Inv X pins σ H s):s.heap.FunFrames X.base X.stack:=by
 rcases I.ok.stk with e | ⟨e,hf⟩
 ·rw[e]; exact I.funs
 ·rw[e]
  obtain⟨m,hn,_⟩:=I.loc
  refine .cons (by rw[I.ok.kind]; decide) hf hn ?_ I.funs
  exact Heap.get?_none_of_le (Al I.ok.bsz I.ok.above)
theorem Inv.stkSub(I:Inv X pins σ H s):∀ b∈frs X.stack,b∈X.env.locals::X.fs:=fun b hb=>by
 rcases I.ok.stk with e | ⟨e,hf⟩
 ·rw[e]at hb; exact AF _ hb
 ·rw[e]at hb
  unfold frs at hb
  rw[Ef,hf]at hb
  exact hb
theorem Inv.stkFree(I:Inv X pins σ H s):∀ b∈frs X.stack,H b=none:=fun b hb=>by
 rcases AS.mp (I.stkSub b hb) with e | hb
 ·rw[e]; exact I.free
 ·obtain⟨_,o,ho,_⟩:=I.ok.funs.mem hb
  exact I.base.free b o ho (I.ok.frf b hb) fun z=>I.ok.exfs b z hb
theorem Inv.step{g':Array IK}{t':Nat}{d':Drawn}{ch:List Addr}(I:Inv X pins σ H s)
  (hch:∀ b∈ch,(b∈X.ex\/X.s₀.heap.objs.size<=b)/\b≠X.env.locals/\(∀ x c,X.env.cells.lookup x=some c->c≠b)/\∀ p∈X.pn++pins,p.1≠b)
  (keep:∀ b o,b≠X.env.locals->b∉X.fs->b∉ch->s.heap.get? b=some o->H b=none->h'.get? b=some o)
  (slot:∀ b o,b≠X.env.locals->b∈X.fs->b∉ch->s.heap.get? b=some o->H b=none->∃ sl,h'.get? b=some { o with slots:=sl }) (free:∀ b o,b∉ch->s.heap.get? b=some o->H b=none->H' b=none)
  (there:∀ b o,b∉ch->s.heap.get? b=some o->∃ o',h'.get? b=some o')
  (tups:∀ b xs,H b=some (.tup xs)->H' b=some (.tup xs)) (frzs:∀ b o u,H b=some (.frz o u)->H' b=some (.frz o u)) (tbls:∀ b ps,H b=some (.tbl ps)->∃ more,H' b=some (.tbl (ps++more)))
  (ns:∀ m,s.heap.Ns X.env.locals m->h'.Ns X.env.locals m) (hok:HOk X.prog X.w H' h') (hg:Eb g') :
  Inv X pins σ H' { s with heap:=h',gens:=g',drawn:=d',toks:=t' }:=by
 have neL:∀ b o,X.s₀.heap.get? b=some o->b≠X.env.locals:=fun b o e=>BA (Ad (AY e) I.ok.above)
 have neC:∀ b o,X.s₀.heap.get? b=some o->b∉X.ex->b∉ch:=fun b o e hx hb=>by
  rcases (hch b hb).1 with z | z
  ·exact hx z
  ·exact absurd (Ad (AY e) z) (Az _)
 have cellK:∀ x c,X.env.cells.lookup x=some c->∀ v,s.heap.IsCell c v->h'.IsCell c v:=fun x c e v ⟨o,ho,hd⟩=>by
  have nch:c∉ch:=fun z=>(hch c z).2.2.1 x c e rfl
  by_cases hc:c∈X.fs
  ·obtain⟨sl,q⟩:=slot c o (I.cne x c e) hc nch ho (I.freeC x c e)
   exact⟨_,q,hd⟩
  ·exact⟨o,keep c o (I.cne x c e) hc nch ho (I.freeC x c e),hd⟩
 refine⟨I.ok,I.os,hg,⟨fun b o e n hb hx=>?_,fun b o e n hb hx=>?_,fun b o e n hx=>?_,fun b o e hx=>?_,fun b xs e=>tups b xs (I.base.tups b xs e),fun b o xs e=>frzs b o xs (I.base.frzs b o xs e),fun b ps e=>?_⟩,?_,fun x c e=>?_,?_,fun x c e=>?_,fun p hp=>?_,hok,I.len⟩
 ·exact keep b o (neL b o e) hb (neC b o e hx) (I.base.keep b o e n hb hx) (I.base.free b o e n hx)
 ·obtain⟨sl,e1⟩:=I.base.slot b o e n hb hx
  obtain⟨sl',e2⟩:=slot b _ (neL b o e) hb (neC b o e hx) e1 (I.base.free b o e n hx)
  exact⟨sl',e2⟩
 ·obtain⟨o',e1⟩:=I.base.there b o e hx
  exact free b o' (neC b o e hx) e1 (I.base.free b o e n hx)
 ·obtain⟨o',e1⟩:=I.base.there b o e hx
  exact there b o' (neC b o e hx) e1
 ·obtain⟨m1,e1⟩:=I.base.tbls b ps e
  obtain⟨m2,e2⟩:=tbls b _ e1
  exact⟨m1++m2,by rw[e2,Array.append_assoc]⟩
 ·obtain⟨m,hn,hl⟩:=I.loc
  refine⟨m,ns m hn,fun i x v e1 e2 e3=>?_⟩
  obtain⟨u,r,l⟩:=hl i x v e1 e2 e3
  refine⟨u,r,?_⟩
  rcases l with l | ⟨k,c,e,z⟩
  ·exact .inl l
  ·exact .inr ⟨k,c,e,cellK x c e _ z⟩
 ·obtain⟨v,z⟩:=I.cell x c e
  exact⟨v,cellK x c e v z⟩
 ·obtain⟨m,⟨o,_,_,ho,_⟩,_⟩:=I.loc
  exact free _ o (fun z=>(hch _ z).2.1 rfl) ho I.free
 ·obtain⟨v,o,ho,hd⟩:=I.cell x c e
  exact free c o (fun z=>(hch c z).2.2.1 x c e rfl) ho (I.freeC x c e)
 ·obtain⟨e,n,ne,nf,d⟩:=I.pin p hp
  have nch:p.1∉ch:=fun z=>(hch p.1 z).2.2.2 p hp rfl
  exact⟨keep p.1 p.2 ne nf nch e n,free p.1 p.2 nch e n,ne,nf,d⟩
theorem Inv.un{t':Nat}(I:Inv X pins σ H s)(u:Un X.fs [] H H' s.heap h')(hok:HOk X.prog X.w H' h'):Inv X pins σ H' { s with heap:=h',toks:=t' }:=by
 obtain⟨m,⟨o,es,ep,ho,r⟩,_⟩:=id I.loc
 obtain⟨sl,hL⟩:=u.any ho I.free (by simp)
 exact I.step (g':=s.gens) (d':=s.drawn) (ch:=[]) (fun _ z=>nomatch z) (fun b o _ hb _ e n=>u.keep b o e n hb (by simp)) (fun b o _ hb _ e n=>u.slot b o e n hb (by simp)) (fun b o _ e n=>u.free b o e n (by simp)) (fun b o _ e=>u.there b o e (by simp)) u.tups u.frzs u.tbls (fun m' hm=>by
  obtain⟨o',es',ep',ho',r'⟩:=hm
  rw[ho]at ho'; cases ho'
  exact⟨_,es',ep',hL,r'⟩) hok I.bare
theorem Inv.call{g':Array IK}{t':Nat}{d':Drawn}{ch:List Addr}(I:Inv X pins σ H s)(u:Un (frs X.stack) ch H H' s.heap h')(hok:HOk X.prog X.w H' h')(hg:Eb g')
  (hch:∀ b∈ch,(b∈X.ex\/X.s₀.heap.objs.size<=b)/\b≠X.env.locals/\(∀ x c,X.env.cells.lookup x=some c->c≠b)/\∀ p∈X.pn++pins,p.1≠b) :
  Inv X pins σ H' { s with heap:=h',gens:=g',drawn:=d',toks:=t' }:=by
 obtain⟨m,⟨o,es,ep,ho,r⟩,_⟩:=id I.loc
 obtain⟨sl,hL⟩:=u.any ho I.free fun z=>(hch _ z).2.1 rfl
 exact I.step (ch:=ch) hch (fun b o hL hb hc e n=>u.keep b o e n (fun z=>(AS.mp (I.stkSub b z)).elim hL hb) hc) (fun b o _ _ hc e n=>u.any e n hc) (fun b o hc e n=>u.free b o e n hc) (fun b o hc e=>u.there b o e hc) u.tups u.frzs u.tbls (fun m' hm=>by
  obtain⟨o',es',ep',ho',r'⟩:=hm
  rw[ho]at ho'; cases ho'
  exact⟨_,es',ep',hL,r'⟩) hok hg
theorem Inv.turned{t':Nat}{it:Addr}(I:Inv X pins σ H s)(k:∀ b o,b≠it->s.heap.get? b=some o->h'.get? b=some o)(hn:H it=none)(hL:it≠X.env.locals)
  (h1:it∈X.ex\/X.s₀.heap.objs.size<=it) (h2:∀ x c,X.env.cells.lookup x=some c->c≠it) (h3:∀ p∈X.pn++pins,p.1≠it):Inv X pins σ H { s with heap:=h',toks:=t' }:=by
 have nit:∀ b u,H b=some u->b≠it:=fun b u e z=>by rw[z,hn]at e; cases e
 refine I.step (g':=s.gens) (d':=s.drawn) (ch:=[it]) (fun b hb=>?_) (fun b o _ _ hc e _=>k b o (fun z=>hc (by simp[z])) e) (fun b o _ _ hc e _=>⟨o.slots,k b o (fun z=>hc (by simp[z])) e⟩) (fun _ _ _ _ n=>n)
  (fun b o hc e=>⟨o,k b o (fun z=>hc (by simp[z])) e⟩) (fun _ _ e=>e) (fun _ _ _ e=>e) (fun b ps e=>⟨#[],by rw[e]; simp⟩) (fun m hm=>?_) (fun b u e=>?_) I.bare
 ·have e:b=it:=by simpa using hb
  subst e
  exact⟨h1,hL,h2,h3⟩
 ·obtain⟨o,es,ep,ho,r⟩:=hm
  exact⟨o,es,ep,k _ o (BC hL) ho,r⟩
 ·refine (I.hok b u e).stay (fun c v hc q=>k c v ?_ q) (fun _ q=>q) fun _ _ q=>q
  rcases hc with z | z
  ·rw[z]; exact nit b u e
  ·exact nit c _ z
theorem Inv.tok(I:Inv X pins σ H s)(t:Nat):Inv X pins σ H { s with toks:=t }:=I.un (h':=s.heap) (t':=t) Un.refl I.hok
theorem Inv.kept{t':Nat}(I:Inv X pins σ H s)(k:∀ b u,s.heap.get? b=some u->h'.get? b=some u):Inv X pins σ H { s with heap:=h',toks:=t' }:=I.un (Un.kept k) (I.hok.kept k)
theorem Inv.laid{a:Addr}{o:HO}{t':Nat}(I:Inv X pins σ H s)(k:∀ b u,s.heap.get? b=some u->h'.get? b=some u)(hp:s.heap.objs.size<=a)(new:ObjOk X.prog X.w (upd H a o) h' a o) :
  Inv X pins σ (upd H a o) { s with heap:=h',toks:=t' }:=I.un (Un.laid k hp (I.hok.fresh hp)) (I.hok.laid k hp new)
theorem Inv.write{x e:Addr}{o:HO}{t':Nat}(I:Inv X pins σ H s)(mu:Mut (H x))(he:e=x\/H e=some (.own x))(k:∀ b u,b≠e->s.heap.get? b=some u->h'.get? b=some u)(heo:∃ u,h'.get? e=some u)
  (new:ObjOk X.prog X.w (upd H x o) h' x o):Inv X pins σ (upd H x o) { s with heap:=h',toks:=t' }:=I.un (Un.write mu he k heo) (I.hok.write mu he k heo new)
theorem Inv.pins_of{pins':List (Addr×Obj)}(I:Inv X pins σ H s)(h:∀ p∈pins',s.heap.get? p.1=some p.2/\H p.1=none/\p.1≠X.env.locals/\p.1∉X.fs/\∀ v,p.2.data≠.cell v):Inv X pins' σ H s :=
 ⟨I.ok,I.os,I.bare,I.base,I.loc,I.cell,I.free,I.freeC,fun p hp=>(Ap.mp hp).elim (fun z=>I.pin p (EW _ z)) (h p),I.hok,I.len⟩
theorem zHi{N:List Str}(hN:N.Nodup){i j:Nat}{x:Str}(a:N[i]?=some x)(b:N[j]?=some x):i=j:=by
 obtain⟨h1,e1⟩:=Aa.mp a
 obtain⟨h2,e2⟩:=Aa.mp b
 exact (List.getElem_inj hN).mp (e1.trans e2.symm)
theorem zK9{M:JF}{A:A4}{E:AB->AG->Prop}{i:Nat}{x:Str}{v:V}{u:AB}{Q:Unit->AG->Prop}(I:Inv X pins σ H s)(hN:X.N.Nodup)(hi:X.N[i]?=some x)(hx:Loc X.env.scope x)(r:RelV v u)
  (h:∀ s',Inv X pins (σ.set i (some v)) H s'->(∃ a,C6 a s.heap s'.heap/\(a=X.env.locals\/X.env.cells.lookup x=some a))->Q () s') (hf:X.fn x=true\/X.env.scope.names.lookup x=some .local:=by first | exact .inl rfl | exact .inr rfl | assumption):AV M A (storeName X.env x u) Q E s:=by
 obtain⟨m,hn,hl⟩:=id I.loc
 have hcls:(X.env.scope.kind == .class || (X.env.scope.kind == .module && X.env.locals != X.env.globals))=false:=by rw[I.ok.kind]; rfl
 have hiσ:i < σ.length:=by rw[I.len]; exact (Aa.mp hi).1
 have cne:=I.cne
 have tracked:∀ {a:Addr} {h':Heap},(∃ o,s.heap.get? a=some o/\H a=none)->C6 a s.heap h'->HOk X.prog X.w H h':=fun {a h'} ha hs b ob e=>by
  obtain⟨_,_,hfree⟩:=ha
  refine (I.hok b ob e).stay (fun c w' hc q=>(hs.2 c ?_).trans q) (fun _ q=>q) fun _ _ q=>q
  rintro rfl
  rcases hc with rfl | hc
  ·rw[hfree]at e; cases e
  ·rw[hfree]at hc; cases hc
 rcases hx with hk | hk
 ·refine wpAny_storeName_local hk hn (fun h' hn' hs=>?_) hcls
  obtain⟨oL,_,_,hoL,_⟩:=id hn
  refine h _ ⟨I.ok,I.os,I.bare,⟨fun b o e n hb hx=>?_,fun b o e n hb hx=>?_,I.base.free,fun b o e hx=>?_,I.base.tups,I.base.frzs,I.base.tbls⟩,⟨_,hn',fun j y v' e1 e2 e3=>?_⟩,fun y c e=>?_,I.free,I.freeC,fun p hp=>?_,tracked ⟨oL,hoL,I.free⟩ hs,by simpa using I.len⟩ ⟨_,hs,.inl rfl⟩
  ·exact (hs.2 b (BA (Ad (AY e) I.ok.above))).trans (I.base.keep b o e n hb hx)
  ·obtain⟨sl,e1⟩:=I.base.slot b o e n hb hx
   exact⟨sl,(hs.2 b (BA (Ad (AY e) I.ok.above))).trans e1⟩
  ·obtain⟨o',e1⟩:=I.base.there b o e hx
   exact⟨o',(hs.2 b (BA (Ad (AY e) I.ok.above))).trans e1⟩
  ·by_cases hj:j=i
   ·subst hj
    rw[hi]at e1; cases e1
    rw[Am hiσ]at e2
    cases e2
    exact⟨u,r,.inl ⟨hk,by simp⟩⟩
   ·rw[AW (BC hj)]at e2
    obtain⟨u',r',q⟩:=hl j y v' e1 e2 e3
    refine⟨u',r',?_⟩
    rcases q with ⟨k,e⟩ | ⟨k,c,e,z⟩
    ·refine .inl ⟨k,?_⟩
     have:y≠x:=fun e=>hj (zHi hN e1 (e ▸ hi))
     simp[this,e]
    ·exact .inr ⟨k,c,e,z.sameBut hs (cne y c e)⟩
  ·obtain⟨w',z⟩:=I.cell y c e
   exact⟨w',z.sameBut hs (cne y c e)⟩
  ·obtain⟨e,n,ne,nf,d⟩:=I.pin p hp
   exact⟨(hs.2 p.1 ne).trans e,n,ne,nf,d⟩
 ·have hfn:X.fn x=true:=by
   rcases hf with z | z
   ·exact z
   ·rw[z]at hk; cases hk
  obtain⟨c,hc⟩:=I.ok.has x (.inl hk)
  obtain⟨w',z⟩:=I.cell x c hc
  refine wpAny_storeName_cell I.ok.kind hk hc z (fun h' hc' hs=>?_)
  obtain⟨oc,hoc,hocd⟩:=id z
  refine h { s with heap:=h' } ⟨I.ok,I.os,I.bare,⟨fun b o e n hb hx=>?_,fun b o e n hb hx=>?_,I.base.free,fun b o e hx=>?_,I.base.tups,I.base.frzs,I.base.tbls⟩,⟨m,hn.sameBut hs (BC (cne x c hc)),fun j y v' e1 e2 e3=>?_⟩,fun y c' e=>?_,I.free,I.freeC,fun p hp=>?_,tracked ⟨oc,hoc,I.freeC x c hc⟩ hs,by simpa using I.len⟩ ⟨c,hs,.inr hc⟩
  ·exact (hs.2 b (BA (Ad (AY e) (I.ok.cab x c hfn hc)))).trans (I.base.keep b o e n hb hx)
  ·obtain⟨sl,e1⟩:=I.base.slot b o e n hb hx
   exact⟨sl,(hs.2 b (BA (Ad (AY e) (I.ok.cab x c hfn hc)))).trans e1⟩
  ·obtain⟨o',e1⟩:=I.base.there b o e hx
   exact⟨o',(hs.2 b (BA (Ad (AY e) (I.ok.cab x c hfn hc)))).trans e1⟩
  ·by_cases hj:j=i
   ·subst hj
    rw[hi]at e1; cases e1
    rw[Am hiσ]at e2
    cases e2
    exact⟨u,r,.inr ⟨.inl hk,c,hc,hc'⟩⟩
   ·rw[AW (BC hj)]at e2
    obtain⟨u',r',q⟩:=hl j y v' e1 e2 e3
    refine⟨u',r',?_⟩
    rcases q with q | ⟨k,c',e,z'⟩
    ·exact .inl q
    ·refine .inr ⟨k,c',e,z'.sameBut hs ?_⟩
     rintro rfl
     exact hj (zHi hN e1 (I.ok.inj _ _ _ e hc ▸ hi))
  ·by_cases hcc:c'=c
   ·subst hcc; exact⟨_,hc'⟩
   ·obtain⟨w2,z2⟩:=I.cell y c' e
    exact⟨w2,z2.sameBut hs hcc⟩
  ·obtain⟨e,n,ne,nf,d⟩:=I.pin p hp
   refine⟨(hs.2 p.1 ?_).trans e,n,ne,nf,d⟩
   intro q
   rw[q,hoc]at e
   have q':oc=p.2:=Ab e
   exact d w' (by rw[← q']; exact hocd)
theorem zCG{M:JF}{A:A4}{E:AB->AG->Prop}{i:Nat}{x:Str}{v:V}{u:AB}{Q:Unit->AG->Prop}(I:Inv X pins σ H s)(hN:X.N.Nodup)(hi:X.N[i]?=some x)(hx:Loc X.env.scope x)(r:RelV v u)
  (h:∀ s',Inv X pins (σ.set i (some v)) H s'->Q () s') (hf:X.fn x=true\/X.env.scope.names.lookup x=some .local:=by first | exact .inl rfl | exact .inr rfl | assumption):AV M A (storeName X.env x u) Q E s :=
 zK9 I hN hi hx r (fun s' I' _=>h s' I') hf
theorem Inv.call'{s':AG}{ch:List Addr}(I:Inv X pins σ H s)(ho:s'.os=s.os)(u:Un (frs X.stack) ch H H' s.heap s'.heap)(hok:HOk X.prog X.w H' s'.heap)(hg:Eb s'.gens)
  (hch:∀ b∈ch,(b∈X.ex\/X.s₀.heap.objs.size<=b)/\b≠X.env.locals/\(∀ x c,X.env.cells.lookup x=some c->c≠b)/\∀ p∈X.pn++pins,p.1≠b):Inv X pins σ H' s':=by
 obtain⟨h',g',d',t',o'⟩:=s'
 have e:o'=s.os:=ho
 subst e
 exact I.call (g':=g') (t':=t') (d':=d') u hok hg hch
end
abbrev XK:=AB->Option Addr->Hp->Prop
abbrev St:=List (Option V)
abbrev VK:=V->Hp->Prop
abbrev TE:=St->Hp->VK->Prop
abbrev TT:=St->Hp->(Bool->Hp->Prop)->Prop
abbrev TA:=St->Hp->(List V->Hp->Prop)->Prop
structure Ends where
 nx:St->Hp->Prop
 rt:VK
 bk:St->Hp->Prop:=fun _ _=>False
 ct:St->Hp->Prop:=fun _ _=>False
abbrev TS:=Ends->St->Hp->Prop
def EP (X:Cx) (pins:List (Addr×Obj)) (σ:St) (Q:VK) (u:AB) (s':AG):Prop:=∃ v H',Inv X pins σ H' s'/\RelV v u/\Q v H'
def TP (X:Cx) (pins:List (Addr×Obj)) (σ:St) (Q:Bool->Hp->Prop) (b:Bool) (s':AG):Prop:=∃ H',Inv X pins σ H' s'/\Q b H'
def AP (X:Cx) (pins:List (Addr×Obj)) (σ:St) (Q:List V->Hp->Prop) (us:List AB) (s':AG):Prop:=∃ vs H',Inv X pins σ H' s'/\Vals vs us/\Q vs H'
noncomputable def SP (X:Cx) (pins:List (Addr×Obj)) (D:Ends) (f:Flow) (s':AG):Prop :=
 match f with
 | .next=>∃ σ' H',Inv X pins σ' H' s'/\D.nx σ' H'
 | .brk=>∃ σ' H',Inv X pins σ' H' s'/\D.bk σ' H'
 | .cont=>∃ σ' H',Inv X pins σ' H' s'/\D.ct σ' H'
 | .ret u=>∃ v σ' H',Inv X pins σ' H' s'/\RelV v u/\D.rt v H'
noncomputable def PE (X:Cx) (e:Expr) (t:TE):Prop :=
 ∀ (pins:List (Addr×Obj)) (s:AG) (σ:St) (H:Hp) (Q:VK),Inv X pins σ H s->t σ H Q->AV (model X.prog X.w) X.A (eval e X.env) (EP X pins σ Q) X.xe s
noncomputable def PT (X:Cx) (e:Expr) (t:TT):Prop :=
 ∀ (pins:List (Addr×Obj)) (s:AG) (σ:St) (H:Hp) (Q:Bool->Hp->Prop),Inv X pins σ H s->t σ H Q->AV (model X.prog X.w) X.A (Hh e X.env (eval e X.env)) (TP X pins σ Q) X.xe s
noncomputable def PW (X:Cx) (e:Expr) (t:TT):Prop :=
 ∀ (whole:Sem AB) (pins:List (Addr×Obj)) (s:AG) (σ:St) (H:Hp) (Q:Bool->Hp->Prop),Inv X pins σ H s->t σ H Q->AV (model X.prog X.w) X.A (Hh e X.env whole) (TP X pins σ Q) X.xe s
theorem PW.pt{X:Cx}{e:Expr}{t:TT}(h:PW X e t):PT X e t:=h _
noncomputable def PA (X:Cx) (es:List Expr) (t:TA):Prop :=
 ∀ (pos:Pos) (pins:List (Addr×Obj)) (s:AG) (σ:St) (H:Hp) (Q:List V->Hp->Prop),Inv X pins σ H s->t σ H Q->AV (model X.prog X.w) X.A (spliced (CT pos (Ae es X.env))) (AP X pins σ Q) X.xe s
noncomputable def PS (X:Cx) (st:Stmt) (t:TS):Prop :=
 ∀ (pins:List (Addr×Obj)) (s:AG) (σ:St) (H:Hp) (D:Ends),Inv X pins σ H s->t D σ H->AV (model X.prog X.w) X.A (exec st X.env) (SP X pins D) X.xe s
noncomputable def PSs (X:Cx) (st:List Stmt) (t:TS):Prop :=
 ∀ (pins:List (Addr×Obj)) (s:AG) (σ:St) (H:Hp) (D:Ends),Inv X pins σ H s->t D σ H->AV (model X.prog X.w) X.A (execs st X.env) (SP X pins D) X.xe s
theorem thn{α:Type}{t:Sem α}{Q Q':α->AG->Prop}{M:JF}{A:A4}{E:AB->AG->Prop}{s:AG}(h:AV M A t Q E s)(hQ:∀ a s,Q a s->Q' a s):AV M A t Q' E s:=BE h hQ fun _ _ x=>x
section
variable {X:Cx}
theorem bin{a b:Expr}{ta tb:TE}(ha:PE X a ta)(hb:PE X b tb){pins:List (Addr×Obj)}{s:AG}{σ:St}{H:Hp}{R:V->V->Hp->Prop}(I:Inv X pins σ H s)(h:ta σ H fun x H1=>tb σ H1 fun y H2=>R x y H2)
  {α:Type} {Q:α->AG->Prop} {f:AB->AB->Sem α}
  (hf:∀ v u s2 x y H2,Inv X pins σ H2 s2->RelV x v->RelV y u->R x y H2->AV (model X.prog X.w) X.A (f v u) Q X.xe s2) :
  AV (model X.prog X.w) X.A (eval a X.env) (fun v s₁=>AV (model X.prog X.w) X.A (eval b X.env) (fun u s₂=>AV (model X.prog X.w) X.A (f v u) Q X.xe s₂) X.xe s₁) X.xe s:=by
 refine thn (ha pins s σ H _ I h) fun v s1 ⟨x,H1,I1,r1,q1⟩=>?_
 refine thn (hb pins s1 σ H1 _ I1 q1) fun u s2 ⟨y,H2,I2,r2,q2⟩=>?_
 exact hf v u s2 x y H2 I2 r1 r2 q2
noncomputable def tVar (i:Nat):TE:=fun σ H Q=>∃ v,σ[i]?=some (some v)/\Q v H
noncomputable def tC (v:V):TE:=fun _ H Q=>Q v H
theorem zDI{i:Nat}{x:Str}{pos:Pos}(hN:X.N[i]?=some x)(hv:Vis X.env.scope x)(hd:(x == ("__debug__":Str))=false:=by decide)(hcd:(x == ("__classdict__":Str))=false:=by decide):PE X (.Name x pos) (tVar i):=by
 intro pins s σ H Q I h
 obtain⟨v,e,h⟩:=h
 obtain⟨m,hn,hl⟩:=I.loc
 obtain⟨u,r,l⟩:=hl i x v hN e hv
 have fin:EP X pins σ Q u s:=⟨v,H,I,r,h⟩
 rcases l with ⟨hk,hm⟩ | ⟨hk,c,hc,hcell⟩
 ·exact Ik (wpAny_loadName_local I.ok.kind hk hn hm fin) hd
 ·rcases hk with hk | hk
  ·exact Ik (wpAny_loadName_cell I.ok.kind hk hc hcell fin) hd
  ·exact Ik (wpAny_loadName_free I.ok.kind hk hc hcell fin hcd) hd
theorem zLr{i j pos}:PE X (.Constant (.int i) j pos) (tC (.int i)):=fun _ _ _ H _ I h=>wpAny_Constant_int ⟨.int i,H,I.tok _,⟨_,rfl⟩,h⟩
theorem zQk{b j pos}:PE X (.Constant (.bool b) j pos) (tC (.bl b)):=fun _ _ _ H _ I h=>Constant_bool ⟨.bl b,H,I,rfl,h⟩
theorem zPL{j pos}:PE X (.Constant .none j pos) (tC .non):=fun _ _ _ H _ I h=>Constant_none ⟨.non,H,I,rfl,h⟩
theorem zPd{x j pos}:PE X (.Constant (.str x) j pos) (tC (.str x)):=fun _ _ _ H _ I h=>Calls.Constant_str ⟨.str x,H,I.tok _,⟨_,rfl⟩,h⟩
def Gl (X:Cx) (x:Str):Prop:=X.env.kindOf x=some .globalImplicit
theorem zN8{E:AB->AG->Prop}{pins:List (Addr×Obj)}{s:AG}{σ:St}{H:Hp}{x:Str}{u:AB}{pos:Pos}{Q:AB->AG->Prop}(I:Inv X pins σ H s)(hg:Gl X x)(hm:X.mg x=some u)(h:Q u s)
  (hd:(x == ("__debug__":Str))=false:=by decide):AV (model X.prog X.w) X.A (eval (.Name x pos) X.env) Q E s :=
 Fk I.ok.kind hg (Calls.loadGlobal_global (by rw[I.ok.glob]; exact I.mod.glob.keeps I.bk) hm h) hd
theorem zDL{E:AB->AG->Prop}{pins:List (Addr×Obj)}{s:AG}{σ:St}{H:Hp}{x:Str}{u:AB}{pos:Pos}{Q:AB->AG->Prop}(I:Inv X pins σ H s)(hg:Gl X x)(hm:X.mg x=none)(hv:CN x=some u)(h:Q u s)
  (hn:x≠"__name__":=by decide) (hd:(x == ("__debug__":Str))=false:=by decide):AV (model X.prog X.w) X.A (eval (.Name x pos) X.env) Q E s:=by
 obtain⟨mb,h1,h2⟩:=I.mod.blt
 exact Fk I.ok.kind hg (Calls.loadGlobal_builtin (by rw[I.ok.glob]; exact I.mod.glob.keeps I.bk) hm (by rw[I.ok.blt]; exact h1.keeps I.bk) ((h2 x hn).trans hv) h) hd
theorem zN9{x:Str}{v:V}{u:AB}{pos:Pos}(hg:Gl X x)(hm:X.mg x=none)(hv:CN x=some u)(r:RelV v u)(hn:x≠"__name__":=by decide)(hd:(x == ("__debug__":Str))=false:=by decide):PE X (.Name x pos) (tC v) :=
 fun _ _ _ H _ I h=>zDL I hg hm hv ⟨v,H,I,r,h⟩ hn hd
noncomputable def t2I (ta tb:TE) (k:Int->Int->Hp->Prop):St->Hp->Prop:=fun σ H=>ta σ H fun x H1=>tb σ H1 fun y H2=>∃ i j,x=.int i/\y=.int j/\k i j H2
variable {a b:Expr}{ta tb:TE}{pos:Pos}
noncomputable def PC (X:Cx) (op:FO) (a b:Expr) (t:TE):Prop :=
 ∀ (pins:List (Addr×Obj)) (s:AG) (σ:St) (H:Hp) (Q:VK),Inv X pins σ H s->t σ H Q ->
  AV (model X.prog X.w) X.A (eval a X.env) (fun v s₁=>AV (model X.prog X.w) X.A (eval b X.env) (fun u s₂=>AV (model X.prog X.w) X.A (BY op v u) (EP X pins σ Q) X.xe s₂) X.xe s₁) X.xe s
theorem nobehind(b:Expr){op:FO}(h:op≠.In)(h2:op≠.NotIn):B2 op b=false:=by
 have e1:(op == KN)=false:=by cases op <;> first | rfl | exact absurd rfl h
 have e2:(op == JG)=false:=by cases op <;> first | rfl | exact absurd rfl h2
 cases b <;> simp[B2,e1,e2]
noncomputable def tCmp (p:Int->Int->Bool) (ta tb:TE):TE:=fun σ H Q=>t2I ta tb (fun i j H2=>Q (.bl (p i j)) H2) σ H
noncomputable abbrev tGt:TE->TE->TE:=tCmp fun i j=>decide (j < i)
theorem zPg{op:FO}{p:Int->Int->Bool}(ha:PE X a ta)(hb:PE X b tb)
  (rule:∀ (i j:Int) (t u:Tok) (Q:AB->AG->Prop) (s:AG),Q (.bool (p i j)) s->AV (model X.prog X.w) X.A (BY op (.int i t) (.int j u)) Q X.xe s):PC X op a b (tCmp p ta tb):=by
 intro pins s σ H Q I h
 refine bin ha hb I h fun v u s2 x y H2 I2 rx ry q=>?_
 obtain⟨i,j,rfl,rfl,q⟩:=q
 obtain⟨t,rfl⟩:=rx
 obtain⟨t',rfl⟩:=ry
 exact rule i j t t' _ s2 ⟨.bl _,H2,I2,rfl,q⟩
theorem zQm(ha:PE X a ta)(hb:PE X b tb):PC X .Gt a b (tGt ta tb):=zPg ha hb fun _ _ _ _ _ _ h=>gt_int h
noncomputable def tB (t:TE):TT:=fun σ H Q=>t σ H fun x H1=>∃ c,x=.bl c/\Q c H1
theorem zPr{op:FO}{t:TE}(h:PC X op a b t)(h1:B2 op b=false:=by first | exact nobehind _ (by decide) (by decide) | rfl):PT X (.Compare a [op] [b] pos) (tB t):=by
 intro pins s σ H Q I hw
 refine ID (thn (h pins s σ H _ I hw) fun v s1 h1=>thn h1 fun u s2 h2=>thn h2 fun c s3 ⟨x,H1,I1,r1,q1⟩=>?_) h1
 obtain⟨d,rfl,q⟩:=q1
 cases r1
 exact Ci ⟨H1,I1,q⟩
variable {tA tB':TT}{rest:List Expr}
noncomputable def tAnd (t u:TT):TT:=fun σ H Q=>t σ H fun c H1=>if c=true then u σ H1 Q else Q false H1
noncomputable def tOr (t u:TT):TT:=fun σ H Q=>t σ H fun c H1=>if c=true then Q true H1 else u σ H1 Q
noncomputable def tNot (t:TT):TT:=fun σ H Q=>t σ H fun c H1=>Q (!c) H1
theorem zOD(ha:PT X a tA):PW X (.BoolOp .And [a] pos) tA:=by
 intro wh pins s σ H Q I h
 refine isTrue_and (thn (ha pins s σ H Q I h) fun c s1 e=>?_)
 cases c with
 | true=>exact isTrue_and_nil e
 | false=>exact e
theorem zQH(ha:PT X a tA):PW X (.BoolOp .Or [a] pos) tA:=by
 intro wh pins s σ H Q I h
 refine isTrue_or (thn (ha pins s σ H Q I h) fun c s1 e=>?_)
 cases c with
 | false=>exact isTrue_or_nil e
 | true=>exact e
theorem zQM(ha:PT X a tA)(hb:PW X (.BoolOp .And (b::rest) pos) tB'):PW X (.BoolOp .And (a::b::rest) pos) (tAnd tA tB'):=by
 intro wh pins s σ H Q I h
 refine isTrue_and (thn (ha pins s σ H _ I h) fun c s1 ⟨H1,I1,q1⟩=>?_)
 cases c with
 | true=>exact hb wh pins s1 σ H1 Q I1 q1
 | false=>exact⟨H1,I1,q1⟩
theorem zQz(ha:PT X a tA)(hb:PW X (.BoolOp .Or (b::rest) pos) tB'):PW X (.BoolOp .Or (a::b::rest) pos) (tOr tA tB'):=by
 intro wh pins s σ H Q I h
 refine isTrue_or (thn (ha pins s σ H _ I h) fun c s1 ⟨H1,I1,q1⟩=>?_)
 cases c with
 | true=>exact⟨H1,I1,q1⟩
 | false=>exact hb wh pins s1 σ H1 Q I1 q1
theorem zQE(ha:PT X a tA):PT X (.UnaryOp .Not a pos) (tNot tA):=by
 intro pins s σ H Q I h
 exact isTrue_not (ha pins s σ H (fun c H1=>Q (!c) H1) I h)
noncomputable def tAndV (ta tb:TE):TE:=fun σ H Q=>ta σ H fun x H1=>∃ c,x=.bl c/\if c=true then tb σ H1 Q else Q (.bl false) H1
theorem zQN{op}{t:TE}(h:PE X a t):PE X (.BoolOp op [a] pos) t:=fun pins s σ H Q I hw=>BoolOp_one (h pins s σ H Q I hw)
theorem zPb(ha:PE X a ta)(hb:PE X (.BoolOp .And (b::rest) pos) tb):PE X (.BoolOp .And (a::b::rest) pos) (tAndV ta tb):=by
 intro pins s σ H Q I h
 refine BoolOp_and (thn (ha pins s σ H _ I h) fun v s1 ⟨x,H1,I1,r1,q1⟩=>?_)
 obtain⟨c,rfl,q1⟩:=q1
 cases r1
 refine Ci ?_
 cases c with
 | true=>exact hb pins s1 σ H1 Q I1 q1
 | false=>exact⟨.bl false,H1,I1,rfl,q1⟩
noncomputable def tIf (t:TT) (ta tb:TE):TE:=fun σ H Q=>t σ H fun c H1=>if c=true then ta σ H1 Q else tb σ H1 Q
theorem zM2{c:Expr}(hc:PT X c tA)(ha:PE X a ta)(hb:PE X b tb):PE X (.IfExp c a b pos) (tIf tA ta tb):=by
 intro pins s σ H Q I h
 refine wpAny_IfExp (thn (hc pins s σ H _ I h) fun d s1 ⟨H1,I1,q1⟩=>?_)
 cases d with
 | true=>exact ha pins s1 σ H1 Q I1 q1
 | false=>exact hb pins s1 σ H1 Q I1 q1
end
noncomputable def SqL (K:AU) (H:Hp) (a:Addr) (xs:List V):Prop :=
 Rd H a (.lst xs) \/
  ∃ (o:Obj) (its:Array AB) (n:Nat),K.lookup a=some o/\o.cls=.type "list"/\o.dict=none/\o.data=.seq its n/\its.size<=AE/\Vals xs its.toList
noncomputable def SqT (K:AU) (H:Hp) (a:Addr) (xs:List V):Prop :=
 Rd H a (.tup xs) \/
  ∃ (o:Obj) (its:Array AB) (n:Nat),K.lookup a=some o/\o.cls=.type "tuple"/\o.data=.seq its n/\its.size<=AE/\Vals xs its.toList
noncomputable def absV:AB->Option V
 | .none=>some .non
 | .bool b=>some (.bl b)
 | .int i _=>some (.int i)
 | .str x _=>some (.str x)
 | .bytes b _=>some (.byt b)
 | .float b _=>some (.flt b)
 | .ref a=>some (.ref a)
 | .type n=>some (.ty n)
 | _=>none
theorem RelV.abs{x:V}{u:AB}(r:RelV x u):absV u=some x:=by
 cases x with
 | non=>cases r; rfl
 | bl _=>cases r; rfl
 | int _=>obtain⟨t,rfl⟩:=r; rfl
 | str _=>obtain⟨t,rfl⟩:=r; rfl
 | byt _=>obtain⟨t,rfl⟩:=r; rfl
 | flt _=>obtain⟨t,rfl⟩:=r; rfl
 | ref _=>cases r; rfl
 | ty _=>cases r; rfl
theorem RelV.inj{x y:V}{u:AB}(r:RelV x u)(q:RelV y u):x=y:=Ab (r.abs.symm.trans q.abs)
theorem Vals.inj:∀ {xs ys:List V} {us:List AB},Vals xs us->Vals ys us->xs=ys
 | _,_,_,.nil,.nil=>rfl
 | _,_,_,.cons r t,.cons r' t'=>by rw[r.inj r',Vals.inj t t']
section
variable {X:Cx}{pins:List (Addr×Obj)}{σ:St}{H:Hp}{s:AG}{a:Addr}{xs ys:List V}
theorem SqL.of{K:AU}(h:H a=some (.lst xs)):SqL K H a xs:=.inl (.inl h)
theorem SqT.of{K:AU}(h:H a=some (.tup xs)):SqT K H a xs:=.inl (.inl h)
theorem Inv.list(I:Inv X pins σ H s)(h:SqL X.K H a xs):∃ its:List AB,Vals xs its/\PlainL s.heap a its.toArray/\xs.length<=AE:=by
 rcases h with h | ⟨o,its,n,hk,hc,hd,hs,hz,r⟩
 ·obtain⟨z,its,n,r,e⟩:=h.ok I.hok
  exact⟨its,r,⟨_,n,e,rfl,rfl,rfl⟩,z⟩
 ·refine⟨its.toList,r,⟨o,n,I.kIn a o hk,hc,hd,by simpa using hs⟩,?_⟩
  have e:=r.length
  simp only[As]at e
  lia
theorem Inv.tuple(I:Inv X pins σ H s)(h:SqT X.K H a xs):∃ its:List AB,Vals xs its/\Ee s.heap a its.toArray/\xs.length<=AE:=by
 rcases h with h | ⟨o,its,n,hk,hc,hs,hz,r⟩
 ·obtain⟨z,its,r,p⟩:=h.ok I.hok
  exact⟨its,r,p.tup,z⟩
 ·refine⟨its.toList,r,⟨o,I.kIn a o hk,hc,n,by simpa using hs⟩,?_⟩
  have e:=r.length
  simp only[As]at e
  lia
theorem Inv.list_inj(I:Inv X pins σ H s)(h:SqL X.K H a xs)(h':SqL X.K H a ys):xs=ys:=by
 obtain⟨its,r,⟨o,n,e,_,_,d⟩,_⟩:=I.list h
 obtain⟨its',r',⟨o',n',e',_,_,d'⟩,_⟩:=I.list h'
 rw[e]at e'; cases e'
 rw[d]at d'
 injection d' with d1 _
 have:its=its':=by simpa using congrArg Il d1
 subst this
 exact r.inj r'
theorem Inv.tuple_inj(I:Inv X pins σ H s)(h:SqT X.K H a xs)(h':SqT X.K H a ys):xs=ys:=by
 obtain⟨its,r,⟨o,e,_,n,d⟩,_⟩:=I.tuple h
 obtain⟨its',r',⟨o',e',_,n',d'⟩,_⟩:=I.tuple h'
 rw[e]at e'; cases e'
 rw[d]at d'
 injection d' with d1 _
 have:its=its':=by simpa using congrArg Il d1
 subst this
 exact r.inj r'
end
noncomputable abbrev Cx.wish (X:Cx) (E:AB->AG->Prop):Cx:={ X with xe:=E }
noncomputable abbrev Cx.nox (X:Cx):Cx:=X.wish fun _ _=>False
theorem Cx.Ok.wish{X:Cx}(ok:X.Ok)(E:AB->AG->Prop):(X.wish E).Ok :=
 ⟨ok.mod,ok.kind,ok.glob,ok.blt,ok.above,ok.inj,ok.has,ok.cab,ok.hd,ok.frames,ok.stk,ok.exf,ok.bs,ok.bsz,ok.noex,ok.exfs,ok.funs,ok.frf⟩
theorem Cx.Ok.unwish{X:Cx}{E:AB->AG->Prop}(ok:(X.wish E).Ok):X.Ok :=
 ⟨ok.mod,ok.kind,ok.glob,ok.blt,ok.above,ok.inj,ok.has,ok.cab,ok.hd,ok.frames,ok.stk,ok.exf,ok.bs,ok.bsz,ok.noex,ok.exfs,ok.funs,ok.frf⟩
section
variable {X:Cx}{pins:List (Addr×Obj)}{σ:St}{H:Hp}{s:AG}{E:AB->AG->Prop}
theorem Inv.wish(I:Inv X pins σ H s)(E:AB->AG->Prop):Inv (X.wish E) pins σ H s:=⟨I.ok.wish E,I.os,I.bare,I.base,I.loc,I.cell,I.free,I.freeC,I.pin,I.hok,I.len⟩
theorem Inv.unwish(I:Inv (X.wish E) pins σ H s):Inv X pins σ H s:=⟨I.ok.unwish,I.os,I.bare,I.base,I.loc,I.cell,I.free,I.freeC,I.pin,I.hok,I.len⟩
theorem SP.unwish{D:Ends}{f:Flow}{s':AG}(h:SP (X.wish E) pins D f s'):SP X pins D f s':=by
 cases f with
 | next=>obtain⟨σ',H',I,q⟩:=h; exact⟨σ',H',I.unwish,q⟩
 | brk=>obtain⟨σ',H',I,q⟩:=h; exact⟨σ',H',I.unwish,q⟩
 | cont=>obtain⟨σ',H',I,q⟩:=h; exact⟨σ',H',I.unwish,q⟩
 | ret u=>obtain⟨v,σ',H',I,r,q⟩:=h; exact⟨v,σ',H',I.unwish,r,q⟩
theorem PSs.nox{st:List Stmt}{t:TS}(h:PSs X.nox st t):PSs X st t:=fun pins s σ H D I hw =>
 BE (h pins s σ H D (I.wish _) hw) (fun _ _ q=>q.unwish) fun _ _ z=>Bh z
end
section
variable {X:Cx}{st:Stmt}{rest:List Stmt}{t u:TS}{e:Expr}{te:TE}{pos:Pos}
noncomputable def tNext:TS:=fun D σ H=>D.nx σ H
noncomputable def tSeq (t u:TS):TS:=fun D σ H=>t { D with nx:=u D } σ H
theorem zNy:PSs X [] tNext:=fun _ _ σ H _ I h=>Eg ⟨σ,H,I,h⟩
theorem zMl(h1:PS X st t)(h2:PSs X rest u):PSs X (st::rest) (tSeq t u):=by
 intro pins s σ H D I h
 refine JU (thn (h1 pins s σ H { D with nx:=u D } I h) fun f s1 q=>?_)
 cases f with
 | next =>
  obtain⟨σ',H',I',q⟩:=q
  exact h2 pins s1 σ' H' D I' q
 | ret v=>exact q
 | brk=>exact q
 | cont=>exact q
theorem zOE(h1:PS X st t):PSs X [st] t:=by
 intro pins s σ H D I h
 refine JU (thn (h1 pins s σ H D I h) fun f s1 q=>?_)
 cases f with
 | next=>exact Eg q
 | ret v=>exact q
 | brk=>exact q
 | cont=>exact q
theorem Inv.quiet{pins:List (Addr×Obj)}{σ:St}{H:Hp}{s:AG}(I:Inv X pins σ H s):interactive X.env=false:=by simp[interactive,I.ok.kind]
noncomputable def tDrop (te:TE):TS:=fun D σ H=>te σ H fun _ H1=>D.nx σ H1
theorem zO3(he:PE X e te)(hs:Ds e none pos.line X.env=pure false:=by rfl):PS X (.Expr e pos) (tDrop te):=by
 intro pins s σ H D I h
 exact wpAny_Expr_any (thn (he pins s σ H _ I h) fun v s1 ⟨x,H1,I1,r1,q1⟩=>⟨σ,H1,I1,q1⟩) I.quiet hs
noncomputable def tRet (te:TE):TS:=fun D σ H=>te σ H D.rt
theorem zP5(he:PE X e te):PS X (.Return (some e) pos) (tRet te):=by
 intro pins s σ H D I h
 exact wpAny_Return_some (thn (he pins s σ H _ I h) fun v s1 ⟨x,H1,I1,r1,q1⟩=>⟨x,σ,H1,I1,r1,q1⟩)
noncomputable def tIfS (c:TT) (t u:TS):TS:=fun D σ H=>c σ H fun b H1=>if b=true then t D σ H1 else u D σ H1
theorem zRO{c:Expr}{a b:List Stmt}{tc:TT}(hc:PT X c tc)(ha:PSs X a t)(hb:PSs X b u):PS X (.If c a b pos) (tIfS tc t u):=by
 intro pins s σ H D I h
 refine wpAny_If (thn (hc pins s σ H _ I h) fun d s1 ⟨H1,I1,q1⟩=>?_)
 cases d with
 | true=>exact ha pins s1 σ H1 D I1 q1
 | false=>exact hb pins s1 σ H1 D I1 q1
noncomputable def tNever:TS:=fun _ _ _=>False
theorem zNW:PS X st tNever:=fun _ _ _ _ _ _ h=>h.elim
end
abbrev TG:=V->St->Hp->(St->Hp->Prop)->Prop
abbrev TGs:=List V->St->Hp->(St->Hp->Prop)->Prop
noncomputable def PG (X:Cx) (target:Expr) (t:TG):Prop :=
 ∀ (pins:List (Addr×Obj)) (s:AG) (σ:St) (H:Hp) (v:V) (u:AB) (Q:St->Hp->Prop),Inv X pins σ H s->RelV v u->t v σ H Q ->
  AV (model X.prog X.w) X.A (assign target X.env u) (fun _ s'=>∃ σ' H',Inv X pins σ' H' s'/\Q σ' H') X.xe s
noncomputable def PGs (X:Cx) (ts:List Expr) (t:TGs):Prop :=
 ∀ (pins:List (Addr×Obj)) (s:AG) (σ:St) (H:Hp) (vs:List V) (us:List AB) (Q:St->Hp->Prop),Inv X pins σ H s->Vals vs us->t vs σ H Q ->
  AV (model X.prog X.w) X.A (HG ((B7 ts X.env).map (·.2)) us) (fun _ s'=>∃ σ' H',Inv X pins σ' H' s'/\Q σ' H') X.xe s
abbrev TSet:=V->V->V->Hp->(Hp->Prop)->Prop
noncomputable def PSet (X:Cx) (t:TSet):Prop :=
 ∀ (pins:List (Addr×Obj)) (s:AG) (σ:St) (H:Hp) (o i v:V) (ov iv u:AB) (Q:Hp->Prop),Inv X pins σ H s->RelV o ov->RelV i iv->RelV v u->t o i v H Q ->
  AV (model X.prog X.w) X.A (JH ov iv u) (fun _ s'=>∃ H',Inv X pins σ H' s'/\Q H') X.xe s
section
variable {X:Cx}{pos:Pos}
noncomputable def gName (i:Nat):TG:=fun v σ H Q=>Q (σ.set i (some v)) H
theorem zFI{i:Nat}{x:Str}(hN:X.N.Nodup)(hi:X.N[i]?=some x)(hx:Loc X.env.scope x)(hf:X.fn x=true\/X.env.scope.names.lookup x=some .local:=by first | exact .inl rfl | exact .inr rfl | assumption):PG X (.Name x pos) (gName i):=by
 intro pins s σ H v u Q I r h
 exact wpAny_assign_Name (zCG I hN hi hx r (fun s' I'=>⟨_,H,I',h⟩) hf)
noncomputable def gNil:TGs:=fun vs σ H Q=>vs=[]/\Q σ H
noncomputable def gCons (t:TG) (u:TGs):TGs:=fun vs σ H Q=>∃ v r,vs=v::r/\t v σ H fun σ' H'=>u r σ' H' Q
theorem zOn:PGs X [] gNil:=by
 intro pins s σ H vs us Q I r h
 obtain⟨e,h⟩:=h
 subst e
 cases r
 exact JI ⟨σ,H,I,h⟩
theorem zNc{e:Expr}{es:List Expr}{t:TG}{u:TGs}(h1:PG X e t)(h2:PGs X es u)
  (hs:(B7 (e::es) X.env).map (·.2)=assign e X.env::(B7 es X.env).map (·.2):=by rfl):PGs X (e::es) (gCons t u):=by
 intro pins s σ H vs us Q I r h
 obtain⟨v,vr,e1,h⟩:=h
 subst e1
 cases r with
 | cons r rr =>
  rw[hs]
  refine Dw (thn (h1 pins s σ H _ _ _ I r h) fun _ s1 ⟨σ1,H1,I1,q1⟩=>?_)
  exact h2 pins s1 σ1 H1 _ _ Q I1 rr q1
noncomputable def gTup (K:AU) (n:Nat) (t:TGs):TG:=fun v σ H Q=>∃ a xs,v=.ref a/\SqT K H a xs/\xs.length=n/\t xs σ H Q
theorem zPY{es:List Expr}{k:Nat}{t:TGs}{n:Nat}(hc:X.calm=true)(h:PGs X es t)
  (hn:(B7 es X.env).length=n:=by rfl) (hst:(B7 es X.env).findIdx? (·.1)=none:=by rfl):PG X (.Tuple es k pos) (gTup X.K n t):=by
 intro pins s σ H v u Q I r hw
 obtain⟨a,xs,e1,hq,hl,hw⟩:=hw
 subst e1
 cases r
 obtain⟨its,rv,ht,hz⟩:=I.tuple hq
 refine assign_Tuple_tuple (I.ok.hd hc) ht (by simp[hn,← hl,rv.length]) hst fun h' hx=>?_
 have I1:Inv X pins σ H { s with heap:=h' }:=I.kept (t':=s.toks) fun b o e=>hx b o (BA (AY e)) e
 exact h pins _ σ H xs _ Q I1 (by simpa using rv) hw
noncomputable def gSub (to ti:TE) (t:TSet):TG:=fun v σ H Q=>to σ H fun o H1=>ti σ H1 fun i H2=>t o i v H2 fun H3=>Q σ H3
theorem zPk{o i:Expr}{to ti:TE}{t:TSet}(ho:PE X o to)(hi:PE X i ti)(hs:PSet X t)
  (ha:∀ v,assign (.Subscript o i pos) X.env v=(do
   let ov ← holding [v] (eval o X.env)
   let iv ← holding [v,ov] (eval i X.env)
   JJ pos
   holding [v,ov,iv] (JH ov iv v)
   release [v,ov,iv] []):=by intro _; rfl):PG X (.Subscript o i pos) (gSub to ti t):=by
 intro pins s σ H v u Q I r h
 rw[ha]
 refine AD (CQ (thn (ho pins s σ H _ I h) fun ov s1 ⟨x,H1,I1,r1,q1⟩=>?_))
 refine AD (CQ (thn (hi pins s1 σ H1 _ I1 q1) fun iv s2 ⟨y,H2,I2,r2,q2⟩=>?_))
 refine AD (FP (AD (CQ (thn (hs pins s2 σ H2 x y v ov iv u _ I2 r1 r2 r q2) fun _ s3 ⟨H3,I3,q3⟩=>?_))))
 exact wpAny_release ⟨σ,H3,I3,q3⟩
noncomputable def tAsg (te:TE) (g:TG):TS:=fun D σ H=>te σ H fun x H1=>g x σ H1 D.nx
theorem zMD{tg e:Expr}{te:TE}{g:TG}(he:PE X e te)(hg:PG X tg g)(hs:EE [tg] e pos.line X.env=pure false:=by rfl)(hw:EF [tg] e X.env=pure none:=by rfl)
  (h1:(B7 [tg] X.env).map (·.2)=[assign tg X.env]:=by rfl):PS X (.Assign [tg] e pos) (tAsg te g):=by
 intro pins s σ H D I h
 refine wpAny_Assign_stores (thn (he pins s σ H _ I h) fun v s1 ⟨x,H1,I1,r1,q1⟩=>?_) hs hw
 rw[h1]
 exact thn (hg pins s1 σ H1 x v _ I1 r1 q1) fun _ s2 q=>q
theorem zQK{i:Nat}{x:Str}{e:Expr}{te:TE}{pos':Pos}(hN:X.N.Nodup)(hi:X.N[i]?=some x)(hx:Loc X.env.scope x)(he:PE X e te)(hs:Ds e (some (.Name x pos')) pos.line X.env=pure false:=by rfl)(hf:X.fn x=true\/X.env.scope.names.lookup x=some .local:=by first | exact .inl rfl | exact .inr rfl | assumption) :
  PS X (.Assign [.Name x pos'] e pos) (tAsg te (gName i)):=by
 intro pins s σ H D I h
 refine wpAny_Assign_Name (thn (he pins s σ H _ I h) fun v s1 ⟨y,H1,I1,r1,q1⟩=>?_) hs
 exact zCG I1 hN hi hx r1 (fun s2 I2=>⟨_,H1,I2,q1⟩) hf
end
section
variable {X:Cx}{pos:Pos}
noncomputable def tWhile (c:TT) (tb:TS):TS:=fun D σ H=>∃ W:Nat->St->Hp->Prop,(∃ m,W m σ H)/\∀ m σ H,W m σ H ->
 c σ H fun b H1=>if b=true then ∃ N:St->Hp->Prop,(∀ σ' H',N σ' H'->∃ m',m' < m/\W m' σ' H')/\tb { D with nx:=N,ct:=N,bk:=D.nx } σ H1 else D.nx σ H1
theorem zMu{c:Expr}{body:List Stmt}{tc:TT}{tb:TS}(hp:HV (model X.prog X.w) X.A X.env X.xe)(hc:PT X c tc)(hb:PSs X body tb):PS X (.While c body [] pos) (tWhile tc tb):=by
 intro pins s σ H D I h
 obtain⟨W,⟨m0,w0⟩,turn⟩:=h
 refine wpAny_While (codeAny_whileLoop (fun n s'=>∃ σ' H',Inv X pins σ' H' s'/\W n σ' H') ?_ m0 ⟨σ,H,I,w0⟩)
 rintro n s1 ⟨σ1,H1,I1,w1⟩
 refine Cb hp (thn (hc pins s1 σ1 H1 _ I1 (turn n σ1 H1 w1)) fun b s2 ⟨H2,I2,q2⟩=>?_)
 cases b with
 | true =>
  obtain⟨N,hN,q2⟩:=q2
  rw[if_pos rfl]
  refine Cb hp (thn (hb pins s2 σ1 H2 _ I2 q2) fun f s3 q3=>?_)
  cases f with
  | next =>
   obtain⟨σ3,H3,I3,n3⟩:=q3
   obtain⟨m',hm,w3⟩:=hN σ3 H3 n3
   exact⟨m',hm,σ3,H3,I3,w3⟩
  | cont =>
   obtain⟨σ3,H3,I3,n3⟩:=q3
   obtain⟨m',hm,w3⟩:=hN σ3 H3 n3
   exact⟨m',hm,σ3,H3,I3,w3⟩
  | brk=>exact q3
  | ret v=>exact q3
 | false =>
  rw[if_neg AQ]
  exact Eg ⟨σ1,H2,I2,q2⟩
end
structure It where
 go:Nat->Hp->Prop
 yld:Nat->Hp->V->Hp->Prop
 stop:Nat->Hp->Prop
noncomputable def FpOk (X:Cx) (pins:List (Addr×Obj)) (H:Hp) (b:Addr):Prop :=
 H b=none/\b≠X.env.locals/\b∉X.fs/\(b∈X.ex\/X.s₀.heap.objs.size<=b)/\(∀ x c,X.env.cells.lookup x=some c->c≠b)/\∀ p∈X.pn++pins,p.1≠b
theorem Inv.fpOk{X:Cx}{pins:List (Addr×Obj)}{σ:St}{H H':Hp}{s:AG}{b:Addr}(I:Inv X pins σ H s)(hb:s.heap.objs.size<=b)(hn:H' b=none):FpOk X pins H' b:=by
 refine⟨hn,Gm (Ad I.lt hb),I.nofs hb,.inr (Al I.sz hb),fun x c e z=>?_,fun p hp z=>?_⟩
 ·obtain⟨v,q⟩:=I.cell x c e
  exact absurd (Ad q.lt (by rw[z]; exact hb)) (Az _)
 ·exact absurd (Ad (AY (I.pin p hp).1) (by rw[z]; exact hb)) (Az _)
structure Turn(P:Ah)(w:Aw)(K:AU)(tg:Expr)(J:It)(fp:List Addr)(it:Addr)(tn:Nat->Heap->Prop):Prop where
 mem:it∈fp
 obj:∀ i h,tn i h->∀ b∈fp,∃ o,h.get? b=some o/\∀ v,o.data≠.cell v
 keep:∀ i h h',tn i h->(∀ b∈fp,∀ o,h.get? b=some o->h'.get? b=some o)->tn i h'
 item:∀ (X:Cx),X.prog=P->X.w=w->X.K=K->X.calm=true->∀ (i:Nat) (pins:List (Addr×Obj)) (s:AG) (σ:St) (H:Hp) (E:AB->AG->Prop),Inv X pins σ H s->(∀ b∈fp,FpOk X pins H b)->tn i s.heap->J.go i H ->
  AV (model P w) X.A (Ec (.ref it)) (fun r s1=>∃ u,r=some u /\
   AV (model P w) X.A (Eh tg (.ref it) u) (fun _ s2=>∃ x H',Inv X pins σ H' s2/\RelV x u/\J.yld i H x H'/\tn (i+1) s2.heap/\∀ b∈fp,H' b=none) E s1) E s
 done:∀ (X:Cx),X.prog=P->X.w=w->X.K=K->X.calm=true->∀ (i:Nat) (pins:List (Addr×Obj)) (s:AG) (σ:St) (H:Hp) (E:AB->AG->Prop),Inv X pins σ H s->(∀ b∈fp,FpOk X pins H b)->tn i s.heap->J.stop i H ->
  AV (model P w) X.A (Ec (.ref it)) (fun r s1=>r=none/\Inv X pins σ H s1) E s
 self:∀ (A:A4) (i:Nat) (s:AG) (Q:AB->AG->Prop) (E:AB->AG->Prop),tn i s.heap->Q (.ref it) s->AV (model P w) A (Io (.ref it)) Q E s
abbrev TI:=St->Hp->(It->Hp->Prop)->Prop
noncomputable def PIE (X:Cx) (pins:List (Addr×Obj)) (σ:St) (tg:Expr) (R:It->Hp->Prop) (itv:AB) (s2:AG):Prop :=
 ∃ (it:Addr) (fp:List Addr) (tn:Nat->Heap->Prop) (J:It) (H':Hp),itv=.ref it/\Inv X pins σ H' s2/\Turn X.prog X.w X.K tg J fp it tn/\tn 0 s2.heap/\(∀ b∈fp,FpOk X pins H' b)/\R J H'
noncomputable def PI (X:Cx) (tg iter:Expr) (wi:TI):Prop :=
 ∀ (pins:List (Addr×Obj)) (s:AG) (σ:St) (H:Hp) (R:It->Hp->Prop),Inv X pins σ H s->wi σ H R ->
  AV (model X.prog X.w) X.A (eval iter X.env) (fun v s1=>AV (model X.prog X.w) X.A (Io v) (PIE X pins σ tg R) X.xe s1) X.xe s
theorem zEv{M:JF}{A:A4}{E:AB->AG->Prop}{s:AG}{tg:Expr}{it:Addr}{u:AB}{o:Obj}{n:String}{vs:Array AB}{Q:Unit->AG->Prop}(ho:s.heap.get? it=some o)(hc:o.cls=.type n)(hd:o.data=.fields vs)
  (hn:["enumerate","zip","dict_itemiterator","dict_reverseitemiterator","odict_iterator","itertools.zip_longest","itertools.pairwise"].contains n=false) (hQ:Q () s):AV M A (Eh tg (.ref it) u) Q E s:=by
 unfold Eh
 cases tg <;> first
  | exact AO hQ
  | (cases u <;> first
    | exact AO hQ
    | (
      refine AD (wpAny_load ho ?_)
      rw[hc,hd]
      show AV M A (if (["enumerate","zip","dict_itemiterator","dict_reverseitemiterator","odict_iterator","itertools.zip_longest","itertools.pairwise"].contains n && vs[0]? == some (FX _))=true then _ else _) Q E s
      rw[if_neg (by intro h; rw[hn,IY]at h; cases h)]
      exact AO hQ))
noncomputable def Itl (K:AU) (a:Addr):It :=
 ⟨fun i H=>∃ xs x,SqL K H a xs/\xs[i]?=some x,fun i H x H'=>H'=H/\∀ xs,SqL K H a xs->xs[i]?=some x,fun i H=>∃ xs,SqL K H a xs/\xs.length<=i⟩
noncomputable def Itt (K:AU) (a:Addr):It :=
 ⟨fun i H=>∃ xs x,SqT K H a xs/\xs[i]?=some x,fun i H x H'=>H'=H/\∀ xs,SqT K H a xs->xs[i]?=some x,fun i H=>∃ xs,SqT K H a xs/\xs.length<=i⟩
noncomputable def Itr (lo:Int) (n:Nat):It:=⟨fun i _=>i < n,fun i H x H'=>H'=H/\x=.int (lo+i),fun i _=>n<=i⟩
theorem zLQ{P:Ah}{w:Aw}{K:AU}{tg:Expr}(a it:Addr):Turn P w K tg (Itl K a) [it] it (fun i h=>h.IsListIter it a i) where
 mem:=by simp
 obj:=fun i h st b hb=>by
  have e:b=it:=by simpa using hb
  subst e
  obtain⟨o,e,c,d⟩:=st
  exact⟨o,e,fun v z=>by rw[d]at z; cases z⟩
 keep:=fun i h h' st k=>st.at fun o e=>k it (by simp) o e
 item:=by
  intro X hP hw hK hc i pins s σ H E I hf st hg
  subst hP hw hK
  obtain⟨xs,x,hq,hx⟩:=hg
  obtain⟨its,rv,p,hz⟩:=I.list hq
  obtain⟨u,hu,ru⟩:=rv.get hx
  obtain⟨f0,f1,f2,f3,f4,f5⟩:=hf it (by simp)
  refine wpAny_pyNext_list_item st p.isList (x:=u) (by simpa using hu) fun h' st' sb=>?_
  have I1:Inv X pins σ H { s with heap:=h' }:=I.turned (t':=s.toks) (fun b o hb e=>(sb.2 b hb).trans e) f0 f1 f3 f4 f5
  obtain⟨o,e,c,d⟩:=id st'
  exact⟨u,rfl,zEv (s:={ s with heap:=h' }) e c d (by decide) ⟨x,H,I1,ru,⟨rfl,fun ys hy=>by rw[I.list_inj hy hq]; exact hx⟩,st',fun b hb=>(hf b hb).1⟩⟩
 done:=by
  intro X hP hw hK hc i pins s σ H E I hf st hg
  subst hP hw hK
  obtain⟨xs,hq,hx⟩:=hg
  obtain⟨its,rv,p,hz⟩:=I.list hq
  obtain⟨f0,f1,f2,f3,f4,f5⟩:=hf it (by simp)
  have hl:=rv.length
  exact wpAny_pyNext_list_end (I.ok.hd hc) st p.isList (by simp; lia) fun h' eb=>⟨rfl,I.turned (t':=s.toks) (fun b o hb e=>eb b o hb e) f0 f1 f3 f4 f5⟩
 self:=fun _ _ _ _ _ st h=>wpAny_pyIter_listiter st h
theorem zKH{P:Ah}{w:Aw}{K:AU}{tg:Expr}(a it:Addr):Turn P w K tg (Itt K a) [it] it (fun i h=>h.IsTupleIter it a i) where
 mem:=by simp
 obj:=fun i h st b hb=>by
  have e:b=it:=by simpa using hb
  subst e
  obtain⟨o,e,c,d⟩:=st
  exact⟨o,e,fun v z=>by rw[d]at z; cases z⟩
 keep:=fun i h h' st k=>st.at fun o e=>k it (by simp) o e
 item:=by
  intro X hP hw hK hc i pins s σ H E I hf st hg
  subst hP hw hK
  obtain⟨xs,x,hq,hx⟩:=hg
  obtain⟨its,rv,p,hz⟩:=I.tuple hq
  obtain⟨u,hu,ru⟩:=rv.get hx
  obtain⟨f0,f1,f2,f3,f4,f5⟩:=hf it (by simp)
  refine wpAny_pyNext_tuple_item st (show s.heap.IsTuple a its.toArray from p) (x:=u) (by simpa using hu) fun h' st' sb=>?_
  have I1:Inv X pins σ H { s with heap:=h' }:=I.turned (t':=s.toks) (fun b o hb e=>(sb.2 b hb).trans e) f0 f1 f3 f4 f5
  obtain⟨o,e,c,d⟩:=id st'
  exact⟨u,rfl,zEv (s:={ s with heap:=h' }) e c d (by decide) ⟨x,H,I1,ru,⟨rfl,fun ys hy=>by rw[I.tuple_inj hy hq]; exact hx⟩,st',fun b hb=>(hf b hb).1⟩⟩
 done:=by
  intro X hP hw hK hc i pins s σ H E I hf st hg
  subst hP hw hK
  obtain⟨xs,hq,hx⟩:=hg
  obtain⟨its,rv,p,hz⟩:=I.tuple hq
  obtain⟨f0,f1,f2,f3,f4,f5⟩:=hf it (by simp)
  have hl:=rv.length
  exact wpAny_pyNext_tuple_end (I.ok.hd hc) st (show s.heap.IsTuple a its.toArray from p) (by simp; lia) fun h' eb=>⟨rfl,I.turned (t':=s.toks) (fun b o hb e=>eb b o hb e) f0 f1 f3 f4 f5⟩
 self:=fun _ _ _ _ _ st h=>wpAny_pyIter_tupleiter st h
theorem zKF{P:Ah}{w:Aw}{K:AU}{tg:Expr}(it:Addr)(lo:Int)(n:Nat):Turn P w K tg (Itr lo n) [it] it (fun i h=>IsRangeIter h it (lo+(i:Nat) * 1) ((n:Int) - (i:Nat)) 1) where
 mem:=by simp
 obj:=fun i h st b hb=>by
  have e:b=it:=by simpa using hb
  subst e
  exact⟨_,st,fun v z=>by
   have z':Data.fields _=KO v:=z
   cases z'⟩
 keep:=fun i h h' st k=>k it (by simp) _ st
 item:=by
  intro X hP hw hK hc i pins s σ H E I hf st hg
  subst hP hw hK
  obtain⟨f0,f1,f2,f3,f4,f5⟩:=hf it (by simp)
  have W:=Walks.range (prog:=X.prog) (w:=X.w) (I.ok.hd hc) it lo 1 n
  refine W.item i s _ _ hg st fun v h' tk hv st' kk=>?_
  obtain⟨t,rfl⟩:=hv
  have I1:Inv X pins σ H { s with heap:=h',toks:=tk }:=I.turned (fun b o hb e=>kk b o (by simpa using hb) e) f0 f1 f3 f4 f5
  refine⟨_,rfl,zEv (s:={ s with heap:=h',toks:=tk }) (n:="range_iterator") st' rfl rfl (by decide) ⟨.int (lo+i),H,I1,⟨t,?_⟩,⟨rfl,rfl⟩,st',fun b hb=>(hf b hb).1⟩⟩
  rw[Ce]
 done:=by
  intro X hP hw hK hc i pins s σ H E I hf st hg
  subst hP hw hK
  obtain⟨f0,f1,f2,f3,f4,f5⟩:=hf it (by simp)
  exact wpAny_pyNext_range_end (I.ok.hd hc) st (by have:n<=i:=hg; lia) fun h' eb=>⟨rfl,I.turned (t':=s.toks) (fun b o hb e=>eb b o hb e) f0 f1 f3 f4 f5⟩
 self:=fun _ _ _ _ _ st h=>wpAny_pyIter_rangeiter st h
section
variable {X:Cx}{tg:Expr}
theorem zMN{pins:List (Addr×Obj)}{σ:St}{H:Hp}{s:AG}{R:It->Hp->Prop}{E:AB->AG->Prop}{lo hi:Int}{t u v:Tok}{tk:Nat}(I:Inv X pins σ H s)(h1:-(2 ^ 62)<=lo)(h2:lo < 2 ^ 62)(h3:-(2 ^ 62)<=hi)(h4:hi < 2 ^ 62)
  (q:R (Itr lo (hi - lo).toNat) H):AV (model X.prog X.w) X.A (Io (.ref s.heap.objs.size)) (PIE X pins σ tg R) E { s with heap:=s.heap.push { cls:=.type "range",data:=.fields #[.int lo t,.int hi u,.int 1 v] },toks:=tk }:=by
 refine wpAny_pyIter_range (IsRange.new ..) (JV h1 h2 h3 h4) ?_
 have I1:Inv X pins σ H { s with heap:=s.heap.push { cls:=.type "range",data:=.fields #[.int lo t,.int hi u,.int 1 v] },toks:=tk }:=I.kept fun b o e=>AM _ e
 refine⟨(s.heap.push { cls:=.type "range",data:=.fields #[.int lo t,.int hi u,.int 1 v] }).objs.size,[(s.heap.push { cls:=.type "range",data:=.fields #[.int lo t,.int hi u,.int 1 v] }).objs.size],_,_,H,rfl,
  I1.kept (t':=tk) fun b o e=>AM _ e,zKF _ lo (hi - lo).toNat,?_,fun b hb=>?_,q⟩
 ·have e1:lo+((0:Nat):Int) * 1=lo:=by simp
  have e2:(((hi - lo).toNat:Nat):Int) - ((0:Nat):Int)=CD lo hi 1:=by rw[Kn]; split <;> lia
  show IsRangeIter _ _ (lo+((0:Nat):Int) * 1) ((((hi - lo).toNat:Nat):Int) - ((0:Nat):Int)) 1
  rw[e1,e2]
  exact AZ _ rfl
 ·have e:b=(s.heap.push { cls:=.type "range",data:=.fields #[.int lo t,.int hi u,.int 1 v] }).objs.size:=by simpa using hb
  subst e
  exact I1.fpOk (AL _) (I1.hok.fresh (AL _))
noncomputable def iRng1 (ta:TA):TI:=fun σ H R=>ta σ H fun vs H1=>∃ j:Int,vs=[.int j]/\-(2 ^ 62)<=j/\j < 2 ^ 62/\R (Itr 0 j.toNat) H1
theorem zMG{a:Expr}{ta:TA}{p pos:Pos}(hg:Gl X "range")(hm:X.mg "range"=none)(ha:PA X [a] ta)(hs:Ae [a] X.env=[(false,eval a X.env)]:=by rfl):PI X tg (.Call (.Name "range" p) [a] [] pos) (iRng1 ta):=by
 intro pins s σ H R I h
 refine Call_ (zDL I hg hm boot_range (DB (thn (ha pos pins s σ H _ I h) fun us s1 ⟨vs,H1,I1,r1,q1⟩=>?_) hs rfl))
 obtain⟨j,e,q1,q2,q⟩:=q1
 subst e
 cases r1 with
 | cons r rr =>
  cases rr
  obtain⟨t,rfl⟩:=r
  exact LC (zMN I1 (by lia) (by lia) q1 q2 (by simpa using q))
noncomputable def tFor (wi:TI) (g:TG) (tb:TS):TS:=fun D σ H=>wi σ H fun J H1=>∃ W:Nat->Nat->St->Hp->Prop,(∃ m,W 0 m σ H1)/\∀ i m σ H,W i m σ H ->
 (J.stop i H/\D.nx σ H)\/(J.go i H/\∃ N:St->Hp->Prop,(∀ σ' H',N σ' H'->∃ m',m' < m/\W (i+1) m' σ' H')/\∀ x H',J.yld i H x H'->g x σ H' fun σ2 H2=>tb { D with nx:=N,ct:=N,bk:=D.nx } σ2 H2)
noncomputable def pinsAt (fp:List Addr) (h:Heap):List (Addr×Obj):=fp.filterMap fun b=>(h.get? b).map fun o=>(b,o)
theorem zCo{fp:List Addr}{h:Heap}{b:Addr}{o:Obj}(hb:b∈fp)(e:h.get? b=some o):(b,o)∈pinsAt fp h:=HW.mpr ⟨b,hb,by rw[e]; rfl⟩
theorem zLR{fp:List Addr}{h:Heap}{p:Addr×Obj}(hp:p∈pinsAt fp h):p.1∈fp/\h.get? p.1=some p.2:=by
 obtain⟨b,hb,e⟩:=HW.mp hp
 cases q:h.get? b with
 | none=>rw[q]at e; cases e
 | some o =>
  rw[q]at e
  have e':(b,o)=p:=Ab e
  subst e'
  exact⟨hb,q⟩
theorem Inv.pinned{pins:List (Addr×Obj)}{σ:St}{H:Hp}{s:AG}{fp:List Addr}(I:Inv X pins σ H s)(hf:∀ b∈fp,FpOk X pins H b)(ho:∀ b∈fp,∃ o,s.heap.get? b=some o/\∀ v,o.data≠.cell v):Inv X (pins++pinsAt fp s.heap) σ H s :=
 I.pins_of fun p hp=>(Ap.mp hp).elim (fun z=>I.pin p (Aj _ z)) fun z=>by
  obtain⟨hb,e⟩:=zLR z
  obtain⟨f0,f1,f2,_⟩:=hf p.1 hb
  obtain⟨o,e',d⟩:=ho p.1 hb
  rw[e]at e'; cases e'
  exact⟨e,f0,f1,f2,d⟩
theorem Inv.unpinned{pins pl:List (Addr×Obj)}{σ:St}{H:Hp}{s:AG}(I:Inv X (pins++pl) σ H s):Inv X pins σ H s:=I.pins_of fun p hp=>I.pin p (Aj _ (EW _ hp))
theorem zP3{iter:Expr}{body:List Stmt}{wi:TI}{g:TG}{tb:TS}{pos:Pos}(hp:HV (model X.prog X.w) X.A X.env X.xe)(hc:X.calm=true)(hi:PI X tg iter wi)(hg:PG X tg g)(hb:PSs X body tb)
  (hs:∀ x,Bx iter X.env x=pure x:=by intro _; rfl):PS X (.For tg iter body [] pos) (tFor wi g tb):=by
 intro pins s σ H D I h
 refine wpAny_For (thn (hi pins s σ H _ I h) fun v s1 h1=>thn h1 fun itv s2 h2=>?_) hs
 obtain⟨it,fp,tn,J,H2,e,I2,T,st2,f2,W,⟨m0,w0⟩,turn⟩:=h2
 subst e
 have stat:∀ {H':Hp},(∀ b∈fp,H' b=none)->∀ b∈fp,FpOk X pins H' b:=fun hn b hb=>⟨hn b hb,(f2 b hb).2⟩
 refine codeAny_forLoop_any (fun n s'=>∃ i σ' H',Inv X pins σ' H' s'/\tn i s'.heap/\(∀ b∈fp,H' b=none)/\W i n σ' H') ?_ m0 ⟨0,σ,H2,I2,st2,fun b hb=>(f2 b hb).1,w0⟩
 rintro n s3 ⟨i,σ3,H3,I3,st3,fr3,w3⟩
 rcases turn i n σ3 H3 w3 with ⟨stop,qn⟩ | ⟨go,N,hN,step⟩
 ·refine Cb hp (thn (T.done X rfl rfl rfl hc i pins s3 σ3 H3 X.xe I3 (stat fr3) st3 stop) fun r s4 ⟨hr,I4⟩=>?_)
  subst hr
  exact Eg ⟨σ3,H3,I4,qn⟩
 ·refine Cb hp (thn (T.item X rfl rfl rfl hc i pins s3 σ3 H3 X.xe I3 (stat fr3) st3 go) fun r s4 ⟨u,hr,h4⟩=>?_)
  subst hr
  refine Cb hp (thn h4 fun _ s5 ⟨x,H5,I5,r5,y5,st5,fr5⟩=>?_)
  have I5':=I5.pinned (stat fr5) (T.obj _ _ st5)
  refine Cb hp (thn (hg _ s5 σ3 H5 x u _ I5' r5 (step x H5 y5)) fun _ s6 ⟨σ6,H6,I6,q6⟩=>?_)
  refine Cb hp (thn (hb _ s6 σ6 H6 _ I6 q6) fun f s7 q7=>?_)
  have again:∀ {σ7:St} {H7:Hp},Inv X (pins++pinsAt fp s5.heap) σ7 H7 s7->N σ7 H7->∃ m,m < n/\∃ i σ' H',Inv X pins σ' H' s7/\tn i s7.heap/\(∀ b∈fp,H' b=none)/\W i m σ' H':=fun {σ7 H7} I7 n7=>by
   obtain⟨m',hm,w7⟩:=hN σ7 H7 n7
   refine⟨m',hm,i+1,σ7,H7,I7.unpinned,T.keep _ _ _ st5 fun b hb o e=>(I7.pin (b,o) (Aj _ (Aj _ (zCo hb e)))).1,fun b hb=>?_,w7⟩
   obtain⟨o,e,d⟩:=T.obj _ _ st5 b hb
   exact (I7.pin (b,o) (Aj _ (Aj _ (zCo hb e)))).2.1
  cases f with
  | next=>obtain⟨σ7,H7,I7,n7⟩:=q7; exact again I7 n7
  | cont=>obtain⟨σ7,H7,I7,n7⟩:=q7; exact again I7 n7
  | brk=>obtain⟨σ7,H7,I7,q7⟩:=q7; exact⟨σ7,H7,I7.unpinned,q7⟩
  | ret v=>obtain⟨x7,σ7,H7,I7,r7,q7⟩:=q7; exact⟨x7,σ7,H7,I7.unpinned,r7,q7⟩
end
abbrev R2:=V->V->Hp->VK->Prop
noncomputable def OpR (X:Cx) (f:AB->AB->Sem AB) (r:R2):Prop :=
 ∀ (pins:List (Addr×Obj)) (s:AG) (σ:St) (H:Hp) (x y:V) (v u:AB) (Q:VK),Inv X pins σ H s->RelV x v->RelV y u->r x y H Q ->
  AV (model X.prog X.w) X.A (f v u) (EP X pins σ Q) X.xe s
noncomputable def UnR (X:Cx) (f:AB->Sem AB) (r:V->Hp->VK->Prop):Prop :=
 ∀ (pins:List (Addr×Obj)) (s:AG) (σ:St) (H:Hp) (x:V) (v:AB) (Q:VK),Inv X pins σ H s->RelV x v->r x H Q ->
  AV (model X.prog X.w) X.A (f v) (EP X pins σ Q) X.xe s
noncomputable def CallR (X:Cx) (f:AB) (r:List V->Hp->VK->Prop):Prop :=
 ∀ (pins:List (Addr×Obj)) (s:AG) (σ:St) (H:Hp) (xs:List V) (us:List AB) (Q:VK),Inv X pins σ H s->Vals xs us->r xs H Q ->
  AV (model X.prog X.w) X.A (call f us) (EP X pins σ Q) X.xe s
noncomputable def TruR (X:Cx) (r:V->Hp->(Bool->Hp->Prop)->Prop):Prop :=
 ∀ (pins:List (Addr×Obj)) (s:AG) (σ:St) (H:Hp) (x:V) (v:AB) (Q:Bool->Hp->Prop),Inv X pins σ H s->RelV x v->r x H Q ->
  AV (model X.prog X.w) X.A (truthy v) (TP X pins σ Q) X.xe s
noncomputable def tOp (r:R2) (ta tb:TE):TE:=fun σ H Q=>ta σ H fun x H1=>tb σ H1 fun y H2=>r x y H2 Q
noncomputable def tUn (r:V->Hp->VK->Prop) (ta:TE):TE:=fun σ H Q=>ta σ H fun x H1=>r x H1 Q
noncomputable def rI (C:Int->Int->Prop) (g:Int->Int->V):R2:=fun x y H Q=>∃ i j,x=.int i/\y=.int j/\C i j/\Q (g i j) H
noncomputable def rI0 (g:Int->Int->V):R2:=fun x y H Q=>∃ i j,x=.int i/\y=.int j/\Q (g i j) H
noncomputable def rU (g:Int->V):V->Hp->VK->Prop:=fun x H Q=>∃ i,x=.int i/\Q (g i) H
section
variable {X:Cx}{a b c:Expr}{ta tb tc:TE}{pos:Pos}
theorem binT(ha:PE X a ta)(hb:PE X b tb){pins:List (Addr×Obj)}{s:AG}{σ:St}{H:Hp}{R:V->V->Hp->Prop}(I:Inv X pins σ H s)
  (h:ta σ H fun x H1=>tb σ H1 fun y H2=>R x y H2) {Q:AB->AG->Prop} {f:AB->AB->Sem AB}
  (hf:∀ v u s2 x y H2,Inv X pins σ H2 s2->RelV x v->RelV y u->R x y H2->AV (model X.prog X.w) X.A (f v u) Q X.xe s2) :
  AV (model X.prog X.w) X.A (eval a X.env) (fun v s₁=>AV (model X.prog X.w) X.A (eval b X.env) (fun u s₂=>AV (model X.prog X.w) X.A (f v u) Q X.xe s₂) X.xe s₁) X.xe s:=by
 refine thn (ha pins s σ H _ I h) fun v s1 ⟨x,H1,I1,r1,q1⟩=>?_
 refine thn (hb pins s1 σ H1 _ I1 q1) fun u s2 ⟨y,H2,I2,r2,q2⟩=>?_
 exact hf v u s2 x y H2 I2 r1 r2 q2
theorem zRN{op:Operator}{r:R2}(ho:OpR X (CU op) r)(ha:PE X a ta)(hb:PE X b tb):PE X (.BinOp a op b pos) (tOp r ta tb):=by
 intro pins s σ H Q I h
 exact wpAny_BinOp (binT ha hb I h fun v u s2 x y H2 I2 rx ry q=>ho pins s2 σ H2 x y v u Q I2 rx ry q)
theorem zQ0{op:UnaryOp}{r:V->Hp->VK->Prop}(ho:UnR X (unaryOp op) r)(ha:PE X a ta):PE X (.UnaryOp op a pos) (tUn r ta):=by
 intro pins s σ H Q I h
 exact UnaryOp_ (thn (ha pins s σ H _ I h) fun v s1 ⟨x,H1,I1,r1,q1⟩=>ho pins s1 σ H1 x v Q I1 r1 q1)
theorem opI{f:AB->AB->Sem AB}{C:Int->Int->Prop}{g:Int->Int->Int}
  (rule:∀ (i j:Int) (t u:Tok) (s:AG) (Q:AB->AG->Prop) (E:AB->AG->Prop),C i j->Q (.int (g i j) s.toks) { s with toks:=s.toks+1 }->AV (model X.prog X.w) X.A (f (.int i t) (.int j u)) Q E s) :
  OpR X f (rI C fun i j=>.int (g i j)):=by
 intro pins s σ H x y v u Q I rx ry h
 obtain⟨i,j,rfl,rfl,hc,q⟩:=h
 obtain⟨t,rfl⟩:=rx
 obtain⟨t',rfl⟩:=ry
 exact rule i j t t' s _ _ hc ⟨.int (g i j),H,I.tok _,⟨_,rfl⟩,q⟩
theorem opI0{f:AB->AB->Sem AB}{g:Int->Int->Int}
  (rule:∀ (i j:Int) (t u:Tok) (s:AG) (Q:AB->AG->Prop) (E:AB->AG->Prop),Q (.int (g i j) s.toks) { s with toks:=s.toks+1 }->AV (model X.prog X.w) X.A (f (.int i t) (.int j u)) Q E s) :
  OpR X f (rI0 fun i j=>.int (g i j)):=by
 intro pins s σ H x y v u Q I rx ry h
 obtain⟨i,j,rfl,rfl,q⟩:=h
 obtain⟨t,rfl⟩:=rx
 obtain⟨t',rfl⟩:=ry
 exact rule i j t t' s _ _ ⟨.int (g i j),H,I.tok _,⟨_,rfl⟩,q⟩
theorem opB0{f:AB->AB->Sem AB}{g:Int->Int->Bool}
  (rule:∀ (i j:Int) (t u:Tok) (s:AG) (Q:AB->AG->Prop) (E:AB->AG->Prop),Q (.bool (g i j)) s->AV (model X.prog X.w) X.A (f (.int i t) (.int j u)) Q E s) :
  OpR X f (rI0 fun i j=>.bl (g i j)):=by
 intro pins s σ H x y v u Q I rx ry h
 obtain⟨i,j,rfl,rfl,q⟩:=h
 obtain⟨t,rfl⟩:=rx
 obtain⟨t',rfl⟩:=ry
 exact rule i j t t' s _ _ ⟨.bl (g i j),H,I,rfl,q⟩
def CDiv (i j:Int):Prop:=0 < j/\j < 1073741824
def CPow (i j:Int):Prop:=0<=j/\j<=1000000/\i.natAbs < 2 ^ 64
def CMul (i j:Int):Prop:=(-(2 ^ 64) < i/\i < 2 ^ 64)\/(-(2 ^ 64) < j/\j < 2 ^ 64)
theorem CMul.ok{i j:Int}(h:CMul i j):IntMulOk i j:=by
 rcases h with ⟨h1,h2⟩ | ⟨h1,h2⟩
 ·exact .of_left (Ko h1 h2)
 ·exact .of_right (Ko h1 h2)
theorem zPi:OpR X (CU .Add) (rI0 fun i j=>.int (i+j)):=opI0 fun _ _ _ _ _ _ _ q=>add_int q
theorem zPw:OpR X (CU .Sub) (rI0 fun i j=>.int (i - j)):=opI0 fun _ _ _ _ _ _ _ q=>sub_int q
theorem zQG:OpR X (CU .Mult) (rI CMul fun i j=>.int (i * j)):=opI fun _ _ _ _ _ _ _ hc q=>mul_int q hc.ok
theorem zPG:OpR X (CU .FloorDiv) (rI CDiv fun i j=>.int (i / j)):=opI fun i j _ _ _ _ _ hc q=>by
 have h1:(0:Int) < j:=hc.1
 have h2:j < 1073741824:=hc.2
 exact floordiv_int (by lia) (by rw[Int.fdiv_eq_ediv_of_nonneg i (by lia)]; exact q) (.inl (PyProof.noPylong_small (by lia)))
theorem zPf:OpR X (CU .Mod) (rI (fun _ j=>0 < j) fun i j=>.int (i % j)):=opI fun i j _ _ _ _ _ hc q=>by
 have h1:(0:Int) < j:=hc
 exact mod_int' (by lia) (by rw[Int.fmod_eq_emod_of_nonneg i (by lia)]; exact q)
theorem zPJ:OpR X (CU .Pow) (rI CPow fun i j=>.int (i ^ j.toNat)):=opI fun _ _ _ _ _ _ _ hc q=>pow_int_small hc.1 hc.2.1 hc.2.2 q
theorem unI{f:AB->Sem AB}{g:Int->Int}
  (rule:∀ (i:Int) (t:Tok) (s:AG) (Q:AB->AG->Prop) (E:AB->AG->Prop),Q (.int (g i) s.toks) { s with toks:=s.toks+1 }->AV (model X.prog X.w) X.A (f (.int i t)) Q E s) :
  UnR X f (rU fun i=>.int (g i)):=by
 intro pins s σ H x v Q I rx h
 obtain⟨i,rfl,q⟩:=h
 obtain⟨t,rfl⟩:=rx
 exact rule i t s _ _ ⟨.int (g i),H,I.tok _,⟨_,rfl⟩,q⟩
theorem zPQ:UnR X (unaryOp .USub) (rU fun i=>.int (-i)):=unI fun _ _ _ _ _ q=>neg_int q
end
noncomputable def scal:V->V->Bool
 | .non,.non=>true | .non,.int _=>true | .int _,.non=>true | .non,.bl _=>true | .bl _,.non=>true | .non,.str _=>true | .str _,.non=>true
 | .int _,.int _=>true | .bl _,.bl _=>true | .str _,.str _=>true | .byt _,.byt _=>true
 | .int _,.str _=>true | .str _,.int _=>true | .bl _,.str _=>true | .str _,.bl _=>true
 | _,_=>false
noncomputable def rEq:R2:=fun x y H Q=>scal x y=true/\Q (.bl (decide (x=y))) H
noncomputable def rNe:R2:=fun x y H Q=>scal x y=true/\Q (.bl (!decide (x=y))) H
theorem zIf{i j:Int}:decide (V.int i=V.int j)=(i == j):=by
 rw[EG]
 simp
theorem zLt{i j:Bool}:decide (V.bl i=V.bl j)=(i == j):=by
 rw[EG]
 simp
theorem zIY{i j:Str}:decide (V.str i=V.str j)=(i == j):=by
 rw[EG]
 simp
theorem zJG{i j:Array UInt8}:decide (V.byt i=V.byt j)=(i.toList == j.toList):=by
 rw[EG]
 cases i
 cases j
 simp
section
variable {X:Cx}{a b c:Expr}{ta tb tc:TE}{pos:Pos}
theorem zAN{pins:List (Addr×Obj)}{σ:St}{H:Hp}{s:AG}{Q:VK}{k k':Bool}(I:Inv X pins σ H s)(q:Q (.bl k) H)(e:k=k'):EP X pins σ Q (.bool k') s:=by
 subst e
 exact⟨.bl k,H,I,rfl,q⟩
theorem zRD:OpR X (BY .Eq) rEq:=by
 intro pins s σ H x y v u Q I rx ry h
 obtain⟨hs,q⟩:=h
 cases x with
 | non =>
  cases rx
  cases y with
  | non=>cases ry; exact Jt (zAN I q (by simp))
  | bl j=>cases ry; exact Ju (zAN I q (by simp))
  | int j=>obtain⟨t',rfl⟩:=ry; exact Jv (zAN I q (by simp))
  | str j=>obtain⟨t',rfl⟩:=ry; exact Jw (zAN I q (by simp))
  | _=>exact absurd (show false=true from hs) AQ
 | bl i =>
  cases rx
  cases y with
  | non=>cases ry; exact Jx (zAN I q (by simp))
  | bl j=>cases ry; exact eq_bool (zAN I q zLt)
  | str j=>obtain⟨t',rfl⟩:=ry; exact JW (zAN I q (by simp))
  | _=>exact absurd (show false=true from hs) AQ
 | int i =>
  obtain⟨t,rfl⟩:=rx
  cases y with
  | non=>cases ry; exact Jy (zAN I q (by simp))
  | int j=>obtain⟨t',rfl⟩:=ry; exact eq_int (zAN I q zIf)
  | str j=>obtain⟨t',rfl⟩:=ry; exact JX (zAN I q (by simp))
  | _=>exact absurd (show false=true from hs) AQ
 | str i =>
  obtain⟨t,rfl⟩:=rx
  cases y with
  | non=>cases ry; exact Jz (zAN I q (by simp))
  | bl j=>cases ry; exact JY (zAN I q (by simp))
  | int j=>obtain⟨t',rfl⟩:=ry; exact JZ (zAN I q (by simp))
  | str j=>obtain⟨t',rfl⟩:=ry; exact eq_str (zAN I q zIY)
  | _=>exact absurd (show false=true from hs) AQ
 | byt i =>
  obtain⟨t,rfl⟩:=rx
  cases y with
  | byt j=>obtain⟨t',rfl⟩:=ry; exact PySem.W.eq_bytes (zAN I q zJG)
  | _=>exact absurd (show false=true from hs) AQ
 | _=>cases y <;> exact absurd (show false=true from hs) AQ
theorem zQT:OpR X (BY .NotEq) rNe:=by
 intro pins s σ H x y v u Q I rx ry h
 obtain⟨hs,q⟩:=h
 cases x with
 | non =>
  cases rx
  cases y with
  | non=>cases ry; exact J0 (zAN I q (by simp))
  | bl j=>cases ry; exact J1 (zAN I q (by simp))
  | int j=>obtain⟨t',rfl⟩:=ry; exact J2 (zAN I q (by simp))
  | str j=>obtain⟨t',rfl⟩:=ry; exact J3 (zAN I q (by simp))
  | _=>exact absurd (show false=true from hs) AQ
 | bl i =>
  cases rx
  cases y with
  | non=>cases ry; exact J4 (zAN I q (by simp))
  | bl j=>cases ry; exact ne_bool (zAN I q (congrArg not zLt))
  | str j=>obtain⟨t',rfl⟩:=ry; exact Ja (zAN I q (by simp))
  | _=>exact absurd (show false=true from hs) AQ
 | int i =>
  obtain⟨t,rfl⟩:=rx
  cases y with
  | non=>cases ry; exact J5 (zAN I q (by simp))
  | int j=>obtain⟨t',rfl⟩:=ry; exact ne_int (zAN I q (congrArg not zIf))
  | str j=>obtain⟨t',rfl⟩:=ry; exact Jb (zAN I q (by simp))
  | _=>exact absurd (show false=true from hs) AQ
 | str i =>
  obtain⟨t,rfl⟩:=rx
  cases y with
  | non=>cases ry; exact J6 (zAN I q (by simp))
  | bl j=>cases ry; exact Jc (zAN I q (by simp))
  | int j=>obtain⟨t',rfl⟩:=ry; exact Jd (zAN I q (by simp))
  | str j=>obtain⟨t',rfl⟩:=ry; exact ne_str (zAN I q (congrArg not zIY))
  | _=>exact absurd (show false=true from hs) AQ
 | byt i =>
  obtain⟨t,rfl⟩:=rx
  cases y with
  | byt j=>obtain⟨t',rfl⟩:=ry; exact PySem.W.ne_bytes (zAN I q (congrArg not zJG))
  | _=>exact absurd (show false=true from hs) AQ
 | _=>cases y <;> exact absurd (show false=true from hs) AQ
theorem zQV:OpR X (BY .Lt) (rI0 fun i j=>.bl (decide (i < j))):=opB0 fun _ _ _ _ _ _ _ q=>lt_int q
theorem zQW:OpR X (BY .Gt) (rI0 fun i j=>.bl (decide (j < i))):=opB0 fun _ _ _ _ _ _ _ q=>gt_int q
theorem zRC:OpR X (BY .GtE) (rI0 fun i j=>.bl (decide (j<=i))):=opB0 fun _ _ _ _ _ _ _ q=>ge_int q
theorem zP1:OpR X (BY .Is) (fun x y H Q=>y=.non/\Q (.bl (decide (x=.non))) H):=by
 intro pins s σ H x y v u Q I rx ry h
 obtain⟨rfl,q⟩:=h
 cases ry
 refine is_none_gen (zAN I q ?_)
 cases x <;> first
  | (cases rx; rfl)
  | (obtain⟨t,rfl⟩:=rx; rfl)
theorem zOv:OpR X (BY .IsNot) (fun x y H Q=>y=.non/\Q (.bl (!decide (x=.non))) H):=by
 intro pins s σ H x y v u Q I rx ry h
 obtain⟨rfl,q⟩:=h
 cases ry
 refine isnot_none_gen (zAN I q ?_)
 cases x <;> first
  | (cases rx; rfl)
  | (obtain⟨t,rfl⟩:=rx; rfl)
theorem OpR.or{f:AB->AB->Sem AB}{r r':R2}(h:OpR X f r)(h':OpR X f r'):OpR X f (fun x y H Q=>r x y H Q\/r' x y H Q):=by
 intro pins s σ H x y v u Q I rx ry q
 rcases q with q | q
 ·exact h pins s σ H x y v u Q I rx ry q
 ·exact h' pins s σ H x y v u Q I rx ry q
theorem nomark(b:Expr){op:FO}(h:op≠.In:=by decide)(h2:op≠.NotIn:=by decide):B2 op b=false:=by
 have e1:(op == KN)=false:=by cases op <;> first | rfl | exact absurd rfl h
 have e2:(op == JG)=false:=by cases op <;> first | rfl | exact absurd rfl h2
 cases b <;> simp[B2,e1,e2]
theorem zOF{op:FO}{r:R2}(ho:OpR X (BY op) r)(ha:PE X a ta)(hb:PE X b tb)(hm:B2 op b=false):PE X (.Compare a [op] [b] pos) (tOp r ta tb):=by
 intro pins s σ H Q I h
 exact wpAny_Compare1 (binT ha hb I h fun v u s2 x y H2 I2 rx ry q=>ho pins s2 σ H2 x y v u Q I2 rx ry q) hm
noncomputable def tTest (t:TE):TT:=fun σ H Q=>t σ H fun x H'=>∃ k,x=.bl k/\Q k H'
theorem zPH{op:FO}{r:R2}(ho:OpR X (BY op) r)(ha:PE X a ta)(hb:PE X b tb)(hm:B2 op b=false):PT X (.Compare a [op] [b] pos) (tTest (tOp r ta tb)):=by
 intro pins s σ H Q I h
 refine ID (thn (ha pins s σ H _ I h) fun v s1 ⟨x,H1,I1,r1,q1⟩=>thn (hb pins s1 σ H1 _ I1 q1) fun u s2 ⟨y,H2,I2,r2,q2⟩ =>
  thn (ho pins s2 σ H2 x y v u _ I2 r1 r2 q2) fun c s3 ⟨z,H3,I3,r3,k,e,q3⟩=>?_) hm
 subst e
 cases r3
 exact Ci ⟨H3,I3,q3⟩
noncomputable def TruV (K:AU) (x:V) (H:Hp) (k:Bool):Prop :=
 match x with
 | .non=>k=false
 | .bl b=>k=b
 | .int i=>k=(i != 0)
 | .str y=>y.length<=AE/\k=((y.length:Int) != 0)
 | .byt y=>y.size<=AE/\k=((y.size:Int) != 0)
 | .ref p=>(∃ xs,SqL K H p xs/\k=!xs.isEmpty)\/(∃ xs,SqT K H p xs/\k=!xs.isEmpty)\/∃ kvs,H p=some (.dK kvs)/\k=!kvs.isEmpty
 | _=>False
theorem zKB{κ:Type}{kvs:List (κ×V)}{vs:List (κ×AB)}(r:KV kvs vs):(!vs.isEmpty)=!kvs.isEmpty:=by
 cases r <;> rfl
theorem zEZ{xs:List V}{its:List AB}(r:Vals xs its):(!its.toArray.isEmpty)=!xs.isEmpty:=by
 cases r <;> simp
theorem line63:(AE:Nat) < 2 ^ 63:=by rw[BM]; decide
theorem zP9:TruR X (fun x H Q=>∃ k,TruV X.K x H k/\Q k H):=by
 intro pins s σ H x v Q I rx h
 obtain⟨k,e,q⟩:=h
 have hl:=line63
 have hs:AE=16777216:=BM
 cases x with
 | non =>
  cases rx
  have e':k=false:=e
  subst e'
  exact truthy_none ⟨H,I,q⟩
 | bl b =>
  cases rx
  have e':k=b:=e
  subst e'
  exact Ci ⟨H,I,q⟩
 | int i =>
  obtain⟨t,rfl⟩:=rx
  have e':k=(i != 0):=e
  subst e'
  exact PySem.P.truthy_int ⟨H,I,q⟩
 | str y =>
  obtain⟨t,rfl⟩:=rx
  obtain⟨hy,e'⟩:y.length<=AE/\k=((y.length:Int) != 0):=e
  subst e'
  exact PySem.P.truthy_str (by lia) ⟨H,I.tok _,q⟩
 | byt y =>
  obtain⟨t,rfl⟩:=rx
  obtain⟨hy,e'⟩:y.size<=AE/\k=((y.size:Int) != 0):=e
  subst e'
  exact PySem.W.truthy_bytes (by lia) ⟨H,I.tok _,q⟩
 | ref p =>
  cases rx
  have e':(∃ xs,SqL X.K H p xs/\k=!xs.isEmpty)\/(∃ xs,SqT X.K H p xs/\k=!xs.isEmpty)\/∃ kvs,H p=some (.dK kvs)/\k=!kvs.isEmpty:=e
  rcases e' with ⟨xs,hx,e'⟩ | ⟨xs,hx,e'⟩ | ⟨kvs,hx,e'⟩
  ·subst e'
   obtain⟨its,r,pl,hz⟩:=I.list hx
   have hlen:=r.length
   exact wpAny_truthy_list pl.isList (by simp only[AN]; lia) ⟨H,I.tok _,by rw[zEZ r]; exact q⟩
  ·subst e'
   obtain⟨its,r,pl,hz⟩:=I.tuple hx
   have hlen:=r.length
   exact truthy_tuple pl (by simp only[AN]; lia) ⟨H,I.tok _,by rw[zEZ r]; exact q⟩
  ·subst e'
   obtain⟨hz,hS,vs,r,m⟩:kvs.length<=AE/\(p == CH)=false/\∃ vs,KV kvs vs/\s.heap.DictOf (mixKind X.prog X.w) p vs:=I.hok p _ hx
   have hlen:kvs.length=vs.length:=Dq r
   exact wpAny_truthy_dict hS m (by lia) ⟨H,I.tok _,by rw[zKB r]; exact q⟩
 | _=>exact (show False from e).elim
theorem zMq(ha:PE X a ta)(he:∀ whole,Hh a X.env whole=(do let v ← whole; JJ a.pos; holding [v] (truthy v))) :
  PT X a (fun σ H Q=>ta σ H fun x H'=>∃ k,TruV X.K x H' k/\Q k H'):=by
 intro pins s σ H Q I h
 exact isTrue_plain (thn (ha pins s σ H _ I h) fun v s1 ⟨x,H1,I1,r1,q1⟩=>zP9 pins s1 σ H1 x v Q I1 r1 q1) (he _)
theorem zKV:OpR X (CU .Add) (fun x y H Q=>∃ i j,x=.str i/\y=.str j/\i.length+j.length<=AE/\Q (.str (i++j)) H):=by
 intro pins s σ H x y v u Q I rx ry h
 obtain⟨i,j,rfl,rfl,hz,q⟩:=h
 obtain⟨t,rfl⟩:=rx
 obtain⟨t',rfl⟩:=ry
 exact add_str (fun t' tk=>⟨.str (i++j),H,I.tok _,⟨_,rfl⟩,q⟩) hz
theorem vals1{x:V}{us:List AB}(r:Vals [x] us):∃ u,us=[u]/\RelV x u:=by
 cases r with
 | cons r1 r2=>cases r2; exact⟨_,rfl,r1⟩
theorem vals2{x y:V}{us:List AB}(r:Vals [x,y] us):∃ u w',us=[u,w']/\RelV x u/\RelV y w':=by
 cases r with
 | cons r1 r2 =>
  cases r2 with
  | cons r3 r4=>cases r4; exact⟨_,_,rfl,r1,r3⟩
theorem zLP(hc:X.calm=true):CallR X (.builtin "max") (fun xs H Q=>∃ i j,xs=[.int i,.int j]/\Q (.int (if j > i then j else i)) H):=by
 intro pins s σ H xs us Q I r h
 obtain⟨i,j,rfl,q⟩:=h
 obtain⟨u,w',rfl,⟨t,rfl⟩,⟨t',rfl⟩⟩:=vals2 r
 refine max_two_ints (I.ok.hd hc) fun h' tk k=>⟨_,H,I.kept k,?_,q⟩
 by_cases hj:j > i
 ·rw[if_pos hj,if_pos hj]; exact⟨_,rfl⟩
 ·rw[if_neg hj,if_neg hj]; exact⟨_,rfl⟩
theorem zL1(hc:X.calm=true):CallR X (.builtin "min") (fun xs H Q=>∃ i j,xs=[.int i,.int j]/\Q (.int (if j < i then j else i)) H):=by
 intro pins s σ H xs us Q I r h
 obtain⟨i,j,rfl,q⟩:=h
 obtain⟨u,w',rfl,⟨t,rfl⟩,⟨t',rfl⟩⟩:=vals2 r
 refine min_two_ints (I.ok.hd hc) fun h' tk k=>⟨_,H,I.kept k,?_,q⟩
 by_cases hj:j < i
 ·rw[if_pos hj,if_pos hj]; exact⟨_,rfl⟩
 ·rw[if_neg hj,if_neg hj]; exact⟨_,rfl⟩
theorem zMI:CallR X (.type "int") (fun xs H Q=>(∃ i,xs=[.int i]/\Q (.int i) H)\/∃ k,xs=[.bl k]/\Q (.int (if k then 1 else 0)) H):=by
 intro pins s σ H xs us Q I r h
 rcases h with ⟨i,rfl,q⟩ | ⟨k,rfl,q⟩
 ·obtain⟨u,rfl,t,rfl⟩:=vals1 r
  exact call_int_int ⟨.int i,H,I,⟨_,rfl⟩,q⟩
 ·obtain⟨u,rfl,r1⟩:=vals1 r
  cases r1
  exact call_int_bool ⟨.int (if k then 1 else 0),H,I.tok _,⟨_,rfl⟩,q⟩
end
theorem RelO.some_of{v:V}{o:Option AB}(r:RelO (some v) o):∃ u,o=some u/\RelV v u:=by
 cases o with
 | none=>exact (show False from r).elim
 | some u=>exact⟨u,rfl,r⟩
structure Room(k:Nat)(A:A4):Prop where
 hd:A.handled=none
 dp:A.depth+3 * k+5 < KP
 un:A.units+16 * k+200 < DV
 gd:A.guards=some []
theorem Room.mono{j k:Nat}{A:A4}(r:Room k A)(h:j<=k):Room j A:=⟨r.hd,by have:=r.dp; lia,by have:=r.un; lia,r.gd⟩
theorem Room.deeper{k:Nat}{A:A4}(r:Room (k+1) A)(env:Env):Room k (A.deeper env) :=
 ⟨r.hd,by have:=r.dp; show A.depth+1+3 * k+5 < _; lia,by have:=r.un; show A.units+3+16 * k+200 < _; lia,r.gd⟩
theorem Room.depth{k:Nat}{A:A4}(r:Room k A):A.depth < KP:=by have:=r.dp; lia
noncomputable def tNil:TA:=fun _ H Q=>Q [] H
noncomputable def tCons (ta:TE) (tr:TA):TA:=fun σ H Q=>ta σ H fun x H1=>tr σ H1 fun xs H2=>Q (x::xs) H2
section
variable {X:Cx}{e:Expr}{es:List Expr}{te:TE}{t:TA}{pos:Pos}
theorem zEO:PA X [] tNil:=fun _ _ _ _ H Q I h=>HX ⟨[],H,I,.nil,h⟩
theorem zCa(ha:PE X e te)(hr:PA X es t)(hs:Ae (e::es) X.env=(false,eval e X.env)::Ae es X.env:=by rfl):PA X (e::es) (tCons te t):=by
 intro pos pins s σ H Q I h
 rw[hs]
 show AV _ _ (spliced ((false,eval e X.env)::CT pos (Ae es X.env))) _ _ s
 refine Es (thn (ha pins s σ H _ I h) fun u s1 ⟨x,H1,I1,r1,q1⟩=>?_)
 exact thn (hr pos pins s1 σ H1 _ I1 q1) fun us s2 ⟨xs,H2,I2,r2,q2⟩=>⟨x::xs,H2,I2,.cons r1 r2,q2⟩
noncomputable def tTup (t:TA):TE:=fun σ H Q=>t σ H fun xs H1=>xs.length<=AE/\∀ p,H1 p=none->Q (.ref p) (upd H1 p (.tup xs))
noncomputable def tLst (t:TA):TE:=fun σ H Q=>t σ H fun xs H1=>xs.length<=AE/\∀ p,H1 p=none->Q (.ref p) (upd H1 p (.lst xs))
theorem zK5{x1}(h:PA X es t):PE X (.Tuple es x1 pos) (tTup t):=by
 intro pins s σ H Q I hq
 refine wpAny_Tuple_spliced (thn (h pos pins s σ H _ I hq) fun us s1 ⟨xs,H1,I1,r,z,q⟩=>⟨by rw[← r.length]; exact z,?_⟩)
 have hf:H1 s1.heap.objs.size=none:=I1.hok.fresh (AL _)
 refine⟨.ref s1.heap.objs.size,upd H1 s1.heap.objs.size (.tup xs),I1.laid (t':=s1.toks) (fun b u e=>AM _ e) (AL _) ?_,rfl,q _ hf⟩
 exact⟨z,us,r,⟨_,AZ _ rfl,rfl,⟨_,rfl⟩,rfl⟩⟩
theorem zP7(h:PA X es t):PE X (.List es pos) (tLst t):=by
 intro pins s σ H Q I hq
 refine wpAny_List_spliced (thn (h pos pins s σ H _ I hq) fun us s1 ⟨xs,H1,I1,r,z,q⟩=>⟨by rw[← r.length]; exact z,?_⟩)
 have hf:H1 s1.heap.objs.size=none:=I1.hok.fresh (AL _)
 refine⟨.ref s1.heap.objs.size,upd H1 s1.heap.objs.size (.lst xs),I1.laid (t':=s1.toks) (fun b u e=>AM _ e) (AL _) ?_,rfl,q _ hf⟩
 exact⟨z,us,0,r,AZ _ rfl⟩
end
abbrev Sp:=List V->Hp->VK->XK->Prop
abbrev CXT:=List Env->Hp->AG->XK->AB->AG->Prop
structure Env0(P:Ah)(w:Aw)(K:AU)(mg:Str->Option AB)(base:Heap)(A:A4)(outer:List Env)(s:AG)(H:Hp):Prop where
 frames:A.frames=some outer
 mod:Mod K mg base
 bs:∀ b o,base.get? b=some o->s.heap.get? b=some o/\H b=none
 bsz:base.objs.size<=s.heap.objs.size
 funs:s.heap.FunFrames base outer
 frf:∀ b∈frs outer,H b=none
 hok:HOk P w H s.heap
 bare:Eb s.gens
noncomputable def CE (outer:List Env) (P:Ah) (w:Aw) (H:Hp) (s:AG) (Q:VK) (u:AB) (s':AG):Prop :=
 ∃ v H',s'.os=s.os/\Eb s'.gens/\Un (frs outer) [] H H' s.heap s'.heap/\HOk P w H' s'.heap/\RelV v u/\Q v H'
noncomputable def CR (CX:CXT) (outer:List Env) (P:Ah) (w:Aw) (H:Hp) (s:AG) (Q:VK) (E:XK) (r:Result) (s':AG):Prop :=
 match r with
 | .ok (.ret u)=>CE outer P w H s Q u s'
 | .ok _=>False
 | .error e=>CX outer H s E e s'
structure FnOk(P:Ah)(w:Aw)(K:AU)(mg:Str->Option AB)(base:Heap)(CX:CXT)(k:Nat)(f:Addr)(fd:Ai)(ps:List Str)(sp:Sp):Prop where
 len:∀ vs H Q E,sp vs H Q E->vs.length=ps.length
 run:∀ (A:A4) (outer:List Env) (s:AG) (H:Hp) (args:Args) (us:List AB) (vs:List V) (Q:VK) (E:XK),Room k A->Env0 P w K mg base A outer s H->Gf s fd args (ps.zip us)->Vals vs us->sp vs H Q E ->
  Fl (model P w) A (.call (.ref f) args) (CR CX outer P w H s Q E) s
section
variable {X:Cx}{pins:List (Addr×Obj)}{σ:St}{H:Hp}{s s':AG}
theorem Inv.env0(I:Inv X pins σ H s):Env0 X.prog X.w X.K X.mg X.base X.A X.stack s H :=
 ⟨I.ok.frames,I.ok.mod,I.bs,Al I.ok.bsz I.sz,I.stack,I.stkFree,I.hok,I.bare⟩
theorem Inv.after{Q:VK}{u:AB}(I:Inv X pins σ H s)(h:CE X.stack X.prog X.w H s Q u s'):EP X pins σ Q u s':=by
 obtain⟨v,H',os,bare,un,hok,r,q⟩:=h
 obtain⟨hh,g,d,t,os'⟩:=s'
 obtain rfl:os'=s.os:=os
 exact⟨v,H',I.call (h':=hh) (g':=g) (d':=d) (t':=t) (ch:=[]) un hok bare (fun b z=>absurd z (by simp)),r,q⟩
end
noncomputable def tCall (sp:Sp) (dvs:List V) (E:XK) (t:TA):TE:=fun σ H Q=>t σ H fun vs H1=>sp (vs++dvs) H1 Q E
noncomputable def Binds (K:AU) (fd:Ai) (ps:List Str) (ds:List AB):Prop :=
 ∀ (s:AG) (us:List AB),K.In s.heap->(us++ds).length=ps.length->Gf s fd ⟨us,[]⟩ (ps.zip (us++ds))
theorem Binds.all{K:AU}{fd:Ai}{ps:List Str}(h:∀ us:List AB,us.length=ps.length->bindArgs fd ⟨us,[]⟩=pure (ps.zip us)):Binds K fd ps []:=fun s us _ hl=>by
 rw[CJ]at hl ⊢
 exact .of_eq (h us hl)
def Passes (CX:CXT) (X:Cx) (E:XK):Prop:=∀ (pins:List (Addr×Obj)) (σ:St) (H:Hp) (s:AG) (e:AB) (s':AG),Inv X pins σ H s->CX X.stack H s E e s'->X.xe e s'
section
variable {X:Cx}{CX:CXT}{k:Nat}{f C:Addr}{fd:Ai}{ps:List Str}{sp:Sp}{dvs:List V}{ds:List AB}{E:XK}{x m:Str}{p pos apos:Pos}{e o:Expr}{es:List Expr}{ta:TE}{t:TA}
theorem zQL{pins:List (Addr×Obj)}{σ:St}{H:Hp}{s:AG}{Q:VK}{us:List AB}{vs:List V}(F:FnOk X.prog X.w X.K X.mg X.base CX k f fd ps sp)(hr:Room k X.A)(hb:Binds X.K fd ps ds)(hd:Vals dvs ds)(hx:Passes CX X E)
  (I:Inv X pins σ H s) (r:Vals vs us) (h:sp (vs++dvs) H Q E):AV (model X.prog X.w) X.A (call (.ref f) us) (EP X pins σ Q) X.xe s:=by
 have r2:Vals (vs++dvs) (us++ds):=r.append hd
 have hl:(us++ds).length=ps.length:=by rw[← r2.length]; exact F.len _ _ _ _ h
 refine wpAny_call (Fo (F.run X.A X.stack s H ⟨us,[]⟩ (us++ds) (vs++dvs) Q E hr I.env0 (hb s us I.kIn hl) r2 h) fun r s' hq=>?_)
 cases r with
 | error e=>exact hx pins σ H s e s' I hq
 | ok fl =>
  cases fl with
  | ret u=>exact I.after hq
  | next=>exact Bh hq
  | brk=>exact Bh hq
  | cont=>exact Bh hq
theorem zOg(F:FnOk X.prog X.w X.K X.mg X.base CX k f fd ps sp)(hr:Room k X.A)(hg:Gl X x)(hm:X.mg x=some (.ref f))(hk:CY X.K (.ref f)=true)(hb:Binds X.K fd ps ds)(hd:Vals dvs ds)(hx:Passes CX X E)
  (ha:PA X (e::es) t) (hdb:(x == ("__debug__":Str))=false:=by decide) (he:Ae (e::es) X.env=(false,eval e X.env)::Ae es X.env:=by rfl) (hpl:(CT pos (Ae es X.env)).any (·.1)=false:=by rfl) :
  PE X (.Call (.Name x p) (e::es) [] pos) (tCall sp dvs E t):=by
 intro pins s σ H Q I h
 refine FY (zN8 I hg hm ?_ hdb)
 refine PySem.W.callWith_K (h₀:=X.base) I.ok.mod.kin hk (thn (ha pos pins s σ H _ I h) fun us s1 ⟨vs,H1,I1,r,q⟩=>⟨I1.kIn,?_⟩) he hpl
 exact zQL F hr hb hd hx I1 r q
structure Mk(K:AU)(C f:Addr):Prop where
 makes:PySem.W.makesIn K C=true
 init:PySem.W.findIn K (.ref C) "__init__"=some (some (.ref f))
 fn:PySem.W.isFn K (.ref f)=true
 kp:CY K (.ref C)=true
end
structure FnScope(N P:List Str)(sc:Cg):Prop where
 kind:sc.kind=.function
 co:sc.isCoroutine=false
 gen:sc.isGenerator=false
 nd:N.Nodup
 pre:N.take P.length=P
 par:∀ x∈P,sc.names.lookup x=some .local\/sc.names.lookup x=some .cell
 nofree:∀ y∈sc.names,y.2≠.free
theorem zFw{Cy:Str->Option CK}{x:Str}:∀ {binds:List (Str×AB)} {m:Str->Option AB},(∀ v,(x,v)∉binds)->HY Cy binds m x=m x
 | [],_,_=>rfl
 | (n,v)::r,m,h=>by
  unfold HY
  rw[zFw fun w hw=>h w (AF _ hw)]
  split
  ·have:x≠n:=by rintro rfl; exact h v AH
   simp[this]
  ·rfl
theorem zFh{Cy:Str->Option CK}{x:Str}:∀ {binds:List (Str×AB)} {m:Str->Option AB},(∀ v,(x,v)∉binds)->HZ Cy binds m x=m x
 | [],_,_=>rfl
 | (n,v)::r,m,h=>by
  unfold HZ
  rw[zFh fun w hw=>h w (AF _ hw)]
  split
  ·rfl
  ·have:x≠n:=by rintro rfl; exact h v AH
   simp[this]
theorem zFj{Cy:Str->Option CK}{x:Str}{v:AB}:∀ {P:List Str} {vs:List AB} {i:Nat} {m:Str->Option AB},P.Nodup->P[i]?=some x->vs[i]?=some v->Cy x=some .local ->
  HY Cy (P.zip vs) m x=some v
 | [],_,_,_,_,h,_,_=>by simp at h
 | _::_,[],_,_,_,_,h,_=>by simp at h
 | p::P,w::vs,0,m,nd,h1,h2,hk=>by
  simp at h1 h2; subst h1; subst h2
  show HY Cy ((p,w)::P.zip vs) m p=_
  unfold HY
  rw[zFw fun v hv=>(BI.mp nd).1 (Ff hv).1,if_pos hk]
  simp
 | p::P,w::vs,i+1,m,nd,h1,h2,hk=>by
  show HY Cy ((p,w)::P.zip vs) m x=_
  unfold HY
  exact zFj (i:=i) (BI.mp nd).2 (by simpa using h1) (by simpa using h2) hk
theorem zGD{Cy:Str->Option CK}{x:Str}{v:AB}:∀ {P:List Str} {vs:List AB} {i:Nat} {m:Str->Option AB},P.Nodup->P[i]?=some x->vs[i]?=some v->Cy x≠some .local ->
  HZ Cy (P.zip vs) m x=some v
 | [],_,_,_,_,h,_,_=>by simp at h
 | _::_,[],_,_,_,_,h,_=>by simp at h
 | p::P,w::vs,0,m,nd,h1,h2,hk=>by
  simp at h1 h2; subst h1; subst h2
  show HZ Cy ((p,w)::P.zip vs) m p=_
  unfold HZ
  rw[zFh fun v hv=>(BI.mp nd).1 (Ff hv).1,if_neg hk]
  simp
 | p::P,w::vs,i+1,m,nd,h1,h2,hk=>by
  show HZ Cy ((p,w)::P.zip vs) m x=_
  unfold HZ
  exact zGD (i:=i) (BI.mp nd).2 (by simpa using h1) (by simpa using h2) hk
noncomputable def start (N:List Str) (vs:List V):St:=vs.map some++Ac (N.length - vs.length) none
noncomputable def cxOf (CX:CXT) (P:Ah) (w:Aw) (K:AU) (mg:Str->Option AB) (base:Heap) (N:List Str) (qual:Str) (scope:Cg) (f:Addr) (cd:AB) (A:A4) (outer:List Env) (s:AG) (H:Hp) (E:XK):Cx where
 prog:=P
 w:=w
 K:=K
 mg:=mg
 base:=base
 A:=A.deeper (FZ qual scope s.heap.objs.size f cd)
 N:=N
 s₀:=s
 H₀:=H
 env:=FZ qual scope s.heap.objs.size f cd
 outer:=outer
 stack:=FZ qual scope s.heap.objs.size f cd::outer
 ex:=[]
 calm:=true
 fn:=fun _=>true
 pn:=[]
 xe:=fun e s'=>AV (model P w) (A.deeper (FZ qual scope s.heap.objs.size f cd)) (leaving (FZ qual scope s.heap.objs.size f cd) e) (fun _ s''=>CX outer H s E e s'') (fun e' s''=>CX outer H s E e' s'') s'
theorem zHk{sc:Cg}{n:Nat}{x:Str}(h:sc.names.lookup x=some .cell):∃ c,(BO n sc.names []).lookup x=some c:=by
 have q:=Cz sc.names n [] (.inl h)
 exact Cs.mp q
theorem zKv{CX:CXT}{P:Ah}{w:Aw}{K:AU}{mg:Str->Option AB}{base:Heap}{N ps:List Str}{qual:Str}{scope:Cg}{f:Addr}{cd:AB}{A:A4}{outer:List Env}{s s1:AG}{H:Hp}{E:XK}{us:List AB}{vs:List V}
  (S:FnScope N ps scope) (hd:A.handled=none) (e0:Env0 P w K mg base A outer s H) (hl:vs.length=ps.length) (r:Vals vs us)
  (x:InCallC s s.heap.objs.size (HY (FZ qual scope s.heap.objs.size f cd).kindOf (ps.zip us) fun _=>none) (BO (s.heap.objs.size+1) scope.names []) (HZ (FZ qual scope s.heap.objs.size f cd).kindOf (ps.zip us) fun _=>none) s1) :
  Inv (cxOf CX P w K mg base N qual scope f cd A outer s H E) [] (start N vs) H s1:=by
 have hpl:ps.length<=N.length:=by have:=congrArg DR S.pre; rw[D3]at this; lia
 obtain⟨h1,tk,rfl,hk⟩:=x.done
 have noA:∀ b:Addr,b∉(cxOf CX P w K mg base N qual scope f cd A outer s H E).ex:=fun b z=>absurd (show b∈([]:List Addr) from z) (by simp)
 refine⟨⟨e0.mod,S.kind,rfl,rfl,AL _,fun y z c h1 h2=>?_,fun y hy=>?_,fun y c _ h=>?_,fun _=>hd,Around.frames_deeper e0.frames,.inr ⟨rfl,rfl⟩,fun b z=>absurd z (noA b),e0.bs,e0.bsz,fun b _ _=>noA b,fun b z=>absurd z (noA b),e0.funs,e0.frf⟩,
  rfl,e0.bare,Un.kept hk,⟨_,x.toInCall.ns,fun i y v h1 h2 h3=>?_⟩,fun y c h=>⟨_,x.cell y c h⟩,e0.hok.fresh (AL _),fun y c h=>?_,fun p hp=>absurd (show p∈([]:List (Addr×Obj)) from hp) (by simp),e0.hok.kept hk,?_⟩
 ·exact name_of_addr x.apart (Bi h1) (Bi h2)
 ·have hy:scope.names.lookup y=some .cell\/scope.names.lookup y=some .free:=hy
  rcases hy with hy | hy
  ·exact zHk hy
  ·exact absurd rfl (S.nofree _ (Bi hy))
 ·exact ED (x.above y c (Bi h))
 ·have hi:i < vs.length:=by
   unfold start at h2
   by_cases hi:i < vs.length
   ·exact hi
   ·rw[BJ (by simpa using hi)]at h2
    rw[C0]at h2
    split at h2 <;> cases h2
  have ha:vs[i]?=some v:=by
   unfold start at h2
   rw[Aq (by simpa using hi),Af]at h2
   cases e:vs[i]? with
   | none=>rw[e]at h2; cases h2
   | some a=>rw[e]at h2; cases h2; rfl
  obtain⟨u,hu,rv⟩:=r.get ha
  have hp:ps[i]?=some y:=by
   rw[← S.pre,Cu (by lia)]; exact h1
  have ndP:ps.Nodup:=by rw[← S.pre]; exact S.nd.sublist (List.take_sublist _ _)
  refine⟨u,rv,?_⟩
  rcases S.par y (Br hp) with k | k
  ·exact .inl ⟨k,zFj ndP hp hu k⟩
  ·obtain⟨c,e⟩:=zHk (n:=s.heap.objs.size+1) k
   refine .inr ⟨.inl k,c,e,?_⟩
   have q:=x.cell y c e
   rw[zGD ndP hp hu (by show scope.names.lookup y≠_; rw[k]; decide)]at q
   exact q
 ·exact e0.hok.fresh (ED (x.above y c (Bi h)))
 ·unfold start
  show _=N.length
  rw[BQ,Ak,List.length_replicate]
  lia
theorem zQi{CX:CXT}{P:Ah}{w:Aw}{K:AU}{mg:Str->Option AB}{base:Heap}{k:Nat}{f:Addr}{name qual:Str}{params:Arguments}{body:List Stmt}{scope:Cg}{dV kV doc pm cdv ct oc:AB}{an od:Option Addr}
  {osl:Array (Option AB)} {N ps:List Str} {sp:Sp} (lk:K.lookup f=some ⟨oc,od,.func (DU name qual params body scope dV kV doc pm an cdv ct),osl⟩) (hcd:DY K cdv qual=true) (S:FnScope N ps scope)
  (len:∀ vs H Q E,sp vs H Q E->vs.length=ps.length)
  (hbody:∀ (A:A4) (outer:List Env) (s:AG) (H:Hp) (vs:List V) (Q:VK) (E:XK),Room k (A.deeper (FZ qual scope s.heap.objs.size f cdv))->sp vs H Q E ->
   ∃ t,PSs (cxOf CX P w K mg base N qual scope f cdv A outer s H E) body t/\t { nx:=fun _ H'=>Q .non H',rt:=Q } (start N vs) H) :
  FnOk P w K mg base CX (k+1) f (DU name qual params body scope dV kV doc pm an cdv ct) ps sp:=by
 refine⟨len,fun A outer s H args us vs Q E hr e0 hb r hsp=>?_⟩
 have hl:=len _ _ _ _ hsp
 have KX:K.In s.heap:=e0.mod.kin.keeps fun b o e=>(e0.bs b o e).1
 have lim:s.heap.NoLimit:=e0.mod.nolimit.keeps fun b o e=>(e0.bs b o e).1
 have hkind:∀ y∈ps.zip us,scope.names.lookup y.1=some .local\/(scope.names.lookup y.1=some .cell/\((BO (s.heap.objs.size+1) scope.names []).lookup y.1).isSome=true):=fun ⟨n,v⟩ hy=>by
  rcases S.par n (Ff hy).1 with q | q
  ·exact .inl q
  ·exact .inr ⟨q,Cz _ _ _ (.inl q)⟩
 refine codeAny_call_function hr.depth (KX _ _ lk) rfl S.co S.gen rfl (PySem.W.codeRec_of KX hcd) (hb _ _ _ _ ?_)
 refine wpAny_newFunctionEnv_cells S.kind hkind fun env he s1 x=>?_
 subst he
 refine⟨lim.keeps x.toInCall.keep,codeAny_func ?_⟩
 obtain⟨t,ht,hq⟩:=hbody A outer s H vs Q E (hr.deeper _) hsp
 have I:Inv (cxOf CX P w K mg base N qual scope f cdv A outer s H E) [] (start N vs) H s1:=zKv S hr.hd e0 hl r x
 refine BE (ht [] s1 (start N vs) H _ I hq) (fun fl s' hs=>?_) fun e s' hs=>hs
 have fin:∀ {σ':St} {H':Hp} {v:V} {u:AB},Inv (cxOf CX P w K mg base N qual scope f cdv A outer s H E) [] σ' H' s'->RelV v u->Q v H'->CE outer P w H s Q u s' :=
  fun {σ' H' v u} J rv q=>⟨v,H',J.os,J.bare,J.base,J.hok,rv,q⟩
 cases fl with
 | ret u =>
  obtain⟨v,σ',H',J,rv,q⟩:=hs
  exact fin J rv q
 | next =>
  obtain⟨σ',H',J,q⟩:=hs
  exact fin (v:=V.non) (u:=CB) J rfl q
 | brk =>
  obtain⟨_,_,_,q⟩:=hs
  exact Bh q
 | cont =>
  obtain⟨_,_,_,q⟩:=hs
  exact Bh q
section
variable {X:Cx}{x:Str}{p pos:Pos}{e:Expr}{es:List Expr}{t:TA}{id T:String}{r:List V->Hp->VK->Prop}
noncomputable def tCB (r:List V->Hp->VK->Prop) (t:TA):TE:=fun σ H Q=>t σ H fun vs H1=>r vs H1 Q
theorem zNI(hc:CallR X (.builtin id) r)(hg:Gl X x)(hm:X.mg x=none)(hv:CN x=some (.builtin id))(ha:PA X (e::es) t)(hn:x≠"__name__":=by decide)(hdb:(x == ("__debug__":Str))=false:=by decide)
  (he:Ae (e::es) X.env=(false,eval e X.env)::Ae es X.env:=by rfl) (hpl:(CT pos (Ae es X.env)).any (·.1)=false:=by rfl):PE X (.Call (.Name x p) (e::es) [] pos) (tCB r t):=by
 intro pins s σ H Q I h
 refine FY (zDL I hg hm hv ?_ hn hdb)
 exact J7 (thn (ha pos pins s σ H _ I h) fun us s1 ⟨vs,H1,I1,r1,q1⟩=>hc pins s1 σ H1 vs us Q I1 r1 q1) he hpl
theorem zBq(hc:CallR X (.type T) r)(hg:Gl X x)(hm:X.mg x=none)(hv:CN x=some (.type T))(ha:PA X (e::es) t)(hn:x≠"__name__":=by decide)(hdb:(x == ("__debug__":Str))=false:=by decide)
  (he:Ae (e::es) X.env=(false,eval e X.env)::Ae es X.env:=by rfl) (hpl:(CT pos (Ae es X.env)).any (·.1)=false:=by rfl):PE X (.Call (.Name x p) (e::es) [] pos) (tCB r t):=by
 intro pins s σ H Q I h
 refine FY (zDL I hg hm hv ?_ hn hdb)
 exact DB (thn (ha pos pins s σ H _ I h) fun us s1 ⟨vs,H1,I1,r1,q1⟩=>hc pins s1 σ H1 vs us Q I1 r1 q1) he hpl
end
end L2
namespace HT
open PySem PyProof.Rows
noncomputable def lexLt:List Int->List Int->Bool
 | [],[]=>false
 | [],_::_=>true
 | _::_,[]=>false
 | x::xs,y::ys=>if x=y then lexLt xs ys else decide (x < y)
theorem lexLt_cons(x y:Int)(xs ys:List Int):lexLt (x::xs) (y::ys)=if x=y then lexLt xs ys else decide (x < y):=rfl
theorem lexLt_nil_nil:lexLt [] []=false:=rfl
theorem lexLt_nil_cons(y:Int)(ys:List Int):lexLt [] (y::ys)=true:=rfl
theorem lexLt_cons_nil(x:Int)(xs:List Int):lexLt (x::xs) []=false:=rfl
theorem zMa(A:A4)(s:AG)(a:Int)(t:Tok)(c:Int)(u:Tok):∃ e,Fp A s (.int a t) (.int c u) e/\(e=true ↔ a=c) :=
 ⟨(a == c),GP a t c u,by simp⟩
theorem zMc(A:A4)(s:AG)(a:Int)(t:Tok)(c:Int)(u:Tok)(prog:Ah)(w:Aw)(E:AB->AG->Prop)(Q:AB->AG->Prop)(h:Q (.bool (decide (a < c))) s) :
  AV (model prog w) A (richCompare .Lt (.int a t) (.int c u)) Q E s :=
 (J8 h:AV (model prog w) A (BY .Lt (.int a t) (.int c u)) Q E s)
section
open PySem.SeqAt
open PySem.AutoSeq1 (wpAny_loadPart')
open PySem.MeetsSeq PySem.MeetsSeq2 PySem.MeetsSeq3
theorem tuple_lt_ints(l b:Addr)(items items2:Array AB)(n n2:Nat)(dd dd2:Option Addr)(sl sl2:Array (Option AB))(ns ms:List Int)(hi:By items.toList ns)(hj:By items2.toList ms) :
  Meets (Builtin.«tuple.__lt__» ⟨[.ref l,.ref b],[]⟩)
   (fun _ R s=>s.heap.get? l=some { cls:=.type "tuple",dict:=dd,data:=.seq items n,slots:=sl }/\s.heap.get? b=some { cls:=.type "tuple",dict:=dd2,data:=.seq items2 n2,slots:=sl2 } /\
    R (.ok (.ret (.bool (lexLt ns ms)))) s) :=
 .of_wp fun prog w A R s h=>by
  obtain⟨hp,g,d,tk,os⟩:=s; obtain⟨hl,hb,h⟩:=h
  have f2:=AutoSeq1.sub_tuple_tuple
  have z1:items.size=ns.length:=by rw[← hi.length]; simp
  have z2:items2.size=ms.length:=by rw[← hj.length]; simp
  wp_walk using GZ hl,GZ hb,Je _ (fun rest b s'=>b.1=none/\s'=⟨hp,g,d,tk,os⟩/\∃ (vs ws:List AB) (ns' ms':List Int),rest=vs.zip ws /\
   By vs ns'/\By ws ms'/\ns'.length+items2.size=ms'.length+items.size/\R (.ok (.ret (.bool (lexLt ns' ms')))) ⟨hp,g,d,tk,os⟩) _
  case turn =>
   rintro ⟨y,x⟩ rest b s' ⟨hb',rfl,vs,ws,ns',ms',hz,hvi,hwi,hlen,hR⟩
   cases hvi with
   | nil=>rw[Hi]at hz; cases hz
   | cons a t hvi' =>
    cases hwi with
    | nil=>rw[Ha]at hz; cases hz
    | cons c u hwi' =>
     rw[Ex]at hz
     injection hz with hyx hrest
     injection hyx with hy hx
     subst hy hx
     rw[lexLt_cons]at hR
     simp only[Be]at hlen
     obtain⟨e,he,hiff⟩:=zMa A.in1 ⟨hp,g,d,tk,os⟩ a t c u
     refine AD (he prog w _ _ ?_)
     cases e with
     | true =>
      rw[if_pos (hiff.mp rfl)]at hR
      wp_walk
      exact⟨rfl,rfl,_,_,_,_,hrest,hvi',hwi',by lia,hR⟩
     | false =>
      rw[if_neg (fun q=>absurd (hiff.mpr q) AQ)]at hR
      have hri:=zMc A.in1 ⟨hp,g,d,tk,os⟩ a t c u prog w
      wp_walk using hri
      exact⟨_,rfl,by simpa using hR⟩
  case fin =>
   rintro ⟨b1,b2⟩ s' ⟨hb',rfl,vs,ws,ns',ms',hz,hvi,hwi,hlen,hR⟩
   simp only at hb'
   subst hb'
   have hv:lexLt ns' ms'=decide (items.size < items2.size):=by
    cases hvi with
    | nil =>
     cases hwi with
     | nil =>
      simp only[DW]at hlen
      rw[lexLt_nil_nil]
      exact (decide_eq_false (by lia)).symm
     | cons c u hw =>
      simp only[DW,Be]at hlen
      rw[lexLt_nil_cons]
      exact (decide_eq_true (by lia)).symm
    | cons a t hv =>
     cases hwi with
     | nil =>
      simp only[DW,Be]at hlen
      rw[lexLt_cons_nil]
      exact (decide_eq_false (by lia)).symm
     | cons c u hw =>
      rw[Ex]at hz
      cases hz
   rw[hv]at hR
   wp_walk
   exact⟨_,rfl,by simpa [Jf] using hR⟩
  case h =>
   exact⟨rfl,rfl,items.toList,items2.toList,ns,ms,rfl,hi,hj,by lia,h⟩
end
section
variable {prog:Ah}{w:Aw}{A:A4}{E:AB->AG->Prop}{s:AG}
theorem lt_tupInts{l b:Addr}{items items2:Array AB}{ns ms:List Int}{Q:AB->AG->Prop}(hl:Ee s.heap l items)(hb:Ee s.heap b items2)(hi:By items.toList ns)(hj:By items2.toList ms)
  (hu:A.units < DV) (h:Q (.bool (lexLt ns ms)) s):AV (model prog w) A (BY .Lt (.ref l) (.ref b)) Q E s:=by
 obtain⟨⟨cls,dd,data,sl⟩,ho,hc,n,hd⟩:=id hl
 obtain⟨⟨cls2,dd2,data2,sl2⟩,ho2,hc2,n2,hd2⟩:=id hb
 simp only at hc hd hc2 hd2
 subst hc hd hc2 hd2
 exact richCompare_meets_room (op:=.Lt) ⟨_,ho,rfl⟩ ⟨_,ho2,rfl⟩ D5 GF (Fx _ _) (tuple_lt_ints l b items items2 n n2 dd dd2 sl sl2 ns ms hi hj)
  ⟨ho,ho2,show Ep (lexLt ns ms)≠Value.notImplemented/\Q (.bool (lexLt ns ms)) s from ⟨(fun x=>nomatch x),h⟩⟩ hu
theorem cat_tup{t b:Addr}{vs ws:List AB}{Q:AB->AG->Prop}(ht:Ee s.heap t vs.toArray)(hb:Ee s.heap b ws.toArray)(hv:vs≠[])
  (h1:ws=[]->Q (.ref t) s) (h2:ws≠[]->Q (.ref s.heap.objs.size) { s with heap:=s.heap.push { cls:=.type "tuple",data:=.seq (vs++ws).toArray } })
  (hsz:vs.length+ws.length<=AE):AV (model prog w) A (CU .Add (.ref t) (.ref b)) Q E s:=by
 obtain⟨⟨cls,dd,data,sl⟩,ho,hc,n,hd⟩:=id ht
 obtain⟨⟨cls2,dd2,data2,sl2⟩,ho2,hc2,n2,hd2⟩:=id hb
 simp only at hc hd hc2 hd2
 subst hc hd hc2 hd2
 have e:vs.toArray++ws.toArray=(vs++ws).toArray:=by simp
 by_cases hw:ws=[]
 ·exact Hj ⟨_,ho,rfl⟩ ⟨_,ho2,rfl⟩ GH HH Dx Dr (Do _ _)
   (tuple_addW1 t b vs.toArray ws.toArray n n2 dd dd2 sl sl2 (by simpa using hv) (by simp[hw])) ⟨ho,ho2,h1 hw⟩
 ·refine Hj ⟨_,ho,rfl⟩ ⟨_,ho2,rfl⟩ GH HH Dx Dr (Do _ _)
   (tuple_addW2 t b vs.toArray ws.toArray n n2 dd dd2 sl sl2 (by simpa using hv) (by simpa using hw) (by rw[AN,AN]; exact hsz)) ⟨ho,ho2,?_⟩
  rw[e]
  exact h2 hw
noncomputable def sIx (n d:Nat):Option Int->Nat
 | none=>d
 | some v=>if v < 0 then (v+(n:Int)).toNat else min v.toNat n
theorem zPO(n d:Nat)(hd:d<=n)(o:Option Int):sIx n d o<=n:=by
 cases o with
 | none=>exact hd
 | some v =>
  show (if v < 0 then (v+(n:Int)).toNat else min v.toNat n)<=n
  by_cases hv:v < 0
  ·rw[if_pos hv]; lia
  ·rw[if_neg hv]; exact Nat.min_le_right _ _
theorem zIi(v:Int)(n d:Nat):(if v < 0 then max (v+(n:Int)) 0 else min v (n:Int))=((sIx n d (some v):Nat):Int):=by
 show (if v < 0 then max (v+(n:Int)) 0 else min v (n:Int))=(((if v < 0 then (v+(n:Int)).toNat else min v.toNat n):Nat):Int)
 by_cases hv:v < 0
 ·simp only[if_pos hv]; lia
 ·simp only[if_neg hv]; lia
theorem zJy(lo hi:Option Int)(n:Nat):DP lo hi 1 (n:Int)=(((sIx n 0 lo:Nat):Int),((sIx n n hi:Nat):Int)):=by
 have h1:¬ ((1:Int) < 0):=by lia
 unfold DP
 simp only[h1,if_false]
 refine E7 ?_ ?_
 ·cases lo with
  | none=>rfl
  | some v=>exact zIi v n 0
 ·cases hi with
  | none=>rfl
  | some v=>exact zIi v n n
theorem zJw(i j:Nat):CV (i:Int) (j:Int) 1=j - i:=by
 unfold CV
 have h1:(1:Int) > 0:=by lia
 simp only[h1,if_true,Int.ediv_one]
 split <;> lia
theorem zEe{v:AB}{o:Option Int}{Q:Option Int->AG->Prop}(p:Ez v o)(h:Q o s):AV (model prog w) A (Jg v) Q E s:=by
 cases p with
 | none=>exact KQ h
 | int i t=>exact slicePart_int h
theorem sliceApplied_gen{sl:Addr}{vl vu:AB}{lo hi:Option Int}{n:Nat}{Q:Int×Int×Nat->AG->Prop}(hs:s.heap.IsSliceOf sl vl vu .none)(pl:Ez vl lo)(pu:Ez vu hi)
  (h:Q (((sIx n 0 lo:Nat):Int),1,sIx n n hi - sIx n 0 lo) s):AV (model prog w) A (Et (.ref sl) (pure (n:Int))) Q E s:=by
 obtain⟨os,hos,hcs,hds⟩:=id hs
 unfold Et Jh
 refine AD (AD (DG hos hds (x:=vl) rfl (AD (DG hos hds (x:=vu) rfl (AD (DG hos hds (x:=.none) rfl (AO ?_)))))))
 refine AD (KQ ?_)
 show AV _ _ (if ((1:Int) == 0)=true then _ else _) _ _ s
 rw[if_neg (by decide)]
 refine AD (zEe pl (AD (zEe pu (AD (AO ?_)))))
 show AV _ _ (match DP lo hi 1 (n:Int) with | (lo,hi)=>pure (lo,(1:Int),CV lo hi 1)) _ _ s
 rw[zJy lo hi n]
 show AV _ _ (pure (((sIx n 0 lo:Nat):Int),(1:Int),CV ((sIx n 0 lo:Nat):Int) ((sIx n n hi:Nat):Int) 1)) _ _ s
 rw[zJw]
 exact AO h
theorem zMR(xs:Array AB)(i k:Nat):((AC k).filterMap fun (m:Nat)=>xs[((i:Int)+(m:Int) * 1).toNat]?).toArray=((xs.toList.drop i).take k).toArray:=by
 have e:(fun (m:Nat)=>xs[((i:Int)+(m:Int) * 1).toNat]?)=fun m=>xs[i+m]?:=by
  funext m
  have:((i:Int)+(m:Int) * 1).toNat=i+m:=by lia
  rw[this]
 rw[e]
 have:=pick_run xs i k
 rw[List.filterMap_map]at this
 have e2:((fun x=>xs[x]?) ∘ fun x=>i+x)=fun m=>xs[i+m]?:=rfl
 rw[e2]at this
 rw[this]
theorem qY{t sl:Addr}{items:Array AB}{vl vu:AB}{lo hi:Option Int}{Q:AB->AG->Prop}(ht:Ee s.heap t items)(hs:s.heap.IsSliceOf sl vl vu .none)(pl:Ez vl lo)(pu:Ez vu hi)
  (hw:¬ (sIx items.size 0 lo=0/\sIx items.size items.size hi=items.size))
  (h:Q (.ref s.heap.objs.size) { s with heap:=s.heap.push { cls:=.type "tuple",data:=.seq ((items.toList.drop (sIx items.size 0 lo)).take (sIx items.size items.size hi - sIx items.size 0 lo)).toArray } })
  (hsz:items.size<=AE):AV (model prog w) A (D8 (.ref t) (.ref sl)) Q E s:=by
 have htake:sizeOk (.seq ((items.toList.drop (sIx items.size 0 lo)).take (sIx items.size items.size hi - sIx items.size 0 lo)).toArray):=by
  show ((items.toList.drop (sIx items.size 0 lo)).take (sIx items.size items.size hi - sIx items.size 0 lo)).toArray.size<=AE
  rw[AN,D3,IE,As]
  lia
 have hj:sIx items.size items.size hi<=items.size:=zPO _ _ (AL _) hi
 obtain⟨os,hos,hcs,hds⟩:=id hs
 have hTs:s.TypeIs (.ref sl) "slice":=⟨os,hos,hcs⟩
 unfold D8
 try with_reducible refine CQ ?_
 first | refine AD (AO ?_) | skip
 refine AD (JK ht.typeIs (by decide) ?_)
 refine AD (B5 (name:=Di "__getitem__") ht.typeIs Bt
  (Bu Bt ht.typeIs IZ ?_ (Ip _ _)))
 show AV _ _ (Eu (.ref t) >>= _) _ _ s
 refine AD (Kp ht ?_)
 refine AD (Fq hTs ?_)
 rw[if_pos (by decide)]
 refine AD (sliceApplied_gen hs pl pu ?_)
 have hno:¬ ((((sIx items.size 0 lo:Nat):Int) == 0 && (1:Int) == 1 && (sIx items.size items.size hi - sIx items.size 0 lo) == items.size)=true):=by
  intro q
  rw[Ax,Ax]at q
  have q1:((sIx items.size 0 lo:Nat):Int)=0:=eq_of_beq q.1.1
  have q2:sIx items.size items.size hi - sIx items.size 0 lo=items.size:=eq_of_beq q.2
  exact hw ⟨by lia,by lia⟩
 show AV _ _ (if (((sIx items.size 0 lo:Nat):Int) == 0 && (1:Int) == 1 && (sIx items.size items.size hi - sIx items.size 0 lo) == items.size)=true then _ else _) _ _ s
 rw[if_neg hno,zMR]
 first
  | exact AD (m:=Bw _) (BR (AO ⟨_,rfl,AO h⟩) htake)
  | exact AD (m:=Bw _) (BR (AD (AO (AO ⟨_,rfl,AO h⟩))) htake)
  | exact AD (AD (m:=Bw _) (BR (AO (AO ⟨_,rfl,AO h⟩)) htake))
  | exact AD (AD (m:=Bw _) (BR (AO ⟨_,rfl,AO h⟩) htake))
end
end HT
namespace L2
open PySem PySem.Spec PyProof.Rows
abbrev TO:=St->Hp->(Option Int->Hp->Prop)->Prop
noncomputable def PO (X:Cx) (e:Option Expr) (t:TO):Prop :=
 ∀ (pins:List (Addr×Obj)) (s:AG) (σ:St) (H:Hp) (Q:Option Int->Hp->Prop),Inv X pins σ H s->t σ H Q ->
  AV (model X.prog X.w) X.A (evalPart e X.env) (fun u s'=>∃ o H',Inv X pins σ H' s'/\Ez u o/\Q o H') X.xe s
noncomputable def tNoPart:TO:=fun _ H Q=>Q none H
noncomputable def tPart (t:TE):TO:=fun σ H Q=>t σ H fun x H1=>∃ i,x=.int i/\Q (some i) H1
theorem zET{ns:List Int}:∀ {us:List AB},Vals (ns.map V.int) us->By us ns:=by
 induction ns with
 | nil=>intro us r; rw[Ay]at r; cases r; exact .nil
 | cons n ns ih =>
  intro us r
  rw[AJ]at r
  cases r with
  | cons r1 r2 =>
   obtain⟨t,e⟩:=r1
   subst e
   exact .cons n t (ih r2)
section
variable {X:Cx}{e:Expr}{te:TE}{lo hi:Option Expr}{tl th:TO}{pos p2:Pos}
theorem zPB:PO X none tNoPart:=by
 intro pins s σ H Q I h
 rw[Kq]
 exact AO ⟨none,H,I,.none,h⟩
theorem zOS(h:PE X e te):PO X (some e) (tPart te):=by
 intro pins s σ H Q I hw
 rw[evalPart_some]
 refine thn (h pins s σ H _ I hw) fun u s1 ⟨x,H1,I1,r1,q1⟩=>?_
 obtain⟨i,rfl,q⟩:=q1
 obtain⟨t,rfl⟩:=r1
 exact⟨some i,H1,I1,.int i t,q⟩
noncomputable def SlR (X:Cx) (r:V->Option Int->Option Int->Hp->VK->Prop):Prop :=
 ∀ (pins:List (Addr×Obj)) (s:AG) (σ:St) (H:Hp) (x:V) (v vl vu:AB) (lo hi:Option Int) (sl:Addr) (Q:VK),Inv X pins σ H s->RelV x v->s.heap.IsSliceOf sl vl vu .none->Ez vl lo->Ez vu hi->r x lo hi H Q ->
  ∃ T id,Iq (.type T) "__getitem__"=pure (some (.builtin id))/\s.TypeIs v T/\AV (model X.prog X.w) X.A (D8 v (.ref sl)) (EP X pins σ Q) X.xe s
theorem SlR.or{r r':V->Option Int->Option Int->Hp->VK->Prop}(h:SlR X r)(h':SlR X r'):SlR X (fun x lo hi H Q=>r x lo hi H Q\/r' x lo hi H Q):=by
 intro pins s σ H x v vl vu lo hi sl Q I rx hs pl pu q
 rcases q with q | q
 ·exact h pins s σ H x v vl vu lo hi sl Q I rx hs pl pu q
 ·exact h' pins s σ H x v vl vu lo hi sl Q I rx hs pl pu q
noncomputable def tSl (r:V->Option Int->Option Int->Hp->VK->Prop) (te:TE) (tl th:TO):TE:=fun σ H Q=>te σ H fun x H1=>tl σ H1 fun l H2=>th σ H2 fun u H3=>r x l u H3 Q
theorem zMX{r:V->Option Int->Option Int->Hp->VK->Prop}(hr:SlR X r)(he:PE X e te)(hl:PO X lo tl)(hu:PO X hi th):PE X (.Subscript e (.Slice lo hi none p2) pos) (tSl r te tl th):=by
 intro pins s σ H Q I h
 refine Ir (thn (he pins s σ H _ I h) fun v s1 ⟨x,H1,I1,r1,q1⟩=>?_)
 refine wpAny_Slice (thn (hl pins s1 σ H1 _ I1 q1) fun vl s2 ⟨l,H2,I2,pl,q2⟩=>thn (hu pins s2 σ H2 _ I2 q2) fun vu s3 ⟨u,H3,I3,pu,q3⟩=>?_)
 rw[Kq]
 refine AO ?_
 have I4:Inv X pins σ H3 { s3 with heap:=s3.heap.push { cls:=.type "slice",data:=.fields #[vl,vu,.none] } }:=I3.kept (t':=s3.toks) fun b ob q=>AM _ q
 obtain⟨T,id,hT,ht,hg⟩:=hr pins { s3 with heap:=s3.heap.push { cls:=.type "slice",data:=.fields #[vl,vu,.none] } } σ H3 x v vl vu l u s3.heap.objs.size Q I4 r1 (JL ..) pl pu q3
 show AV (model X.prog X.w) X.A (HI e (.Slice lo hi none p2) v (.ref s3.heap.objs.size)) (EP X pins σ Q) X.xe { s3 with heap:=s3.heap.push { cls:=.type "slice",data:=.fields #[vl,vu,.none] } }
 exact tail_any (ops:=[.ref s3.heap.objs.size,v]) ht hT hg (by with_unfolding_all rfl)
noncomputable def cutV (xs:List V) (lo hi:Option Int):List V:=(xs.drop (HT.sIx xs.length 0 lo)).take (HT.sIx xs.length xs.length hi - HT.sIx xs.length 0 lo)
theorem zD1(xs:List V)(lo hi:Option Int):(cutV xs lo hi).length<=xs.length:=by
 unfold cutV
 rw[D3,IE]
 lia
end
noncomputable def ixN (n:Nat) (i:Int):Option Nat:=if 0<=i then (if i < n then some i.toNat else none) else if -(n:Int)<=i then some (i+n).toNat else none
noncomputable def atI {α:Type} (xs:List α) (i:Int):Option α:=(ixN xs.length i).bind fun j=>xs[j]?
theorem zE6{n:Nat}{i:Int}{j:Nat}(h:ixN n i=some j):E8 i n=some j/\j < n/\-(n:Int)<=i/\i < n:=by
 unfold ixN at h
 by_cases h0:0<=i
 ·rw[if_pos h0]at h
  by_cases h1:i < n
  ·rw[if_pos h1]at h
   have e:i.toNat=j:=Ab h
   exact⟨by rw[GQ h0 h1,e],by lia,by lia,h1⟩
  ·rw[if_neg h1]at h; cases h
 ·rw[if_neg h0]at h
  by_cases h1:-(n:Int)<=i
  ·rw[if_pos h1]at h
   have e:(i+n).toNat=j:=Ab h
   exact⟨by rw[Hk (by lia) h1,e],by lia,h1,by lia⟩
  ·rw[if_neg h1]at h; cases h
theorem zFb{α:Type}{xs:List α}{i:Int}{v:α}(h:atI xs i=some v):∃ j,E8 i xs.length=some j/\xs[j]?=some v/\j < xs.length/\-(xs.length:Int)<=i/\i < xs.length:=by
 unfold atI at h
 cases e:ixN xs.length i with
 | none=>rw[e]at h; cases h
 | some j =>
  rw[e]at h
  obtain⟨h1,h2,h3,h4⟩:=zE6 e
  exact⟨j,h1,h,h2,h3,h4⟩
theorem zOC{α:Type}{xs:List α}{j:Nat}{v:α}(h:xs[j]?=some v):atI xs (j:Int)=some v:=by
 have hj:j < xs.length:=(Aa.mp h).1
 have e:ixN xs.length (j:Int)=some j:=by
  unfold ixN
  rw[if_pos (by lia),if_pos (by lia)]; simp
 unfold atI; rw[e]; exact h
def PlainIx (b:Expr):Prop:=∀ o i,subscripted b false o i=operate [o,i] (D8 o i)
noncomputable def IxR (X:Cx) (r:R2):Prop :=
 ∀ (value slice:Expr) (pins:List (Addr×Obj)) (s:AG) (σ:St) (H:Hp) (x y:V) (v u:AB) (Q:VK),Inv X pins σ H s->RelV x v->RelV y u->r x y H Q ->
  subscripted slice false v u=operate [v,u] (D8 v u)->AV (model X.prog X.w) X.A (HI value slice v u) (EP X pins σ Q) X.xe s
noncomputable def MtR (X:Cx) (id:String) (r:V->List V->Hp->VK->Prop):Prop :=
 ∀ (pins:List (Addr×Obj)) (s:AG) (σ:St) (H:Hp) (x:V) (xs:List V) (v:AB) (us:List AB) (Q:VK),Inv X pins σ H s->RelV x v->Vals xs us->r x xs H Q ->
  AV (model X.prog X.w) X.A (call (.builtin id) (v::us)) (EP X pins σ Q) X.xe s
section
variable {X:Cx}{a b:Expr}{ta tb:TE}{pos:Pos}
theorem IxR.or{r r':R2}(h:IxR X r)(h':IxR X r'):IxR X (fun x y H Q=>r x y H Q\/r' x y H Q):=by
 intro value slice pins s σ H x y v u Q I rx ry q hs
 rcases q with q | q
 ·exact h value slice pins s σ H x y v u Q I rx ry q hs
 ·exact h' value slice pins s σ H x y v u Q I rx ry q hs
theorem zQy{r:R2}(hr:IxR X r)(ha:PE X a ta)(hb:PE X b tb)(hs:PlainIx b):PE X (.Subscript a b pos) (tOp r ta tb):=by
 intro pins s σ H Q I h
 exact Ir (binT ha hb I h fun v u s2 x y H2 I2 rx ry q=>hr a b pins s2 σ H2 x y v u Q I2 rx ry q (hs _ _))
noncomputable def rIxL (K:AU):R2:=fun x y H Q=>∃ p xs i v,x=.ref p/\y=.int i/\SqL K H p xs/\atI xs i=some v/\Q v H
noncomputable def rIxT (K:AU):R2:=fun x y H Q=>∃ p xs i v,x=.ref p/\y=.int i/\SqT K H p xs/\atI xs i=some v/\Q v H
noncomputable def rIxS:R2:=fun x y H Q=>∃ z i c,x=.str z/\y=.int i/\z.length<=AE/\atI z.cps.toList i=some c/\Q (.str ⟨#[c]⟩) H
theorem zNs:IxR X (rIxL X.K):=by
 intro value slice pins s σ H x y v u Q I rx ry h hs
 obtain⟨p,xs,i,z,rfl,rfl,hq,he,q⟩:=h
 cases rx
 obtain⟨t,rfl⟩:=ry
 obtain⟨its,r,pl,hz⟩:=I.list hq
 obtain⟨j,h1,h2,h3,h4,h5⟩:=zFb he
 obtain⟨w,ew,rw'⟩:=r.get h2
 have hl:=r.length
 have hn:=line63
 have fin:EP X pins σ Q w s:=⟨z,H,I,rw',q⟩
 by_cases h0:0<=i
 ·have hj:i.toNat=j:=by
   rw[GQ h0 h5]at h1
   exact Ab h1
  exact item_listR pl.isList h0 (by lia) (by rw[hj]; simpa using ew) fin hs
 ·have hj:(i+(its.toArray.size:Int)).toNat=j:=by
   rw[Hk (by lia) h4]at h1
   rw[AN,← hl]
   exact Ab h1
  exact Hl (x:=w) pl.isList.typeIs JM.lookup
   (wpAny_getItem_list_neg (Q:=fun r s'=>r=w/\EP X pins σ Q r s') pl.isList (by lia) (by rw[AN] <;> lia) (by lia) (by rw[hj]; simpa using ew) ⟨rfl,fin⟩) hs
theorem zPe:IxR X (rIxT X.K):=by
 intro value slice pins s σ H x y v u Q I rx ry h hs
 obtain⟨p,xs,i,z,rfl,rfl,hq,he,q⟩:=h
 cases rx
 obtain⟨t,rfl⟩:=ry
 obtain⟨its,r,pl,hz⟩:=I.tuple hq
 obtain⟨j,h1,h2,h3,h4,h5⟩:=zFb he
 obtain⟨w,ew,rw'⟩:=r.get h2
 have hl:=r.length
 have hn:=line63
 have fin:EP X pins σ Q w s:=⟨z,H,I,rw',q⟩
 exact Hl (x:=w) pl.typeIs slot_tuple_getitem.lookup
  (getItem_tuple (j:=j) (Q:=fun r s'=>r=w/\EP X pins σ Q r s') pl (by lia) (by lia) (by rw[AN,← hl]; exact h1) (by simpa using ew) ⟨rfl,fin⟩) hs
theorem zPn:IxR X rIxS:=by
 intro value slice pins s σ H x y v u Q I rx ry h hs
 obtain⟨z,i,c,rfl,rfl,hz,he,q⟩:=h
 obtain⟨t,rfl⟩:=rx
 obtain⟨t',rfl⟩:=ry
 obtain⟨j,h1,h2,h3,h4,h5⟩:=zFb he
 have hl:z.cps.toList.length=z.length:=by simp[Str.length]
 rw[hl]at h1 h4 h5
 have hn:=line63
 exact tail_any (typeIs_str s z t) slot_str_getitem.lookup (getItem_str (c:=c) (by
  have e1:decide (i < -(2 ^ 63:Int))=false:=decide_eq_false (by lia)
  have e2:decide (i ≥ 2 ^ 63)=false:=decide_eq_false (by lia)
  rw[e1,e2,Iu]) (by rw[h1]; simpa using h2) ⟨.str ⟨#[c]⟩,H,I.tok _,⟨_,rfl⟩,q⟩) hs
noncomputable def rIx (K:AU):R2:=fun x y H Q=>rIxL K x y H Q\/rIxT K x y H Q\/rIxS x y H Q
theorem zPM:IxR X (rIx X.K):=zNs.or (zPe.or zPn)
theorem zJt(its:List AB)(n j:Nat)(u:AB):Bc (·.setIfInBounds j u) { cls:=.type "list",data:=.seq its.toArray n }={ cls:=.type "list",data:=.seq (its.set j u).toArray n }:=by
 simp[Bc]
theorem Inv.lst{pins:List (Addr×Obj)}{σ:St}{H:Hp}{s:AG}{p:Addr}{xs:List V}(I:Inv X pins σ H s)(h:H p=some (.lst xs)) :
  ∃ (its:List AB) (n:Nat),Vals xs its/\s.heap.get? p=some { cls:=.type "list",data:=.seq its.toArray n }/\xs.length<=AE:=by
 obtain⟨z,its,n,r,e⟩:=I.hok p _ h
 exact⟨its,n,r,e,z⟩
theorem Inv.lstUpd{pins:List (Addr×Obj)}{σ:St}{H:Hp}{s:AG}{p:Addr}{xs ys:List V}{its its':List AB}{n n':Nat}{f:Obj->Obj}(I:Inv X pins σ H s)(h:H p=some (.lst xs))
  (ho:s.heap.get? p=some { cls:=.type "list",data:=.seq its.toArray n }) (hf:f { cls:=.type "list",data:=.seq its.toArray n }={ cls:=.type "list",data:=.seq its'.toArray n' }) (r:Vals ys its') (hz:ys.length<=AE) (t:Nat) :
  Inv X pins σ (upd H p (.lst ys)) { s with heap:=s.heap.update p f,toks:=t }:=by
 have e:(s.heap.update p f).get? p=some { cls:=.type "list",data:=.seq its'.toArray n' }:=by
  rw[Gn f ho (by rw[hf] <;> rfl),hf]
 refine I.write (x:=p) (e:=p) (by rw[h]; trivial) (.inl rfl) (fun b u hb q=>(Gg _ _ (BC hb)).trans q) ⟨_,e⟩ ?_
 exact⟨hz,its',n',r,e⟩
noncomputable def rSetL:V->V->V->Hp->(Hp->Prop)->Prop:=fun o i v H Q=>∃ p xs k j,o=.ref p/\i=.int k/\H p=some (.lst xs)/\ixN xs.length k=some j/\Q (upd H p (.lst (xs.set j v)))
theorem zMz:PSet X rSetL:=by
 intro pins s σ H o i v ov iv u Q I ro ri rv h
 obtain⟨p,xs,k,j,rfl,rfl,hp,hj,q⟩:=h
 cases ro
 obtain⟨t,rfl⟩:=ri
 obtain⟨its,n,r,ho,hz⟩:=I.lst hp
 obtain⟨h1,h2,h3,h4⟩:=zE6 hj
 have hl:=r.length
 have hn:=line63
 have I':Inv X pins σ (upd H p (.lst (xs.set j v))) { s with heap:=s.heap.update p (Bc (·.setIfInBounds j u)) } :=
  I.lstUpd hp ho (zJt its n j u) (r.set rv j) (by rw[List.length_set]; exact hz) s.toks
 by_cases h0:0<=k
 ·have hk:k.toNat=j:=by
   rw[GQ h0 h4]at h1
   exact Ab h1
  exact PySem.W.ki_setAt ho h0 (by lia) (by rw[AN,← hl]; exact h4) (by rw[hk]; exact⟨_,I',q⟩)
 ·have hk:(k+(its.toArray.size:Int)).toNat=j:=by
   rw[Hk (by lia) h3]at h1
   rw[AN,← hl]
   exact Ab h1
  exact PySem.W.ki_setBack ho (by lia) (by rw[AN,← hl]; exact h3) (by lia) (by rw[hk]; exact⟨_,I',q⟩)
theorem zH4(lo hi:Option Int)(n:Nat):(Dj lo hi none n).1=((HT.sIx n 0 lo:Nat):Int)/\(Dj lo hi none n).2.1=((HT.sIx n n hi:Nat):Int)/\(Dj lo hi none n).2.2=1:=by
 refine⟨?_,?_,rfl⟩
 ·cases lo with
  | none=>simp[Dj,HT.sIx]
  | some i =>
   simp only[Dj,HT.sIx,Hb,show (1:Int) > 0 by decide,if_true]
   by_cases h:i < 0
   ·simp only[h,if_true] <;> lia
   ·simp only[h,if_false] <;> lia
 ·cases hi with
  | none=>simp[Dj,HT.sIx]
  | some i =>
   simp only[Dj,HT.sIx,Hb,show (1:Int) > 0 by decide,if_true]
   by_cases h:i < 0
   ·simp only[h,if_true] <;> lia
   ·simp only[h,if_false] <;> lia
theorem zGJ(its:List AB)(lo hi:Option Int):slicePick its.toArray lo hi none=((its.drop (HT.sIx its.length 0 lo)).take (HT.sIx its.length its.length hi - HT.sIx its.length 0 lo)).toArray:=by
 obtain⟨h1,h2,h3⟩:=zH4 lo hi its.toArray.size
 unfold slicePick
 rw[h1,h2,h3]
 simp only[sliceRange_one,pick_run,AN] <;> rfl
noncomputable def rSlL (K:AU):V->Option Int->Option Int->Hp->VK->Prop:=fun x lo hi H Q=>∃ a xs,x=.ref a/\SqL K H a xs/\∀ p,H p=none->Q (.ref p) (upd H p (.lst (cutV xs lo hi)))
theorem zOo:SlR X (rSlL X.K):=by
 intro pins s σ H x v vl vu lo hi sl Q I rx hs pl pu h
 obtain⟨a,xs,rfl,hx,q⟩:=h
 cases rx
 obtain⟨its,r,ht,hz⟩:=I.list hx
 have hlen:=r.length
 refine⟨"list",_,JM.lookup,ht.isList.typeIs,?_⟩
 refine wpAny_getItem_list_slice ht.isList hs pl pu .none (by simp) ?_ (by rw[AN] <;> lia)
 rw[zGJ,← hlen]
 refine⟨.ref s.heap.objs.size,_,I.laid (t':=s.toks) (o:=.lst (cutV xs lo hi)) (fun b ob q=>AM _ q) (AL _) ?_,rfl,q _ (I.hok.fresh (AL _))⟩
 exact⟨Al (zD1 xs lo hi) hz,_,0,(r.drop (HT.sIx xs.length 0 lo)).take (HT.sIx xs.length xs.length hi - HT.sIx xs.length 0 lo),AZ _ rfl⟩
noncomputable def flatV:V->Bool
 | .non=>true
 | .bl _=>true
 | .int _=>true
 | .str _=>true
 | _=>false
noncomputable def eqV:V->V->Bool
 | .non,.non=>true
 | .bl a,.bl b=>a == b
 | .bl a,.int b=>(if a then 1 else 0) == b
 | .int a,.bl b=>a == (if b then 1 else 0)
 | .int a,.int b=>a == b
 | .str a,.str b=>a == b
 | _,_=>false
theorem zQI{A:A4}{s:AG}{y x:V}{u v:AB}(ry:RelV y u)(rx:RelV x v)(fy:flatV y=true)(fx:flatV x=true):Fp A s u v (eqV y x):=by
 cases y with
 | non =>
  cases ry
  cases x with
  | non=>cases rx; exact Kr _
  | bl b=>cases rx; exact Ks b
  | int b=>obtain⟨t,rfl⟩:=rx; exact Kt b t
  | str b=>obtain⟨t,rfl⟩:=rx; exact Ku b t
  | _=>exact absurd (show false=true from fx) AQ
 | bl a =>
  cases ry
  cases x with
  | non=>cases rx; exact Kv a
  | bl b=>cases rx; exact Kw a b
  | int b=>obtain⟨t,rfl⟩:=rx; exact Kx a b t
  | str b=>obtain⟨t,rfl⟩:=rx; exact Ky a b t
  | _=>exact absurd (show false=true from fx) AQ
 | int a =>
  obtain⟨t',rfl⟩:=ry
  cases x with
  | non=>cases rx; exact Kz a t'
  | bl b=>cases rx; exact K0 a t' b
  | int b=>obtain⟨t,rfl⟩:=rx; exact GP a t' b t
  | str b=>obtain⟨t,rfl⟩:=rx; exact GN a t' b t
  | _=>exact absurd (show false=true from fx) AQ
 | str a =>
  obtain⟨t',rfl⟩:=ry
  cases x with
  | non=>cases rx; exact K1 a t'
  | bl b=>cases rx; exact K3 a t' b
  | int b=>obtain⟨t,rfl⟩:=rx; exact GO a t' b t
  | str b=>obtain⟨t,rfl⟩:=rx; exact K4 a t' b t
  | _=>exact absurd (show false=true from fx) AQ
 | _=>exact absurd (show false=true from fy) AQ
noncomputable def eqU (x:V) (u:AB):Bool:=match u with
 | .none=>eqV .non x
 | .bool b=>eqV (.bl b) x
 | .int i _=>eqV (.int i) x
 | .str z _=>eqV (.str z) x
 | _=>false
theorem zH3{x y:V}{u:AB}(r:RelV y u)(f:flatV y=true):eqU x u=eqV y x:=by
 cases y with
 | non=>cases r; rfl
 | bl b=>cases r; rfl
 | int i=>obtain⟨t,rfl⟩:=r; rfl
 | str z=>obtain⟨t,rfl⟩:=r; rfl
 | _=>exact absurd (show false=true from f) AQ
theorem zCh{x:V}:∀ {xs:List V} {us:List AB},Vals xs us->xs.all flatV=true->us.any (eqU x)=xs.any fun y=>eqV y x
 | _,_,.nil,_=>rfl
 | y::xs,u::us,.cons r t,f=>by
  rw[DQ,Ax]at f
  rw[CW,CW,zH3 r f.1,zCh t f.2]
theorem zBh{A:A4}{s:AG}{x:V}{v:AB}(rx:RelV x v)(fx:flatV x=true):∀ {xs:List V} {us:List AB},Vals xs us->xs.all flatV=true->∀ u∈us,Fp A s u v (eqU x u)
 | _,_,.nil,_=>fun u hu=>by cases hu
 | y::xs,u::us,.cons r t,f=>fun u' hu=>by
  rw[DQ,Ax]at f
  rcases AS.mp hu with rfl | hu
  ·rw[zH3 r f.1]; exact zQI r rx f.1 fx
  ·exact zBh rx fx t f.2 u' hu
noncomputable def inV (x:V) (xs:List V):Bool:=xs.any fun y=>eqV y x
noncomputable def rIn (K:AU) (neg:Bool):R2:=fun x y H Q=>∃ p xs,y=.ref p/\(SqL K H p xs\/SqT K H p xs)/\flatV x=true/\xs.all flatV=true/\Q (.bl (if neg then !inV x xs else inV x xs)) H
theorem zLx:OpR X (BY .In) (rIn X.K false):=by
 intro pins s σ H x y v u Q I rx ry h
 obtain⟨p,xs,rfl,hq,fx,fs,q⟩:=h
 cases ry
 rcases hq with hq | hq
 ·obtain⟨its,r,pl,hz⟩:=I.list hq
  refine SeqAt.in_listAt (eqU x) pl.isList (fun w hw=>zBh rx fx r fs w (by simpa using hw)) ⟨.bl _,H,I,rfl,?_⟩
  rw[show its.toArray.any (eqU x)=its.any (eqU x) by simp,zCh r fs]
  exact q
 ·obtain⟨its,r,pl,hz⟩:=I.tuple hq
  refine SeqAt.in_tupleAt (eqU x) pl (fun w hw=>zBh rx fx r fs w (by simpa using hw)) ⟨.bl _,H,I,rfl,?_⟩
  rw[show its.toArray.any (eqU x)=its.any (eqU x) by simp,zCh r fs]
  exact q
theorem zHW:OpR X (BY .NotIn) (rIn X.K true):=by
 intro pins s σ H x y v u Q I rx ry h
 obtain⟨p,xs,rfl,hq,fx,fs,q⟩:=h
 cases ry
 rcases hq with hq | hq
 ·obtain⟨its,r,pl,hz⟩:=I.list hq
  refine SeqAt.notIn_listAt (eqU x) pl.isList (fun w hw=>zBh rx fx r fs w (by simpa using hw)) ⟨.bl _,H,I,rfl,?_⟩
  rw[show its.toArray.any (eqU x)=its.any (eqU x) by simp,zCh r fs]
  exact q
 ·obtain⟨its,r,pl,hz⟩:=I.tuple hq
  refine SeqAt.notIn_tupleAt (eqU x) pl (fun w hw=>zBh rx fx r fs w (by simpa using hw)) ⟨.bl _,H,I,rfl,?_⟩
  rw[show its.toArray.any (eqU x)=its.any (eqU x) by simp,zCh r fs]
  exact q
theorem zHs:CallR X (.builtin "len") (fun xs H Q=>∃ p ys,xs=[.ref p]/\(SqL X.K H p ys\/SqT X.K H p ys)/\Q (.int ys.length) H):=by
 intro pins s σ H xs us Q I r h
 obtain⟨p,ys,rfl,hq,q⟩:=h
 obtain⟨u,rfl,rx⟩:=vals1 r
 cases rx
 have hn:=line63
 rcases hq with hq | hq
 ·obtain⟨its,r',pl,hz⟩:=I.list hq
  have hlen:=r'.length
  exact Calls.call_len_list pl.isList (by simp only[AN] <;> lia) ⟨.int ys.length,H,I.tok _,⟨s.toks+1,by rw[AN,hlen]⟩,q⟩
 ·obtain⟨its,r',pl,hz⟩:=I.tuple hq
  have hlen:=r'.length
  exact len_tuple pl (by simp only[AN] <;> lia) ⟨.int ys.length,H,I.tok _,⟨s.toks+1,by rw[AN,hlen]⟩,q⟩
theorem zH1:CallR X (.builtin "len") (fun xs H Q=>∃ z,xs=[.str z]/\z.length<=AE/\Q (.int z.length) H):=by
 intro pins s σ H xs us Q I r h
 obtain⟨z,rfl,hz,q⟩:=h
 obtain⟨u,rfl,t,rfl⟩:=vals1 r
 have hn:=line63
 exact len_str (by lia) ⟨.int z.length,H,I.tok _,⟨_,rfl⟩,q⟩
theorem CallR.or{f:AB}{r r':List V->Hp->VK->Prop}(h:CallR X f r)(h':CallR X f r'):CallR X f (fun xs H Q=>r xs H Q\/r' xs H Q):=by
 intro pins s σ H xs us Q I rs q
 rcases q with q | q
 ·exact h pins s σ H xs us Q I rs q
 ·exact h' pins s σ H xs us Q I rs q
theorem zGq:CallR X (.type "list") (fun xs H Q=>∃ p ys,xs=[.ref p]/\(SqL X.K H p ys\/SqT X.K H p ys)/\∀ l,H l=none->Q (.ref l) (upd H l (.lst ys))):=by
 intro pins s σ H xs us Q I r h
 obtain⟨p,ys,rfl,hq,q⟩:=h
 obtain⟨u,rfl,rx⟩:=vals1 r
 cases rx
 have fin:∀ (its:List AB),Vals ys its->ys.length<=AE->∀ (h':Heap) (c':Nat),(∀ b o',s.heap.get? b=some o'->h'.get? b=some o') ->
   h'.get? s.heap.objs.size=some { cls:=.type "list",dict:=none,data:=.seq its.toArray c',slots:=#[] }->EP X pins σ Q (.ref s.heap.objs.size) { s with heap:=h' }:=fun its r' hz h' c' kp e =>
  ⟨.ref s.heap.objs.size,_,I.laid (t':=s.toks) kp (AL _) (show ObjOk X.prog X.w _ h' _ (.lst ys) from ⟨hz,its,c',r',e⟩),rfl,q _ (I.hok.fresh (AL _))⟩
 rcases hq with hq | hq
 ·obtain⟨its,r',pl,hz⟩:=I.list hq
  have hlen:=r'.length
  obtain⟨o,ho,hc,n,hd⟩:=pl.isList
  exact K5 p (.inl rfl) ho hc hd (fun h' c' kp e=>fin its r' hz h' c' kp e) (by simp only[AN] <;> lia)
 ·obtain⟨its,r',pl,hz⟩:=I.tuple hq
  have hlen:=r'.length
  obtain⟨o,ho,hc,n,hd⟩:=pl
  exact K5 p (.inr rfl) ho hc hd (fun h' c' kp e=>fin its r' hz h' c' kp e) (by simp only[AN] <;> lia)
theorem zGP:CallR X (.type "tuple") (fun xs H Q=>∃ p ys,xs=[.ref p]/\((SqL X.K H p ys/\∀ l,H l=none->Q (.ref l) (upd H l (.tup ys)))\/(SqT X.K H p ys/\Q (.ref p) H))):=by
 intro pins s σ H xs us Q I r h
 obtain⟨p,ys,rfl,h⟩:=h
 obtain⟨u,rfl,rx⟩:=vals1 r
 cases rx
 rcases h with ⟨hq,q⟩ | ⟨hq,q⟩
 ·obtain⟨its,r',pl,hz⟩:=I.list hq
  have hlen:=r'.length
  refine call_tuple_list pl.isList (fun h' kp=>?_) (by simp only[AN] <;> lia)
  have I1:Inv X pins σ H { s with heap:=h' }:=I.kept (t':=s.toks) kp
  have I2:Inv X pins σ (upd H h'.objs.size (.tup ys)) { s with heap:=h'.push { cls:=.type "tuple",data:=.seq its.toArray } } :=
   I1.laid (t':=s.toks) (fun b o e=>AM _ e) (AL _) (show ObjOk X.prog X.w _ _ _ (.tup ys) from ⟨hz,its,r',TupD.new _ _⟩)
  exact⟨.ref h'.objs.size,_,I2,rfl,q _ (I1.hok.fresh (AL _))⟩
 ·obtain⟨its,r',pl,hz⟩:=I.tuple hq
  exact call_tuple_same pl ⟨.ref p,H,I,rfl,q⟩
def tyV (K:AU) (T:String) (x:V) (H:Hp):Prop:=match x with
 | .str _=>T="str"
 | .int _=>T="int"
 | .ref p=>(T="list"/\∃ xs,SqL K H p xs)\/(T="tuple"/\∃ o,K.lookup p=some o/\o.cls=.type "tuple"/\o.dict=none) \/
   (T="dict"/\((∃ kvs,H p=some (.dK kvs))\/∃ kvs,H p=some (.dT kvs)))\/(T="set"/\∃ S n,H p=some (.set S n))
 | _=>False
theorem zMK{pins:List (Addr×Obj)}{σ:St}{H:Hp}{s:AG}{T:String}{x:V}{v:AB}(I:Inv X pins σ H s)(r:RelV x v)(ty:tyV X.K T x H) :
  s.TypeIs v T/\∀ a,v=.ref a->∃ ob,s.heap.get? a=some ob/\ob.dict=none:=by
 cases x with
 | str z =>
  obtain⟨t,rfl⟩:=r
  cases (show T="str" from ty)
  exact⟨typeIs_str s z t,fun _ e=>nomatch e⟩
 | int i =>
  obtain⟨t,rfl⟩:=r
  cases (show T="int" from ty)
  exact⟨Iv s i t,fun _ e=>nomatch e⟩
 | ref p =>
  cases r
  rcases ty with ⟨rfl,xs,hq⟩ | ⟨rfl,o,hk,hc,hd⟩ | ⟨rfl,hk⟩ | ⟨rfl,S,n,hk⟩
  ·obtain⟨its,_,pl,_⟩:=I.list hq
   refine⟨pl.isList.typeIs,fun a e=>?_⟩
   cases e
   obtain⟨o,n,e,c,hd,_⟩:=pl
   exact⟨o,e,hd⟩
  ·refine⟨⟨o,I.kIn p o hk,hc⟩,fun a e=>?_⟩
   cases e
   exact⟨o,I.kIn _ o hk,hd⟩
  ·have z:∃ o,s.heap.get? p=some o/\o.ExactDict:=by
    rcases hk with ⟨kvs,hk⟩ | ⟨kvs,hk⟩
    ·obtain⟨_,_,_,_,o,_,_,e,ex,_⟩:=I.hok p _ hk
     exact⟨o,e,ex⟩
    ·obtain⟨_,_,_,_,o,_,_,e,ex,_⟩:=I.hok p _ hk
     exact⟨o,e,ex⟩
   obtain⟨o,e,ex⟩:=z
   refine⟨⟨o,e,ex.1⟩,fun a e2=>?_⟩
   cases e2
   exact⟨o,e,ex.2.1⟩
  ·obtain⟨o,_,_,_,e,ex,_⟩:=I.hok p _ hk
   refine⟨⟨o,e,ex.1⟩,fun a e2=>?_⟩
   cases e2
   exact⟨o,e,ex.2.1⟩
 | _=>exact Bh ty
noncomputable def tBM0 (K:AU) (T:String) (r:V->List V->Hp->VK->Prop) (to:TE):TE:=fun σ H Q=>to σ H fun x H1=>tyV K T x H1/\r x [] H1 Q
noncomputable def tBM (K:AU) (T:String) (r:V->List V->Hp->VK->Prop) (to:TE) (t:TA):TE:=fun σ H Q=>to σ H fun x H1=>tyV K T x H1/\t σ H1 fun xs H2=>r x xs H2 Q
variable {o e:Expr}{es:List Expr}{to:TE}{t:TA}{name:Str}{apos cpos:Pos}{T id:String}{r:V->List V->Hp->VK->Prop}
theorem zP6(pa:PlainAttrs T)(slot:Slot T name id)(hty:Gp (.builtin id)=pure (.type "method_descriptor"))(hm:MtR X id r)(ho:PE X o to)
  (hbase:C4 o name X.env (eval o X.env)=eval o X.env:=by rfl) (hline:(apos.endLine == cpos.line)=true:=by rfl):PE X (.Call (.Attribute o name apos) [] [] cpos) (tBM0 X.K T r to):=by
 intro pins s σ H Q I h
 refine wpAny_Call_method0_late hbase hline (thn (ho pins s σ H _ I h) fun v s1 ⟨x,H1,I1,r1,ty,q1⟩=>?_)
 obtain⟨h1,h2⟩:=zMK I1 r1 ty
 exact⟨T,id,pa,slot,hty,h1,h2,C5 rfl (PySem.evalArgs_none (hm pins s1 σ H1 x [] v [] Q I1 r1 .nil q1))⟩
theorem zRQ(pa:PlainAttrs T)(slot:Slot T name id)(hty:Gp (.builtin id)=pure (.type "method_descriptor"))(hm:MtR X id r)(ho:PE X o to)(ha:PA X (e::es) t)
  (hbase:C4 o name X.env (eval o X.env)=eval o X.env:=by rfl)
  (hfew:((CT cpos (Ae (e::es) X.env)).all (fun x=>!x.1) && (Gq cpos (E1 [] X.env)).all (fun x=>x.1.isSome)
   && decide ((e::es).length+([]:List D9).length+(if ([]:List D9).isEmpty then 0 else 1) < 30))=true:=by rfl)
  (hline:(apos.endLine == cpos.line)=true:=by rfl) (hs:Ae (e::es) X.env=(false,eval e X.env)::Ae es X.env:=by rfl) (hplain:(CT cpos (Ae es X.env)).any (·.1)=false:=by rfl) :
  PE X (.Call (.Attribute o name apos) (e::es) [] cpos) (tBM X.K T r to t):=by
 intro pins s σ H Q I h
 refine Hm hbase hfew hline rfl (thn (ho pins s σ H _ I h) fun v s1 ⟨x,H1,I1,r1,ty,q1⟩=>?_)
 obtain⟨h1,h2⟩:=zMK I1 r1 ty
 refine⟨T,id,pa,slot,hty,h1,h2,?_⟩
 have hA:=ha cpos pins s1 σ H1 _ I1 q1
 rw[hs]at hA ⊢
 refine C5 (by show (false || (CT cpos (Ae es X.env)).any (·.1))=false; rw[hplain] <;> rfl) (EO ?_)
 exact thn hA fun us s2 ⟨vs,H2,I2,r2,q2⟩=>hm pins s2 σ H2 x vs v us Q I2 r1 r2 q2
end
noncomputable def MtM (X:Cx) (id:String) (r:V->List V->Hp->VK->Prop):Prop :=
 ∀ (pins:List (Addr×Obj)) (s:AG) (σ:St) (H:Hp) (x:V) (xs:List V) (v:AB) (us:List AB) (Q:VK),Inv X pins σ H s->RelV x v->Vals xs us->r x xs H Q ->
  AV (model X.prog X.w) X.A (call (.builtin id) (v::us)) (EP X pins σ Q) X.xe s
theorem Vals.one:∀ {x:V} {us:List AB},Vals [x] us->∃ u,us=[u]/\RelV x u
 | _,_,.cons r .nil=>⟨_,rfl,r⟩
theorem Vals.zero:∀ {us:List AB},Vals [] us->us=[]
 | _,.nil=>rfl
theorem Vals.dropLast{xs:List V}{us:List AB}(h:Vals xs us):Vals xs.dropLast us.dropLast:=by
 induction h with
 | nil=>exact .nil
 | cons r t ih =>
  cases t with
  | nil=>exact .nil
  | cons q t'=>exact .cons r ih
theorem Vals.eraseIdx:∀ {xs:List V} {us:List AB} (i:Nat),Vals xs us->Vals (xs.eraseIdx i) (us.eraseIdx i)
 | _,_,_,.nil=>.nil
 | _,_,0,.cons _ t=>t
 | _,_,i+1,.cons r t=>.cons r (Vals.eraseIdx i t)
theorem Vals.rep{xs:List V}{us:List AB}(h:Vals xs us):∀ k:Nat,Vals (Ac k xs).flatten (Ac k us).flatten
 | 0=>.nil
 | k+1=>by
  rw[B4,B4,CZ,CZ]
  exact Vals.append h (Vals.rep h k)
theorem zJp{α:Type}(l:List α):l.eraseIdx (l.length - 1)=l.dropLast:=by
 induction l with
 | nil=>rfl
 | cons a r ih =>
  cases r with
  | nil=>rfl
  | cons b r =>
   have e:(a::b::r).length - 1=((b::r).length - 1)+1:=by
    have h1:(a::b::r).length=r.length+2:=rfl
    have h2:(b::r).length=r.length+1:=rfl
    lia
   rw[e,List.eraseIdx_cons_succ,ih]
   all_goals rfl
theorem zF7{α:Type}:∀ (l:List α) (i:Nat),(l.eraseIdx i).length<=l.length
 | [],_=>AL _
 | _::_,0=>HJ _
 | _::r,i+1=>Nat.succ_le_succ (zF7 r i)
theorem zGG(its:List AB):∀ (k:Nat) (acc:List AB),
  EA (fun x1 x2=>x1++x2) acc.toArray (Ac k its.toArray)=(acc++(Ac k its).flatten).toArray
 | 0,acc=>by simp
 | k+1,acc=>by
  have e:acc.toArray++its.toArray=(acc++its).toArray:=by simp
  have e2:(acc++its)++(Ac k its).flatten=acc++(Ac (k+1) its).flatten:=by
   rw[B4,CZ,Bk]
  rw[← e2,← zGG its k (acc++its),← e,B4,EH]
section
variable {X:Cx}{pins:List (Addr×Obj)}{σ:St}{H:Hp}{s:AG}{l b:Addr}{xs ys zs:List V}
theorem Inv.lset{its its':List AB}{n:Nat}{f:Array AB->Array AB}{t':Nat}(I:Inv X pins σ H s)(hH:H l=some (.lst xs))
  (e:s.heap.get? l=some { cls:=.type "list",data:=.seq its.toArray n }) (hf:f its.toArray=its'.toArray) (hv:Vals ys its') (hz:ys.length<=AE) :
  Inv X pins σ (upd H l (.lst ys)) { s with heap:=s.heap.update l (Bc f),toks:=t' }:=by
 have q:=LD e f
 rw[hf]at q
 refine I.write (x:=l) (e:=l) (by rw[hH]; exact trivial) (.inl rfl) (fun b' u hb hu=>(Gg s.heap (Bc f) (BC hb)).trans hu) ⟨_,q⟩ ?_
 exact⟨hz,its',_,hv,q⟩
theorem Inv.lnew{its:List AB}{t':Nat}(I:Inv X pins σ H s)(hv:Vals ys its)(hz:ys.length<=AE) :
  Inv X pins σ (upd H s.heap.objs.size (.lst ys)) { s with heap:=s.heap.push { cls:=.type "list",data:=.seq its.toArray },toks:=t' } :=
 I.laid (fun _ _ q=>AM _ q) (AL _) ⟨hz,its,0,hv,AZ _ rfl⟩
theorem Inv.fresh(I:Inv X pins σ H s):H s.heap.objs.size=none:=I.hok.fresh (AL _)
theorem Inv.lstM(I:Inv X pins σ H s)(hH:H l=some (.lst xs)):xs.length<=AE/\∃ (its:List AB) (n:Nat),Vals xs its/\xs.length=its.length/\s.heap.get? l=some { cls:=.type "list",data:=.seq its.toArray n }:=by
 obtain⟨z,its,n,r,e⟩:=I.hok l _ hH
 exact⟨z,its,n,r,r.length,e⟩
theorem notLongL{n:Nat}(h:n<=AE):Ca n=false:=by
 unfold Ca
 exact decide_eq_false (by lia)
end
section
variable {X:Cx}
noncomputable def rAppend:V->List V->Hp->VK->Prop:=fun x vs H Q=>∃ l xs y,x=.ref l/\vs=[y]/\H l=some (.lst xs)/\xs.length < AE/\Q .non (upd H l (.lst (xs++[y])))
theorem zCN:MtM X "list.append" rAppend:=by
 intro pins s σ H x vs v us Q I rx rv h
 obtain⟨l,xs,y,rfl,rfl,hH,hz,q⟩:=h
 cases rx
 obtain⟨u,rfl,ru⟩:=rv.one
 obtain⟨z,its,n,r,hl,e⟩:=I.lstM hH
 refine DZ F.slot_list_append ⟨_,e,rfl⟩ F.entry_list_append (F.args_list_append_2 _ _) (PySem.list_append l its.toArray n u (by rw[AN]; lia)) ⟨e,?_⟩
 refine⟨.non,_,I.lset (its':=its++[u]) hH e (by simp) (r.append (.cons ru .nil)) ?_,rfl,q⟩
 rw[BQ,DK]
 lia
noncomputable def rExtend:V->List V->Hp->VK->Prop:=fun x vs H Q=>∃ l b xs zs,x=.ref l/\vs=[.ref b]/\H l=some (.lst xs)/\H b=some (.lst zs)/\xs.length+zs.length<=AE/\Q .non (upd H l (.lst (xs++zs)))
theorem zLL:MtM X "list.extend" rExtend:=by
 intro pins s σ H x vs v us Q I rx rv h
 obtain⟨l,b,xs,zs,rfl,rfl,hH,hB,hz,q⟩:=h
 cases rx
 obtain⟨u,rfl,ru⟩:=rv.one
 cases ru
 obtain⟨z,its,n,r,hl,e⟩:=I.lstM hH
 obtain⟨z2,its2,n2,r2,hl2,e2⟩:=I.lstM hB
 have hsz:its.toArray.size+its2.toArray.size<=AE:=by rw[AN,AN]; lia
 have hlong:¬ (!its.toArray.isEmpty && Ca (its.toArray.size+its2.toArray.size))=true:=by
  rw[notLongL hsz,Ia]
  exact AQ
 refine DZ F.slot_list_extend ⟨_,e,rfl⟩ F.entry_list_extend (F.args_list_extend_2 _ _)
  (AutoSeq1.list_extend_list_list_0 l its.toArray n b its2.toArray n2 hlong (by rw[AN]; lia) (by lia)) ⟨e,e2,?_⟩
 refine⟨.non,_,I.lset (its':=its++its2) hH e (by simp) (r.append r2) ?_,rfl,q⟩
 rw[BQ]
 lia
noncomputable def rPop:V->List V->Hp->VK->Prop:=fun x vs H Q=>∃ l xs y,x=.ref l/\vs=[]/\H l=some (.lst xs)/\xs[xs.length - 1]?=some y/\Q y (upd H l (.lst xs.dropLast))
theorem zPs:MtM X "list.pop" rPop:=by
 intro pins s σ H x vs v us Q I rx rv h
 obtain⟨l,xs,y,rfl,rfl,hH,hy,q⟩:=h
 cases rx
 have hus:=rv.zero
 subst hus
 obtain⟨z,its,n,r,hl,e⟩:=I.lstM hH
 obtain⟨u,hu,ru⟩:=r.get hy
 have hy':its.toArray[its.toArray.size - 1]?=some u:=by
  show its.toArray[its.length - 1]?=some u
  rw[← Bl,← hl]
  exact hu
 refine DZ JN ⟨_,e,rfl⟩ Iw (F.args_list_pop_1 _) (MeetsSeq.list_pop_last l its.toArray n u hy' (by rw[AN]; lia)) ⟨e,?_⟩
 refine⟨y,_,I.lset (its':=its.dropLast) hH e ?_ r.dropLast ?_,ru,q⟩
 ·show its.toArray.eraseIdxIfInBounds (its.toArray.size - 1)=its.dropLast.toArray
  rw[AN,FE,zJp]
 ·rw[List.length_dropLast]
  lia
noncomputable def rPopAt:V->List V->Hp->VK->Prop:=fun x vs H Q=>∃ l xs i k y,x=.ref l/\vs=[.int i]/\H l=some (.lst xs)/\-(2 ^ 63)<=i/\i < 2 ^ 63/\E8 i xs.length=some k/\xs[k]?=some y/\Q y (upd H l (.lst (xs.eraseIdx k)))
theorem zMT:MtM X "list.pop" rPopAt:=by
 intro pins s σ H x vs v us Q I rx rv h
 obtain⟨l,xs,i,k,y,rfl,rfl,hH,h1,h2,hk,hy,q⟩:=h
 cases rx
 obtain⟨u,rfl,ru⟩:=rv.one
 obtain⟨t,rfl⟩:=ru
 obtain⟨z,its,n,r,hl,e⟩:=I.lstM hH
 obtain⟨w,hw,rw'⟩:=r.get hy
 refine DZ JN ⟨_,e,rfl⟩ Iw (F.args_list_pop_2 _ _)
  (MeetsSeq.list_pop_at l its.toArray n i t k w (KR h1 h2) (by rw[AN,← hl]; exact hk) (by rw[← Bl]; exact hw) (by rw[AN]; lia)) ⟨e,?_⟩
 refine⟨y,_,I.lset (its':=its.eraseIdx k) hH e ?_ (r.eraseIdx k) ?_,rw',q⟩
 ·show its.toArray.eraseIdxIfInBounds k=(its.eraseIdx k).toArray
  rw[FE]
 ·have:=zF7 xs k
  lia
noncomputable def rCat:R2:=fun x y H Q=>∃ l b xs zs,x=.ref l/\y=.ref b/\H l=some (.lst xs)/\H b=some (.lst zs)/\xs.length+zs.length<=AE/\∀ p,H p=none->Q (.ref p) (upd H p (.lst (xs++zs)))
theorem zP0:OpR X (CU .Add) rCat:=by
 intro pins s σ H x y v u Q I rx ry h
 obtain⟨l,b,xs,zs,rfl,rfl,hH,hB,hz,q⟩:=h
 cases rx
 cases ry
 obtain⟨z,its,n,r,hl,e⟩:=I.lstM hH
 obtain⟨z2,its2,n2,r2,hl2,e2⟩:=I.lstM hB
 refine PySem.P.add_list e e2 ?_ (by rw[AN,AN]; lia)
 have ea:its.toArray++its2.toArray=(its++its2).toArray:=by simp
 rw[ea]
 exact⟨.ref _,_,I.lnew (t':=s.toks) (r.append r2) (by rw[BQ]; lia),rfl,q _ I.fresh⟩
noncomputable def rRep:R2:=fun x y H Q=>∃ l k xs,x=.ref l/\y=.int k/\H l=some (.lst xs)/\-(2 ^ 63)<=k/\k < 2 ^ 63/\xs.length * k.toNat<=AE /\
 ∀ p,H p=none->Q (.ref p) (upd H p (.lst (Ac k.toNat xs).flatten))
theorem zOl{α:Type}(xs:List α)(k:Nat):(Ac k xs).flatten.length=k * xs.length:=by
 induction k with
 | zero=>simp
 | succ k ih=>rw[B4,CZ,BQ,ih,Nat.succ_mul,Ji]
theorem zPz:OpR X (CU .Mult) rRep:=by
 intro pins s σ H x y v u Q I rx ry h
 obtain⟨l,k,xs,rfl,rfl,hH,h1,h2,hz,q⟩:=h
 cases rx
 obtain⟨t,rfl⟩:=ry
 obtain⟨z,its,n,r,hl,e⟩:=I.lstM hH
 have hlen:its.toArray.size * k.toNat<=AE:=by rw[AN,← hl]; exact hz
 have hcap:¬ its.toArray.size * k.toNat > (2 ^ 63 - 1) / 8:=by
  have:(AE:Nat)<=(2 ^ 63 - 1) / 8:=by decide
  lia
 have hfit:¬ (!Builtin.List.listFitsIndex k)=true:=by
  rw[KR h1 h2]
  exact AQ
 have hlong:¬ Ca (its.toArray.size * k.toNat)=true:=by
  rw[notLongL hlen]
  exact AQ
 have hnew:EA (fun x1 x2=>x1++x2) #[] (Ac (if its.toArray.isEmpty=true then 0 else k.toNat) its.toArray)=(Ac k.toNat its).flatten.toArray:=by
  have f0:∀ m:Nat,EA (fun x1 x2=>x1++x2) #[] (Ac m its.toArray)=(Ac m its).flatten.toArray:=fun m=>by
   have:=zGG its m []
   rw[IL]at this
   exact this
  rw[f0]
  cases its with
  | nil=>simp
  | cons a r'=>rw[if_neg (by simp)]
 refine wpAny_binaryOp_repeat_ref (T:="list") (U:="int") (by decide) ⟨_,e,rfl⟩ (fun s'=>Iv s' k t) noFill_list_mul F.fills_int_mul JO repeat_list F.slot_int_index.lookup
  (DZ JO (Iv s k t) F.entry_int_rmul (F.args_int_rmul_2 _ _) (int___rmul___int_list k t l its.toArray n)
   ⟨e,rfl,⟨_,e,rfl⟩,DZ F.slot_list_mul ⟨_,e,rfl⟩ F.entry_list_mul (F.args_list_mul_2 _ _) (LF l its.toArray n k t hfit hcap hlong) ⟨e,?_⟩⟩)
 rw[hnew]
 exact⟨.ref _,_,I.lnew (t':=s.toks) (r.rep k.toNat) (by rw[zOl,Nat.mul_comm]; exact hz),rfl,q _ I.fresh⟩
end
end L2
namespace Att
open PySem PySem.W PySem.Calls PyProof.Rows
theorem zEw{P:KS}{h:Heap}:∀ (ns:List Int) (vs:List AB),WellAll P h vs (ns.map WData.int)->By vs ns:=by
 intro ns
 induction ns with
 | nil =>
  intro vs w
  rw[Ay]at w
  cases w
  exact .nil
 | cons n ns ih =>
  intro vs w
  rw[AJ]at w
  cases w with
  | cons a b =>
   cases a
   exact .cons _ _ (ih _ b)
theorem zL0{l:OpenLaw}{n:Nat}(hn:l.most=some n){P:KS}{h:Heap}{args:List WData}{vals:List AB}
  (hpre:l.row.toRowW.claim.pre args=true) (hwl:WellAll P h vals args) :
  ∃ a vs ns,vals=[BP a]/\args=[WData.list (ns.map WData.int)]/\h.get? a=some { cls:=.type "list",data:=.seq vs.toArray }/\By vs ns/\ns.length<=n:=by
 have hsh:WShape.hasAll [] args [.list .int]=true:=(pre_splitW hpre).1
 have hc:l.pre.holds [] { args:=args }=true:=(pre_splitW hpre).2
 obtain⟨d,r,rfl,h1,h2⟩:=hasAllW_cons hsh
 obtain rfl:=hasAllW_nil h2
 obtain⟨xs,rfl,h3⟩:=hasW_list h1
 obtain⟨ns,rfl⟩:=items_int h3
 have hlen:ns.length<=n:=by
  unfold OpenLaw.pre at hc
  have h4:(WTm.not (.lt (.lit (.int (n:Int))) (.len (.arg 0)))).holds [] { args:=[.list (ns.map .int)] }=true:=by
   have h4:=(holds_andW hc).1
   rw[hn]at h4
   exact h4
  have h5:=condW_of h4 (w_not (w_lt w_lit (w_len_list (w_arg rfl))))
  rw[Ak]at h5
  refine Nat.le_of_not_lt fun q=>?_
  have q':(n:Int) < ((ns.length:Nat):Int):=by lia
  first
   | (rw[decide_eq_true q']at h5; exact absurd h5 (by decide))
   | (simp at h5; lia)
 cases hwl with
 | cons w1 w2 =>
  cases w2
  cases w1 with
  | list ho hall=>exact⟨_,_,ns,rfl,rfl,ho,zEw ns _ hall,hlen⟩
theorem zLc(l:OpenLaw)(args:List WData):l.row.toRowW.claim.post args (.bool true) args=true :=
 postW_of (r:=l.row.toRowW) (X:=(true == true))
  (show WShape.has [] (.bool true) .bool=true by first | rfl | decide | simp[WShape.has,WShape.arms,WShape.armsAll])
  (show (WTm.eq .res (.lit (.bool true))).value [] { args:=args,res:=some (.bool true),after:=args }=some (.bool (true == true)) from w_eq_bool (w_res rfl) w_lit) rfl
theorem attach_call{l:OpenLaw}{n:Nat}{q:Ah}{loose:List Str}{XP:(Str->Option AB)->Heap->Prop}{YP:Aw->Heap->Prop}{d:DefRec}
  (hn:l.most=some n) (hdf:d.params.defaults=[])
  (call:∀ (w:Aw) (s₀ s₁:AG) (mg mb:Str->Option AB) (fa:Addr) (o:Obj) (pm cd doc:AB) (a:Addr) (vs:List AB) (ns:List Int),
   Ground q loose [] XP w s₀ mg mb s₁.heap->YP w s₁.heap ->
   s₁.heap.get? fa=some o->o.data=.func (docDef d.name d.params d.body d.scope pm cd doc)->s₁.heap.CodeRec cd d.name->mg d.name=some (.ref fa) ->
   s₁.heap.get? a=some { cls:=.type "list",data:=.seq vs.toArray }->By vs ns->ns.length<=n->s₁.gens=#[] ->
   Fl (model l.prog w) Fs (.call (.ref fa) ⟨[.ref a],[]⟩) (fun r s'=>r=.ok (.ret (.bool true))/\OldK s₁.heap s'.heap/\s'.os=s₁.os/\Eb s'.gens) s₁) :
  WalkO q loose XP YP l.row.toRowW d [] (fun f vs=>HK f vs):=by
 intro w s₀ s₁ mg mb G Y fa o pm cd doc dV kV ho hd hcd hD hmg hg args vals as hpre hlay hrd hwl hlo
 obtain rfl:dV=.none:=Dflts.none hD hdf
 obtain rfl:kV=.none:=Dflts.noKw hD
 obtain⟨a,vs,ns,rfl,rfl,hobj,hints,hlen⟩:=zL0 hn hpre hwl
 refine enter_call (Fo (call w s₀ s₁ mg mb fa o pm cd doc a vs ns G Y ho (fd_plain hd) hcd hmg hobj hints hlen hg) fun r s' hq=>?_)
 obtain⟨rfl,h2,h3,h4⟩:=hq
 exact⟨.inl ⟨.bool true,.bool true,[],rfl,fun _=>rfl,.bool true,zLc l _,fun _=>⟨Jj,fun _ hm=>(nomatch hm)⟩⟩,h2,h3,h4⟩
end Att
namespace L2
open PySem PySem.Spec PyProof.Rows
theorem zFu:∀ {vs:List AB} {ns:List Int},By vs ns->Vals (ns.map V.int) vs
 | _,_,.nil=>.nil
 | _,_,.cons n t h=>.cons ⟨t,rfl⟩ (zFu h)
def Only (H:Hp):Prop:=∀ b,H b=none\/∃ o xs,H b=some (.frz o (.lst xs))
theorem zMM{P:Ah}{w:Aw}{K:AU}{mg mb:Str->Option AB}{CX:CXT}{k:Nat}{fa a:Addr}{fd:Ai}{x:Str}{sp:Sp}{s₁:AG}{vs:List AB}{ns:List Int}
  (KX:K.In s₁.heap) (hns:s₁.heap.Ns Av mg) (hb:s₁.heap.Ns Gk mb) (hbb:∀ x:Str,x≠"__name__"->mb x=CN x) (hlim:s₁.heap.NoLimit) (hg:s₁.gens=#[])
  (ha:s₁.heap.get? a=some { cls:=.type "list",data:=.seq vs.toArray }) (hi:By vs ns) (hl:ns.length<=AE) (hr:Room k Fs)
  (F:∀ base:Heap,K.In base->base.Ns Av mg->FnOk P w K mg base CX k fa fd [x] sp) (hbind:∀ (s:AG) (u:AB),Gf s fd ⟨[u],[]⟩ [(x,u)])
  (hsp:∀ H:Hp,Only H->SqL K H a (ns.map V.int)->sp [.ref a] H (fun v _=>v=.bl true) fun _ _ _=>False)
  (hCX:∀ H e s',CX [] H s₁ (fun _ _ _=>False) e s'->False) :
  Fl (model P w) Fs (.call (.ref fa) ⟨[.ref a],[]⟩) (fun r s'=>r=.ok (.ret (.bool true))/\OldK s₁.heap s'.heap/\s'.os=s₁.os/\Eb s'.gens) s₁:=by
 have rv:=zFu hi
 have lenV:=hi.length
 have core:∀ H:Hp,Only H->SqL K H a (ns.map V.int)->HOk P w H s₁.heap->(∀ b,H b≠none->b=a)->(H a≠none->K.lookup a=none) ->
   Fl (model P w) Fs (.call (.ref fa) ⟨[.ref a],[]⟩) (fun r s'=>r=.ok (.ret (.bool true))/\OldK s₁.heap s'.heap/\s'.os=s₁.os/\Eb s'.gens) s₁:=by
  intro H hO hS hok hA hK
  have base_of:∀ {b:Addr} {o:Obj},s₁.heap.get? b=some o->H b=none->(hidT s₁.heap H).get? b=some o:=fun e n=>zMU e n
  have noA:∀ {b:Addr} {o:Obj} {es:Array Da} {ep:Nat},s₁.heap.get? b=some o->o.data=.dict es ep->H b=none:=fun {b o es ep} e d=>by
   cases q:H b with
   | none=>rfl
   | some u =>
    have e':b=a:=hA b (by rw[q]; simp)
    subst e'
    rw[ha]at e; cases e
    have d':Data.seq vs.toArray _=Data.dict es ep:=d
    cases d'
  have nsK:∀ {b:Addr} {m:Str->Option AB},s₁.heap.Ns b m->(hidT s₁.heap H).Ns b m:=fun {b m} ⟨o,es,ep,e,d,r⟩=>⟨o,es,ep,base_of e (noA e d),d,r⟩
  have hKb:K.In (hidT s₁.heap H):=fun b o e=>base_of (KX b o e) (by
   cases q:H b with
   | none=>rfl
   | some u =>
    have e':b=a:=hA b (by rw[q]; simp)
    subst e'
    rw[hK (by rw[q]; simp)]at e; cases e)
  have hM:Mod K mg (hidT s₁.heap H):=⟨hKb,nsK hns,⟨mb,nsK hb,hbb⟩,let ⟨mc,h1,h2⟩:=hlim; ⟨mc,nsK h1,h2⟩⟩
  have e0:Env0 P w K mg (hidT s₁.heap H) Fs [] s₁ H:=⟨rfl,hM,fun b o e=>zOH e,Dl (zLC _ _),trivial,fun b hb=>absurd (show b∈([]:List Addr) from hb) (by simp),hok,.of_eq hg⟩
  refine Fo ((F _ hKb (nsK hns)).run Fs [] s₁ H ⟨[.ref a],[]⟩ [.ref a] [.ref a] _ _ hr e0 (hbind s₁ (.ref a)) (.cons rfl .nil) (hsp H hO hS)) fun r s' h=>?_
  cases r with
  | error e=>exact (hCX H e s' h).elim
  | ok fl =>
   cases fl with
   | next=>exact Bh h
   | brk=>exact Bh h
   | cont=>exact Bh h
   | ret u =>
    obtain⟨v,H',os,bare,un,hok',r',q⟩:=h
    have q':v=.bl true:=q
    subst q'
    obtain rfl:u=Ep true:=r'
    refine⟨rfl,OldK.of_keep fun b o e=>?_,os,bare⟩
    cases q:H b with
    | none=>exact un.keep b o e q (by intro z; exact absurd (show b∈([]:List Addr) from z) (by simp)) (by simp)
    | some u =>
     rcases hO b with z | ⟨ob,xs,z⟩
     ·rw[q]at z; cases z
     ·have z2:=un.frzs b ob _ z
      obtain⟨e1,_⟩:=hok b _ z
      obtain⟨e2,_⟩:=hok' b _ z2
      rw[e]at e1; cases e1
      exact e2
 cases hk:K.lookup a with
 | some o =>
  have e:=KX a o hk
  rw[ha]at e
  cases e
  refine core (fun _=>none) (fun _=>.inl rfl) (.inr ⟨_,vs.toArray,_,hk,rfl,rfl,rfl,by rw[AN,lenV]; exact hl,by simpa using rv⟩) (fun b u z=>by have z':(none:Option HO)=some u:=z; cases z') (fun b z=>absurd rfl z) fun z=>absurd rfl z
 | none =>
  refine core (fun b=>if b=a then some (.frz { cls:=.type "list",data:=.seq vs.toArray } (.lst (ns.map V.int))) else none) (fun b=>?_) (.inl (.inr ⟨{ cls:=.type "list",data:=.seq vs.toArray },if_pos rfl⟩)) (fun b u z=>?_) (fun b z=>?_) fun _=>hk
  ·by_cases hb:b=a
   ·exact .inr ⟨_,_,if_pos hb⟩
   ·exact .inl (if_neg hb)
  ·by_cases hb:b=a
   ·have z':=(if_pos hb).symm.trans z
    cases z'
    subst hb
    exact⟨ha,by rw[Ak]; exact hl,vs,_,rv,ha⟩
   ·have z':=(if_neg hb).symm.trans z
    cases z'
  ·by_cases hb:b=a
   ·exact hb
   ·exact absurd (if_neg hb) z
theorem walk_of{l:FG}{n k:Nat}{q:Ah}{loose:List Str}{XP:(Str->Option AB)->Heap->Prop}{YP:Aw->Heap->Prop}{d:DefRec}{K:KS->AU}{CX:Aw->CXT}{sp:Aw->Sp}{x:Str}
  (hn:l.most=some n) (hn2:n<=AE) (hdf:d.params.defaults=[]) (hr:Room k Fs)
  (hY:∀ (w:Aw) (h:Heap),YP w h->(K w.params).In h)
  (F:∀ (w:Aw) (mg:Str->Option AB) (fa:Addr) (h:Heap),(K w.params).In h->h.Ns Av mg->mg d.name=some (.ref fa) ->
   ∃ fd:Ai,(∀ (s:AG) (u:AB),Gf s fd ⟨[u],[]⟩ [(x,u)]) /\
    ∀ base:Heap,(K w.params).In base->base.Ns Av mg->FnOk l.prog w (K w.params) mg base (CX w) k fa fd [x] (sp w))
  (hsp:∀ (w:Aw) (H:Hp) (a:Addr) (ns:List Int),ns.length<=n->Only H->SqL (K w.params) H a (ns.map V.int)->sp w [.ref a] H (fun v _=>v=.bl true) fun _ _ _=>False)
  (hCX:∀ (w:Aw) (H:Hp) (s:AG) (e:AB) (s':AG),CX w [] H s (fun _ _ _=>False) e s'->False) :
  IF q loose XP YP l.row.toRowW d [] (fun f vs=>HK f vs):=by
 refine Att.attach_call hn hdf fun w s₀ s₁ mg mb fa o pm cd doc a vs ns G Y ho hd hcd hmg hobj hints hlen hg=>?_
 have KX:=hY w _ Y
 obtain⟨fd,hb,hF⟩:=F w mg fa _ KX G.T.g hmg
 exact zMM KX G.T.g G.T.b G.T.builtins G.T.nolimit hg hobj hints (Al hlen hn2) hr hF hb (fun H hO hS=>hsp w H a ns hlen hO hS) fun H e s'=>hCX w H s₁ e s'
noncomputable def defArgs (s:Stmt):Arguments:=match s with
 | .FunctionDef _ a _ _ _ _ _ _ _ _=>a
 | _=>{ posonlyargs:=[],args:=[],vararg:=none,kwonlyargs:=[],kw_defaults:=[],kwarg:=none,defaults:=[] }
noncomputable def defBody (s:Stmt):List Stmt:=match s with
 | .FunctionDef _ _ b _ _ _ _ _ _ _=>b
 | _=>[]
noncomputable def defScope (s:Stmt):Cg:=match s with
 | .FunctionDef _ _ _ _ _ _ sc _ _ _=>sc
 | _=>{ kind:=.function,names:=[],isGenerator:=false,isCoroutine:=false }
noncomputable abbrev CX0:CXT:=fun _ _ _ _ _ _=>False
noncomputable abbrev E0:XK:=fun _ _ _=>False
theorem pass0{X:Cx}:Passes CX0 X E0:=fun _ _ _ _ _ _ _ h=>h.elim
structure Fun(K:AU)(x qual:Str)(st:Stmt)(f:Addr)(fd:Ai):Prop where
 ex:∃ (oc:AB) (od:Option Addr) (kV doc pm:AB) (an:Option Addr) (cdv ct:AB) (osl:Array (Option AB)),
  fd=DU x qual (defArgs st) (defBody st) (defScope st) .none kV doc pm an cdv ct/\K.lookup f=some ⟨oc,od,.func fd,osl⟩/\DY K cdv qual=true
 kp:CY K (.ref f)=true
section
variable {P:Ah}{w:Aw}{K:AU}{mg:Str->Option AB}{base:Heap}
theorem Fun.ok{x qual:Str}{st:Stmt}{f:Addr}{fd:Ai}{N ps:List Str}{k:Nat}{sp:Sp}(F:Fun K x qual st f fd)(S:FnScope N ps (defScope st))(len:∀ vs H Q E,sp vs H Q E->vs.length=ps.length)
  (hbody:∀ (cdv:AB) (A:A4) (outer:List Env) (s:AG) (H:Hp) (vs:List V) (Q:VK) (E:XK),Room k (A.deeper (FZ qual (defScope st) s.heap.objs.size f cdv))->sp vs H Q E ->
   ∃ t,PSs (cxOf CX0 P w K mg base N qual (defScope st) f cdv A outer s H E).nox (defBody st) t/\t { nx:=fun _ H'=>Q .non H',rt:=Q } (start N vs) H):FnOk P w K mg base CX0 (k+1) f fd ps sp:=by
 obtain⟨oc,od,kV,doc,pm,an,cdv,ct,osl,rfl,lk,hcd⟩:=F.ex
 refine zQi lk hcd S len fun A outer s H vs Q E hr hsp=>?_
 obtain⟨t,h,q⟩:=hbody cdv A outer s H vs Q E hr hsp
 exact⟨t,h.nox,q⟩
theorem Fun.binds{x qual:Str}{st:Stmt}{f:Addr}{fd:Ai}{ps:List Str}(F:Fun K x qual st f fd)
  (h:∀ (kV doc pm:AB) (an:Option Addr) (cdv ct:AB) (us:List AB),us.length=ps.length->bindArgs (DU x qual (defArgs st) (defBody st) (defScope st) .none kV doc pm an cdv ct) ⟨us,[]⟩=pure (ps.zip us)):Binds K fd ps []:=by
 obtain⟨oc,od,kV,doc,pm,an,cdv,ct,osl,rfl,lk,hcd⟩:=F.ex
 exact .all (h kV doc pm an cdv ct)
theorem zLH{x qual:Str}{st:Stmt}{f:Addr}{oc:AB}{od an:Option Addr}{osl:Array (Option AB)}{kV doc pm cdv ct:AB}(l:K.lookup f=some ⟨oc,od,.func (DU x qual (defArgs st) (defBody st) (defScope st) .none kV doc pm an cdv ct),osl⟩)
  (c:DY K cdv qual=true) (k:CY K (.ref f)=true):Fun K x qual st f (DU x qual (defArgs st) (defBody st) (defScope st) .none kV doc pm an cdv ct):=⟨⟨oc,od,kV,doc,pm,an,cdv,ct,osl,rfl,l,c⟩,k⟩
end
def Same (H H':Hp):Prop:=∀ b o,H b=some o->H' b=some o
theorem Same.refl(H:Hp):Same H H:=fun _ _ h=>h
end L2
set_option maxHeartbeats 4000000
namespace L2
open PySem PySem.Spec PyProof.Rows
noncomputable def cloOf (cells:List (Str×Addr)):List (Str×CK)->List (Str×Addr)->List (Str×Addr)
 | [],acc=>acc
 | (n,k)::r,acc=>if k == .free then cloOf cells r ((n,(cells.lookup n).getD 0)::acc) else cloOf cells r acc
theorem zGL{scope:Cg}{env:Env}(h:∀ x∈scope.names,x.2=.free->∃ c,env.cells.lookup x.1=some c):closureFor scope env=pure (cloOf env.cells scope.names []):=by
 have go:∀ (names:List (Str×CK)) (acc:List (Str×Addr)),(∀ x∈names,x.2=.free->∃ c,env.cells.lookup x.1=some c) ->
   (forIn names acc fun (x:Str×CK) (cs:List (Str×Addr))=>if (x.2 == Ba)=true then (do let c ← cellOf env x.1; pure (Cj ((x.1,c)::cs))) else (pure (Cj cs):Sem _))=(pure (cloOf env.cells names acc):Sem _):=by
  intro names
  induction names with
  | nil=>intro acc _; rfl
  | cons x r ih =>
   intro acc hx
   obtain⟨n,k⟩:=x
   rw[List.forIn_cons]
   have hr:=fun acc=>ih acc fun y hy=>hx y (AF _ hy)
   unfold cloOf
   by_cases hk:(k == Ba)=true
   ·obtain⟨c,hc⟩:=hx (n,k) AH (by simpa using hk)
    have hc':env.cells.lookup n=some c:=hc
    have e:cellOf env n=pure c:=by unfold cellOf; rw[hc']
    simp only[hk,if_true,e,hc',BV,pure_bind]
    exact hr _
   ·simp only[hk,if_false,pure_bind]
    exact hr _
 unfold closureFor
 have:=go scope.names [] h
 simp only[bind_pure]
 exact this
theorem zBX{cells:List (Str×Addr)}{x:Str}{c:Addr}:∀ (names:List (Str×CK)) (acc:List (Str×Addr)),(cloOf cells names acc).lookup x=some c->((x,Ba)∈names/\c=(cells.lookup x).getD 0)\/acc.lookup x=some c
 | [],acc,h=>.inr h
 | (n,k)::r,acc,h=>by
  unfold cloOf at h
  by_cases hk:(k == Ba)=true
  ·rw[if_pos hk]at h
   have hk':k=.free:=by simpa using hk
   subst hk'
   rcases zBX r _ h with ⟨a,b⟩ | h'
   ·exact .inl ⟨AF _ a,b⟩
   ·clear h
    rw[B9]at h'
    cases e:x == n with
    | true =>
         rw[e]at h'; have q:x=n:=by simpa using e
         subst q
         have q2:(cells.lookup x).getD 0=c:=Ab h'
         exact .inl ⟨AH,q2.symm⟩
    | false=>rw[e]at h'; exact .inr h'
  ·rw[if_neg hk]at h
   rcases zBX r _ h with ⟨a,b⟩ | h
   ·exact .inl ⟨AF _ a,b⟩
   ·exact .inr h
theorem zC3{cells:List (Str×Addr)}{x:Str}:∀ (names:List (Str×CK)) (acc:List (Str×Addr)),((x,Ba)∈names\/(acc.lookup x).isSome=true)->((cloOf cells names acc).lookup x).isSome=true
 | [],acc,h=>h.elim (fun z=>nomatch z) id
 | (n,k)::r,acc,h=>by
  unfold cloOf
  by_cases hk:(k == Ba)=true
  ·rw[if_pos hk]
   refine zC3 r _ ?_
   by_cases e:x=n
   ·subst e; exact .inr (by simp)
   ·rcases h with h | h
    ·rcases AS.mp h with h | h
     ·cases h; exact absurd rfl e
     ·exact .inl h
    ·refine .inr ?_
     rw[B9]
     have:(x == n)=false:=by simpa using e
     rw[this]; exact h
  ·rw[if_neg hk]
   refine zC3 r _ ?_
   rcases h with h | h
   ·rcases AS.mp h with h | h
    ·cases h; exact absurd rfl hk
    ·exact .inl h
   ·exact .inr h
theorem zBo{x:Str}{c:Addr}:∀ (names:List (Str×CK)) (n:Nat) (acc:List (Str×Addr)),(BO n names acc).lookup x=some c->(n<=c/\(x,Bs)∈names)\/acc.lookup x=some c
 | [],_,acc,h=>.inr h
 | (y,k)::r,n,acc,h=>by
  unfold BO at h
  by_cases hk:(k == Bs)=true
  ·rw[if_pos hk]at h
   have hk':k=.cell:=by simpa using hk
   subst hk'
   rcases zBo r _ _ h with ⟨a,b⟩ | h'
   ·exact .inl ⟨by lia,AF _ b⟩
   ·clear h
    rw[B9]at h'
    cases e:x == y with
    | true =>
         rw[e]at h'; have q:x=y:=by simpa using e
         have q2:n=c:=Ab h'
         subst q q2; exact .inl ⟨AL _,AH⟩
    | false=>rw[e]at h'; exact .inr h'
  ·rw[if_neg hk]at h
   rcases zBo r _ _ h with ⟨a,b⟩ | h
   ·exact .inl ⟨a,AF _ b⟩
   ·exact .inr h
theorem zHy{x:Str}{c:Addr}:∀ (names:List (Str×CK)) (n:Nat) (acc:List (Str×Addr)),(x,c)∈BO n names acc->n<=c\/(x,c)∈acc
 | [],_,acc,h=>.inr h
 | (y,k)::r,n,acc,h=>by
  unfold BO at h
  by_cases hk:(k == Bs)=true
  ·rw[if_pos hk]at h
   rcases zHy r _ _ h with a | h
   ·exact .inl (by lia)
   ·rcases AS.mp h with h | h
    ·cases h; exact .inl (AL _)
    ·exact .inr h
  ·rw[if_neg hk]at h
   exact zHy r _ _ h
theorem zHe{x y:Str}{c:Addr}:∀ (names:List (Str×CK)) (n:Nat) (acc:List (Str×Addr)),(∀ p∈acc,p.2 < n)->n<=c->(x,c)∈BO n names acc->(y,c)∈BO n names acc->x=y
 | [],n,acc,ha,hc,h1,_=>by have q:c < n:=ha _ h1; exact absurd (Ad q hc) (Az _)
 | (z,k)::r,n,acc,ha,hc,h1,h2=>by
  unfold BO at h1 h2
  by_cases hk:(k == Bs)=true
  ·rw[if_pos hk]at h1 h2
   have ha':∀ p∈(z,n)::acc,p.2 < n+1:=fun p hp=>by
    rcases AS.mp hp with h | h
    ·subst h; exact D6 _
    ·exact FH (ha p h)
   by_cases hcn:n+1<=c
   ·exact zHe r _ _ ha' hcn h1 h2
   ·have hcn':c=n:=Nat.le_antisymm (KU.mp hcn) hc
    subst hcn'
    have g:∀ w,(w,c)∈BO (c+1) r ((z,c)::acc)->w=z:=fun w hw=>by
     rcases zHy r _ _ hw with a | a
     ·exact absurd a (Nat.not_succ_le_self _)
     ·rcases AS.mp a with a | a
      ·cases a; rfl
      ·have:=ha _ a; exact absurd this (Az _)
    rw[g x h1,g y h2]
  ·rw[if_neg hk]at h1 h2
   exact zHe r _ _ ha hc h1 h2
theorem zFd{x:Str}{c:Addr}:∀ (names:List (Str×CK)) (h:Heap) (acc:List (Str×Addr)),(∀ p∈acc,∃ v,h.IsCell p.2 v)->(x,c)∈BO h.objs.size names acc->∃ v,(ER h names).IsCell c v
 | [],_,acc,ha,hm=>ha _ hm
 | (z,k)::r,h,acc,ha,hm=>by
  unfold BO at hm
  unfold ER
  by_cases hk:(k == Bs)=true
  ·rw[if_pos hk]at hm ⊢
   refine zFd r (h.push { cls:=.type "cell",data:=.cell none }) ((z,h.objs.size)::acc) (fun p hp=>?_) (by rw[EY]; exact hm)
   rcases AS.mp hp with e | e
   ·subst e; exact⟨none,_,AZ _ rfl,rfl⟩
   ·obtain⟨v,q⟩:=ha p e
    exact⟨v,q.keeps fun b o e=>AM _ e⟩
  ·rw[if_neg hk]at hm ⊢
   exact zFd r h acc ha hm
theorem zII{M:JF}{A:A4}{E:AB->AG->Prop}{s:AG}{scope:Cg}{globals:Addr}{cl:List (Str×Addr)}{qual:Str}{env:Env}{Q:Env->AG->Prop}
  (hQ:Q (newEnv scope s.heap.objs.size globals (BO (s.heap.objs.size+1) scope.names cl) qual none .none (some env) Gk) { s with heap:=ER (s.heap.push { cls:=.type "dict",data:=.dict #[] }) scope.names }) :
  AV M A (KW scope globals cl [] qual none .none (some env)) Q E s:=by
 simp only[KW,G5,if_true]
 refine AD (wpAny_alloc ?_)
 refine AD (wpAny_layCells _ (fun name kind cells=>by cases hkc:kind == Bs <;> simp[hkc]) _ _ _ _ ?_)
 rw[show ({ s with heap:=s.heap.push { cls:=.type "dict",data:=.dict #[] } }:AG).heap.objs.size=s.heap.objs.size+1 from EY ..]
 refine AD ?_
 rw[List.forIn_nil]
 exact AO (AO hQ)
noncomputable def compOk (N N':List Str) (ix:List (Option Nat)) (outer names:List (Str×CK)):Bool :=
 decide (N'.length=ix.length) && ((N'.zip ix).all fun p=>match p.2 with | none=>true | some j=>decide (N[j]?=some p.1) && names.contains (p.1,Ba)) &&
 (names.all fun p=>(p.2 != .free || outer.lookup p.1 == some .cell || outer.lookup p.1 == some .free) && (p.2 != .local || names.lookup p.1 == some .local) && (p.2 != .cell || names.lookup p.1 == some .cell) && (p.2 != .free || names.lookup p.1 == some .free))
noncomputable def frm (ix:List (Option Nat)) (σ:St):St:=ix.map fun o=>o.bind fun j=>(σ[j]?).join
noncomputable def cxC (X:Cx) (N:List Str) (scope:Cg) (C:Addr) (cs:List (Str×Addr)) (s:AG) (H:Hp) (ex:List Addr):Cx where
 prog:=X.prog
 w:=X.w
 K:=X.K
 mg:=X.mg
 base:=X.base
 A:=X.A
 N:=N
 s₀:=s
 H₀:=H
 env:=E2 scope cs C X.env
 outer:=X.stack
 stack:=X.stack
 ex:=ex
 fn:=fun x=>scope.names.lookup x == some .cell
 calm:=X.calm
 pn:=[]
 xe:=fun _ _=>False
structure CompOk(X:Cx)(N':List Str)(ix:List (Option Nat))(scope:Cg):Prop where
 kind:scope.kind=.function
 ok:compOk X.N N' ix X.env.scope.names scope.names=true
section
variable {X:Cx}{N':List Str}{ix:List (Option Nat)}{scope:Cg}
theorem CompOk.len(S:CompOk X N' ix scope):N'.length=ix.length:=by
 have h:=S.ok; unfold compOk at h; simp only[Ax,decide_eq_true_eq]at h; exact h.1.1
theorem CompOk.name(S:CompOk X N' ix scope){p:Str×CK}(hp:p∈scope.names) :
  (p.2=.free->X.env.scope.names.lookup p.1=some .cell\/X.env.scope.names.lookup p.1=some .free)/\(p.2=.local->scope.names.lookup p.1=some .local)/\(p.2=.cell->scope.names.lookup p.1=some .cell)/\(p.2=.free->scope.names.lookup p.1=some .free):=by
 have h:=S.ok; unfold compOk at h; simp only[Ax]at h
 have q:=BK.mp h.2 p hp
 simp only[Ax,IM,bne_iff_ne,beq_iff_eq,ne_eq]at q
 obtain⟨⟨⟨a,b⟩,c⟩,d⟩:=q
 refine⟨fun e=>?_,fun e=>?_,fun e=>?_,fun e=>?_⟩
 ·rcases a with (a | a) | a
  ·exact absurd e a
  ·exact .inl a
  ·exact .inr a
 ·exact b.resolve_left fun z=>z e
 ·exact c.resolve_left fun z=>z e
 ·exact d.resolve_left fun z=>z e
theorem CompOk.at(S:CompOk X N' ix scope){i j:Nat}{x:Str}(h1:N'[i]?=some x)(h2:ix[i]?=some (some j)):X.N[j]?=some x/\(x,Ba)∈scope.names:=by
 have h:=S.ok; unfold compOk at h; simp only[Ax]at h
 have hz:(x,some j)∈N'.zip ix:=by
  have:(N'.zip ix)[i]?=some (x,some j):=by rw[List.getElem?_zip_eq_some]; exact⟨h1,h2⟩
  exact Br this
 have q:=BK.mp h.1.2 _ hz
 simp only[Ax,decide_eq_true_eq,List.contains_iff_mem]at q
 exact q
theorem zP4{σ:St}{i:Nat}{v:V}(h:(frm ix σ)[i]?=some (some v)):∃ j,ix[i]?=some (some j)/\σ[j]?=some (some v):=by
 unfold frm at h
 rw[Af]at h
 cases e:ix[i]? with
 | none=>rw[e]at h; cases h
 | some o =>
  rw[e]at h
  cases o with
  | none=>cases h
  | some j =>
   have h':(σ[j]?).join=some v:=Ab h
   refine⟨j,rfl,?_⟩
   cases e2:σ[j]? with
   | none=>rw[e2]at h'; cases h'
   | some w=>rw[e2]at h'; rw[show w=some v from h']
theorem zCZ{env:Env}:∀ (names:List (Str×CK)) (x:Str),
  (names.map fun (n,k)=>if (k == Ba && env.scope.kind == .function && env.kindOf n == some .cell) then (n,Bs) else (n,k)).lookup x =
   match names.lookup x with
   | some .free=>if (env.scope.kind == .function && env.kindOf x == some .cell) then some Bs else some .free
   | o=>o
 | [],_=>rfl
 | (n,k)::r,x=>by
  have ih:=zCZ (env:=env) r x
  rw[AJ]
  show Jk x ((if (k == Ba && env.scope.kind == .function && env.kindOf n == some .cell)=true then (n,Bs) else (n,k))::_)=_
  cases hx:x == n with
  | true =>
   have e:x=n:=by simpa using hx
   subst e
   simp only[B9,beq_self_eq_true]
   cases k <;> by_cases hc:(env.scope.kind == .function && env.kindOf x == some .cell)=true <;> simp[B9,hc] <;> simp_all
  | false =>
   simp only[B9,hx]
   rw[← ih]
   split <;> simp only[B9,hx]
theorem kindC{cs:List (Str×Addr)}{C:Addr}(x:Str):(E2 scope cs C X.env).kindOf x =
   match scope.names.lookup x with
   | some .free=>if (X.env.scope.kind == .function && X.env.kindOf x == some .cell) then some Bs else some .free
   | o=>o:=zCZ scope.names x
end
theorem zM3{X:Cx}{N':List Str}{ix:List (Option Nat)}{scope:Cg}(S:CompOk X N' ix scope){pins:List (Addr×Obj)}{σ:St}{H:Hp}{s:AG}{fp:List Addr}{D:Addr}{o:Obj}
  (I:Inv X pins σ H s) (hf:∀ b∈fp,FpOk X pins H b) (ho:∀ b∈fp,∃ o,s.heap.get? b=some o) (hc:X.calm=true) {h3:Heap} {C:Addr} (hk3:∀ b u,s.heap.get? b=some u->h3.get? b=some u) (hC:C=h3.objs.size) (hs3:s.heap.objs.size<=h3.objs.size) {h4:Heap}
  (h4e:h4=ER (h3.push { cls:=.type "dict",data:=.dict #[] }) scope.names) {t4:Nat} :
  Inv (cxC X N' scope C (BO (C+1) scope.names (cloOf X.env.cells scope.names [])) s H fp) [] (frm ix σ) H { s with heap:=h4,toks:=t4 }:=by
 have hsz:s.heap.objs.size<=C:=by rw[hC]; exact hs3
 have hk4:∀ b u,h3.get? b=some u->h4.get? b=some u:=fun b u e=>by rw[h4e]; exact Ei _ _ b u (AM _ e)
 have hk:∀ b u,s.heap.get? b=some u->h4.get? b=some u:=fun b u e=>hk4 b u (hk3 b u e)
 have hpC:(h3.push { cls:=.type "dict",data:=.dict #[] }).objs.size=C+1:=by rw[hC,EY]
 have clo:∀ x c,(cloOf X.env.cells scope.names []).lookup x=some c->X.env.cells.lookup x=some c:=fun x c h=>by
  rcases zBX scope.names [] h with ⟨hm,e⟩ | h
  ·obtain⟨c',hc'⟩:=I.ok.has x ((S.name hm).1 rfl)
   rw[hc']at e ⊢
   rw[e]; rfl
  ·cases h
 have cloM:∀ p∈cloOf X.env.cells scope.names [],∃ x,(x,Ba)∈scope.names/\p.1=x/\X.env.cells.lookup x=some p.2:=by
  have go:∀ (names:List (Str×CK)) (acc:List (Str×Addr)),(∀ q∈names,q∈scope.names)->(∀ p∈acc,∃ x,(x,Ba)∈scope.names/\p.1=x/\X.env.cells.lookup x=some p.2) ->
    ∀ p∈cloOf X.env.cells names acc,∃ x,(x,Ba)∈scope.names/\p.1=x/\X.env.cells.lookup x=some p.2:=by
   intro names
   induction names with
   | nil=>intro acc _ ha; exact ha
   | cons q r ih =>
    intro acc hn ha
    obtain⟨n,k⟩:=q
    unfold cloOf
    by_cases hkf:(k == Ba)=true
    ·rw[if_pos hkf]
     have e:k=.free:=by simpa using hkf
     subst e
     refine ih _ (fun q hq=>hn q (AF _ hq)) fun p hp=>?_
     rcases AS.mp hp with e | hp
     ·subst e
      have hm:=hn (n,.free) AH
      obtain⟨c',hc'⟩:=I.ok.has n ((S.name hm).1 rfl)
      refine⟨n,hm,rfl,?_⟩
      show Jk n X.env.cells=some ((X.env.cells.lookup n).getD 0)
      rw[hc']; rfl
     ·exact ha p hp
    ·rw[if_neg hkf]
     exact ih _ (fun q hq=>hn q (AF _ hq)) ha
  exact go scope.names [] (fun _ h=>h) fun p hp=>nomatch hp
 have cellLt:∀ x c,X.env.cells.lookup x=some c->c < s.heap.objs.size:=fun x c h=>by
  obtain⟨v,q⟩:=I.cell x c h; exact q.lt
 have split:∀ x c,(BO (C+1) scope.names (cloOf X.env.cells scope.names [])).lookup x=some c->(C+1<=c/\(x,Bs)∈scope.names)\/X.env.cells.lookup x=some c:=fun x c h=>by
  rcases zBo scope.names _ _ h with h | h
  ·exact .inl h
  ·exact .inr (clo x c h)
 have cells4:∀ x c,(BO (C+1) scope.names (cloOf X.env.cells scope.names [])).lookup x=some c->∃ v,h4.IsCell c v:=fun x c h=>by
  rw[h4e]
  refine zFd (x:=x) scope.names _ (cloOf X.env.cells scope.names []) (fun p hp=>?_) (by rw[hpC]; exact Bi h)
  obtain⟨y,_,_,e⟩:=cloM p hp
  obtain⟨v,q⟩:=I.cell y p.2 e
  exact⟨v,q.keeps fun b u e=>AM _ (hk3 b u e)⟩
 have bLt:∀ b∈fp,b < s.heap.objs.size:=fun b hb=>by obtain⟨u,e⟩:=ho b hb; exact AY e
 have nfree:∀ b,s.heap.objs.size<=b->H b=none:=fun b hb=>I.hok.fresh hb
 have HC:C < h4.objs.size:=by
  have:h4.get? C=some { cls:=.type "dict",data:=.dict #[] }:=by
   rw[h4e]; refine Ei _ _ _ _ ?_
   rw[hC]; exact AZ _ rfl
  exact AY this
 refine⟨⟨I.ok.mod,?_,I.ok.glob,I.ok.blt,hsz,fun x y c h1 h2=>?_,fun x hx=>?_,fun x c hx h=>?_,fun h=>I.ok.hd hc,I.ok.frames,.inl rfl,fun b hb=>⟨?_,fun x c h=>?_⟩,fun b u e=>I.bs b u e,Al I.ok.bsz I.sz,fun b u e hb=>?_,fun b hb hz=>?_,I.stack,I.stkFree⟩,
  rfl,I.bare,Un.kept hk,⟨fun _=>none,?_,fun i x v h1 h2 h3=>?_⟩,cells4,?_,fun x c h=>?_,fun p hp=>absurd (show p∈([]:List (Addr×Obj)) from hp) (by simp),I.hok.kept hk,?_⟩
 ·exact S.kind
 ·-- injective
  have m1:=Bi h1
  have m2:=Bi h2
  rcases split x c h1 with ⟨a,_⟩ | a
  ·exact zHe scope.names (C+1) _ (fun p hp=>by obtain⟨y,_,_,e⟩:=cloM p hp; exact FH (Ad (cellLt y _ e) hsz)) a m1 m2
  ·rcases split y c h2 with ⟨b,_⟩ | b
   ·exact absurd (Ad (cellLt x c a) (Al hsz (Dt b))) (Az _)
   ·exact I.ok.inj x y c a b
 ·-- has
  have hx':(E2 scope (BO (C+1) scope.names (cloOf X.env.cells scope.names [])) C X.env).kindOf x=some .cell\/(E2 scope (BO (C+1) scope.names (cloOf X.env.cells scope.names [])) C X.env).kindOf x=some .free:=hx
  rw[kindC]at hx'
  have key:scope.names.lookup x=some .cell\/scope.names.lookup x=some .free:=by
   cases e:scope.names.lookup x with
   | none=>rw[e]at hx'; rcases hx' with z | z <;> cases z
   | some k =>
    rw[e]at hx'
    cases k <;> first | exact .inl rfl | exact .inr rfl | (rcases hx' with z | z <;> cases z)
  refine Cs.mp (Cz scope.names _ _ ?_)
  rcases key with k | k
  ·exact .inl k
  ·exact .inr (zC3 scope.names [] (.inl (Bi k)))
 ·-- own cells are new
  have hx':(scope.names.lookup x == some Bs)=true:=hx
  have hx'':scope.names.lookup x=some .cell:=by simpa using hx'
  rcases zBo scope.names _ _ h with ⟨a,_⟩ | a
  ·exact Al hsz (Dt a)
  ·rcases zBX scope.names [] a with ⟨hm,_⟩ | z
   ·have:=(S.name hm).2.2.2 rfl
    rw[hx'']at this; cases this
   ·cases z
 ·exact BA (Ad (bLt b hb) hsz)
 ·rcases split x c h with ⟨a,_⟩ | a
  ·exact Gm (Ad (bLt b hb) (Al hsz (Dt a)))
  ·exact (hf b hb).2.2.2.2.1 x c a
 ·rcases (hf b hb).2.2.2.1 with z | z
  ·exact I.ok.noex b u e z
  ·exact absurd (Ad (AY e) (Al I.ok.bsz z)) (Az _)
 ·rcases AS.mp (I.stkSub b hz) with e | e
  ·exact (hf b hb).2.1 e
  ·exact (hf b hb).2.2.1 e
 ·-- the block's names
  rw[h4e]
  show (ER (h3.push { cls:=.type "dict",data:=.dict #[] }) scope.names).Ns C (fun _=>none)
  rw[hC]
  exact (Heap.Ns.new h3 (.type "dict")).keeps (Ei _ _)
 ·obtain⟨j,e1,e2⟩:=zP4 h2
  obtain⟨hn,hm⟩:=S.at h1 e1
  have hkx:=(S.name hm).2.2.2 rfl
  have hox:=(S.name hm).1 rfl
  obtain⟨m,hns,hl⟩:=I.loc
  have vis:Vis X.env.scope x:=by rcases hox with z | z; exact .inr (.inl z); exact .inr (.inr z)
  obtain⟨u,r,l⟩:=hl j x v hn e2 vis
  refine⟨u,r,.inr ⟨?_,?_⟩⟩
  ·show (E2 scope _ C X.env).kindOf x=some .cell\/(E2 scope _ C X.env).kindOf x=some .free
   rw[kindC,hkx]
   dsimp only
   split
   ·exact .inl rfl
   ·exact .inr rfl
  ·rcases l with ⟨k,_⟩ | ⟨_,c,hc',hcell⟩
   ·have k':X.env.scope.names.lookup x=some .local:=k
    rcases hox with z | z <;> rw[z]at k' <;> cases k'
   ·have hs:((BO (C+1) scope.names (cloOf X.env.cells scope.names [])).lookup x).isSome=true:=Cz scope.names _ _ (.inr (zC3 scope.names [] (.inl hm)))
    obtain⟨c',e'⟩:=Cs.mp hs
    have:c'=c:=by
     rcases split x c' e' with ⟨_,q⟩ | q
     ·have:=(S.name q).2.2.1 rfl
      rw[show scope.names.lookup x=some .free from hkx]at this; cases this
     ·rw[hc']at q; exact (Ab q).symm
    subst this
    exact⟨c',e',hcell.keeps hk⟩
 ·exact nfree C hsz
 ·rcases split x c h with ⟨a,_⟩ | a
  ·exact nfree c (Al hsz (Dt a))
  ·exact I.freeC x c a
 ·show (frm ix σ).length=N'.length
  unfold frm; rw[Ak,S.len]
theorem zHm{prog:Ah}{w:Aw}{A:A4}{R:Result->AG->Prop}{s:AG}{elt target iter:Expr}{ifs:List Expr}{scope:Cg}{pos:Pos}{it acc:AB}{env:Env}(I:Nat->AG->Prop)
  (turn:∀ n s,I n s->AV (model prog w) A (Ec it) (fun r s₁=>match r with
   | none=>R (.ok .next) s₁
   | some v=>AV (model prog w) A (Eh target it v) (fun _ s₁'=>AV (model prog w) A (assign target env v) (fun _ s₂ =>
     AV (model prog w) A (forIn ifs true fun c r=>if r=true then do let ok ← Hh c env (eval c env); pure (Cj ok) else pure (Cj r)) (fun ok s₃ =>
      if ok=true then AV (model prog w) A (eval elt env) (fun x s₄ =>
       AV (model prog w) A (call (.builtin "list.append") [acc,x]) (fun _ s₅=>∃ m,m < n/\I m s₅) (fun _ _=>False) s₄) (fun _ _=>False) s₃
      else ∃ m,m < n/\I m s₃) (fun _ _=>False) s₂) (fun _ _=>False) s₁') (fun _ _=>False) s₁) (fun _ _=>False) s)
  (n:Nat) (h:I n s) :
  Fl (model prog w) A (.compLoop (.ListComp elt [⟨target,iter,ifs,0⟩] scope pos) 0 it acc env) R s:=by
 refine codeAny_loop rfl I (fun n s hI=>?_) n h
 show AV _ A ((compTurn (.ListComp elt [⟨target,iter,ifs,0⟩] scope pos) 0 it acc env).onRaise (fun x=>do noteFrame x env; theTreesLotGoes x)) _ _ s
 refine wpAny_noted ?_
 rw[compTurn_list]
 refine AD (FP (AD (BE (turn n s hI) (fun r s₁ h₁=>?_) fun _ _ h'=>h'.elim)))
 cases r with
 | none=>exact AO h₁
 | some v =>
  refine AD (BE h₁ (fun _ s₁' h₁'=>?_) fun _ _ h'=>h'.elim)
  refine AD (BE h₁' (fun _ s₂ h₂=>AD (BE h₂ (fun ok s₃ h₃=>?_) fun _ _ h'=>h'.elim)) fun _ _ h'=>h'.elim)
  cases ok with
  | false=>exact AO ⟨rfl,h₃⟩
  | true =>
   exact AD (AD (BE h₃ (fun x s₄ h₄=>AD (BE h₄ (fun _ s₅ h₅=>AO (AO ⟨rfl,h₅⟩)) fun _ _ h'=>h'.elim)) fun _ _ h'=>h'.elim))
noncomputable def PTs (X:Cx) (ifs:List Expr) (t:TT):Prop :=
 ∀ (pins:List (Addr×Obj)) (s:AG) (σ:St) (H:Hp) (Q:Bool->Hp->Prop),Inv X pins σ H s->t σ H Q ->
  AV (model X.prog X.w) X.A (forIn ifs true fun c r=>if r=true then do let ok ← Hh c X.env (eval c X.env); pure (Cj ok) else pure (Cj r)) (TP X pins σ Q) X.xe s
noncomputable def tYes:TT:=fun _ H Q=>Q true H
theorem zOy{X:Cx}:PTs X [] tYes:=fun _ _ _ H _ I h=>wpAny_tests_nil ⟨H,I,h⟩
theorem zIV{X:Cx}{c:Expr}{t:TT}(h:PT X c t):PTs X [c] t:=fun pins s σ H Q I hw=>wpAny_tests_one (h pins s σ H Q I hw)
def CompW (J:It) (ix:List (Option Nat)) (g:TG) (tc:TT) (te:TE) (σ:St) (H1:Hp) (Q:VK):Prop:=∃ W:Nat->Nat->List V->St->Hp->Prop,(∃ m,W 0 m [] (frm ix σ) H1) /\
 ∀ i m ys σ' H',W i m ys σ' H' ->
  (J.stop i H'/\ys.length<=AE/\∀ D,H' D=none->Q (.ref D) (upd H' D (.lst ys))) \/
  (J.go i H'/\ys.length < AE/\∃ N:List V->St->Hp->Prop,(∀ ys' σ2 H2,N ys' σ2 H2->∃ m',m' < m/\W (i+1) m' ys' σ2 H2) /\
   ∀ x H2,J.yld i H' x H2->g x σ' H2 fun σ2 H3=>tc σ2 H3 fun b H4=>if b=true then te σ2 H4 fun v H5=>N (ys++[v]) σ2 H5 else N ys σ2 H4)
noncomputable def tComp (wi:TI) (ix:List (Option Nat)) (g:TG) (tc:TT) (te:TE):TE:=fun σ H Q=>wi σ H fun J H1=>CompW J ix g tc te σ H1 Q
theorem HOk.adopt{P:Ah}{w:Aw}{H:Hp}{h:Heap}{a:Addr}{o:HO}(x:HOk P w H h)(hn:H a=none)(new:ObjOk P w (upd H a o) h a o):HOk P w (upd H a o) h:=fun b u e=>by
 by_cases hb:b=a
 ·subst hb; rw[zAT]at e; cases e; exact new
 ·rw[zAK hb]at e
  exact (x b u e).stay (fun c v _ q=>q) (fun c q=>by rw[zAK (zAZ q hn)]; exact q) fun c xs q=>by rw[zAK (zAZ q hn)]; exact q
section
variable {X:Cx}{N':List Str}{ix:List (Option Nat)}{scope:Cg}{elt tg iter:Expr}{ifs:List Expr}{pos:Pos}{wi:TI}{g:TG}{tc:TT}{te:TE}
theorem zF0{use:Option (AB->Sem Unit)}{QQ:AB->AG->Prop}(S:CompOk X N' ix scope)(hc:X.calm=true)(hi:PI X tg iter wi)
  (hg:∀ C cs s H ex,PG (cxC X N' scope C cs s H ex) tg g) (ht:∀ C cs s H ex,PTs (cxC X N' scope C cs s H ex) ifs tc) (he:∀ C cs s H ex,PE (cxC X N' scope C cs s H ex) elt te)
  {pins:List (Addr×Obj)} {s:AG} {σ:St} {H:Hp} {Q:VK} (I:Inv X pins σ H s) (hw:tComp wi ix g tc te σ H Q)
  (fin:∀ (D C:Addr) (o:Obj) (H':Hp) (s':AG),Inv X (pins++[(C,o)]) σ H' s'->(∃ m,s'.heap.Ns C m)->(X.s₀.heap.objs.size<=C)->(∀ x c,X.env.cells.lookup x=some c->c≠C)->(∀ p∈X.pn++pins,p.1≠C)->Q (.ref D) H'->KY (model X.prog X.w) X.A X.xe use QQ (.ref D) C (.ok .next) s')
  (hs:∀ x,Bx iter X.env x=pure x:=by intro _; rfl) :
  AV (model X.prog X.w) X.A (comprehension (.ListComp elt [⟨tg,iter,ifs,0⟩] scope pos) scope X.env (firstIterPos [⟨tg,iter,ifs,0⟩] pos) (LG []) false (eval iter X.env) use) QQ X.xe s:=by
 refine wpAny_comprehension_free (cl:=cloOf X.env.cells scope.names []) rfl hs (zGL fun x hx hk=>I.ok.has x.1 ((S.name hx).1 hk)) S.kind (fun x hx hl=>(S.name hx).2.1 hl) ?_
 refine thn (hi pins s σ H _ I hw) fun v s1 h1=>thn h1 fun itv s2 h2=>?_
 obtain⟨it,fp,tn,J,H2,e,I2,T,st2,f2,W,⟨m0,w0⟩,turn⟩:=h2
 subst e
 refine BR ?_
 refine zII ?_
 generalize hH3:s2.heap.push { cls:=.type "list",dict:=none,data:=.seq ([]:List AB).toArray }=h3
 have hD3:h3.get? s2.heap.objs.size=some { cls:=.type "list",dict:=none,data:=.seq ([]:List AB).toArray }:=by rw[← hH3]; exact AZ _ rfl
 have hk3:∀ b u,s2.heap.get? b=some u->h3.get? b=some u:=fun b u e=>by rw[← hH3]; exact AM _ e
 have hz3:h3.objs.size=s2.heap.objs.size+1:=by rw[← hH3,EY]
 have ho2:∀ b∈fp,∃ o,s2.heap.get? b=some o:=fun b hb=>by obtain⟨o,e,_⟩:=T.obj _ _ st2 b hb; exact⟨o,e⟩
 show Fl (model X.prog X.w) X.A (.compStart (.ListComp elt [⟨tg,iter,ifs,0⟩] scope pos) 0 (.ref it) (.ref s2.heap.objs.size) (E2 scope (BO (h3.objs.size+1) scope.names (cloOf X.env.cells scope.names [])) h3.objs.size X.env)) (KY (model X.prog X.w) X.A X.xe use QQ (.ref s2.heap.objs.size) h3.objs.size) { s2 with heap:=ER (h3.push { cls:=.type "dict",data:=.dict #[] }) scope.names }
 generalize hD:s2.heap.objs.size=D at hD3 hz3 ⊢
 generalize hC:h3.objs.size=C at hz3 ⊢
 generalize h4e:ER (h3.push { cls:=.type "dict",data:=.dict #[] }) scope.names=h4
 have hk4:∀ b u,h3.get? b=some u->h4.get? b=some u:=fun b u e=>by rw[← h4e]; exact Ei _ _ b u (AM _ e)
 have I4:Inv (cxC X N' scope C (BO (C+1) scope.names (cloOf X.env.cells scope.names [])) s2 H2 fp) [] (frm ix σ) H2 { s2 with heap:=h4,toks:=s2.toks } :=
  zM3 (D:=D) (o:={ cls:=.none,data:=.dict #[] }) S I2 f2 ho2 hc hk3 hC.symm (by rw[hC,hz3,hD]; exact HJ _) h4e.symm
 have hcellD:∀ x c,(BO (C+1) scope.names (cloOf X.env.cells scope.names [])).lookup x=some c->c≠D:=fun x c h z=>by
  rcases zBo scope.names _ _ h with ⟨a,_⟩ | a
  ·rw[z,hz3]at a; lia
  ·rcases zBX scope.names [] a with ⟨hm,e⟩ | a
   ·obtain⟨c',hc'⟩:=I2.ok.has x ((S.name hm).1 rfl)
    rw[hc']at e
    obtain⟨v,q⟩:=I2.cell x c' hc'
    have e':c=c':=e
    rw[← e',z,← hD]at q
    exact absurd q.lt (Az _)
   ·cases a
 have hDC:D≠C:=by rw[hz3]; exact BA (D6 _)
 have hDfp:D∉fp:=fun hb=>by obtain⟨o,e⟩:=ho2 D hb; exact absurd (hD ▸ AY e) (Az _)
 generalize hX':cxC X N' scope C (BO (C+1) scope.names (cloOf X.env.cells scope.names [])) s2 H2 fp=X' at I4
 have hfpX:∀ {H':Hp} {oD:Obj},(∀ b∈fp,H' b=none)->∀ b∈fp,FpOk X' [(D,oD)] H' b:=fun {H' oD} hn b hb=>by
  rw[← hX']
  refine⟨hn b hb,fun z=>?_,fun z=>?_,.inl hb,fun x c h z=>?_,fun p hp=>?_⟩
  rotate_right
  ·have hp':p∈[(D,oD)]:=hp
   have e:p=(D,oD):=by simpa using hp'
   subst e
   exact fun z=>hDfp (by rw[show D=b from z]; exact hb)
  ·obtain⟨o,e⟩:=ho2 b hb
   have z':b=C:=z
   have q:=AY e
   rw[z',hz3,hD]at q
   exact absurd (Jl (D6 D) q) (Az _)
  ·have z':b∈frs X.stack:=z
   rcases AS.mp (I2.stkSub b z') with e | e
   ·exact (f2 b hb).2.1 e
   ·exact (f2 b hb).2.2.1 e
  ·rw[← hX']at I4
   exact (I4.ok.exf b hb).2 x c h z
 have HDnone:H2 D=none:=I2.hok.fresh (by rw[hD]; exact AL _)
 have key:∀ (s':AG),s'={ s2 with heap:=h4,toks:=s2.toks } ->
   Fl (model X.prog X.w) X.A (.compLoop (.ListComp elt [⟨tg,iter,ifs,0⟩] scope pos) 0 (.ref it) (.ref D) X'.env) (KY (model X.prog X.w) X.A X.xe use QQ (.ref D) C) s':=by
  rintro s' rfl
  refine zHm (fun n s'=>∃ i ys σ' H' its,Inv X' [] σ' H' s'/\tn i s'.heap/\(∀ b∈fp,H' b=none)/\H' D=none/\s'.heap.PlainList D its/\Vals ys its.toList/\W i n ys σ' H') ?_ m0
   ⟨0,[],frm ix σ,H2,#[],I4,T.keep _ _ _ st2 fun b hb o e=>hk4 b o (hk3 b o e),fun b hb=>(f2 b hb).1,HDnone,⟨_,hk4 _ _ hD3⟩,.nil,w0⟩
  rintro n s3 ⟨i,ys,σ3,H3,its,I3,st3,fr3,hD3n,hpl,hv,w3⟩
  have hc':X'.calm=true:=by rw[← hX']; exact hc
  have xe':∀ e s,X'.xe e s->False:=by rw[← hX']; exact fun _ _ z=>z
  have pr:X'.prog=X.prog:=by rw[← hX']; rfl
  have pw:X'.w=X.w:=by rw[← hX']; rfl
  have pK:X'.K=X.K:=by rw[← hX']; rfl
  have pA:X'.A=X.A:=by rw[← hX']; rfl
  have p0:X'.s₀=s2:=by rw[← hX']; rfl
  have pH:X'.H₀=H2:=by rw[← hX']; rfl
  have px:X'.ex=fp:=by rw[← hX']; rfl
  have pf:X'.fs=frs X.stack:=by rw[← hX']; rfl
  have pL:X'.env.locals=C:=by rw[← hX']; rfl
  have pn0:X'.pn=[]:=by rw[← hX']; rfl
  have pcs:X'.env.cells=BO (C+1) scope.names (cloOf X.env.cells scope.names []):=by rw[← hX']; rfl
  obtain⟨nD,hoD⟩:=id hpl
  have Dfs:D∉X'.fs:=fun z=>by
   rw[pf]at z
   rcases AS.mp (I2.stkSub D z) with e | e
   ·have q:=I2.lt; rw[← e,hD]at q; exact Az _ q
   ·exact I2.nofs (by rw[hD]; exact AL _) e
  have I3':Inv X' [(D,_)] σ3 H3 s3:=I3.pins_of fun p hp=>by
   have e:p=(D,_):=AI.mp hp
   subst e
   exact⟨hoD,hD3n,by rw[pL]; exact hDC,Dfs,fun v z=>by cases z⟩
  have hg':PG X' tg g:=hX' ▸ hg _ _ _ _ _
  have ht':PTs X' ifs tc:=hX' ▸ ht _ _ _ _ _
  have he':PE X' elt te:=hX' ▸ he _ _ _ _ _
  have hsizes:its.toList.length=ys.length:=hv.length.symm
  rcases turn i n ys σ3 H3 w3 with ⟨stop,hlen,qn⟩ | ⟨go,hlt,N,hN,step⟩
  ·-- the end
   have T':=T.done X' pr pw pK hc' i _ s3 σ3 H3 (fun _ _=>False) I3' (hfpX fr3) st3 stop
   rw[pA]at T'
   refine thn T' fun r s4 ⟨hr,I5⟩=>?_
   subst hr
   obtain⟨gD,nDn,_,_,_⟩:=I5.pin (D,_) (Aj _ (AI.mpr rfl))
   have gD':s4.heap.get? D=some { cls:=.type "list",data:=.seq its nD }:=gD
   obtain⟨m,hns,_⟩:=I5.loc
   rw[pL]at hns
   obtain⟨oC,es,ep,hoC,hdC,_⟩:=id hns
   have ub:Un (frs X.stack) fp H2 H3 s2.heap s4.heap:=by
    have q:=I5.base
    rw[px,pH,p0]at q
    rw[← pf]; exact q
   have bLt:∀ b u,s2.heap.get? b=some u->b≠D:=fun b u e z=>by have q:=AY e; rw[z,hD]at q; exact Az _ q
   have u':Un (frs X.stack) fp H2 (upd H3 D (.lst ys)) s2.heap s4.heap :=
    ⟨ub.keep,ub.slot,fun b o e n hx=>by rw[zAK (bLt b o e)]; exact ub.free b o e n hx,ub.there,fun b xs e=>by rw[zAK (zAZ (ub.tups b xs e) hD3n)]; exact ub.tups b xs e,
     fun b o u e=>by rw[zAK (zAZ (ub.frzs b o u e) hD3n)]; exact ub.frzs b o u e,fun b ps e=>by obtain⟨more,q⟩:=ub.tbls b ps e; exact⟨more,by rw[zAK (zAZ q hD3n)]; exact q⟩⟩
   have hok':HOk X.prog X.w (upd H3 D (.lst ys)) s4.heap:=by
    have q:=I5.hok
    rw[pr,pw]at q
    exact q.adopt hD3n ⟨hlen,its.toList,nD,hv,by simpa using gD'⟩
   have os':s4.os=s2.os:=by have q:=I5.os; rw[p0]at q; exact q
   have Iend:Inv X pins σ (upd H3 D (.lst ys)) s4:=I2.call' (ch:=fp) os' u' hok' I5.bare fun b hb=>⟨(f2 b hb).2.2.2.1,(f2 b hb).2.1,(f2 b hb).2.2.2.2.1,(f2 b hb).2.2.2.2.2⟩
   have hsC:s2.heap.objs.size<=C:=by rw[hz3,hD]; exact HJ _
   have freeC:upd H3 D (.lst ys) C=none:=by rw[zAK (BC hDC)]; have q:=I5.free; rw[pL]at q; exact q
   have Iend':Inv X (pins++[(C,oC)]) σ (upd H3 D (.lst ys)) s4:=Iend.pins_of fun p hp=>by
    rcases Ap.mp hp with hp | hp
    ·exact Iend.pin p (Aj _ hp)
    ·have e:p=(C,oC):=AI.mp hp
     subst e
     exact⟨hoC,freeC,Gm (Ad I2.lt hsC),I2.nofs hsC,fun v z=>by rw[show oC.data=KO v from z]at hdC; cases hdC⟩
   exact fin D C oC _ s4 Iend' ⟨m,hns⟩ (Al I2.sz hsC) (fun x c h z=>by obtain⟨v,q⟩:=I2.cell x c h; exact absurd (Ad q.lt hsC) (by rw[z]; exact Az _))
    (fun p hp z=>by have q:=AY (I2.pin p hp).1; exact absurd (Ad q hsC) (by rw[z]; exact Az _)) (qn D hD3n)
  ·have T':=T.item X' pr pw pK hc' i _ s3 σ3 H3 (fun _ _=>False) I3' (hfpX fr3) st3 go
   rw[pA]at T'
   refine thn T' fun r s4 ⟨u,hr,h4'⟩=>?_
   subst hr
   refine thn h4' fun _ s5 ⟨x,H5,I5,r5,y5,st5,fr5⟩=>?_
   have I5':=I5.pinned (hfpX fr5) (T.obj _ _ st5)
   have A1:=hg' _ s5 σ3 H5 x u _ I5' r5 (step x H5 y5)
   rw[pr,pw,pA]at A1
   refine BE A1 (fun _ s6 ⟨σ6,H6,I6,q6⟩=>?_) xe'
   have A2:=ht' _ s6 σ6 H6 _ I6 q6
   rw[pr,pw,pA]at A2
   refine BE A2 (fun b s7 ⟨H7,I7,q7⟩=>?_) xe'
   have pinD:∀ {σ':St} {H':Hp} {s':AG},Inv X' ([(D,{ cls:=.type "list",data:=.seq its nD })]++pinsAt fp s5.heap) σ' H' s'->s'.heap.get? D=some { cls:=.type "list",data:=.seq its nD }/\H' D=none/\(∀ b∈fp,∀ o,s5.heap.get? b=some o->s'.heap.get? b=some o/\H' b=none):=fun {σ' H' s'} J=>by
    obtain⟨a1,a2,_⟩:=J.pin (D,_) (Aj _ (EW _ (AI.mpr rfl)))
    refine⟨a1,a2,fun b hb o e=>?_⟩
    obtain⟨b1,b2,_⟩:=J.pin (b,o) (Aj _ (Aj _ (zCo hb e)))
    exact⟨b1,b2⟩
   have frOf:∀ {σ':St} {H':Hp} {s':AG},Inv X' ([(D,{ cls:=.type "list",data:=.seq its nD })]++pinsAt fp s5.heap) σ' H' s'->∀ b∈fp,H' b=none:=fun {σ' H' s'} J b hb=>by
    obtain⟨o,e,_⟩:=T.obj _ _ st5 b hb
    exact ((pinD J).2.2 b hb o e).2
   have bare:∀ {σ':St} {H':Hp} {s':AG},Inv X' ([(D,{ cls:=.type "list",data:=.seq its nD })]++pinsAt fp s5.heap) σ' H' s'->Inv X' [] σ' H' s':=fun {σ' H' s'} J=>J.pins_of fun p hp=>nomatch hp
   cases b with
   | false =>
    obtain⟨m',hm,w'⟩:=hN ys σ6 H7 q7
    exact⟨m',hm,i+1,ys,σ6,H7,its,bare I7,T.keep _ _ _ st5 fun b hb o e=>((pinD I7).2.2 b hb o e).1,frOf I7,(pinD I7).2.1,⟨nD,(pinD I7).1⟩,hv,w'⟩
   | true =>
    have A3:=he' _ s7 σ6 H7 _ I7 q7
    rw[pr,pw,pA]at A3
    refine BE A3 (fun v s8 ⟨x8,H8,I8,r8,q8⟩=>?_) xe'
    refine wpAny_list_append_plain (items:=its) ⟨nD,(pinD I8).1⟩ (fun h9 hl9 hs9=>?_) (by
     have:its.size=its.toList.length:=by simp
     rw[this,hsizes]; exact ED hlt)
    obtain⟨m',hm,w'⟩:=hN (ys++[x8]) σ6 H8 q8
    have I9:Inv X' [] σ6 H8 { s8 with heap:=h9,toks:=s8.toks }:=(bare I8).turned (t':=s8.toks) (it:=D) (fun b o hb e=>(hs9.2 b hb).trans e) (pinD I8).2.1 (by rw[pL]; exact hDC) (.inr (by rw[p0,hD]; exact AL _)) (by rw[pcs]; exact hcellD) (fun p hp=>by rw[pn0]at hp; exact nomatch hp)
    refine⟨m',hm,i+1,ys++[x8],σ6,H8,its.push v,I9,T.keep _ _ _ st5 fun b hb o e=>(hs9.2 b fun z=>hDfp (z ▸ hb)).trans ((pinD I8).2.2 b hb o e).1,frOf I8,(pinD I8).2.1,hl9,?_,w'⟩
    rw[BW]
    exact hv.append (.cons r8 .nil)
 rw[← hX']at key
 exact codeAny_compStart_list (key _ rfl) (T.self _ 0 _ _ _ (T.keep _ _ _ st2 fun b hb o e=>hk4 b o (hk3 b o e)) (key _ rfl))
theorem zIc(S:CompOk X N' ix scope)(hc:X.calm=true)(hi:PI X tg iter wi)
  (hg:∀ C cs s H ex,PG (cxC X N' scope C cs s H ex) tg g) (ht:∀ C cs s H ex,PTs (cxC X N' scope C cs s H ex) ifs tc) (he:∀ C cs s H ex,PE (cxC X N' scope C cs s H ex) elt te)
  (hs:∀ x,Bx iter X.env x=pure x:=by intro _; rfl):PE X (.ListComp elt [⟨tg,iter,ifs,0⟩] scope pos) (tComp wi ix g tc te):=by
 intro pins s σ H Q I h
 rw[eval_ListComp]
 refine zF0 (use:=none) (QQ:=EP X pins σ Q) S hc hi hg ht he I h (fun D C o H' s' I' hns h1 h2 h3 q=>?_) hs
 obtain⟨m,hns⟩:=hns
 refine⟨m,hns,fun h' hs'=>⟨.ref D,H',?_,rfl,q⟩⟩
 obtain⟨a1,a2,a3,a4,_⟩:=I'.pin (C,o) (Aj _ (Aj _ (AI.mpr rfl)))
 exact I'.unpinned.turned (t':=s'.toks) (it:=C) (fun b u hb e=>(hs'.2 b hb).trans e) a2 a3 (.inr h1) h2 h3
theorem zOa{i:Nat}{x:Str}{pos' spos:Pos}(hN:X.N.Nodup)(hi':X.N[i]?=some x)(hx:Loc X.env.scope x)(S:CompOk X N' ix scope)(hc:X.calm=true)(hi:PI X tg iter wi)
  (hg:∀ C cs s H ex,PG (cxC X N' scope C cs s H ex) tg g) (ht:∀ C cs s H ex,PTs (cxC X N' scope C cs s H ex) ifs tc) (he:∀ C cs s H ex,PE (cxC X N' scope C cs s H ex) elt te)
  (hsw:Ds (.ListComp elt [⟨tg,iter,ifs,0⟩] scope pos) (some (.Name x pos')) spos.line X.env=pure true:=by rfl)
  (hf:X.fn x=true\/X.env.scope.names.lookup x=some .local:=by first | exact .inl rfl | exact .inr rfl | assumption)
  (hs:∀ x,Bx iter X.env x=pure x:=by intro _; rfl):PS X (.Assign [.Name x pos'] (.ListComp elt [⟨tg,iter,ifs,0⟩] scope pos) spos) (tAsg (tComp wi ix g tc te) (gName i)):=by
 intro pins s σ H D I h
 rw[exec_Assign_Name_used _ _ _ _ hsw]
 refine AD (FP (AD ?_))
 show AV _ X.A (do let _ ← comprehension (.ListComp elt [⟨tg,iter,ifs,0⟩] scope pos) scope X.env _ (LG []) false (eval iter X.env) (some (assign (.Name x pos') X.env))) _ _ s
 refine AD (thn (zF0 (use:=some (assign (.Name x pos') X.env)) (QQ:=fun _ s'=>SP X pins D .next s') S hc hi hg ht he I h (fun E C o H' s' I' hns h1 h2 h3 q=>?_) hs) fun _ s' q=>AO (AO q))
 obtain⟨m,hns⟩:=hns
 have P:=zFI (pos:=pos') hN hi' hx hf
 refine thn (P _ s' σ H' (.ref E) (.ref E) _ I' rfl q) fun _ s2 ⟨σ2,H2,I2,q2⟩=>?_
 obtain⟨a1,_⟩:=I'.pin (C,o) (Aj _ (Aj _ (AI.mpr rfl)))
 obtain⟨b1,b2,b3,b4,_⟩:=I2.pin (C,o) (Aj _ (Aj _ (AI.mpr rfl)))
 refine⟨m,?_,fun h' hs'=>⟨σ2,H2,I2.unpinned.turned (t':=s2.toks) (it:=C) (fun b u hb e=>(hs'.2 b hb).trans e) b2 b3 (.inr h1) h2 h3,q2⟩⟩
 obtain⟨oC,es,ep,hoC,r⟩:=hns
 have e:oC=o:=by
  have q:=hoC.symm.trans a1
  exact Ab q
 subst e
 exact⟨oC,es,ep,b1,r⟩
end
open AutoSeq1 (wpAny_loadPart')
noncomputable def rngV (lo:Int) (n:Nat):List V:=(AC n).map fun (i:Nat)=>V.int (lo+(i:Int))
theorem zEE(lo:Int)(n:Nat):(rngV lo n).length=n:=by simp[rngV]
theorem zG8{lo:Int}{n:Nat}{acc:Array AB}(h:Hn (fun i v=>∃ t,v=.int (lo+i * 1) t) acc n):Vals (rngV lo n) acc.toList:=by
 obtain⟨hn,hi⟩:=h
 have key:∀ (xs:List V) (us:List AB),xs.length=us.length->(∀ (i:Nat) (x:V) (u:AB),xs[i]?=some x->us[i]?=some u->RelV x u)->Vals xs us:=by
  intro xs
  induction xs with
  | nil=>intro us hl _; cases us with
   | nil=>exact .nil
   | cons _ _=>cases hl
  | cons x xs ih=>intro us hl hr; cases us with
   | nil=>cases hl
   | cons u us=>exact .cons (hr 0 x u rfl rfl) (ih us (by simpa using hl) fun i y v e1 e2=>hr (i+1) y v (by simpa using e1) (by simpa using e2))
 refine key _ _ (by rw[zEE]; simp[hn]) fun i x u e1 e2=>?_
 unfold rngV at e1
 rw[Af]at e1
 cases e3:(AC n)[i]? with
 | none=>rw[e3]at e1; cases e1
 | some j =>
  rw[e3]at e1
  have hj:j=i/\i < n:=by
   obtain⟨h1,h2⟩:=Aa.mp e3
   rw[List.getElem_range]at h2
   exact⟨h2.symm,by simpa using h1⟩
  obtain⟨rfl,hjn⟩:=hj
  have e1':x=V.int (lo+(j:Int)):=(Ab e1).symm
  subst e1'
  obtain⟨t,ht⟩:=hi j u (by simpa using e2)
  exact⟨t,by rw[ht]; simp⟩
section
variable {prog:Ah}{w:Aw}{A:A4}{E:AB->AG->Prop}{s:AG}
theorem zIC{Q:List AB->AG->Prop}{r:Addr}{a b c:Int}{t u v:Tok}{n:Nat}(hh:A.handled=none)(hr:LH s.heap r a b c t u v)(hsmall:Dy a b c=true)(hn:CD a b c=n)(hlen:n<=2 ^ 24)
  (hQ:∀ h' tk acc,(∀ b o,s.heap.get? b=some o->h'.get? b=some o)->Hn (fun i v=>∃ t,v=.int (a+i * c) t) acc n->Q acc.toList { s with heap:=h',toks:=tk }) :
  AV (model prog w) A (collect (.ref r)) Q E s:=by
 unfold collect
 refine AD (wpAny_runValue (J9 F.entry_proto_collect ?_)); rw[Gh F.plain_proto_collect _]
 show AV _ A.in1 (LG [] >>= fun l=>again (.builtin "list.__iadd__" ⟨[l,.ref r],[]⟩)) _ _ s
 refine AD (BR (AO ⟨plainId_quiet Ib _,J9 F.entry_list_iadd ?_⟩)); rw[Gh Ib _]
 show AV _ A.in1 (KA (.ref s.heap.objs.size) (.ref r) (.ref s.heap.objs.size)) _ _ _
 have hS:(s.heap.push { cls:=.type "list",data:=.seq ([]:List AB).toArray }).get? s.heap.objs.size=some { cls:=.type "list",data:=.seq ([]:List AB).toArray }:=AZ _ rfl
 have hr2:LH (s.heap.push { cls:=.type "list",data:=.seq ([]:List AB).toArray }) r a b c t u v:=AM _ hr
 let RR:Result->AG->Prop:=fun r s'=>match r with
  | .ok (.ret v)=>v=.ref s.heap.objs.size/\∃ h' tk acc c',s'={ s with heap:=h',toks:=tk }/\(∀ b o,s.heap.get? b=some o->h'.get? b=some o)/\h'.get? s.heap.objs.size=some { cls:=.type "list",dict:=none,data:=.seq acc c',slots:=#[] }/\Hn (fun i v=>∃ t,v=.int (a+i * c) t) acc n
  | _=>False
 have go:∀ (v:AB) (s':AG),RR (.ok (.ret v)) s'->AV (model prog w) A (match v with | .ref a=>(do match (← load a).data with | .seq xs _=>pure xs.toList | _=>unsupported "internal:collect") | _=>unsupported "internal:collect") Q E s':=fun v s' hR=>by
  obtain⟨rfl,h',tk,acc,c',rfl,hk,hS',hacc⟩:=hR
  show AV _ A (load s.heap.objs.size >>= _) _ _ _
  exact AD (wpAny_load hS' (AO (hQ h' tk acc hk hacc)))
 have base:=wpAny_extend_range (prog:=prog) (w:=w) (A:=A) (R:=RR) (s:={ s with heap:=s.heap.push { cls:=.type "list",data:=.seq ([]:List AB).toArray } }) hh hr2 hsmall hn hlen _ (.ref s.heap.objs.size) _ hS fun h' tk acc' c' hk hS' hacc =>
  ⟨rfl,h',tk,acc',c',rfl,fun b o e=>hk b o (BA (AY e)) (AM _ e),hS',hacc⟩
 refine BE base (fun fin s' h=>?_) (fun e s' h=>Bh h)
 cases fin with
 | done f=>cases f with
  | ret v=>exact go v s' h
  | next=>exact Bh h
  | brk=>exact Bh h
  | cont=>exact Bh h
 | again c' =>
  refine⟨h.1,Fo h.2 fun r s'' hr=>?_⟩
  cases r with
  | error e=>exact Bh hr
  | ok f=>cases f with
   | ret v=>exact go v s'' hr
   | next=>exact Bh hr
   | brk=>exact Bh hr
   | cont=>exact Bh hr
theorem zHl(r:Addr){a b c:Int}{t u v:Tok}{n:Nat}(hsmall:Dy a b c=true)(hn:CD a b c=n)(hlen:n<=2 ^ 24) :
  Meets (Builtin.«tuple.__new__» ⟨[.type "tuple",.ref r],[]⟩) (fun A R s=>A.handled=none/\s.heap.get? r=some { cls:=.type "range",data:=.fields #[.int a t,.int b u,.int c v] }/\∀ (h':Heap) (tk:Nat) (acc:Array AB),(∀ b o,s.heap.get? b=some o->h'.get? b=some o) ->
   Hn (fun i v=>∃ t,v=.int (a+i * c) t) acc n->R (.ok (.ret (.ref h'.objs.size))) { s with heap:=h'.push { cls:=.type "tuple",data:=.seq acc },toks:=tk }) :=
 .of_wp fun prog w A R s h=>by
  obtain⟨hh,hr,h⟩:=h
  have s1:=sub_tuple_self
  have s2:=init_tuple_lookup
  have s3:=madeHere_tuple
  have hT:s.TypeIs (.ref r) "range":=⟨_,hr,rfl⟩
  have hh1:A.in1.handled=none:=hh
  have hr':LH s.heap r a b c t u v:=hr
  wp_walk using Fq hT,zIC hh1 hr' hsmall hn hlen
  intro h' tk acc hk hacc
  show AV _ _ (Bw acc.toList.toArray >>= fun v=>ret v) _ _ _; unfold Bw
  refine AD (BR ?_ (show acc.toList.toArray.size<=AE by simp only[Array.toArray_toList]; rw[hacc.1,BM]; omega)); refine AO ⟨_,rfl,?_⟩
  rw[show acc.toList.toArray=acc by simp]
  exact h h' tk acc hk hacc
theorem zIE{Q:AB->AG->Prop}{r:Addr}{a b c:Int}{t u v:Tok}{n:Nat}(hh:A.handled=none)(hr:s.heap.get? r=some { cls:=.type "range",data:=.fields #[.int a t,.int b u,.int c v] })(hsmall:Dy a b c=true)
  (hn:CD a b c=n) (hlen:n<=2 ^ 24)
  (h:∀ (h':Heap) (tk:Nat) (acc:Array AB),(∀ b o,s.heap.get? b=some o->h'.get? b=some o)->Hn (fun i v=>∃ t,v=.int (a+i * c) t) acc n->Q (.ref h'.objs.size) { s with heap:=h'.push { cls:=.type "tuple",data:=.seq acc },toks:=tk }) :
  AV (model prog w) A (call (.type "tuple") [.ref r]) Q E s :=
 LI F.called_tuple (by decide) (F.typeCall_tuple_1 _) (F.newCall_tuple_1 _) (fun obj=>Ho obj _) F.entry_tuple_new (zHl r hsmall hn hlen) ⟨hh,hr,fun h' tk acc hk hacc=>⟨⟨_,AZ _ rfl,rfl⟩,h h' tk acc hk hacc⟩⟩
end
section
variable {X:Cx}
theorem zK3:CallR X (.type "range") (fun xs H Q=>∃ j:Int,xs=[.int j]/\∀ p,H p=none->Q (.ref p) (upd H p (.rng 0 j))):=by
 intro pins s σ H xs us Q I r h
 obtain⟨j,rfl,q⟩:=h
 obtain⟨u,rfl,t,rfl⟩:=vals1 r
 refine LC ⟨.ref s.heap.objs.size,_,I.laid (fun b o e=>AM _ e) (AL _) (show ObjOk X.prog X.w _ _ _ (.rng 0 j) from ⟨_,_,_,AZ _ rfl⟩),rfl,q _ (I.hok.fresh (AL _))⟩
theorem zKm:CallR X (.type "range") (fun xs H Q=>∃ i j:Int,xs=[.int i,.int j]/\∀ p,H p=none->Q (.ref p) (upd H p (.rng i j))):=by
 intro pins s σ H xs us Q I r h
 obtain⟨i,j,rfl,q⟩:=h
 obtain⟨u,u',rfl,⟨t,rfl⟩,⟨t',rfl⟩⟩:=vals2 r
 refine call_range_2 ⟨.ref s.heap.objs.size,_,I.laid (fun b o e=>AM _ e) (AL _) (show ObjOk X.prog X.w _ _ _ (.rng i j) from ⟨_,_,_,AZ _ rfl⟩),rfl,q _ (I.hok.fresh (AL _))⟩
theorem rsz{lo hi:Int}:CD lo hi 1=(((hi - lo).toNat:Nat):Int):=by rw[Kn]; split <;> omega
theorem zGn(hc:X.calm=true):CallR X (.type "list") (fun xs H Q=>∃ p lo hi,xs=[.ref p]/\H p=some (.rng lo hi)/\(-(2 ^ 62)<=lo/\lo < 2 ^ 62/\-(2 ^ 62)<=hi/\hi < 2 ^ 62)/\(hi - lo).toNat<=2 ^ 24/\∀ l,H l=none->Q (.ref l) (upd H l (.lst (rngV lo (hi - lo).toNat)))):=by
 intro pins s σ H xs us Q I r h
 obtain⟨p,lo,hi,rfl,hp,⟨b1,b2,b3,b4⟩,hl,q⟩:=h
 obtain⟨u,rfl,rx⟩:=vals1 r
 cases rx
 obtain⟨t,t',t'',ho⟩:=(show ObjOk X.prog X.w H s.heap p (.rng lo hi) from I.hok p _ hp)
 refine call_list_range (n:=(hi - lo).toNat) (I.ok.hd hc) ho (JV b1 b2 b3 b4) rsz hl fun h' tk acc c' hk e hacc=>?_
 exact⟨.ref s.heap.objs.size,_,I.laid hk (AL _) (show ObjOk X.prog X.w _ h' _ (.lst _) from ⟨by rw[zEE,BM]; omega,acc.toList,c',zG8 hacc,by simpa using e⟩),rfl,q _ (I.hok.fresh (AL _))⟩
theorem zGM(hc:X.calm=true):CallR X (.type "tuple") (fun xs H Q=>∃ p lo hi,xs=[.ref p]/\H p=some (.rng lo hi)/\(-(2 ^ 62)<=lo/\lo < 2 ^ 62/\-(2 ^ 62)<=hi/\hi < 2 ^ 62)/\(hi - lo).toNat<=2 ^ 24/\∀ l,H l=none->Q (.ref l) (upd H l (.tup (rngV lo (hi - lo).toNat)))):=by
 intro pins s σ H xs us Q I r h
 obtain⟨p,lo,hi,rfl,hp,⟨b1,b2,b3,b4⟩,hl,q⟩:=h
 obtain⟨u,rfl,rx⟩:=vals1 r
 cases rx
 obtain⟨t,t',t'',ho⟩:=(show ObjOk X.prog X.w H s.heap p (.rng lo hi) from I.hok p _ hp)
 refine zIE (n:=(hi - lo).toNat) (I.ok.hd hc) ho (JV b1 b2 b3 b4) rsz hl fun h' tk acc hk hacc=>?_
 have I1:Inv X pins σ H { s with heap:=h',toks:=tk }:=I.kept hk
 exact⟨.ref h'.objs.size,_,I1.laid (t':=tk) (fun b o e=>AM _ e) (AL _) (show ObjOk X.prog X.w _ _ _ (.tup _) from ⟨by rw[zEE,BM]; omega,acc.toList,zG8 hacc,by simpa using TupD.new h' acc⟩),rfl,q _ (I1.hok.fresh (AL _))⟩
end
theorem zFB(t:Addr)(items:Array AB)(n:Nat)(dd:Option Addr)(sl:Array (Option AB))(x:AB)(e:AB->Bool)(j:Nat)(hj:j < items.size)(hit:e items[j]=true)(hno:∀ m (hm:m < items.size),m < j->e items[m]=false) :
  Meets (Builtin.«tuple.index» ⟨[.ref t,x],[]⟩) (fun A R s=>s.heap.get? t=some { cls:=.type "tuple",dict:=dd,data:=.seq items n,slots:=sl }/\(∀ y,y∈items->Fp A.in1 s y x (e y))/\R (.ok (.ret (.int j s.toks))) { s with toks:=s.toks+1 }) :=
 .of_wp fun prog w A R s h=>by
  obtain⟨hp,g,d,tk,os⟩:=s; obtain⟨hl,he,h⟩:=h
  wp_walk using GZ hl
  show AV _ _ (forIn (m:=Sem) (β:=Option Fin×PUnit) [:min items.size items.size] (none,()) _) _ _ _
  rw[Ic]
  refine Je _ (fun rest b s'=>b=(none,())/\s'=⟨hp,g,d,tk,os⟩/\∃ i,i<=j/\rest=G6 i (items.size - i) 1) _ ?_ ?_ _ _ ?_
  ·rintro i rest b s' ⟨rfl,rfl,k,hk,hr⟩
   have hlt:k < items.size:=by lia
   obtain⟨m,hm⟩:∃ m,items.size - k=m+1:=⟨items.size - k - 1,by lia⟩
   rw[hm,FQ]at hr
   injection hr with h1 h2
   subst h1
   have hi:items[i]?=some items[i]:=by simp[hlt]
   simp only[hi]
   refine AD (he items[i] (Array.getElem_mem hlt) prog w _ _ ?_)
   by_cases hij:i=j
   ·subst hij
    rw[hit]
    simp only[if_true]
    refine AD ?_
    show AV _ _ (do let v ← mkInt i; ret v) _ _ _
    exact AD (wpAny_mkInt (AO (AO (AO ⟨_,rfl,h⟩))))
   ·rw[hno i hlt (by lia)]
    simp only[Ar,if_false]
    exact AO ⟨rfl,rfl,i+1,by lia,by rw[h2]; congr 1; lia⟩
  ·rintro b s' ⟨rfl,rfl,k,hk,hr⟩
   have q:items.size - k=0:=by have q:=congrArg DR hr; simp at q; lia
   lia
  ·refine⟨rfl,rfl,0,A9 _,?_⟩
   simp[Ie]
section
variable {X:Cx}
noncomputable def rTupIndex (K:AU):V->List V->Hp->VK->Prop:=fun x vs H Q=>∃ t xs y j,x=.ref t/\vs=[y]/\SqT K H t xs/\flatV y=true/\xs.all flatV=true/\(xs.findIdx? fun z=>eqV z y)=some j/\Q (.int (j:Nat)) H
theorem zIK:MtM X "tuple.index" (rTupIndex X.K):=by
 intro pins s σ H x vs v us Q I rx rv h
 obtain⟨t,xs,y,j,rfl,rfl,hq,fy,fx,hj,q⟩:=h
 cases rx
 obtain⟨u,rfl,ru⟩:=rv.one
 obtain⟨its,r,⟨⟨cls,dd,data,sl⟩,ho,hc,n,hd⟩,hz⟩:=I.tuple hq
 simp only at hc hd
 subst hc hd
 have hlen:=r.length
 obtain⟨hjl,hjt,hjn⟩:=E3.mp hj
 have hiU:∀ m (hm:m < its.length),eqU y its[m]=eqV (xs[m]'(by lia)) y:=fun m hm=>by
  have e1:xs[m]?=some (xs[m]'(by lia)):=by simp
  obtain⟨u',hu',ru'⟩:=r.get e1
  have e2:its[m]=u':=by rw[AR hm]at hu'; exact Ab hu'
  rw[e2]
  exact zH3 ru' (BK.mp fx _ (DL _))
 refine DZ F.slot_tuple_index ⟨_,ho,rfl⟩ F.entry_tuple_index (F.args_tuple_index_2 _ _)
  (zFB t its.toArray n dd sl u (eqU y) j (by simp; lia) (by show eqU y its[j]=true; rw[hiU j (by lia)]; exact hjt) (fun m hm hmj=>by
   show eqU y its[m]=false
   rw[hiU m (by simpa using hm)]
   exact Bool.eq_false_iff.mpr (hjn m hmj))) ⟨ho,?_,?_⟩
 ·intro z hzm
  exact zBh ru fy r fx z (by simpa using hzm)
 ·exact⟨.int (j:Nat),H,I.tok _,⟨_,rfl⟩,q⟩
end
section
variable {X:Cx}
theorem Same.upd{H:Hp}{p:Addr}{o:HO}(h:H p=none):Same H (upd H p o):=fun b u e=>by rw[zAK (zAZ e h)]; exact e
end
theorem zQc{X:Cx}{x:Str}{T:String}{pos:Pos}(hg:Gl X x)(hm:X.mg x=none)(hv:CN x=some (.type T))(hn:x≠"__name__":=by decide)(hd:(x == ("__debug__":Str))=false:=by decide):PE X (.Name x pos) (tC (.ty T)):=zN9 (v:=.ty T) hg hm hv rfl hn hd
theorem zPC{X:Cx}(K:AU)(hK:X.K=K){es:List Expr}{k:Nat}{pos:Pos}{t:TGs}{n:Nat}(hc:X.calm=true)(h:PGs X es t)(hn:(B7 es X.env).length=n:=by rfl)(hst:(B7 es X.env).findIdx? (·.1)=none:=by rfl):PG X (.Tuple es k pos) (gTup K n t):=by
 subst hK
 exact zPY hc h hn hst
theorem small_show{k:Nat}(h:k < 10):FR (.int (k:Int))=true/\G7 8 (.int (k:Int))=true/\IP (.int (k:Int))<=4:=by
 match k,h with
 | 0,_=>decide +kernel
 | 1,_=>decide +kernel
 | 2,_=>decide +kernel
 | 3,_=>decide +kernel
 | 4,_=>decide +kernel
 | 5,_=>decide +kernel
 | 6,_=>decide +kernel
 | 7,_=>decide +kernel
 | 8,_=>decide +kernel
 | 9,_=>decide +kernel
section
variable {prog:Ah}{w:Aw}{A:A4}{E:AB->AG->Prop}{s:AG}
theorem zJv{it:Addr}{T:String}{o:Obj}{vs:List AB}{ns:List Int}{n:Nat}{Q:AB->AG->Prop}(hT:T="list"\/T="tuple")(ho:s.heap.get? it=some o)(hc:o.cls=.type T)(hd:o.data=.seq vs.toArray n)(hI:By vs ns)(h64:vs.length < 64)
  (h:∀ (h1 h':Heap) (out:Array AB) (e:Nat) (ns':List Int),(∀ b o,s.heap.get? b=some o->h1.get? b=some o)->(∀ b o,h1.get? b=some o->h'.get? b=some o)->h'.get? h1.objs.size=some (Bf "list" out e)->By out.toList ns'->ns'.Perm ns->ns'.Pairwise (·<=·)->Q (.ref h1.objs.size) { s with heap:=h' }) :
  AV (model prog w) A (call (.builtin "sorted") [.ref it]) Q E s:=by
 refine Fy kind_sorted LJ LM (LN _) ?_; unfold Builtin.«sorted»; refine AD (m:=checkCount "sorted" 1 1 _) (AO ?_)
 refine AD (JP it hT ho hc hd (fun h1 hk1=>?_) (by rw[AN,BM]; lia))
 refine AD (FS ?_)
 have hoL:(h1.push (Bf "list" vs.toArray 0)).get? h1.objs.size=some (Bf "list" vs.toArray 0):=AZ _ rfl
 show AV _ _ _ _ _ { s with heap:=h1.push (Bf "list" vs.toArray 0) }
 refine AD (CQ (Bu KZ ⟨_,hoL,rfl⟩ KB (list_sort_tree hoL hI h64 fun out ns' a1 a2 a3=>⟨_,rfl,?_⟩) (Kb _)))
 obtain⟨e,he⟩:=sortedHeap_at (out:=out) hoL
 refine AO ⟨_,rfl,h h1 _ out e ns' hk1 (fun b ob q=>?_) he a1 a2 a3⟩
 have hlt:=AY q
 rw[sortedHeap_old (BA hlt) (by rw[size_push']; exact FH hlt)]
 exact AM _ q
end
theorem zDB:∀ {us:List AB} {ns:List Int},By us ns->Vals (ns.map V.int) us
 | _,_,.nil=>.nil
 | _,_,.cons _ t r=>.cons ⟨t,rfl⟩ (zDB r)
section
variable {X:Cx}
theorem zIQ:CallR X (.builtin "sorted") (fun xs H Q=>∃ (p:Addr) (ns:List Int),xs=[.ref p]/\(SqL X.K H p (ns.map V.int)\/SqT X.K H p (ns.map V.int))/\ns.length < 64/\∀ (l:Addr) (ns':List Int),H l=none->ns'.Perm ns->ns'.Pairwise (·<=·)->Q (.ref l) (upd H l (.lst (ns'.map V.int)))):=by
 intro pins s σ H xs us Q I r h
 obtain⟨p,ns,rfl,hq,hl,q⟩:=h
 obtain⟨u,rfl,rx⟩:=vals1 r
 cases rx
 have go:∀ (T:String) (o:Obj) (its:List AB) (n:Nat),(T="list"\/T="tuple")->s.heap.get? p=some o->o.cls=.type T->o.data=.seq its.toArray n->Vals (ns.map V.int) its->AV (model X.prog X.w) X.A (call (.builtin "sorted") [.ref p]) (EP X pins σ Q) X.xe s:=fun T o its n hT ho hc hd rv=>by
  have hlen:=rv.length
  rw[Ak]at hlen
  refine zJv hT ho hc hd (zET rv) (by lia) fun h1 h' out e ns' k1 k2 he hI hp hs=>?_
  have I1:Inv X pins σ H { s with heap:=h1 }:=I.kept (t':=s.toks) k1
  have hl':ns'.length < 64:=by rw[hp.length_eq]; exact hl
  exact⟨.ref h1.objs.size,_,I1.laid (t':=s.toks) k2 (AL _) (show ObjOk X.prog X.w _ h' _ (.lst _) from ⟨by rw[Ak,BM]; lia,out.toList,e,zDB hI,by simpa [Bf] using he⟩),rfl,q _ ns' (I1.hok.fresh (AL _)) hp hs⟩
 rcases hq with hq | hq
 ·obtain⟨its,rv,⟨o,n,e,c,_,d⟩,_⟩:=I.list hq
  exact go "list" o its n (.inl rfl) e c d rv
 ·obtain⟨its,rv,⟨o,e,c,n,d⟩,_⟩:=I.tuple hq
  exact go "tuple" o its n (.inr rfl) e c d rv
end
section
variable {prog:Ah}{w:Aw}{A:A4}{E:AB->AG->Prop}{s:AG}
theorem zC8{t sl:Addr}{items:Array AB}{vl vu:AB}{lo hi:Option Int}{Q:AB->AG->Prop}(ht:Ee s.heap t items)(hs:s.heap.IsSliceOf sl vl vu .none)(pl:Ez vl lo)(pu:Ez vu hi)
  (hw:HT.sIx items.size 0 lo=0/\HT.sIx items.size items.size hi=items.size) (h:Q (.ref t) s):AV (model prog w) A (D8 (.ref t) (.ref sl)) Q E s:=by
 obtain⟨os,hos,hcs,hds⟩:=id hs
 have hTs:s.TypeIs (.ref sl) "slice":=⟨os,hos,hcs⟩
 unfold D8; try with_reducible refine CQ ?_
 first | refine AD (AO ?_) | skip
 refine AD (JK ht.typeIs (by decide) ?_); refine AD (B5 (name:=Di "__getitem__") ht.typeIs Bt (Bu Bt ht.typeIs IZ ?_ (Ip _ _)))
 show AV _ _ (Eu (.ref t) >>= _) _ _ s; refine AD (Kp ht ?_); refine AD (Fq hTs ?_)
 rw[if_pos (by decide)]; refine AD (HT.sliceApplied_gen hs pl pu ?_)
 have hyes:((((HT.sIx items.size 0 lo:Nat):Int) == 0 && (1:Int) == 1 && (HT.sIx items.size items.size hi - HT.sIx items.size 0 lo) == items.size)=true):=by
  rw[hw.1,hw.2]; simp
 show AV _ _ (if (((HT.sIx items.size 0 lo:Nat):Int) == 0 && (1:Int) == 1 && (HT.sIx items.size items.size hi - HT.sIx items.size 0 lo) == items.size)=true then _ else _) _ _ s
 rw[if_pos hyes]
 refine AD ?_
 unfold Jm
 refine AD (Fq ht.typeIs (AO ?_))
 rw[if_pos (by decide)]
 exact AD (Gr (AO ⟨_,rfl,AO h⟩))
end
end L2
namespace D
open PySem L2
abbrev Fg:=AU
inductive T where
 | a (v:V)
 | t (xs:List T)
 | l (xs:List T)
 | f (n:Str)
 | x (c:Str) (fs:List (Str×V))
abbrev Dk:=Sum (List (Key×T)) (List (List Key×T))
inductive G where
 | v (t:T)
 | l (xs:List T)
 | r (xs:List T)
 | k (xs:List T)
 | d (kvs:Dk)
 | e (kvs:Dk)
noncomputable def isMut:G->Bool
 | .l _=>true
 | .d _=>true
 | _=>false
inductive S where
 | v (t:T)
 | l (xs:List T)
 | s (i:Nat)
 | d (kvs:Dk)
abbrev En:=List (Option G)
abbrev DE:=En->Option (S×En)
abbrev DT:=En->Option (Bool×En)
abbrev DA:=En->Option (List S×En)
inductive O where
 | nx (g:En) | rt (s:S) (g:En) | bk (g:En) | ct (g:En)
abbrev DS:=En->Option O
noncomputable def cOk:List V->Bool
 | .int _::_=>true
 | .ref _::_=>true
 | [.str x]=>decide (x="yes") || decide (x="no")
 | _=>false
def KT (K:Fg) (a:Addr) (xs:List V):Prop:=∃ (o:Obj) (its:Array AB) (n:Nat),K.lookup a=some o/\o.cls=.type "tuple"/\o.dict=none/\o.data=.seq its n/\its.size<=AE/\Vals xs its.toList/\cOk xs=true
def Tp (K:Fg) (H:Hp) (p:Addr) (vs:List V):Prop:=H p=some (.tup vs)\/KT K p vs
theorem Tp.sq{K:Fg}{H:Hp}{p:Addr}{vs:List V}(h:Tp K H p vs):SqT K H p vs:=by
 rcases h with h | ⟨o,its,n,a,b,c,d,e,f,_⟩
 ·exact SqT.of h
 ·exact .inr ⟨o,its,n,a,b,d,e,f⟩
theorem Tp.of{K:Fg}{H:Hp}{p:Addr}{vs:List V}(h:H p=some (.tup vs)):Tp K H p vs:=.inl h
def KL (K:Fg) (a:Addr) (xs:List V):Prop:=∃ (o:Obj) (its:Array AB) (n:Nat),K.lookup a=some o/\o.cls=.type "list"/\o.dict=none/\o.data=.seq its n/\its.size<=AE/\Vals xs its.toList
def KF (K:Fg) (H:Hp) (p:Addr) (vs:List V):Prop:=(∃ o,H p=some (.frz o (.lst vs)))\/KL K p vs
def XOk (K:Fg) (H:Hp) (p:Addr) (c:Str) (fs:List (Str×V)):Prop:=∃ (C:Addr) (d:Option Addr),IQ K Av c=some (some (.ref C)) /\
 H p=some (.ext fun h=>∃ o,h.get? p=some o/\o.cls=.ref C/\o.dict=d/\PySem.W.notCls o=true)/\((d=none/\fs=[])\/∃ dx,d=some dx/\H dx=some (.xd fs))
def FOk (K:Fg) (v:V) (n:Str):Prop:=∃ p,v=.ref p/\IQ K Av n=some (some (.ref p))
mutual
noncomputable def Im (K:Fg) (H:Hp):V->T->Prop
 | v,.a u=>v=u
 | v,.t ts=>∃ p vs,v=.ref p/\Tp K H p vs/\Ims K H vs ts
 | v,.l ts=>∃ p vs,v=.ref p/\KF K H p vs/\Ims K H vs ts
 | v,.f n=>FOk K v n
 | v,.x c fs=>∃ p,v=.ref p/\XOk K H p c fs
noncomputable def Ims (K:Fg) (H:Hp):List V->List T->Prop
 | vs,[]=>vs=[]
 | vs,t::ts=>∃ v r,vs=v::r/\Im K H v t/\Ims K H r ts
end
structure W where
 L:List Addr
 R:Addr->Prop
structure Fr where
 H0:Hp
 fx:List Addr
 pins:List (Nat×Addr)
def Evo (L:List Addr) (H H':Hp):Prop:=∀ b o,H b=some o->b∉L->H' b=some o
noncomputable def Mu:HO->Prop
 | .lst _=>True
 | .dK _=>True
 | .dT _=>True
 | _=>False
def LL (L:List Addr) (H:Hp):Prop:=∀ p∈L,∃ o,H p=some o/\Mu o
theorem Evo.refl{L:List Addr}{H:Hp}:Evo L H H:=fun _ _ h _=>h
theorem Evo.trans{L:List Addr}{H H1 H2:Hp}(a:Evo L H H1)(b:Evo L H1 H2):Evo L H H2:=fun c o h n=>b c o (a c o h n) n
theorem Evo.wide{L L':List Addr}{H H':Hp}(a:Evo L' H H')(h:∀ p∈L',p∈L):Evo L H H':=fun c o e n=>a c o e fun z=>n (h c z)
theorem Evo.new{L:List Addr}{H:Hp}{p:Addr}{o:HO}(h:H p=none):Evo L H (upd H p o):=fun b u e _=>by rw[zAK (zAZ e h)]; exact e
theorem Evo.of_same{L:List Addr}{H H':Hp}(h:Same H H'):Evo L H H':=fun b u e _=>h b u e
theorem zGw{K:Fg}{L:List Addr}{H H':Hp}{p:Addr}{vs:List V}(e:Evo L H H')(hL:LL L H)(h:Tp K H p vs):Tp K H' p vs:=by
 rcases h with h | h
 ·refine .inl (e _ _ h fun z=>?_)
  obtain⟨o,q,m⟩:=hL p z
  rw[h]at q; cases q; exact m
 ·exact .inr h
theorem KF.evo{K:Fg}{L:List Addr}{H H':Hp}{p:Addr}{vs:List V}(e:Evo L H H')(hL:LL L H)(h:KF K H p vs):KF K H' p vs:=by
 rcases h with ⟨o,h⟩ | h
 ·refine .inl ⟨o,e _ _ h fun z=>?_⟩
  obtain⟨o,q,m⟩:=hL p z
  rw[h]at q; cases q; exact m
 ·exact .inr h
theorem XOk.evo{K:Fg}{L:List Addr}{H H':Hp}{p:Addr}{c:Str}{fs:List (Str×V)}(e:Evo L H H')(hL:LL L H)(h:XOk K H p c fs):XOk K H' p c fs:=by
 obtain⟨C,d,h1,h2,h3⟩:=h
 refine⟨C,d,h1,e _ _ h2 fun z=>?_,h3.imp id fun ⟨dx,a,b⟩=>⟨dx,a,e _ _ b fun z=>?_⟩⟩
 ·obtain⟨o,q,m⟩:=hL p z
  rw[h2]at q; cases q; exact m
 ·obtain⟨o,q,m⟩:=hL dx z
  rw[b]at q; cases q; exact m
mutual
theorem Im.evo{K:Fg}{L:List Addr}{H H':Hp}(e:Evo L H H')(hL:LL L H):∀ {v:V} {t:T},Im K H v t->Im K H' v t
 | _,.a _,h=>h
 | _,.t _,h=>by
  unfold Im at h ⊢
  obtain⟨p,vs,rfl,hs,hi⟩:=h
  exact⟨p,vs,rfl,zGw e hL hs,Ims.evo e hL hi⟩
 | _,.l _,h=>by
  unfold Im at h ⊢
  obtain⟨p,vs,rfl,hs,hi⟩:=h
  exact⟨p,vs,rfl,hs.evo e hL,Ims.evo e hL hi⟩
 | _,.f _,h=>by
  unfold Im at h ⊢
  exact h
 | _,.x _ _,h=>by
  unfold Im at h ⊢
  obtain⟨p,rfl,hs⟩:=h
  exact⟨p,rfl,hs.evo e hL⟩
theorem Ims.evo{K:Fg}{L:List Addr}{H H':Hp}(e:Evo L H H')(hL:LL L H):∀ {vs:List V} {ts:List T},Ims K H vs ts->Ims K H' vs ts
 | _,[],h=>h
 | _,_::_,h=>by
  unfold Ims at h ⊢
  obtain⟨v,r,rfl,h1,h2⟩:=h
  exact⟨v,r,rfl,Im.evo e hL h1,Ims.evo e hL h2⟩
end
section
variable {K:Fg}{H H':Hp}
theorem Ims.nil:Ims K H [] []:=by unfold Ims; rfl
theorem Ims.cons{v:V}{vs:List V}{t:T}{ts:List T}(h:Im K H v t)(hs:Ims K H vs ts):Ims K H (v::vs) (t::ts):=by unfold Ims; exact⟨v,vs,rfl,h,hs⟩
theorem Ims.inv{vs:List V}{t:T}{ts:List T}(h:Ims K H vs (t::ts)):∃ v r,vs=v::r/\Im K H v t/\Ims K H r ts:=by unfold Ims at h; exact h
theorem Ims.inv0{vs:List V}(h:Ims K H vs []):vs=[]:=by unfold Ims at h; exact h
theorem Ims.len:∀ {vs:List V} {ts:List T},Ims K H vs ts->vs.length=ts.length
 | _,[],h=>by rw[h.inv0]; rfl
 | _,_::_,h=>by obtain⟨v,r,rfl,_,h2⟩:=h.inv; simp[h2.len]
theorem Ims.app:∀ {vs us:List V} {ts ss:List T},Ims K H vs ts->Ims K H us ss->Ims K H (vs++us) (ts++ss)
 | _,_,[],_,h,h'=>by rw[h.inv0]; exact h'
 | _,_,_::_,_,h,h'=>by obtain⟨v,r,rfl,h1,h2⟩:=h.inv; exact .cons h1 (h2.app h')
theorem Ims.one{v:V}{t:T}(h:Im K H v t):Ims K H [v] [t]:=.cons h .nil
theorem Ims.get:∀ {vs:List V} {ts:List T} {i:Nat} {t:T},Ims K H vs ts->ts[i]?=some t->∃ v,vs[i]?=some v/\Im K H v t
 | _,[],_,_,_,e=>by simp at e
 | _,_::_,0,_,h,e=>by obtain⟨v,r,rfl,h1,h2⟩:=h.inv; simp at e; subst e; exact⟨v,rfl,h1⟩
 | _,_::_,i+1,_,h,e=>by obtain⟨v,r,rfl,h1,h2⟩:=h.inv; simpa using h2.get (i:=i) (by simpa using e)
theorem Ims.take:∀ (n:Nat) {vs:List V} {ts:List T},Ims K H vs ts->Ims K H (vs.take n) (ts.take n)
 | 0,_,_,_=>by simp; exact .nil
 | _+1,_,[],h=>by rw[h.inv0]; exact .nil
 | n+1,_,_::_,h=>by obtain⟨v,r,rfl,h1,h2⟩:=h.inv; exact .cons h1 (h2.take n)
theorem Ims.drop:∀ (n:Nat) {vs:List V} {ts:List T},Ims K H vs ts->Ims K H (vs.drop n) (ts.drop n)
 | 0,_,_,h=>h
 | _+1,_,[],h=>by rw[h.inv0]; exact .nil
 | n+1,_,_::_,h=>by obtain⟨v,r,rfl,h1,h2⟩:=h.inv; exact h2.drop n
theorem Ims.set:∀ {vs:List V} {ts:List T} (i:Nat) {v:V} {t:T},Ims K H vs ts->Im K H v t->Ims K H (vs.set i v) (ts.set i t)
 | _,[],_,_,_,h,_=>by rw[h.inv0]; exact .nil
 | _,_::_,0,_,_,h,h'=>by obtain⟨v,r,rfl,h1,h2⟩:=h.inv; exact .cons h' h2
 | _,_::_,i+1,_,_,h,h'=>by obtain⟨v,r,rfl,h1,h2⟩:=h.inv; exact .cons h1 (h2.set i h')
theorem Ims.erase:∀ {vs:List V} {ts:List T} (i:Nat),Ims K H vs ts->Ims K H (vs.eraseIdx i) (ts.eraseIdx i)
 | _,[],_,h=>by rw[h.inv0]; exact .nil
 | _,_::_,0,h=>by obtain⟨v,r,rfl,h1,h2⟩:=h.inv; exact h2
 | _,_::_,i+1,h=>by obtain⟨v,r,rfl,h1,h2⟩:=h.inv; exact .cons h1 (h2.erase i)
theorem Ims.atoms:∀ (vs:List V),Ims K H vs (vs.map T.a)
 | []=>.nil
 | v::r=>.cons (by unfold Im; rfl) (Ims.atoms r)
theorem Ims.of_atoms:∀ {vs:List V} {us:List V},Ims K H vs (us.map T.a)->vs=us
 | _,[],h=>h.inv0
 | _,_::_,h=>by obtain⟨v,r,rfl,h1,h2⟩:=h.inv; unfold Im at h1; rw[h1,Ims.of_atoms h2]
theorem Im.atom{v:V}:Im K H v (.a v):=by unfold Im; rfl
theorem Im.tup{p:Addr}{vs:List V}{ts:List T}(h:H p=some (.tup vs))(hs:Ims K H vs ts):Im K H (.ref p) (.t ts):=by unfold Im; exact⟨p,vs,rfl,Tp.of h,hs⟩
theorem Im.inv{v:V}{ts:List T}(h:Im K H v (.t ts)):∃ p vs,v=.ref p/\Tp K H p vs/\Ims K H vs ts:=by unfold Im at h; exact h
theorem Im.invl{v:V}{ts:List T}(h:Im K H v (.l ts)):∃ p vs,v=.ref p/\KF K H p vs/\Ims K H vs ts:=by unfold Im at h; exact h
theorem Im.invx{v:V}{c:Str}{fs:List (Str×V)}(h:Im K H v (.x c fs)):∃ p,v=.ref p/\XOk K H p c fs:=by unfold Im at h; exact h
theorem Im.inva{v u:V}(h:Im K H v (.a u)):v=u:=by unfold Im at h; exact h
end
theorem KF.sq{K:Fg}{H:Hp}{p:Addr}{vs:List V}(h:KF K H p vs):SqL K H p vs:=by
 rcases h with h | h
 ·exact .inl (.inr h)
 ·exact .inr h
theorem KF.of{K:Fg}{H:Hp}{p:Addr}{vs:List V}(h:SqL K H p vs)(n:∀ us,H p≠some (.lst us)):KF K H p vs:=by
 rcases h with (h | h) | h
 ·exact absurd h (n vs)
 ·exact .inl h
 ·exact .inr h
noncomputable def DOk (K:Fg) (H:Hp):HO->Dk->Prop
 | .dK l,.inl kvs=>Cd (fun (a:Key×V) (b:Key×T)=>a.1=b.1/\Im K H a.2 b.2) l kvs
 | .dT l,.inr kvs=>Cd (fun (a:List Key×V) (b:List Key×T)=>a.1=b.1/\Im K H a.2 b.2) l kvs
 | _,_=>False
theorem DOk.mu{K:Fg}{H:Hp}{o:HO}{kvs:Dk}(h:DOk K H o kvs):Mu o:=by
 unfold DOk at h
 split at h
 ·trivial
 ·trivial
 ·exact h.elim
theorem DOk.evo{K:Fg}{L:List Addr}{H H':Hp}{o:HO}{kvs:Dk}(e:Evo L H H')(hL:LL L H)(h:DOk K H o kvs):DOk K H' o kvs:=by
 unfold DOk at h ⊢
 split at h
 ·exact Paired.mapP h fun _ _ z=>⟨z.1,z.2.evo e hL⟩
 ·exact Paired.mapP h fun _ _ z=>⟨z.1,z.2.evo e hL⟩
 ·exact h.elim
noncomputable def GOk (K:Fg) (w:W) (H:Hp) (v:V):G->Prop
 | .v t=>Im K H v t
 | .l xs=>∃ p vs,v=.ref p/\p∈w.L/\H p=some (.lst vs)/\Ims K H vs xs
 | .r xs=>∃ p vs,v=.ref p/\Ims K H vs xs/\H p=some (.lst vs)/\p∉w.L/\w.R p
 | .k xs=>∃ p vs,v=.ref p/\Ims K H vs xs/\KF K H p vs
 | .d kvs=>∃ p o,v=.ref p/\p∈w.L/\H p=some o/\DOk K H o kvs
 | .e kvs=>∃ p o,v=.ref p/\DOk K H o kvs/\H p=some o/\p∉w.L/\w.R p
theorem GOk.own{K:Fg}{w:W}{H:Hp}{v:V}{g:G}(m:isMut g=true)(h:GOk K w H v g):∃ p,v=.ref p/\p∈w.L:=by
 cases g with
 | l xs=>obtain⟨p,vs,e,m,_⟩:=h; exact⟨p,e,m⟩
 | d xs=>obtain⟨p,vs,e,m,_⟩:=h; exact⟨p,e,m⟩
 | v _=>cases m
 | r _=>cases m
 | k _=>cases m
 | e _=>cases m
def Ow (C:Fr) (p:Addr):Prop:=p∈C.fx\/C.H0 p=none
structure Rep(K:Fg)(C:Fr)(w:W)(Γ:En)(σ:St)(H:Hp):Prop where
 len:σ.length=Γ.length
 val:∀ (i:Nat) g,Γ[i]?=some (some g)->∃ v,σ[i]?=some (some v)/\GOk K w H v g
 apart:∀ (i j:Nat) p g g',isMut g=true->isMut g'=true->Γ[i]?=some (some g)->Γ[j]?=some (some g')->σ[i]?=some (some (.ref p))->σ[j]?=some (some (.ref p))->i=j
 lst:LL w.L H
 own:∀ p∈w.L,Ow C p
 ra:∀ p,w.R p->∃ o,H p=some o
 rl:∀ p,w.R p->p∉w.L
 frame:∀ b o,C.H0 b=some o->b∉C.fx->H b=some o
 pin:∀ q∈C.pins,σ[q.1]?=some (some (.ref q.2))/\∃ xs,Γ[q.1]?=some (some (.l xs))
noncomputable def SOk (K:Fg) (C:Fr) (w:W) (σ:St) (H:Hp) (v:V):S->Prop
 | .v t=>Im K H v t
 | .l xs=>∃ p vs,v=.ref p/\p∉w.L/\¬ w.R p/\Ow C p/\H p=some (.lst vs)/\Ims K H vs xs
 | .s i=>σ[i]?=some (some v)
 | .d kvs=>∃ p o,v=.ref p/\p∉w.L/\¬ w.R p/\Ow C p/\H p=some o/\DOk K H o kvs
section
variable {K:Fg}{C:Fr}{w:W}{Γ Γ':En}{σ:St}{H H':Hp}
theorem GOk.evo{v:V}{g:G}(e:Evo w.L H H')(hL:LL w.L H)(hl:isMut g=false)(h:GOk K w H v g):GOk K w H' v g:=by
 cases g with
 | v t=>exact Im.evo e hL h
 | l xs=>cases hl
 | d xs=>cases hl
 | e kvs =>
  obtain⟨p,o,rfl,hi,h⟩:=h
  exact⟨p,o,rfl,hi.evo e hL,e _ _ h.1 h.2.1,h.2⟩
 | r xs =>
  obtain⟨p,vs,rfl,hi,h⟩:=h
  exact⟨p,vs,rfl,hi.evo e hL,e _ _ h.1 h.2.1,h.2⟩
 | k xs =>
  obtain⟨p,vs,rfl,hi,h⟩:=h
  exact⟨p,vs,rfl,hi.evo e hL,h.evo e hL⟩
theorem SOk.evo{v:V}{s:S}(e:Evo w.L H H')(hL:LL w.L H)(h:SOk K C w σ H v s):SOk K C w σ H' v s:=by
 cases s with
 | v t=>exact Im.evo e hL h
 | l xs =>
  obtain⟨p,vs,rfl,n1,n2,o,h1,h2⟩:=h
  exact⟨p,vs,rfl,n1,n2,o,e _ _ h1 n1,h2.evo e hL⟩
 | s i=>exact h
 | d kvs =>
  obtain⟨p,o,rfl,n1,n2,ow,h1,h2⟩:=h
  exact⟨p,o,rfl,n1,n2,ow,e _ _ h1 n1,h2.evo e hL⟩
theorem SOk.atom{v:V}:SOk K C w σ H v (.v (.a v)):=by show Im K H v (.a v); exact Im.atom
theorem SOk.inva{v u:V}(h:SOk K C w σ H v (.v (.a u))):v=u:=by
 have h':Im K H v (.a u):=h
 exact h'.inva
theorem SOk.invt{v:V}{ts:List T}(h:SOk K C w σ H v (.v (.t ts))):∃ p vs,v=.ref p/\Tp K H p vs/\Ims K H vs ts:=by
 have h':Im K H v (.t ts):=h
 exact h'.inv
theorem Rep.evo0(r:Rep K C w Γ σ H)(e:∀ b o,H b=some o->H' b=some o):Rep K C w Γ σ H' where
 len:=r.len
 val:=fun i g h=>by
  obtain⟨v,e1,e2⟩:=r.val i g h
  refine⟨v,e1,?_⟩
  cases g with
  | l xs =>
   obtain⟨p,vs,rfl,hp,h1,h2⟩:=e2
   exact⟨p,vs,rfl,hp,e _ _ h1,h2.evo (L:=w.L) (fun b o h _=>e b o h) r.lst⟩
  | d xs =>
   obtain⟨p,o,rfl,hp,h1,h2⟩:=e2
   exact⟨p,o,rfl,hp,e _ _ h1,h2.evo (L:=w.L) (fun b o h _=>e b o h) r.lst⟩
  | v t=>exact GOk.evo (fun b o h _=>e b o h) r.lst rfl e2
  | r xs=>exact GOk.evo (fun b o h _=>e b o h) r.lst rfl e2
  | k xs=>exact GOk.evo (fun b o h _=>e b o h) r.lst rfl e2
  | e xs=>exact GOk.evo (fun b o h _=>e b o h) r.lst rfl e2
 apart:=r.apart
 lst:=fun p hp=>by obtain⟨o,h,m⟩:=r.lst p hp; exact⟨o,e _ _ h,m⟩
 own:=r.own
 ra:=fun p hp=>by obtain⟨o,h⟩:=r.ra p hp; exact⟨o,e _ _ h⟩
 rl:=r.rl
 frame:=fun b o h n=>e _ _ (r.frame b o h n)
 pin:=r.pin
theorem Rep.same(r:Rep K C w Γ σ H)(e:Same H H'):Rep K C w Γ σ H':=r.evo0 e
theorem Rep.new{p:Addr}{o:HO}(r:Rep K C w Γ σ H)(h:H p=none):Rep K C w Γ σ (upd H p o):=r.evo0 fun b u e=>by rw[zAK (zAZ e h)]; exact e
theorem Rep.fresh{p:Addr}(r:Rep K C w Γ σ H)(h:H p=none):p∉w.L/\¬ w.R p/\Ow C p:=by
 refine⟨fun z=>?_,fun z=>?_,?_⟩
 ·obtain⟨vs,e,_⟩:=r.lst p z; rw[h]at e; cases e
 ·obtain⟨o,e⟩:=r.ra p z; rw[h]at e; cases e
 ·by_cases q:p∈C.fx
  ·exact .inl q
  ·refine .inr ?_
   cases e:C.H0 p with
   | none=>rfl
   | some o=>rw[r.frame p o e q]at h; cases h
theorem Rep.newl{p:Addr}{vs:List V}{ts:List T}(r:Rep K C w Γ σ H)(h:H p=none)(hi:Ims K H vs ts):SOk K C w σ (upd H p (.lst vs)) (.ref p) (.l ts):=by
 obtain⟨a,b,c⟩:=r.fresh h
 exact⟨p,vs,rfl,a,b,c,zAT,hi.evo (Evo.new h) r.lst⟩
theorem Rep.newt{p:Addr}{vs:List V}{ts:List T}(r:Rep K C w Γ σ H)(h:H p=none)(hi:Ims K H vs ts):SOk K C w σ (upd H p (.tup vs)) (.ref p) (.v (.t ts)):=by
 exact Im.tup zAT (hi.evo (L:=w.L) (Evo.new h) r.lst)
theorem Rep.put3{i:Nat}{p:Addr}{g0 g1:G}{ob:HO}(r:Rep K C w Γ σ H)(m0:isMut g0=true)(m1:isMut g1=true)(hpin:∀ xs,g0=.l xs->∃ ys,g1=.l ys)(hi:Γ[i]?=some (some g0))(hp:σ[i]?=some (some (.ref p)))(ev1:Evo [p] H H')(hp':H' p=some ob)(mb:Mu ob)(hq:p∈w.L)(hu:GOk K w H' (.ref p) g1) :
  Rep K C w (Γ.set i (some g1)) σ H'/\Evo w.L H H':=by
 have hiΓ:i < Γ.length:=(Aa.mp hi).1
 have ev:Evo w.L H H':=ev1.wide fun q hq'=>AI.mp hq' ▸ hq
 have ne:∀ {c:Addr} {o:HO},c≠p->H c=some o->H' c=some o:=fun n e=>ev1 _ _ e fun z=>n (AI.mp z)
 refine⟨⟨by simpa using r.len,fun j g h=>?_,fun j k c g g' mg mg' h1 h2 h3 h4=>?_,fun c hc=>?_,r.own,fun c hc=>?_,r.rl,fun b o h n=>?_,fun c hc=>?_⟩,ev⟩
 ·by_cases hj:j=i
  ·subst hj
   rw[Am hiΓ]at h
   cases h
   exact⟨_,hp,hu⟩
  ·rw[AW (BC hj)]at h
   obtain⟨v,e1,e2⟩:=r.val j g h
   refine⟨v,e1,?_⟩
   cases g with
   | l zs =>
    obtain⟨c,vs',rfl,hc,h1,h2⟩:=e2
    have:c≠p:=fun z=>hj (r.apart j i p _ _ rfl m0 h hi (z ▸ e1) hp)
    exact⟨c,vs',rfl,hc,ne this h1,h2.evo ev r.lst⟩
   | d zs =>
    obtain⟨c,vs',rfl,hc,h1,h2⟩:=e2
    have:c≠p:=fun z=>hj (r.apart j i p _ _ rfl m0 h hi (z ▸ e1) hp)
    exact⟨c,vs',rfl,hc,ne this h1,h2.evo ev r.lst⟩
   | v t=>exact GOk.evo ev r.lst rfl e2
   | r zs=>exact GOk.evo ev r.lst rfl e2
   | k zs=>exact GOk.evo ev r.lst rfl e2
   | e zs=>exact GOk.evo ev r.lst rfl e2
 ·have back:∀ (m:Nat) (g:G),isMut g=true->(Γ.set i (some g1))[m]?=some (some g)->∃ g',isMut g'=true/\Γ[m]?=some (some g'):=fun m g mg h=>by
   by_cases hm:m=i
   ·subst hm; exact⟨g0,m0,hi⟩
   ·rw[AW (BC hm)]at h; exact⟨g,mg,h⟩
  obtain⟨z1,y1,g1⟩:=back j g mg h1
  obtain⟨z2,y2,g2⟩:=back k g' mg' h2
  exact r.apart j k c z1 z2 y1 y2 g1 g2 h3 h4
 ·by_cases hcp:c=p
  ·subst hcp; exact⟨ob,hp',mb⟩
  ·obtain⟨o,e,m⟩:=r.lst c hc; exact⟨o,ne hcp e,m⟩
 ·have:c≠p:=fun z=>r.rl c hc (z ▸ hq)
  obtain⟨o,e⟩:=r.ra c hc
  exact⟨o,ne this e⟩
 ·by_cases hb:b=p
  ·subst hb
   rcases r.own b hq with z | z
   ·exact absurd z n
   ·rw[z]at h; cases h
  ·exact ne hb (r.frame b o h n)
 ·obtain⟨h1,zs,h2⟩:=r.pin c hc
  refine⟨h1,?_⟩
  by_cases hm:c.1=i
  ·rw[hm,hi]at h2
   cases h2
   obtain⟨ys,e⟩:=hpin zs rfl
   exact⟨ys,by rw[hm,Am hiΓ,e]⟩
  ·exact⟨zs,by rw[AW (BC hm)]; exact h2⟩
theorem Rep.put2{i:Nat}{p:Addr}{xs ys:List T}{us:List V}(r:Rep K C w Γ σ H)(hi:Γ[i]?=some (some (.l xs)))(hp:σ[i]?=some (some (.ref p)))(ev1:Evo [p] H H')(hp':H' p=some (.lst us))(hu:Ims K H' us ys) :
  Rep K C w (Γ.set i (some (.l ys))) σ H'/\Evo w.L H H':=by
 obtain⟨v,e1,q,vs,rfl,hq,hv,_⟩:=r.val i _ hi
 rw[hp]at e1; cases e1
 exact r.put3 rfl rfl (fun _ _=>⟨ys,rfl⟩) hi hp ev1 hp' trivial hq ⟨p,us,rfl,hq,hp',hu⟩
theorem Rep.putD{i:Nat}{p:Addr}{kvs kvs':Dk}{ob:HO}(r:Rep K C w Γ σ H)(hi:Γ[i]?=some (some (.d kvs)))(hp:σ[i]?=some (some (.ref p)))(hu:DOk K H ob kvs') :
  Rep K C w (Γ.set i (some (.d kvs'))) σ (upd H p ob)/\Evo w.L H (upd H p ob):=by
 obtain⟨v,e1,q,vs,rfl,hq,hv,_⟩:=r.val i _ hi
 rw[hp]at e1; cases e1
 have ev1:Evo [p] H (upd H p ob):=fun b o e n=>by rw[zAK (show b≠p from fun z=>n (AI.mpr z))]; exact e
 have hu':=hu.evo (ev1.wide fun q hq'=>AI.mp hq' ▸ hq) r.lst
 exact r.put3 rfl rfl (fun _ e=>by cases e) hi hp ev1 zAT hu'.mu hq ⟨p,ob,rfl,hq,zAT,hu'⟩
theorem Rep.put{i:Nat}{p:Addr}{xs ys:List T}{us:List V}(r:Rep K C w Γ σ H)(hi:Γ[i]?=some (some (.l xs)))(hp:σ[i]?=some (some (.ref p)))(hu:Ims K H us ys) :
  Rep K C w (Γ.set i (some (.l ys))) σ (upd H p (.lst us))/\Evo w.L H (upd H p (.lst us)):=by
 obtain⟨v,e1,q,vs,rfl,hq,hv,_⟩:=r.val i _ hi
 rw[hp]at e1; cases e1
 have ev1:Evo [p] H (upd H p (.lst us)):=fun b o e n=>by rw[zAK (show b≠p from fun z=>n (AI.mpr z))]; exact e
 exact r.put2 hi hp ev1 zAT (hu.evo (ev1.wide fun q hq'=>AI.mp hq' ▸ hq) r.lst)
theorem Rep.temp{p:Addr}(r:Rep K C w Γ σ H)(n1:p∉w.L)(n2:¬ w.R p)(ow:Ow C p)(hl:∃ o,H p=some o/\Mu o)(ev1:Evo [p] H H'):Rep K C w Γ σ H':=by
 have ne:∀ {c:Addr} {o:HO},c≠p->H c=some o->H' c=some o:=fun n e=>ev1 _ _ e fun z=>n (AI.mp z)
 have hL:LL [p] H:=fun q hq=>by rw[AI.mp hq]; exact hl
 refine⟨r.len,fun j g h=>?_,r.apart,fun c hc=>?_,r.own,fun c hc=>?_,r.rl,fun b o h n=>?_,r.pin⟩
 ·obtain⟨v,e1,e2⟩:=r.val j g h
  refine⟨v,e1,?_⟩
  cases g with
  | v t=>exact Im.evo ev1 hL e2
  | l zs =>
   obtain⟨c,vs',rfl,hc,h1,h2⟩:=e2
   exact⟨c,vs',rfl,hc,ne (fun z=>n1 (z ▸ hc)) h1,h2.evo ev1 hL⟩
  | r zs =>
   obtain⟨c,vs',rfl,h1,h2⟩:=e2
   exact⟨c,vs',rfl,h1.evo ev1 hL,ne (fun z=>n2 (z ▸ h2.2.2)) h2.1,h2.2⟩
  | k zs =>
   obtain⟨c,vs',rfl,h1,h2⟩:=e2
   exact⟨c,vs',rfl,h1.evo ev1 hL,h2.evo ev1 hL⟩
  | d zs =>
   obtain⟨c,vs',rfl,hc,h1,h2⟩:=e2
   exact⟨c,vs',rfl,hc,ne (fun z=>n1 (z ▸ hc)) h1,h2.evo ev1 hL⟩
  | e zs =>
   obtain⟨c,vs',rfl,h1,h2⟩:=e2
   exact⟨c,vs',rfl,h1.evo ev1 hL,ne (fun z=>n2 (z ▸ h2.2.2)) h2.1,h2.2⟩
 ·obtain⟨o,e,m⟩:=r.lst c hc; exact⟨o,ne (fun z=>n1 (z ▸ hc)) e,m⟩
 ·obtain⟨o,e⟩:=r.ra c hc; exact⟨o,ne (fun z=>n2 (z ▸ hc)) e⟩
 ·by_cases hb:b=p
  ·subst hb
   rcases ow with z | z
   ·exact absurd z n
   ·rw[z]at h; cases h
  ·exact ne hb (r.frame b o h n)
theorem Rep.setv{i:Nat}{v:V}{g:G}(r:Rep K C w Γ σ H)(hg:isMut g=false)(h:GOk K w H v g)(hn:∀ q∈C.pins,q.1≠i):Rep K C w (Γ.set i (some g)) (σ.set i (some v)) H where
 len:=by simpa using r.len
 val:=fun j g' hj=>by
  by_cases hji:j=i
  ·subst hji
   have hjl:j < Γ.length:=by
    rcases B8 j Γ.length with z | z
    ·exact z
    ·rw[Bz (by simpa using z)]at hj; cases hj
   rw[Am hjl]at hj
   cases hj
   exact⟨v,by rw[Am (by rw[r.len]; exact hjl)],h⟩
  ·rw[AW (BC hji)]at hj
   rw[AW (BC hji)]
   exact r.val j g' hj
 apart:=fun j k p ga gb ma mb h1 h2 h3 h4=>by
  have ne:∀ (m:Nat) (gc:G),isMut gc=true->(Γ.set i (some g))[m]?=some (some gc)->m≠i/\Γ[m]?=some (some gc):=fun m gc mc hm=>by
   by_cases e:m=i
   ·subst e
    rcases B8 m Γ.length with z | z
    ·rw[Am z]at hm; cases hm; rw[hg]at mc; cases mc
    ·rw[Bz (by simpa using z)]at hm; cases hm
   ·rw[AW (BC e)]at hm; exact⟨e,hm⟩
  obtain⟨n1,g1⟩:=ne j ga ma h1
  obtain⟨n2,g2⟩:=ne k gb mb h2
  rw[AW (BC n1)]at h3
  rw[AW (BC n2)]at h4
  exact r.apart j k p ga gb ma mb g1 g2 h3 h4
 lst:=r.lst
 own:=r.own
 ra:=r.ra
 rl:=r.rl
 frame:=r.frame
 pin:=fun q hq=>by
  obtain⟨h1,xs,h2⟩:=r.pin q hq
  have:=hn q hq
  exact⟨by rw[AW (BC this)]; exact h1,xs,by rw[AW (BC this)]; exact h2⟩
theorem Rep.setm{i:Nat}{p:Addr}{ob:HO}{g:G}(r:Rep K C w Γ σ H)(mg:isMut g=true)(n1:p∉w.L)(n2:¬ w.R p)(ow:Ow C p)(hp:H p=some ob)(mb:Mu ob)(hv:GOk K ⟨p::w.L,w.R⟩ H (.ref p) g)(hn:∀ q∈C.pins,q.1≠i) :
  Rep K C ⟨p::w.L,w.R⟩ (Γ.set i (some g)) (σ.set i (some (.ref p))) H where
 len:=by simpa using r.len
 val:=fun j g' hj=>by
  by_cases hji:j=i
  ·subst hji
   have hjl:j < Γ.length:=by
    rcases B8 j Γ.length with z | z
    ·exact z
    ·rw[Bz (by simpa using z)]at hj; cases hj
   rw[Am hjl]at hj
   cases hj
   exact⟨_,by rw[Am (by rw[r.len]; exact hjl)],hv⟩
  ·rw[AW (BC hji)]at hj
   rw[AW (BC hji)]
   obtain⟨v,e1,e2⟩:=r.val j g' hj
   refine⟨v,e1,?_⟩
   cases g' with
   | v t=>exact e2
   | l ys=>obtain⟨c,us,rfl,hc,h1,h2⟩:=e2; exact⟨c,us,rfl,AF _ hc,h1,h2⟩
   | d ys=>obtain⟨c,us,rfl,hc,h1,h2⟩:=e2; exact⟨c,us,rfl,AF _ hc,h1,h2⟩
   | r ys =>
    obtain⟨c,us,rfl,hi,h⟩:=e2
    refine⟨c,us,rfl,hi,h.1,fun z=>?_,h.2.2⟩
    rcases AS.mp z with z | z
    ·exact n2 (z ▸ h.2.2)
    ·exact h.2.1 z
   | e ys =>
    obtain⟨c,us,rfl,hi,h⟩:=e2
    refine⟨c,us,rfl,hi,h.1,fun z=>?_,h.2.2⟩
    rcases AS.mp z with z | z
    ·exact n2 (z ▸ h.2.2)
    ·exact h.2.1 z
   | k ys=>exact e2
 apart:=fun j k c ga gb ma mb' h1 h2 h3 h4=>by
  have ne:∀ (m:Nat) (gc:G),isMut gc=true->m≠i->(Γ.set i (some g))[m]?=some (some gc)->(σ.set i (some (.ref p)))[m]?=some (some (.ref c))->Γ[m]?=some (some gc)/\σ[m]?=some (some (.ref c))/\c≠p:=fun m gc mc e h h'=>by
   rw[AW (BC e)]at h
   rw[AW (BC e)]at h'
   refine⟨h,h',fun z=>?_⟩
   obtain⟨v,e1,hg⟩:=r.val m _ h
   obtain⟨q,rfl,hq⟩:=hg.own mc
   rw[h']at e1; cases e1
   exact n1 (z ▸ hq)
  have at_i:∀ (m:Nat),m=i->(σ.set i (some (.ref p)))[m]?=some (some (.ref c))->c=p:=fun m e h=>by
   subst e
   rcases B8 m σ.length with z | z
   ·rw[Am z]at h; cases h; rfl
   ·rw[Bz (by simpa using z)]at h; cases h
  by_cases e1:j=i
  ·by_cases e2:k=i
   ·rw[e1,e2]
   ·obtain⟨_,_,n⟩:=ne k gb mb' e2 h2 h4
    exact absurd (at_i j e1 h3) n
  ·obtain⟨g1,s1,n⟩:=ne j ga ma e1 h1 h3
   by_cases e2:k=i
   ·exact absurd (at_i k e2 h4) n
   ·obtain⟨g2,s2,_⟩:=ne k gb mb' e2 h2 h4
    exact r.apart j k c ga gb ma mb' g1 g2 s1 s2
 lst:=fun c hc=>by
  rcases AS.mp hc with e | e
  ·subst e; exact⟨ob,hp,mb⟩
  ·exact r.lst c e
 own:=fun c hc=>by
  rcases AS.mp hc with e | e
  ·subst e; exact ow
  ·exact r.own c e
 ra:=r.ra
 rl:=fun c hc z=>by
  rcases AS.mp z with e | e
  ·subst e; exact n2 hc
  ·exact r.rl c hc e
 frame:=r.frame
 pin:=fun q hq=>by
  obtain⟨h1,xs',h2⟩:=r.pin q hq
  have:=hn q hq
  exact⟨by rw[AW (BC this)]; exact h1,xs',by rw[AW (BC this)]; exact h2⟩
theorem Rep.setl{i:Nat}{p:Addr}{vs:List V}{xs:List T}(r:Rep K C w Γ σ H)(n1:p∉w.L)(n2:¬ w.R p)(ow:Ow C p)(hp:H p=some (.lst vs))(hv:Ims K H vs xs)(hn:∀ q∈C.pins,q.1≠i) :
  Rep K C ⟨p::w.L,w.R⟩ (Γ.set i (some (.l xs))) (σ.set i (some (.ref p))) H :=
 r.setm rfl n1 n2 ow hp trivial ⟨p,vs,rfl,AH,hp,hv⟩ hn
theorem Rep.setd{i:Nat}{p:Addr}{ob:HO}{kvs:Dk}(r:Rep K C w Γ σ H)(n1:p∉w.L)(n2:¬ w.R p)(ow:Ow C p)(hp:H p=some ob)(hv:DOk K H ob kvs)(hn:∀ q∈C.pins,q.1≠i) :
  Rep K C ⟨p::w.L,w.R⟩ (Γ.set i (some (.d kvs))) (σ.set i (some (.ref p))) H :=
 r.setm rfl n1 n2 ow hp hv.mu ⟨p,ob,rfl,AH,hp,hv⟩ hn
theorem Rep.newd{p:Addr}{ob:HO}{kvs:Dk}(r:Rep K C w Γ σ H)(h:H p=none)(hi:DOk K H ob kvs):SOk K C w σ (upd H p ob) (.ref p) (.d kvs):=by
 obtain⟨a,b,c⟩:=r.fresh h
 exact⟨p,ob,rfl,a,b,c,zAT,hi.evo (Evo.new h) r.lst⟩
end
noncomputable def SOks (K:Fg) (C:Fr) (w:W) (σ:St) (H:Hp):List V->List S->Prop
 | [],[]=>True
 | v::vs,s::ss=>SOk K C w σ H v s/\SOks K C w σ H vs ss
 | _,_=>False
noncomputable def Nw (H:Hp) (v:V):S->Prop
 | .l _=>∃ p,v=.ref p/\H p=none
 | .d _=>∃ p,v=.ref p/\H p=none
 | _=>True
noncomputable def Nws (H:Hp):List V->List S->Prop
 | v::vs,s::ss=>Nw H v s/\Nws H vs ss
 | _,_=>True
theorem zAt{L:List Addr}{H H':Hp}{p:Addr}(e:Evo L H H')(hL:LL L H')(h:H' p=none):H p=none:=by
 cases q:H p with
 | none=>rfl
 | some o =>
  by_cases z:p∈L
  ·obtain⟨vs,u,_⟩:=hL p z; rw[h]at u; cases u
  ·rw[e p o q z]at h; cases h
theorem Nw.back{L:List Addr}{H H':Hp}{v:V}{s:S}(n:Nw H' v s)(e:Evo L H H')(hL:LL L H'):Nw H v s:=by
 cases s with
 | l xs=>obtain⟨p,a,b⟩:=n; exact⟨p,a,zAt e hL b⟩
 | d xs=>obtain⟨p,a,b⟩:=n; exact⟨p,a,zAt e hL b⟩
 | v t=>trivial
 | s i=>trivial
theorem Nws.back{L:List Addr}{H H':Hp}(e:Evo L H H')(hL:LL L H'):∀ {vs:List V} {ss:List S},Nws H' vs ss->Nws H vs ss
 | [],[],_=>trivial
 | [],_::_,_=>trivial
 | _::_,[],_=>trivial
 | _::_,_::_,h=>⟨h.1.back e hL,Nws.back e hL h.2⟩
theorem Nws.get{H:Hp}:∀ {vs:List V} {ss:List S} {k:Nat} {v:V} {s:S},Nws H vs ss->vs[k]?=some v->ss[k]?=some s->Nw H v s
 | [],_,_,_,_,_,e,_=>by simp at e
 | _::_,[],_,_,_,_,_,e=>by simp at e
 | _::_,_::_,0,_,_,h,e,e'=>by simp at e e'; subst e e'; exact h.1
 | _::_,_::_,k+1,_,_,h,e,e'=>Nws.get (k:=k) h.2 (by simpa using e) (by simpa using e')
def SimE (K:Fg) (te:TE) (f:DE):Prop:=∀ (C:Fr) (w:W) (Γ:En) (σ:St) (H:Hp) (s:S) (Γ':En) (Q:VK),Rep K C w Γ σ H->f Γ=some (s,Γ') ->
 (∀ v H',Rep K C w Γ' σ H'->Evo w.L H H'->SOk K C w σ H' v s->Nw H v s->Q v H')->te σ H Q
def SimT (K:Fg) (tt:TT) (f:DT):Prop:=∀ (C:Fr) (w:W) (Γ:En) (σ:St) (H:Hp) (b:Bool) (Γ':En) (Q:Bool->Hp->Prop),Rep K C w Γ σ H->f Γ=some (b,Γ') ->
 (∀ H',Rep K C w Γ' σ H'->Evo w.L H H'->Q b H')->tt σ H Q
def SimA (K:Fg) (ta:TA) (f:DA):Prop:=∀ (C:Fr) (w:W) (Γ:En) (σ:St) (H:Hp) (ss:List S) (Γ':En) (Q:List V->Hp->Prop),Rep K C w Γ σ H->f Γ=some (ss,Γ') ->
 (∀ vs H',Rep K C w Γ' σ H'->Evo w.L H H'->SOks K C w σ H' vs ss->Nws H vs ss->Q vs H')->ta σ H Q
noncomputable def OkO (K:Fg) (C:Fr) (D:Ends):O->Prop
 | .nx Γ=>∀ w σ H,Rep K C w Γ σ H->D.nx σ H
 | .rt s Γ=>∀ w σ H v,Rep K C w Γ σ H->SOk K C w σ H v s->D.rt v H
 | .bk Γ=>∀ w σ H,Rep K C w Γ σ H->D.bk σ H
 | .ct Γ=>∀ w σ H,Rep K C w Γ σ H->D.ct σ H
def SimS (K:Fg) (ip:Option Nat) (ts:TS) (g:DS):Prop:=∀ (C:Fr) (w:W) (Γ:En) (σ:St) (H:Hp) (D:Ends) (o:O),C.pins.map (·.1)=ip.toList->Rep K C w Γ σ H->g Γ=some o->OkO K C D o->ts D σ H
def SimR2 (K:Fg) (r:R2) (h:En->S->S->Option S):Prop:=∀ (C:Fr) (w:W) (Γ:En) (σ:St) (H:Hp) (x y:V) (a b s:S) (Q:VK),Rep K C w Γ σ H->SOk K C w σ H x a->SOk K C w σ H y b->h Γ a b=some s ->
 (∀ v H',Rep K C w Γ σ H'->Evo w.L H H'->SOk K C w σ H' v s->Nw H v s->Q v H')->r x y H Q
def SimR1 (K:Fg) (r:V->Hp->VK->Prop) (h:En->S->Option S):Prop:=∀ (C:Fr) (w:W) (Γ:En) (σ:St) (H:Hp) (x:V) (a s:S) (Q:VK),Rep K C w Γ σ H->SOk K C w σ H x a->h Γ a=some s ->
 (∀ v H',Rep K C w Γ σ H'->Evo w.L H H'->SOk K C w σ H' v s->Nw H v s->Q v H')->r x H Q
def SimRs (K:Fg) (r:List V->Hp->VK->Prop) (h:En->List S->Option S):Prop:=∀ (C:Fr) (w:W) (Γ:En) (σ:St) (H:Hp) (xs:List V) (as:List S) (s:S) (Q:VK),Rep K C w Γ σ H->SOks K C w σ H xs as->h Γ as=some s ->
 (∀ v H',Rep K C w Γ σ H'->Evo w.L H H'->SOk K C w σ H' v s->Nw H v s->Q v H')->r xs H Q
noncomputable def jV (i:Nat):DE:=fun Γ=>match Γ[i]? with
 | some (some (.v t))=>some (.v t,Γ)
 | some (some (.l _))=>some (.s i,Γ)
 | some (some (.r _))=>some (.s i,Γ)
 | some (some (.k _))=>some (.s i,Γ)
 | some (some (.d _))=>some (.s i,Γ)
 | some (some (.e _))=>some (.s i,Γ)
 | _=>none
noncomputable def dC (v:V):DE:=fun Γ=>some (.v (.a v),Γ)
noncomputable def dOp (h:En->S->S->Option S) (fa fb:DE):DE:=fun Γ=>(fa Γ).bind fun p=>(fb p.2).bind fun q=>(h q.2 p.1 q.1).map fun s=>(s,q.2)
noncomputable def dUn (h:En->S->Option S) (fa:DE):DE:=fun Γ=>(fa Γ).bind fun p=>(h p.2 p.1).map fun s=>(s,p.2)
noncomputable def dCB (h:En->List S->Option S) (fa:DA):DE:=fun Γ=>(fa Γ).bind fun p=>(h p.2 p.1).map fun s=>(s,p.2)
noncomputable def qQ:DA:=fun Γ=>some ([],Γ)
noncomputable def jW (fa:DE) (fr:DA):DA:=fun Γ=>(fa Γ).bind fun p=>(fr p.2).bind fun q=>some (p.1::q.1,q.2)
noncomputable def S.tree:S->Option T
 | .v t=>some t
 | _=>none
noncomputable def trees:List S->Option (List T)
 | []=>some []
 | s::r=>s.tree.bind fun t=>(trees r).map fun ts=>t::ts
noncomputable def gd {α:Type} (n:Nat) (x:α):Option α:=if n<=AE then some x else none
theorem zB0{α:Type}{n:Nat}{x y:α}(h:gd n x=some y):n<=AE/\x=y:=by
 unfold gd at h; split at h
 ·exact⟨by assumption,Ab h⟩
 ·cases h
noncomputable def dTup (fa:DA):DE:=fun Γ=>(fa Γ).bind fun p=>(trees p.1).bind fun ts=>gd ts.length (.v (.t ts),p.2)
noncomputable def dLst (fa:DA):DE:=fun Γ=>(fa Γ).bind fun p=>(trees p.1).bind fun ts=>gd ts.length (.l ts,p.2)
noncomputable def dTest (f:DE):DT:=fun Γ=>(f Γ).bind fun p=>match p.1 with
 | .v (.a (.bl b))=>some (b,p.2)
 | _=>none
noncomputable def dAnd (f g:DT):DT:=fun Γ=>(f Γ).bind fun p=>if p.1=true then g p.2 else some (false,p.2)
noncomputable def dOr (f g:DT):DT:=fun Γ=>(f Γ).bind fun p=>if p.1=true then some (true,p.2) else g p.2
noncomputable def dNot (f:DT):DT:=fun Γ=>(f Γ).bind fun p=>some (!p.1,p.2)
noncomputable def dAndV (f g:DE):DE:=fun Γ=>(dTest f Γ).bind fun p=>if p.1=true then g p.2 else some (.v (.a (.bl false)),p.2)
noncomputable def dIfE (c:DT) (f g:DE):DE:=fun Γ=>(c Γ).bind fun p=>if p.1=true then f p.2 else g p.2
section
variable {K:Fg}{ip:Option Nat}
theorem bind_some{α β:Type}{x:Option α}{f:α->Option β}{y:β}(h:x.bind f=some y):∃ a,x=some a/\f a=some y:=by
 cases x with
 | none=>cases h
 | some a=>exact⟨a,rfl,h⟩
theorem map_some{α β:Type}{x:Option α}{f:α->β}{y:β}(h:x.map f=some y):∃ a,x=some a/\f a=y:=by
 cases x with
 | none=>cases h
 | some a=>exact⟨a,rfl,Ab h⟩
theorem zO1{i:Nat}:SimE K (tVar i) (jV i):=by
 intro C w Γ σ H s Γ' Q R h k
 unfold jV at h
 split at h
 ·rename_i t e
  cases h
  obtain⟨v,e1,e2⟩:=R.val i _ e
  exact⟨v,e1,k v H R .refl e2 trivial⟩
 ·rename_i xs e
  cases h
  obtain⟨v,e1,e2⟩:=R.val i _ e
  exact⟨v,e1,k v H R .refl e1 trivial⟩
 ·rename_i xs e
  cases h
  obtain⟨v,e1,e2⟩:=R.val i _ e
  exact⟨v,e1,k v H R .refl e1 trivial⟩
 ·rename_i xs e
  cases h
  obtain⟨v,e1,e2⟩:=R.val i _ e
  exact⟨v,e1,k v H R .refl e1 trivial⟩
 ·rename_i xs e
  cases h
  obtain⟨v,e1,e2⟩:=R.val i _ e
  exact⟨v,e1,k v H R .refl e1 trivial⟩
 ·rename_i xs e
  cases h
  obtain⟨v,e1,e2⟩:=R.val i _ e
  exact⟨v,e1,k v H R .refl e1 trivial⟩
 ·cases h
theorem zEy{v:V}:SimE K (tC v) (dC v):=by
 intro C w Γ σ H s Γ' Q R h k
 cases h
 exact k v H R .refl SOk.atom trivial
theorem zDS{r:R2}{h:En->S->S->Option S}{ta tb:TE}{fa fb:DE}(hr:SimR2 K r h)(ha:SimE K ta fa)(hb:SimE K tb fb):SimE K (tOp r ta tb) (dOp h fa fb):=by
 intro C w Γ σ H s Γ' Q R e k
 obtain⟨p,e1,e⟩:=bind_some e
 obtain⟨q,e2,e⟩:=bind_some e
 obtain⟨z,e3,e⟩:=map_some e
 cases e
 refine ha C w Γ σ H p.1 p.2 _ R e1 fun v1 H1 R1 ev1 o1 n1=>?_
 refine hb C w p.2 σ H1 q.1 q.2 _ R1 e2 fun v2 H2 R2 ev2 o2 n2=>?_
 exact hr C w q.2 σ H2 v1 v2 _ _ _ Q R2 (o1.evo ev2 R1.lst) o2 e3 fun v H3 R3 ev3 o3 n3=>k v H3 R3 ((ev1.trans ev2).trans ev3) o3 (n3.back (ev1.trans ev2) R2.lst)
theorem zPP{r:V->Hp->VK->Prop}{h:En->S->Option S}{ta:TE}{fa:DE}(hr:SimR1 K r h)(ha:SimE K ta fa):SimE K (tUn r ta) (dUn h fa):=by
 intro C w Γ σ H s Γ' Q R e k
 obtain⟨p,e1,e⟩:=bind_some e
 obtain⟨z,e3,e⟩:=map_some e
 cases e
 refine ha C w Γ σ H p.1 p.2 _ R e1 fun v1 H1 R1 ev1 o1 n1=>?_
 exact hr C w p.2 σ H1 v1 _ _ Q R1 o1 e3 fun v H3 R3 ev3 o3 n3=>k v H3 R3 (ev1.trans ev3) o3 (n3.back ev1 R1.lst)
theorem zLG{r:List V->Hp->VK->Prop}{h:En->List S->Option S}{ta:TA}{fa:DA}(hr:SimRs K r h)(ha:SimA K ta fa):SimE K (tCB r ta) (dCB h fa):=by
 intro C w Γ σ H s Γ' Q R e k
 obtain⟨p,e1,e⟩:=bind_some e
 obtain⟨z,e3,e⟩:=map_some e
 cases e
 refine ha C w Γ σ H p.1 p.2 _ R e1 fun v1 H1 R1 ev1 o1 n1=>?_
 exact hr C w p.2 σ H1 v1 _ _ Q R1 o1 e3 fun v H3 R3 ev3 o3 n3=>k v H3 R3 (ev1.trans ev3) o3 (n3.back ev1 R1.lst)
theorem zI9:SimA K tNil qQ:=by
 intro C w Γ σ H s Γ' Q R e k
 cases e
 exact k [] H R .refl trivial trivial
theorem zNF{ta:TE}{tr:TA}{fa:DE}{fr:DA}(ha:SimE K ta fa)(hr:SimA K tr fr):SimA K (tCons ta tr) (jW fa fr):=by
 intro C w Γ σ H s Γ' Q R e k
 obtain⟨p,e1,e⟩:=bind_some e
 obtain⟨q,e2,e⟩:=bind_some e
 cases e
 refine ha C w Γ σ H p.1 p.2 _ R e1 fun v1 H1 R1 ev1 o1 n1=>?_
 exact hr C w p.2 σ H1 q.1 q.2 _ R1 e2 fun vs H2 R2 ev2 o2 n2=>k (v1::vs) H2 R2 (ev1.trans ev2) ⟨o1.evo ev2 R1.lst,o2⟩ ⟨n1,n2.back ev1 R1.lst⟩
theorem zEL{C:Fr}{w:W}{σ:St}{H:Hp}:∀ {vs:List V} {ss:List S} {ts:List T},SOks K C w σ H vs ss->trees ss=some ts->Ims K H vs ts
 | [],[],_,_,e=>by cases e; exact .nil
 | v::vs,s::ss,_,h,e=>by
  obtain⟨t,e1,e⟩:=bind_some e
  obtain⟨ts,e2,e⟩:=map_some e
  cases e
  cases s with
  | v t'=>cases e1; exact .cons h.1 (zEL h.2 e2)
  | l _=>cases e1
  | s _=>cases e1
  | d _=>cases e1
 | [],_::_,_,h,_=>h.elim
 | _::_,[],_,h,_=>h.elim
theorem zPE{ta:TA}{fa:DA}(ha:SimA K ta fa):SimE K (tTup ta) (dTup fa):=by
 intro C w Γ σ H s Γ' Q R e k
 obtain⟨p,e1,e⟩:=bind_some e
 obtain⟨ts,e2,e⟩:=bind_some e
 obtain⟨hn,e⟩:=zB0 e
 cases e
 refine ha C w Γ σ H p.1 p.2 _ R e1 fun vs H1 R1 ev1 o1 _=>?_
 have hi:=zEL o1 e2
 exact⟨by rw[hi.len]; exact hn,fun q hq=>k _ _ (R1.new hq) (ev1.trans (Evo.new hq)) (R1.newt hq hi) trivial⟩
theorem zO9{ta:TA}{fa:DA}(ha:SimA K ta fa):SimE K (tLst ta) (dLst fa):=by
 intro C w Γ σ H s Γ' Q R e k
 obtain⟨p,e1,e⟩:=bind_some e
 obtain⟨ts,e2,e⟩:=bind_some e
 obtain⟨hn,e⟩:=zB0 e
 cases e
 refine ha C w Γ σ H p.1 p.2 _ R e1 fun vs H1 R1 ev1 o1 _=>?_
 have hi:=zEL o1 e2
 exact⟨by rw[hi.len]; exact hn,fun q hq=>k _ _ (R1.new hq) (ev1.trans (Evo.new hq)) (R1.newl hq hi) ⟨_,rfl,zAt ev1 R1.lst hq⟩⟩
theorem zHO{ta:TE}{fa:DE}(ha:SimE K ta fa):SimT K (tTest ta) (dTest fa):=by
 intro C w Γ σ H s Γ' Q R e k
 obtain⟨p,e1,e⟩:=bind_some e
 obtain⟨p1,p2⟩:=p
 dsimp only at e
 split at e
 ·cases e
  refine ha C w Γ σ H _ _ _ R e1 fun v H1 R1 ev1 o1 _=>?_
  exact⟨_,SOk.inva o1,k H1 R1 ev1⟩
 ·cases e
theorem zOB{ta tb:TT}{fa fb:DT}(ha:SimT K ta fa)(hb:SimT K tb fb):SimT K (tAnd ta tb) (dAnd fa fb):=by
 intro C w Γ σ H s Γ' Q R e k
 obtain⟨⟨p,G1⟩,e1,e⟩:=bind_some e
 refine ha C w Γ σ H p G1 _ R e1 fun H1 R1 ev1=>?_
 cases p with
 | true=>exact (if_pos rfl).mpr (hb C w G1 σ H1 s Γ' Q R1 (by simpa using e) fun H2 R2 ev2=>k H2 R2 (ev1.trans ev2))
 | false =>
  have e':(false,G1)=(s,Γ'):=by simpa using e
  cases e'
  exact (if_neg AQ).mpr (k H1 R1 ev1)
theorem zQD{ta tb:TT}{fa fb:DT}(ha:SimT K ta fa)(hb:SimT K tb fb):SimT K (tOr ta tb) (dOr fa fb):=by
 intro C w Γ σ H s Γ' Q R e k
 obtain⟨⟨p,G1⟩,e1,e⟩:=bind_some e
 refine ha C w Γ σ H p G1 _ R e1 fun H1 R1 ev1=>?_
 cases p with
 | false=>exact (if_neg AQ).mpr (hb C w G1 σ H1 s Γ' Q R1 (by simpa using e) fun H2 R2 ev2=>k H2 R2 (ev1.trans ev2))
 | true =>
  have e':(true,G1)=(s,Γ'):=by simpa using e
  cases e'
  exact (if_pos rfl).mpr (k H1 R1 ev1)
theorem zNx{ta:TT}{fa:DT}(ha:SimT K ta fa):SimT K (tNot ta) (dNot fa):=by
 intro C w Γ σ H s Γ' Q R e k
 obtain⟨p,e1,e⟩:=bind_some e
 cases e
 exact ha C w Γ σ H p.1 p.2 _ R e1 fun H1 R1 ev1=>k H1 R1 ev1
theorem zNJ{ta tb:TE}{fa fb:DE}(ha:SimE K ta fa)(hb:SimE K tb fb):SimE K (tAndV ta tb) (dAndV fa fb):=by
 intro C w Γ σ H s Γ' Q R e k
 obtain⟨⟨p,G1⟩,e1,e⟩:=bind_some e
 refine (zHO ha) C w Γ σ H p G1 (fun c H1=>if c=true then tb σ H1 Q else Q (.bl false) H1) R e1 fun H1 R1 ev1=>?_
 cases p with
 | true=>exact (if_pos rfl).mpr (hb C w G1 σ H1 s Γ' Q R1 (by simpa using e) fun v H2 R2 ev2 o n=>k v H2 R2 (ev1.trans ev2) o (n.back ev1 R1.lst))
 | false =>
  have e':(S.v (.a (.bl false)),G1)=(s,Γ'):=by simpa using e
  cases e'
  exact (if_neg AQ).mpr (k _ H1 R1 ev1 SOk.atom trivial)
theorem zN7{tc:TT}{ta tb:TE}{fc:DT}{fa fb:DE}(hc:SimT K tc fc)(ha:SimE K ta fa)(hb:SimE K tb fb):SimE K (tIf tc ta tb) (dIfE fc fa fb):=by
 intro C w Γ σ H s Γ' Q R e k
 obtain⟨⟨p,G1⟩,e1,e⟩:=bind_some e
 refine hc C w Γ σ H p G1 _ R e1 fun H1 R1 ev1=>?_
 cases p with
 | true=>exact (if_pos rfl).mpr (ha C w G1 σ H1 s Γ' Q R1 (by simpa using e) fun v H2 R2 ev2 o n=>k v H2 R2 (ev1.trans ev2) o (n.back ev1 R1.lst))
 | false=>exact (if_neg AQ).mpr (hb C w G1 σ H1 s Γ' Q R1 (by simpa using e) fun v H2 R2 ev2 o n=>k v H2 R2 (ev1.trans ev2) o (n.back ev1 R1.lst))
end
noncomputable def dNext:DS:=fun Γ=>some (.nx Γ)
noncomputable def dSeq (f g:DS):DS:=fun Γ=>(f Γ).bind fun o=>match o with
 | .nx Γ'=>g Γ'
 | o=>some o
noncomputable def dNever:DS:=fun _=>none
noncomputable def dDrop (f:DE):DS:=fun Γ=>(f Γ).map fun p=>.nx p.2
noncomputable def dRet (f:DE):DS:=fun Γ=>(f Γ).map fun p=>.rt p.1 p.2
noncomputable def dIf (c:DT) (f g:DS):DS:=fun Γ=>(c Γ).bind fun p=>if p.1=true then f p.2 else g p.2
noncomputable def setS (i:Nat) (s:S) (Γ:En):Option En:=match s with
 | .v t=>some (Γ.set i (some (.v t)))
 | .l xs=>some (Γ.set i (some (.l xs)))
 | .d xs=>some (Γ.set i (some (.d xs)))
 | .s j=>match Γ[j]? with
  | some (some (.r xs))=>some (Γ.set i (some (.r xs)))
  | _=>none
noncomputable def dSet (i:Nat) (f:DE):DS:=fun Γ=>(f Γ).bind fun p=>(setS i p.1 p.2).map .nx
noncomputable def dWhile (c:DT) (b:DS):Nat->DS
 | 0=>fun _=>none
 | n+1=>fun Γ=>(c Γ).bind fun p=>if p.1=true then (b p.2).bind fun o=>match o with
   | .nx Γ'=>dWhile c b n Γ'
   | .ct Γ'=>dWhile c b n Γ'
   | .bk Γ'=>some (.nx Γ')
   | .rt s Γ'=>some (.rt s Γ')
  else some (.nx p.2)
section
variable {K:Fg}{ip:Option Nat}
theorem zKh:SimS K ip tNext dNext:=fun C w Γ σ H D o _ R e k=>by cases e; exact k w σ H R
theorem zJj{ts:DS}:SimS K ip tNever dNever:=fun C w Γ σ H D o _ R e k=>by cases e
theorem zNR{t u:TS}{f g:DS}(h1:SimS K ip t f)(h2:SimS K ip u g):SimS K ip (tSeq t u) (dSeq f g):=by
 intro C w Γ σ H D o hp R e k
 obtain⟨o1,e1,e⟩:=bind_some e
 refine h1 C w Γ σ H _ o1 hp R e1 ?_
 cases o1 with
 | nx Γ1=>exact fun w' σ' H' R'=>h2 C w' Γ1 σ' H' D o hp R' e k
 | rt s Γ1=>cases e; exact k
 | bk Γ1=>cases e; exact k
 | ct Γ1=>cases e; exact k
theorem zLm{te:TE}{f:DE}(h:SimE K te f):SimS K ip (tDrop te) (dDrop f):=by
 intro C w Γ σ H D o hp R e k
 obtain⟨p,e1,e⟩:=map_some e
 subst e
 exact h C w Γ σ H p.1 p.2 _ R e1 fun v H1 R1 _ _ _=>k w σ H1 R1
theorem zMy{te:TE}{f:DE}(h:SimE K te f):SimS K ip (tRet te) (dRet f):=by
 intro C w Γ σ H D o hp R e k
 obtain⟨p,e1,e⟩:=map_some e
 subst e
 exact h C w Γ σ H p.1 p.2 _ R e1 fun v H1 R1 _ o _=>k w σ H1 v R1 o
theorem zO8{tc:TT}{t u:TS}{c:DT}{f g:DS}(hc:SimT K tc c)(h1:SimS K ip t f)(h2:SimS K ip u g):SimS K ip (tIfS tc t u) (dIf c f g):=by
 intro C w Γ σ H D o hp R e k
 obtain⟨⟨p,G1⟩,e1,e⟩:=bind_some e
 refine hc C w Γ σ H p G1 _ R e1 fun H1 R1 _=>?_
 cases p with
 | true=>exact (if_pos rfl).mpr (h1 C w G1 σ H1 D o hp R1 (by simpa using e) k)
 | false=>exact (if_neg AQ).mpr (h2 C w G1 σ H1 D o hp R1 (by simpa using e) k)
theorem zCB{C:Fr}{i:Nat}(hp:C.pins.map (·.1)=ip.toList)(hi:ip≠some i):∀ q∈C.pins,q.1≠i:=fun q hq e=>by
 have:q.1∈ip.toList:=hp ▸ Ag.mpr ⟨q,hq,rfl⟩
 rw[Dp]at this
 exact hi (by rw[this,e])
theorem zOb{C:Fr}{w:W}{Γ Γ':En}{σ:St}{H:Hp}{v:V}{s:S}{i:Nat}(R:Rep K C w Γ σ H)(o:SOk K C w σ H v s)(e:setS i s Γ=some Γ')(hn:∀ q∈C.pins,q.1≠i):∃ w',Rep K C w' Γ' (σ.set i (some v)) H:=by
 cases s with
 | v t=>cases e; exact⟨w,R.setv rfl o hn⟩
 | d xs =>
  cases e
  obtain⟨p,vs,rfl,n1,n2,ow,h1,h2⟩:=o
  exact⟨_,R.setd n1 n2 ow h1 h2 hn⟩
 | l xs =>
  cases e
  obtain⟨p,vs,rfl,n1,n2,ow,h1,h2⟩:=o
  exact⟨_,R.setl n1 n2 ow h1 h2 hn⟩
 | s j =>
  unfold setS at e
  dsimp only at e
  split at e
  ·rename_i xs he
   cases e
   obtain⟨v',e1,e2⟩:=R.val j _ he
   have o':σ[j]?=some (some v):=o
   rw[o']at e1; cases e1
   exact⟨w,R.setv rfl e2 hn⟩
  ·cases e
theorem zHS{te:TE}{f:DE}{i:Nat}(h:SimE K te f)(hi:ip≠some i):SimS K ip (tAsg te (gName i)) (dSet i f):=by
 intro C w Γ σ H D o hp R e k
 obtain⟨p,e1,e⟩:=bind_some e
 obtain⟨Γ1,e2,e⟩:=map_some e
 subst e
 refine h C w Γ σ H p.1 p.2 _ R e1 fun v H1 R1 _ o1 _=>?_
 obtain⟨w',R'⟩:=zOb R1 o1 e2 (zCB hp hi)
 exact k w' _ H1 R'
theorem zJo{tc:TT}{tb:TS}{c:DT}{b:DS}(n:Nat)(hc:SimT K tc c)(hb:SimS K ip tb b):SimS K ip (tWhile tc tb) (dWhile c b n):=by
 intro C w Γ σ H D o hp R e k
 refine⟨fun m σ H=>∃ w Γ,Rep K C w Γ σ H/\dWhile c b m Γ=some o,⟨n,w,Γ,R,e⟩,?_⟩
 rintro m σ1 H1 ⟨w1,Γ1,R1,e1⟩
 cases m with
 | zero=>cases e1
 | succ m =>
  unfold dWhile at e1
  obtain⟨⟨p,G2⟩,e2,e1⟩:=bind_some e1
  refine hc C w1 Γ1 σ1 H1 p G2 _ R1 e2 fun H2 R2 _=>?_
  cases p with
  | false =>
   rw[if_neg AQ]at e1 ⊢
   cases e1
   exact k w1 σ1 H2 R2
  | true =>
   rw[if_pos rfl]at e1 ⊢
   obtain⟨o2,e3,e1⟩:=bind_some e1
   refine⟨fun σ' H'=>∃ w Γ,Rep K C w Γ σ' H'/\dWhile c b m Γ=some o,fun σ' H' ⟨w',Γ',R',e'⟩=>⟨m,D6 _,w',Γ',R',e'⟩,?_⟩
   refine hb C w1 G2 σ1 H2 _ o2 hp R2 e3 ?_
   cases o2 with
   | nx Γ'=>exact fun w' σ' H' R'=>⟨w',Γ',R',e1⟩
   | ct Γ'=>exact fun w' σ' H' R'=>⟨w',Γ',R',e1⟩
   | bk Γ'=>cases e1; exact k
   | rt s Γ'=>cases e1; exact k
end
section
variable {K:Fg}{C:Fr}{w:W}{Γ Γ':En}{σ:St}{H H':Hp}
theorem Rep.base(R:Rep K C w Γ σ H):Rep K ⟨H,w.L,C.pins⟩ w Γ σ H :=
 ⟨R.len,R.val,R.apart,R.lst,fun p hp=>.inl hp,R.ra,R.rl,fun b o h _=>h,R.pin⟩
theorem Rep.back{C1:Fr}{w1:W}{Γ1:En}{σ1:St}{H1:Hp}(R:Rep K C w Γ σ H)(hC:C1=⟨H,w.L,C.pins⟩)(R1:Rep K C1 w1 Γ1 σ1 H1):Rep K C w1 Γ1 σ1 H1:=by
 subst hC
 refine⟨R1.len,R1.val,R1.apart,R1.lst,fun p hp=>?_,R1.ra,R1.rl,fun b o h n=>R1.frame b o (R.frame b o h n) fun z=>?_,R1.pin⟩
 ·rcases R1.own p hp with z | z
  ·exact R.own p z
  ·exact (R.fresh z).2.2
 ·rcases R.own b z with q | q
  ·exact n q
  ·rw[q]at h; cases h
theorem Ow.back{C1:Fr}{p:Addr}(R:Rep K C w Γ σ H)(hC:C1=⟨H,w.L,C.pins⟩)(h:Ow C1 p):Ow C p:=by
 subst hC
 rcases h with z | z
 ·exact R.own p z
 ·exact (R.fresh z).2.2
theorem SOk.back{C1:Fr}{w1:W}{σ1:St}{H1:Hp}{v:V}{s:S}(R:Rep K C w Γ σ H)(hC:C1=⟨H,w.L,C.pins⟩)(o:SOk K C1 w1 σ1 H1 v s):SOk K C w1 σ1 H1 v s:=by
 cases s with
 | v t=>exact o
 | s i=>exact o
 | l xs =>
  obtain⟨p,vs,e,n1,n2,ow,h1,h2⟩:=o
  exact⟨p,vs,e,n1,n2,Ow.back R hC ow,h1,h2⟩
 | d xs =>
  obtain⟨p,vs,e,n1,n2,ow,h1,h2⟩:=o
  exact⟨p,vs,e,n1,n2,Ow.back R hC ow,h1,h2⟩
theorem Rep.freeze{i:Nat}{xs:List T}{p:Addr}(R:Rep K C w Γ σ H)(hi:Γ[i]?=some (some (.l xs)))(hp:σ[i]?=some (some (.ref p)))(hn:∀ q∈C.pins,q.1≠i) :
  Rep K C ⟨w.L.filter (fun q=>decide (q≠p)),fun q=>q=p\/w.R q⟩ (Γ.set i (some (.r xs))) σ H:=by
 have hiΓ:i < Γ.length:=(Aa.mp hi).1
 obtain⟨v0,e0,q0,vs0,rfl,hq0,hv0,hi0⟩:=R.val i _ hi
 rw[hp]at e0; cases e0
 have mem:∀ {q:Addr},q∈w.L.filter (fun q=>decide (q≠p)) ↔ q∈w.L/\q≠p:=by intro q; simp
 have back:∀ (m:Nat) (g:G),isMut g=true->(Γ.set i (some (.r xs)))[m]?=some (some g)->m≠i/\Γ[m]?=some (some g):=fun m g mg h=>by
  by_cases hm:m=i
  ·subst hm; rw[Am hiΓ]at h; cases h; cases mg
  ·rw[AW (BC hm)]at h; exact⟨hm,h⟩
 refine⟨by simpa using R.len,fun j g h=>?_,fun j k c ga gb ma mb h1 h2 h3 h4=>?_,fun c hc=>R.lst c (mem.mp hc).1,fun c hc=>R.own c (mem.mp hc).1,fun c hc=>?_,fun c hc z=>?_,R.frame,fun q hq=>?_⟩
 ·by_cases hj:j=i
  ·subst hj
   rw[Am hiΓ]at h
   cases h
   exact⟨_,hp,p,vs0,rfl,hi0,hv0,fun z=>(mem.mp z).2 rfl,.inl rfl⟩
  ·rw[AW (BC hj)]at h
   obtain⟨v,e1,e2⟩:=R.val j g h
   refine⟨v,e1,?_⟩
   cases g with
   | v t=>exact e2
   | l ys =>
    obtain⟨c,us,rfl,hc,h1,h2⟩:=e2
    exact⟨c,us,rfl,mem.mpr ⟨hc,fun z=>hj (R.apart j i p _ _ rfl rfl h hi (z ▸ e1) hp)⟩,h1,h2⟩
   | d ys =>
    obtain⟨c,us,rfl,hc,h1,h2⟩:=e2
    exact⟨c,us,rfl,mem.mpr ⟨hc,fun z=>hj (R.apart j i p _ _ rfl rfl h hi (z ▸ e1) hp)⟩,h1,h2⟩
   | r ys =>
    obtain⟨c,us,rfl,h1,h2⟩:=e2
    exact⟨c,us,rfl,h1,h2.1,fun z=>h2.2.1 (mem.mp z).1,.inr h2.2.2⟩
   | e ys =>
    obtain⟨c,us,rfl,h1,h2⟩:=e2
    exact⟨c,us,rfl,h1,h2.1,fun z=>h2.2.1 (mem.mp z).1,.inr h2.2.2⟩
   | k ys=>exact e2
 ·obtain⟨_,g1⟩:=back j ga ma h1
  obtain⟨_,g2⟩:=back k gb mb h2
  exact R.apart j k c ga gb ma mb g1 g2 h3 h4
 ·rcases hc with e | e
  ·subst e; exact⟨_,hv0⟩
  ·exact R.ra c e
 ·rcases hc with e | e
  ·exact (mem.mp z).2 e
  ·exact R.rl c e (mem.mp z).1
 ·obtain⟨h1,zs,h2⟩:=R.pin q hq
  exact⟨h1,zs,by rw[AW (BC (hn q hq))]; exact h2⟩
noncomputable def frz1 (Γ:En) (i:Nat):En:=match Γ[i]? with
 | some (some (.l xs))=>Γ.set i (some (.r xs))
 | _=>Γ
noncomputable def frz (Γ:En) (src:List Nat):En:=src.foldl frz1 Γ
theorem Rep.frz:∀ (src:List Nat) {w:W} {Γ:En},Rep K C w Γ σ H->(∀ i∈src,∀ q∈C.pins,q.1≠i) ->
  ∃ w',Rep K C w' (frz Γ src) σ H/\(∀ p∈w'.L,p∈w.L)/\∀ i∈src,∀ p,σ[i]?=some (some (.ref p))->(∃ xs,Γ[i]?=some (some (.l xs)))->p∉w'.L:=by
 intro src
 induction src with
 | nil=>intro w Γ R _; exact⟨w,R,fun p h=>h,fun i hi=>nomatch hi⟩
 | cons i r ih =>
  intro w Γ R hn
  have step:∃ w1,Rep K C w1 (frz1 Γ i) σ H/\(∀ p∈w1.L,p∈w.L)/\(∀ p,σ[i]?=some (some (.ref p))->(∃ xs,Γ[i]?=some (some (.l xs)))->p∉w1.L):=by
   unfold frz1
   split
   ·rename_i xs e
    obtain⟨v,e1,p,vs,rfl,_⟩:=R.val i _ e
    refine⟨_,R.freeze e e1 (hn i AH),fun q hq=>(A5.mp hq).1,fun q hq _ z=>?_⟩
    rw[e1]at hq; cases hq
    have:=(A5.mp z).2
    simp at this
   ·rename_i e
    exact⟨w,R,fun p h=>h,fun p _ ⟨xs,h⟩=>absurd h (e xs)⟩
  obtain⟨w1,R1,s1,n1⟩:=step
  obtain⟨w2,R2,s2,n2⟩:=ih R1 (fun j hj=>hn j (AF _ hj))
  refine⟨w2,R2,fun p h=>s1 p (s2 p h),fun j hj p hp hx=>?_⟩
  rcases AS.mp hj with e | e
  ·subst e; exact fun z=>n1 p hp hx (s2 p z)
  ·by_cases hji:j=i
   ·subst hji; exact fun z=>n1 p hp hx (s2 p z)
   ·refine n2 j e p hp ?_
    obtain⟨xs,hx⟩:=hx
    refine⟨xs,?_⟩
    unfold frz1
    split
    ·rw[AW (BC hji)]; exact hx
    ·exact hx
end
abbrev DI:=En->Option ((List T×List Nat)×En)
def ItOk (K:Fg) (w:W) (Γ:En) (σ:St) (J:It) (H:Hp) (its:List T) (src:List Nat):Prop:=its.length<=AE/\∀ L',(∀ p∈L',p∈w.L)->(∀ i∈src,∀ p,σ[i]?=some (some (.ref p))->(∃ xs,Γ[i]?=some (some (.l xs)))->p∉L')->∀ H2,Evo L' H H2 ->
 (∀ (i:Nat) t,its[i]?=some t->J.go i H2/\∀ x H3,J.yld i H2 x H3->(∀ b o,H2 b=some o->H3 b=some o)/\Im K H3 x t)/\J.stop its.length H2
def SimI (K:Fg) (wi:TI) (di:DI):Prop:=∀ (C:Fr) (w:W) (Γ:En) (σ:St) (H:Hp) (its:List T) (src:List Nat) (Γ':En) (R:It->Hp->Prop),Rep K C w Γ σ H->di Γ=some ((its,src),Γ') ->
 (∀ J H',Rep K C w Γ' σ H'->Evo w.L H H'->ItOk K w Γ' σ J H' its src->R J H')->wi σ H R
def SimG (K:Fg) (ip:Option Nat) (g:TG) (tg:En->T->Option En):Prop:=∀ (C:Fr) (w:W) (Γ:En) (σ:St) (H:Hp) (v:V) (t:T) (Γ':En) (Q:St->Hp->Prop),C.pins.map (·.1)=ip.toList->Rep K C w Γ σ H->Im K H v t->tg Γ t=some Γ' ->
 (∀ σ',Rep K C w Γ' σ' H->Q σ' H)->g v σ H Q
def SimGs (K:Fg) (ip:Option Nat) (g:TGs) (tg:En->List T->Option En):Prop:=∀ (C:Fr) (w:W) (Γ:En) (σ:St) (H:Hp) (vs:List V) (ts:List T) (Γ':En) (Q:St->Hp->Prop),C.pins.map (·.1)=ip.toList->Rep K C w Γ σ H->Ims K H vs ts->tg Γ ts=some Γ' ->
 (∀ σ',Rep K C w Γ' σ' H->Q σ' H)->g vs σ H Q
noncomputable def gdName (i:Nat):En->T->Option En:=fun Γ t=>some (Γ.set i (some (.v t)))
noncomputable def gdNil:En->List T->Option En:=fun Γ ts=>match ts with
 | []=>some Γ
 | _=>none
noncomputable def gdCons (f:En->T->Option En) (g:En->List T->Option En):En->List T->Option En:=fun Γ ts=>match ts with
 | []=>none
 | t::r=>(f Γ t).bind fun Γ1=>g Γ1 r
noncomputable def gdTup (n:Nat) (g:En->List T->Option En):En->T->Option En:=fun Γ t=>match t with
 | .t ts=>if ts.length=n then g Γ ts else none
 | _=>none
section
variable {K:Fg}{ip:Option Nat}
theorem zLZ{i:Nat}(hi:ip≠some i):SimG K ip (gName i) (gdName i):=by
 intro C w Γ σ H v t Γ' Q hp R h e k
 cases e
 exact k _ (R.setv rfl h (zCB hp hi))
theorem zKt:SimGs K ip gNil gdNil:=by
 intro C w Γ σ H vs ts Γ' Q hp R h e k
 cases ts with
 | nil=>cases e; exact⟨h.inv0,k σ R⟩
 | cons t r=>cases e
theorem zJ5{g:TG}{gs:TGs}{f:En->T->Option En}{fs:En->List T->Option En}(h1:SimG K ip g f)(h2:SimGs K ip gs fs):SimGs K ip (gCons g gs) (gdCons f fs):=by
 intro C w Γ σ H vs ts Γ' Q hp R h e k
 cases ts with
 | nil=>cases e
 | cons t r =>
  obtain⟨Γ1,e1,e2⟩:=bind_some e
  obtain⟨v,us,rfl,i1,i2⟩:=h.inv
  exact⟨v,us,rfl,h1 C w Γ σ H v t Γ1 _ hp R i1 e1 fun σ1 R1=>h2 C w Γ1 σ1 H us r Γ' Q hp R1 i2 e2 k⟩
theorem zNU{n:Nat}{gs:TGs}{fs:En->List T->Option En}(h:SimGs K ip gs fs):SimG K ip (gTup K n gs) (gdTup n fs):=by
 intro C w Γ σ H v t Γ' Q hp R hi e k
 cases t with
 | a u=>cases e
 | l u=>cases e
 | f u=>cases e
 | x u v=>cases e
 | t ts =>
  unfold gdTup at e
  dsimp only at e
  split at e
  ·rename_i hn
   obtain⟨p,us,rfl,h1,h2⟩:=hi.inv
   exact⟨p,us,rfl,h1.sq,by rw[h2.len]; exact hn,h C w Γ σ H us ts Γ' Q hp R h2 e k⟩
  ·cases e
end
noncomputable def forD (tg:En->T->Option En) (b:DS):List T->DS
 | []=>fun Γ=>some (.nx Γ)
 | t::r=>fun Γ=>(tg Γ t).bind fun Γ1=>(b Γ1).bind fun o=>match o with
  | .nx Γ'=>forD tg b r Γ'
  | .ct Γ'=>forD tg b r Γ'
  | .bk Γ'=>some (.nx Γ')
  | .rt s Γ'=>some (.rt s Γ')
noncomputable def dFor (ip:Option Nat) (di:DI) (tg:En->T->Option En) (b:DS):DS:=fun Γ=>(di Γ).bind fun p=>if p.1.2.all (fun i=>decide (ip≠some i))=true then forD tg b p.1.1 (frz p.2 p.1.2) else none
theorem zMt{K:Fg}{ip:Option Nat}{wi:TI}{g:TG}{tb:TS}{di:DI}{tg:En->T->Option En}{b:DS}(hi:SimI K wi di)(hg:SimG K ip g tg)(hb:SimS K ip tb b):SimS K ip (tFor wi g tb) (dFor ip di tg b):=by
 intro C w Γ σ H D o hp R e k
 obtain⟨⟨⟨its,src⟩,Γ1⟩,e1,e⟩:=bind_some e
 dsimp only at e
 split at e
 rotate_left
 ·cases e
 rename_i hsrc
 refine hi C w Γ σ H its src Γ1 _ R e1 fun J H1 R1 _ ⟨hl,hJ⟩=>?_
 have hs:∀ i∈src,∀ q∈C.pins,q.1≠i:=fun i hi'=>zCB hp (by have:=BK.mp hsrc i hi'; simpa using this)
 obtain⟨w2,R2,sub,avoid⟩:=R1.frz src hs
 have hC:∃ C1:Fr,C1=⟨H1,w2.L,C.pins⟩:=⟨_,rfl⟩
 obtain⟨C1,hC⟩:=hC
 have R3:Rep K C1 w2 (frz Γ1 src) σ H1:=hC ▸ R2.base
 have hp1:C1.pins.map (·.1)=ip.toList:=by rw[hC]; exact hp
 refine⟨fun i m σ H=>m=its.length - i/\i<=its.length/\∃ w Γ,Rep K C1 w Γ σ H/\forD tg b (its.drop i) Γ=some o,⟨_,rfl,A9 _,w2,_,R3,e⟩,?_⟩
 rintro i m σ' H' ⟨rfl,hi',w',Γ',R',e'⟩
 have ev:Evo w2.L H1 H':=fun b o h n=>R'.frame b o (by rw[hC]; exact h) (by rw[hC]; exact n)
 obtain⟨go,stop⟩:=hJ w2.L sub avoid H' ev
 by_cases hlt:i < its.length
 ·obtain⟨t,ht⟩:∃ t,its[i]?=some t:=⟨its[i],by simp[hlt]⟩
  have hd:its.drop i=t::its.drop (i+1):=by
   obtain⟨h1,h2⟩:=Aa.mp ht
   rw[← h2]; exact Co h1
  rw[hd]at e'
  unfold forD at e'
  obtain⟨Γ2,e2,e'⟩:=bind_some e'
  obtain⟨o2,e3,e'⟩:=bind_some e'
  obtain⟨g1,g2⟩:=go i t ht
  refine .inr ⟨g1,fun σ H=>∃ w Γ,Rep K C1 w Γ σ H/\forD tg b (its.drop (i+1)) Γ=some o,fun σ2 H2 ⟨w2,Γ2,R2,e2⟩=>⟨_,by omega,rfl,hlt,w2,Γ2,R2,e2⟩,fun x H3 hx=>?_⟩
  obtain⟨k1,k2⟩:=g2 x H3 hx
  refine hg C1 w' Γ' σ' H3 x t Γ2 _ hp1 (R'.evo0 k1) k2 e2 fun σ4 R4=>?_
  refine hb C1 w' Γ2 σ4 H3 _ o2 hp1 R4 e3 ?_
  cases o2 with
  | nx Γ5=>exact fun w5 σ5 H5 R5=>⟨w5,Γ5,R5,e'⟩
  | ct Γ5=>exact fun w5 σ5 H5 R5=>⟨w5,Γ5,R5,e'⟩
  | bk Γ5=>cases e'; exact fun w5 σ5 H5 R5=>k w5 σ5 H5 (R2.back hC R5)
  | rt s Γ5=>cases e'; exact fun w5 σ5 H5 v R5 o5=>k w5 σ5 H5 v (R2.back hC R5) (o5.back R2 hC)
 ·have:i=its.length:=by omega
  subst this
  rw[IG]at e'
  cases e'
  exact .inl ⟨stop,k w' σ' H' (R2.back hC R')⟩
noncomputable def pick1 (mu:Option Nat) (k:Nat):Option G->Option G
 | some (.l xs)=>if mu=some k then some (.l xs) else some (.r xs)
 | some (.d xs)=>some (.e xs)
 | o=>o
noncomputable def pick (mu:Option Nat) (ix:List (Option Nat)) (Γ:En):En:=ix.map fun o=>o.bind fun k=>pick1 mu k (Γ[k]?).join
noncomputable def compD (tg:En->T->Option En) (dc:DT) (de:DE):List T->En->Option (List T×En)
 | [],Γ=>some ([],Γ)
 | t::r,Γ=>(tg Γ t).bind fun Γ1=>(dc Γ1).bind fun p=>if p.1=true then (de p.2).bind fun q=>q.1.tree.bind fun t'=>(compD tg dc de r q.2).map fun z=>(t'::z.1,z.2) else compD tg dc de r p.2
noncomputable def cback (mu:Option (Nat×Nat)) (Γ Γo:En):En:=match mu with
 | none=>Γ
 | some (j,i)=>match Γo[j]? with
  | some (some (.l xs))=>Γ.set i (some (.l xs))
  | _=>Γ
noncomputable def dComp (mu:Option (Nat×Nat)) (ix:List (Option Nat)) (di:DI) (tg:En->T->Option En) (dc:DT) (de:DE):DE:=fun Γ=>(di Γ).bind fun p =>
 match mu with
 | none=>(compD tg dc de p.1.1 (pick none ix p.2)).map fun z=>(.l z.1,p.2)
 | some (j,i)=>if i∈p.1.2 then none else match p.2[i]? with
  | some (some (.l _))=>(compD tg dc de p.1.1 (pick (some i) ix p.2)).map fun z=>(.l z.1,cback mu p.2 z.2)
  | _=>none
section
variable {K:Fg}
theorem zE2{C1:Fr}{w1:W}{J:It}{H1:Hp}{its:List T}{ix:List (Option Nat)}{g:TG}{tc:TT}{te:TE}{tg:En->T->Option En}{dc:DT}{de:DE}{jp:Option Nat}{σ:St}{Γ0 Γe:En}{ts:List T}{Q:VK}
  (hp:C1.pins.map (·.1)=jp.toList) (hg:SimG K jp g tg) (hc:SimT K tc dc) (he:SimE K te de) (hl:its.length<=AE) (hC:C1.H0=H1)
  (hJ:∀ H2,Evo C1.fx H1 H2->(∀ (i:Nat) t,its[i]?=some t->J.go i H2/\∀ x H3,J.yld i H2 x H3->(∀ b o,H2 b=some o->H3 b=some o)/\Im K H3 x t)/\J.stop its.length H2)
  (hfx:∀ p,p∈w1.L->p∈C1.fx)
  (R:Rep K C1 w1 Γ0 (frm ix σ) H1) (e:compD tg dc de its Γ0=some (ts,Γe))
  (k:∀ σ' H' ys,Rep K C1 w1 Γe σ' H'->Ims K H' ys ts->ys.length<=AE->∀ D,H' D=none->Q (.ref D) (upd H' D (.lst ys))):CompW J ix g tc te σ H1 Q:=by
 refine⟨fun i m ys σ' H'=>m=its.length - i/\i<=its.length/\ys.length<=i/\∃ Γ pre post,Rep K C1 w1 Γ σ' H'/\Ims K H' ys pre/\compD tg dc de (its.drop i) Γ=some (post,Γe)/\ts=pre++post,⟨_,rfl,A9 _,A9 _,Γ0,[],ts,R,.nil,e,rfl⟩,?_⟩
 rintro i m ys σ' H' ⟨rfl,hi,hy,Γ,pre,post,R',hpre,e',rfl⟩
 have ev:Evo C1.fx H1 H':=fun b o h n=>R'.frame b o (by rw[hC]; exact h) n
 obtain⟨go,stop⟩:=hJ H' ev
 by_cases hlt:i < its.length
 ·obtain⟨t,ht⟩:∃ t,its[i]?=some t:=⟨its[i],by simp[hlt]⟩
  have hd:its.drop i=t::its.drop (i+1):=by
   obtain⟨h1,h2⟩:=Aa.mp ht
   rw[← h2]; exact Co h1
  rw[hd]at e'
  unfold compD at e'
  obtain⟨Γ1,e1,e'⟩:=bind_some e'
  obtain⟨⟨b,Γ2⟩,e2,e'⟩:=bind_some e'
  obtain⟨g1,g2⟩:=go i t ht
  refine .inr ⟨g1,by omega,fun ys' σ2 H2=>ys'.length<=i+1/\∃ Γ pre' post',Rep K C1 w1 Γ σ2 H2/\Ims K H2 ys' pre'/\compD tg dc de (its.drop (i+1)) Γ=some (post',Γe)/\pre++post=pre'++post',fun ys' σ2 H2 ⟨a,b⟩=>⟨_,by omega,rfl,hlt,a,b⟩,fun x H2 hx=>?_⟩
  obtain⟨k1,k2⟩:=g2 x H2 hx
  have ev1:Evo w1.L H' H2:=fun b o h _=>k1 b o h
  have R2:=R'.evo0 k1
  refine hg C1 w1 Γ σ' H2 x t Γ1 _ hp R2 k2 e1 fun σ3 R3=>?_
  refine hc C1 w1 Γ1 σ3 H2 b Γ2 _ R3 e2 fun H4 R4 ev4=>?_
  have hpre4:Ims K H4 ys pre:=(hpre.evo ev1 R'.lst).evo ev4 R3.lst
  cases b with
  | true =>
   rw[if_pos rfl]at e' ⊢
   obtain⟨⟨s,Γ3⟩,e3,e'⟩:=bind_some e'
   obtain⟨t',e4,e'⟩:=bind_some e'
   obtain⟨⟨ts',Γ4⟩,e5,e'⟩:=map_some e'
   cases e'
   refine he C1 w1 Γ2 σ3 H4 s Γ3 _ R4 e3 fun v H5 R5 ev5 o5 _=>?_
   cases s with
   | l _=>cases e4
   | s _=>cases e4
   | d _=>cases e4
   | v t'' =>
    cases e4
    exact⟨by simp; omega,Γ3,pre++[t'],ts',R5,(hpre4.evo ev5 R4.lst).app (.one o5),e5,by simp⟩
  | false =>
   rw[if_neg AQ]at e' ⊢
   exact⟨by omega,Γ2,pre,post,R4,hpre4,e',rfl⟩
 ·have:i=its.length:=by omega
  subst this
  rw[IG]at e'
  cases e'
  rw[CJ]at k
  exact .inl ⟨stop,by omega,k σ' H' ys R' hpre (by omega)⟩
theorem zCl{mu:Option Nat}{ix:List (Option Nat)}{Γ:En}{j:Nat}{g:G}(h:(pick mu ix Γ)[j]?=some (some g)):∃ k g',ix[j]?=some (some k)/\Γ[k]?=some (some g')/\pick1 mu k (some g')=some g:=by
 unfold pick at h
 rw[Af]at h
 cases e:ix[j]? with
 | none=>rw[e]at h; cases h
 | some o =>
  rw[e]at h
  cases o with
  | none=>cases h
  | some k =>
   have h':pick1 mu k (Γ[k]?).join=some g:=Ab h
   cases e2:Γ[k]? with
   | none=>rw[e2]at h'; cases h'
   | some o2 =>
    cases o2 with
    | none=>rw[e2]at h'; cases h'
    | some g'=>rw[e2]at h'; exact⟨k,g',rfl,e2,h'⟩
theorem zFV{ix:List (Option Nat)}{σ:St}{j k:Nat}{v:V}(h:ix[j]?=some (some k))(hv:σ[k]?=some (some v)):(frm ix σ)[j]?=some (some v):=by
 unfold frm
 rw[Af,h]
 show some ((σ[k]?).join)=_
 rw[hv]; rfl
theorem zHT{mu:Option (Nat×Nat)}{ix:List (Option Nat)}{wi:TI}{g:TG}{tc:TT}{te:TE}{di:DI}{tg:En->T->Option En}{dc:DT}{de:DE}(hi:SimI K wi di)(hg:SimG K (mu.map (·.1)) g tg)(hc:SimT K tc dc)(he:SimE K te de)
  (hmu:∀ j i,mu=some (j,i)->ix[j]?=some (some i)) (hix:∀ (j j' i:Nat),mu.map (·.2)=some i->ix[j]?=some (some i)->ix[j']?=some (some i)->j=j'):SimE K (tComp wi ix g tc te) (dComp mu ix di tg dc de):=by
 intro C w Γ σ H s Γ' Q R e k
 obtain⟨⟨⟨its,src⟩,Γ1⟩,e1,e⟩:=bind_some e
 refine hi C w Γ σ H its src Γ1 _ R e1 fun J H1 R1 ev1 ⟨hl,hJ⟩=>?_
 cases mu with
 | none =>
  obtain⟨⟨ts,Γe⟩,e2,e⟩:=map_some e
  cases e
  have Rin:Rep K ⟨H1,[],[]⟩ ⟨[],fun q=>w.R q\/q∈w.L⟩ (pick none ix Γ1) (frm ix σ) H1:=by
   refine⟨by simp[pick,frm],fun j g h=>?_,fun i j p ga gb ma mb h1 h2 h3 h4=>?_,fun p hp=>(nomatch hp),fun p hp=>(nomatch hp),fun p hp=>?_,fun p hp=>(nofun),fun b o h _=>h,fun q hq=>(nomatch hq)⟩
   ·obtain⟨k',g',a1,a2,a3⟩:=zCl h
    obtain⟨v,b1,b2⟩:=R1.val k' g' a2
    refine⟨v,zFV a1 b1,?_⟩
    cases g' with
    | v t=>cases a3; exact b2
    | l xs =>
     have:g=.r xs:=by simpa [pick1] using a3.symm
     subst this
     obtain⟨p,vs,rfl,c1,c2,c3⟩:=b2
     exact⟨p,vs,rfl,c3,c2,nofun,.inr c1⟩
    | r xs =>
     cases a3
     obtain⟨p,vs,rfl,c1,c2⟩:=b2
     exact⟨p,vs,rfl,c1,c2.1,nofun,.inl c2.2.2⟩
    | d xs =>
     cases a3
     obtain⟨p,vs,rfl,c1,c2,c3⟩:=b2
     exact⟨p,vs,rfl,c3,c2,nofun,.inr c1⟩
    | e xs =>
     cases a3
     obtain⟨p,vs,rfl,c1,c2⟩:=b2
     exact⟨p,vs,rfl,c1,c2.1,nofun,.inl c2.2.2⟩
    | k xs=>cases a3; exact b2
   ·obtain⟨k',g',a1,a2,a3⟩:=zCl h1
    cases g' with
    | v t=>cases a3; cases ma
    | l xs =>
     have:ga=.r xs:=by simpa [pick1] using a3.symm
     subst this; cases ma
    | r xs=>cases a3; cases ma
    | k xs=>cases a3; cases ma
    | d xs=>cases a3; cases ma
    | e xs=>cases a3; cases ma
   ·rcases hp with z | z
    ·exact R1.ra p z
    ·obtain⟨o,z,_⟩:=R1.lst p z; exact⟨o,z⟩
  refine zE2 (jp:=none) (C1:=⟨H1,[],[]⟩) rfl hg hc he hl rfl (fun H2 ev=>hJ [] (fun p hp=>nomatch hp) (fun _ _ _ _ _=>nofun) H2 ev) (fun p hp=>hp) Rin e2 fun σ' H' ys R' hy hz D hD=>?_
  have R2:Rep K C w Γ1 σ H':=R1.evo0 fun b o h=>R'.frame b o h nofun
  exact k _ _ (R2.new hD) ((ev1.trans fun b o h _=>R'.frame b o h nofun).trans (Evo.new hD)) (R2.newl hD hy) ⟨_,rfl,zAt (L:=w.L) (ev1.trans fun b o h _=>R'.frame b o h nofun) R2.lst hD⟩
 | some m =>
  obtain⟨j,i⟩:=m
  dsimp only at e
  split at e
  ·cases e
  rename_i hsrc
  split at e
  rotate_left
  ·cases e
  rename_i xs0 hx0
  obtain⟨⟨ts,Γe⟩,e2,e⟩:=map_some e
  cases e
  obtain⟨v0,s0,p,vs0,rfl,m0,h0,i0⟩:=R1.val i _ hx0
  have hij:=hmu j i rfl
  have Rin:Rep K ⟨H1,[p],[(j,p)]⟩ ⟨[p],fun q=>w.R q\/(q∈w.L/\q≠p)⟩ (pick (some i) ix Γ1) (frm ix σ) H1:=by
   refine⟨by simp[pick,frm],fun j' g h=>?_,fun i1 i2 p' ga gb ma mb h1 h2 h3 h4=>?_,fun q hq=>?_,fun q hq=>.inl hq,fun q hq=>?_,fun q hq z=>?_,fun b o h _=>h,fun q hq=>?_⟩
   ·obtain⟨k',g',a1,a2,a3⟩:=zCl h
    obtain⟨v,b1,b2⟩:=R1.val k' g' a2
    refine⟨v,zFV a1 b1,?_⟩
    cases g' with
    | v t=>cases a3; exact b2
    | l xs =>
     obtain⟨p',vs,rfl,c1,c2,c3⟩:=b2
     by_cases hk:i=k'
     ·subst hk
      have:g=.l xs:=by simpa [pick1] using a3.symm
      subst this
      rw[s0]at b1; cases b1
      exact⟨p,vs,rfl,AI.mpr rfl,c2,c3⟩
     ·have:g=.r xs:=by simpa [pick1,hk] using a3.symm
      subst this
      have hne:p'≠p:=fun z=>hk (R1.apart i k' p _ _ rfl rfl hx0 a2 s0 (z ▸ b1))
      exact⟨p',vs,rfl,c3,c2,fun z=>hne (AI.mp z),.inr ⟨c1,hne⟩⟩
    | d xs =>
     cases a3
     obtain⟨p',o',rfl,c1,c2,c3⟩:=b2
     have hne:p'≠p:=fun z=>by
      subst z
      rw[h0]at c2; cases c2
      exact c3
     exact⟨p',o',rfl,c3,c2,fun z=>hne (AI.mp z),.inr ⟨c1,hne⟩⟩
    | r xs =>
     cases a3
     obtain⟨p',vs,rfl,c1,c2⟩:=b2
     exact⟨p',vs,rfl,c1,c2.1,fun z=>c2.2.1 (AI.mp z ▸ m0),.inl c2.2.2⟩
    | e xs =>
     cases a3
     obtain⟨p',vs,rfl,c1,c2⟩:=b2
     exact⟨p',vs,rfl,c1,c2.1,fun z=>c2.2.1 (AI.mp z ▸ m0),.inl c2.2.2⟩
    | k xs=>cases a3; exact b2
   ·have only:∀ (n:Nat) (gc:G),isMut gc=true->(pick (some i) ix Γ1)[n]?=some (some gc)->ix[n]?=some (some i):=fun n gc mc h=>by
     obtain⟨k',g',a1,a2,a3⟩:=zCl h
     cases g' with
     | v t=>cases a3; cases mc
     | l xs =>
      by_cases hk:i=k'
      ·subst hk; exact a1
      ·have:gc=.r xs:=by simpa [pick1,hk] using a3.symm
       subst this; cases mc
     | r xs=>cases a3; cases mc
     | k xs=>cases a3; cases mc
     | d xs=>cases a3; cases mc
     | e xs=>cases a3; cases mc
    exact hix i1 i2 i rfl (only i1 ga ma h1) (only i2 gb mb h2)
   ·rw[AI.mp hq]; exact⟨_,h0,trivial⟩
   ·rcases hq with z | z
    ·exact R1.ra q z
    ·obtain⟨o,z,_⟩:=R1.lst q z.1; exact⟨o,z⟩
   ·have e:=AI.mp z
    rcases hq with z | z
    ·exact R1.rl q z (e ▸ m0)
    ·exact z.2 e
   ·rw[AI.mp hq]
    refine⟨zFV hij s0,xs0,?_⟩
    unfold pick
    rw[Af,hij]
    show some (pick1 (some i) i (Γ1[i]?).join)=_
    rw[hx0]; simp[pick1,Option.join]
  have av:∀ i'∈src,∀ q,σ[i']?=some (some (.ref q))->(∃ xs,Γ1[i']?=some (some (.l xs)))->q∉[p]:=fun i' hi' q hq ⟨xs,hx⟩ z=>by
   rw[AI.mp z]at hq
   have:=R1.apart i i' p _ _ rfl rfl hx0 hx s0 hq
   subst this
   exact hsrc hi'
  refine zE2 (jp:=some j) (C1:=⟨H1,[p],[(j,p)]⟩) rfl hg hc he hl rfl (fun H2 ev=>hJ [p] (fun q hq=>AI.mp hq ▸ m0) av H2 ev) (fun p hp=>hp) Rin e2 fun σ' H' ys R' hy hz D hD=>?_
  obtain⟨q1,xs',q2⟩:=R'.pin (j,p) (AI.mpr rfl)
  obtain⟨v',s',p',us',rfl,_,h',i'⟩:=R'.val j _ q2
  have s'':σ'[j]?=some (some (.ref p)):=q1
  rw[s'']at s'; cases s'
  have evp:Evo [p] H1 H':=fun b o h n=>R'.frame b o h n
  have R2:Rep K C w (Γ1.set i (some (.l xs'))) σ H':=(R1.put2 hx0 s0 evp h' i').1
  have eb:cback (some (j,i)) Γ1 Γe=Γ1.set i (some (.l xs')):=by unfold cback; dsimp only; rw[q2]
  rw[eb]at k
  exact k _ _ (R2.new hD) ((ev1.trans (evp.wide fun q hq=>AI.mp hq ▸ m0)).trans (Evo.new hD)) (R2.newl hD hy) ⟨_,rfl,zAt (L:=w.L) (ev1.trans (evp.wide fun q hq=>AI.mp hq ▸ m0)) R2.lst hD⟩
end
abbrev DF:=List G->Option (G×List T)
noncomputable def ROk (K:Fg) (H H':Hp) (v:V):G->Prop
 | .v t=>Im K H' v t
 | .l xs=>∃ p us,v=.ref p/\H p=none/\H' p=some (.lst us)/\Ims K H' us xs
 | .r _=>False
 | .k _=>False
 | .d kvs=>∃ p o,v=.ref p/\H p=none/\H' p=some o/\DOk K H' o kvs
 | .e _=>False
theorem zFD{K:Fg}{H:Hp}{vs:List V}{kvs:Dk}(h:DOk K H (.lst vs) kvs):False:=h
noncomputable def pinsG (ip:Option Nat) (vs:List V):List (Nat×Addr):=match ip with
 | none=>[]
 | some k=>match vs[k]? with
  | some (.ref p)=>[(k,p)]
  | _=>[]
noncomputable def spD (K:Fg) (ip:Option Nat) (n:Nat) (F:DF):Sp:=fun vs H Q _=>vs.length=n/\∃ (w:W) (gs:List G) (r:G) (ys:List T),F gs=some (r,ys)/\Rep K ⟨H,w.L,pinsG ip vs⟩ w (gs.map some) (vs.map some) H /\
 (pinsG ip vs).map (·.1)=ip.toList/\(∀ p∈w.L,p∈(pinsG ip vs).map (·.2)) /\
 ∀ v H',Evo w.L H H'->(∀ q∈pinsG ip vs,∃ us,H' q.2=some (.lst us)/\Ims K H' us ys)->ROk K H H' v r->Q v H'
noncomputable def outl (ip:Option Nat) (Γ:En):List T:=match ip with
 | none=>[]
 | some k=>match Γ[k]? with
  | some (some (.l xs))=>xs
  | _=>[]
noncomputable def resG (ip:Option Nat) (Γ:En):S->Option G
 | .v t=>some (.v t)
 | .l xs=>some (.l xs)
 | .s i=>if ip=some i then none else match Γ[i]? with
  | some (some (.l xs))=>some (.l xs)
  | some (some (.d xs))=>some (.d xs)
  | _=>none
 | .d xs=>some (.d xs)
noncomputable def fnD (ip:Option Nat) (np nN:Nat) (g:DS):DF:=fun gs=>if gs.length=np then (g (gs.map some++Ac (nN - np) none)).bind fun o=>match o with
  | .nx Γ=>some (.v (.a .non),outl ip Γ)
  | .rt s Γ=>(resG ip Γ s).map fun r=>(r,outl ip Γ)
  | _=>none
 else none
section
variable {K:Fg}
theorem Rep.more{C:Fr}{w:W}{Γ:En}{σ:St}{H:Hp}(R:Rep K C w Γ σ H)(n:Nat):Rep K C w (Γ++Ac n none) (σ++Ac n none) H:=by
 have get:∀ {j:Nat} {g:G},(Γ++Ac n none)[j]?=some (some g)->Γ[j]?=some (some g):=fun {j g} h=>by
  rcases B8 j Γ.length with z | z
  ·rw[Aq z]at h; exact h
  ·rw[BJ z,C0]at h; split at h <;> cases h
 have put:∀ {j:Nat} {o:Option V},j < σ.length->(σ++Ac n none)[j]?=σ[j]?:=fun z=>Aq z
 have lt:∀ {j:Nat} {g:G},Γ[j]?=some (some g)->j < σ.length:=fun h=>by rw[R.len]; exact (Aa.mp h).1
 refine⟨by simp[R.len],fun i g h=>?_,fun i j p ga gb ma mb h1 h2 h3 h4=>?_,R.lst,R.own,R.ra,R.rl,R.frame,fun q hq=>?_⟩
 ·have h':=get h
  obtain⟨v,e1,e2⟩:=R.val i g h'
  exact⟨v,by rw[put (o:=none) (lt h')]; exact e1,e2⟩
 ·have g1:=get h1
  have g2:=get h2
  rw[put (o:=none) (lt g1)]at h3
  rw[put (o:=none) (lt g2)]at h4
  exact R.apart i j p ga gb ma mb g1 g2 h3 h4
 ·obtain⟨h1,xs,h2⟩:=R.pin q hq
  exact⟨by rw[put (o:=none) (lt h2)]; exact h1,xs,by rw[Aq (Aa.mp h2).1]; exact h2⟩
theorem zIq{ip:Option Nat}{ts:TS}{g:DS}{N:List Str}{np:Nat}{vs:List V}{H:Hp}{Q:VK}{E:XK}(hb:SimS K ip ts g)(h:spD K ip np (fnD ip np N.length g) vs H Q E):ts { nx:=fun _ H'=>Q .non H',rt:=Q } (L2.start N vs) H:=by
 obtain⟨hn,w,gs,r,ys,e,R,hp,hL,k⟩:=h
 unfold fnD at e
 have hg:gs.length=np:=by
  have:=R.len
  simp at this
  omega
 rw[if_pos hg]at e
 obtain⟨o,e1,e⟩:=bind_some e
 have R0:Rep K ⟨H,w.L,pinsG ip vs⟩ w (gs.map some++Ac (N.length - np) none) (L2.start N vs) H:=by
  unfold L2.start
  rw[hn]
  exact R.more _
 have fin:∀ {w':W} {Γ':En} {σ':St} {H':Hp},Rep K ⟨H,w.L,pinsG ip vs⟩ w' Γ' σ' H'->outl ip Γ'=ys->∀ v,ROk K H H' v r->Q v H':=fun {w' Γ' σ' H'} R' eo v hr=>by
  refine k v H' (fun b o h n=>R'.frame b o h n) (fun q hq=>?_) hr
  obtain⟨h1,xs,h2⟩:=R'.pin q hq
  obtain⟨v',e1,p,us,rfl,_,h3,h4⟩:=R'.val q.1 _ h2
  rw[h1]at e1; cases e1
  refine⟨us,h3,?_⟩
  have hq1:q.1∈ip.toList:=hp ▸ Ag.mpr ⟨q,hq,rfl⟩
  rw[Dp]at hq1
  unfold outl at eo
  rw[hq1]at eo
  dsimp only at eo
  rw[h2]at eo
  dsimp only at eo
  rw[← eo]; exact h4
 have notpin:∀ {w':W} {Γ':En} {σ':St} {H':Hp} {p:Addr},Rep K ⟨H,w.L,pinsG ip vs⟩ w' Γ' σ' H'->(∀ q∈pinsG ip vs,q.2≠p)->Ow ⟨H,w.L,pinsG ip vs⟩ p->H p=none:=fun {w' Γ' σ' H' p} R' hne ow=>by
  rcases ow with z | z
  ·obtain⟨q,hq,e⟩:=Ag.mp (hL p z)
   exact absurd e (hne q hq)
  ·exact z
 refine hb _ w _ _ H _ o hp R0 e1 ?_
 cases o with
 | nx Γ' =>
  cases e
  exact fun w' σ' H' R'=>fin R' rfl _ (by show Im K H' V.non (.a .non); exact Im.atom)
 | rt s Γ' =>
  obtain⟨r',e2,e⟩:=map_some e
  cases e
  refine fun w' σ' H' v R' o'=>fin R' rfl v ?_
  have inL:∀ q∈pinsG ip vs,q.2∈w'.L:=fun q hq=>by
   obtain⟨h1,xs,h2⟩:=R'.pin q hq
   obtain⟨v',e1,p,us,rfl,h3,_⟩:=R'.val q.1 _ h2
   rw[h1]at e1; cases e1
   exact h3
  cases s with
  | v t=>cases e2; exact o'
  | l xs =>
   cases e2
   obtain⟨p,us,rfl,n1,n2,ow,h1,h2⟩:=o'
   exact⟨p,us,rfl,notpin R' (fun q hq z=>n1 (z ▸ inL q hq)) ow,h1,h2⟩
  | d xs =>
   cases e2
   obtain⟨p,us,rfl,n1,n2,ow,h1,h2⟩:=o'
   exact⟨p,us,rfl,notpin R' (fun q hq z=>n1 (z ▸ inL q hq)) ow,h1,h2⟩
  | s i =>
   unfold resG at e2
   dsimp only at e2
   split at e2
   ·cases e2
   rename_i hi
   split at e2
   ·rename_i xs hx
    cases e2
    obtain⟨v',e3,p,us,rfl,h3,h4,h5⟩:=R'.val i _ hx
    have o'':σ'[i]?=some (some v):=o'
    rw[o'']at e3; cases e3
    refine⟨p,us,rfl,notpin R' (fun q hq z=>?_) (R'.own p h3),h4,h5⟩
    obtain⟨h1,ys',h2⟩:=R'.pin q hq
    have:=R'.apart q.1 i q.2 _ _ rfl rfl h2 hx h1 (z ▸ o'')
    have hq1:q.1∈ip.toList:=hp ▸ Ag.mpr ⟨q,hq,rfl⟩
    rw[Dp]at hq1
    exact hi (by rw[hq1,this])
   ·rename_i xs hx
    cases e2
    obtain⟨v',e3,p,us,rfl,h3,h4,h5⟩:=R'.val i _ hx
    have o'':σ'[i]?=some (some v):=o'
    rw[o'']at e3; cases e3
    refine⟨p,us,rfl,notpin R' (fun q hq z=>?_) (R'.own p h3),h4,h5⟩
    obtain⟨h1,ys',h2⟩:=R'.pin q hq
    have:=R'.apart q.1 i q.2 _ _ rfl rfl h2 hx h1 (z ▸ o'')
    have hq1:q.1∈ip.toList:=hp ▸ Ag.mpr ⟨q,hq,rfl⟩
    rw[Dp]at hq1
    exact hi (by rw[hq1,this])
   ·cases e2
 | bk Γ'=>cases e
 | ct Γ'=>cases e
noncomputable def argG (ip:Option Nat) (Γ:En) (k:Nat):S->Option G
 | .v t=>some (.v t)
 | .l xs=>some (if ip=some k then .l xs else .r xs)
 | .s i=>match Γ[i]? with
  | some (some (.l xs))=>some (if ip=some k then .l xs else .r xs)
  | some (some (.r xs))=>if ip=some k then none else some (.r xs)
  | some (some (.k xs))=>if ip=some k then none else some (.k xs)
  | some (some (.d xs))=>if ip=some k then none else some (.e xs)
  | some (some (.e xs))=>if ip=some k then none else some (.e xs)
  | _=>none
 | .d xs=>if ip=some k then none else some (.e xs)
noncomputable def argsG (ip:Option Nat) (Γ:En):Nat->List S->Option (List G)
 | _,[]=>some []
 | k,s::r=>(argG ip Γ k s).bind fun g=>(argsG ip Γ (k+1) r).map fun gs=>g::gs
noncomputable def isSl (i:Nat):S->Bool
 | .s j=>j == i
 | _=>false
noncomputable def isTmp:S->Bool
 | .l _=>true
 | _=>false
noncomputable def onceS (ip:Option Nat) (ss:List S):Bool:=match ip with
 | none=>true
 | some k=>match ss[k]? with
  | some (.s i)=>(ss.eraseIdx k).all fun s=>!isSl i s
  | some (.l _)=>(ss.eraseIdx k).all fun s=>!isTmp s
  | _=>false
noncomputable def backS (ip:Option Nat) (Γ:En) (ss:List S) (ys:List T):En:=match ip with
 | none=>Γ
 | some k=>match ss[k]? with
  | some (.s i)=>Γ.set i (some (.l ys))
  | _=>Γ
noncomputable def toS:G->S
 | .v t=>.v t
 | .l xs=>.l xs
 | .r xs=>.l xs
 | .k xs=>.l xs
 | .d xs=>.d xs
 | .e xs=>.d xs
noncomputable def dCall (ip:Option Nat) (F:DF) (ds:List V) (fa:DA):DE:=fun Γ=>(fa Γ).bind fun p=>if onceS ip p.1=true then (argsG ip p.2 0 (p.1++ds.map fun v=>.v (.a v))).bind fun gs=>(F gs).map fun q=>(toS q.1,backS ip p.2 p.1 q.2) else none
theorem SOks.app{C:Fr}{w:W}{σ:St}{H:Hp}:∀ {vs:List V} {ss:List S},SOks K C w σ H vs ss->∀ ds:List V,SOks K C w σ H (vs++ds) (ss++ds.map fun v=>.v (.a v))
 | [],[],_,[]=>trivial
 | [],[],_,d::ds=>⟨SOk.atom,SOks.app (vs:=[]) (ss:=[]) trivial ds⟩
 | _::_,_::_,h,ds=>⟨h.1,SOks.app h.2 ds⟩
 | [],_::_,h,_=>h.elim
 | _::_,[],h,_=>h.elim
theorem SOks.len{C:Fr}{w:W}{σ:St}{H:Hp}:∀ {vs:List V} {ss:List S},SOks K C w σ H vs ss->vs.length=ss.length
 | [],[],_=>rfl
 | _::_,_::_,h=>by simp[SOks.len h.2]
 | [],_::_,h=>h.elim
 | _::_,[],h=>h.elim
theorem SOks.get{C:Fr}{w:W}{σ:St}{H:Hp}:∀ {vs:List V} {ss:List S} {k:Nat} {s:S},SOks K C w σ H vs ss->ss[k]?=some s->∃ v,vs[k]?=some v/\SOk K C w σ H v s
 | [],[],_,_,_,e=>by simp at e
 | v::_,_::_,0,_,h,e=>by simp at e; subst e; exact⟨v,rfl,h.1⟩
 | _::_,_::_,k+1,_,h,e=>by simpa using SOks.get (k:=k) h.2 (by simpa using e)
 | [],_::_,_,_,h,_=>h.elim
 | _::_,[],_,_,h,_=>h.elim
theorem zFy{ip:Option Nat}{Γ:En}:∀ {ss:List S} {k:Nat} {gs:List G},argsG ip Γ k ss=some gs->gs.length=ss.length
 | [],_,_,e=>by cases e; rfl
 | s::r,k,_,e=>by
  obtain⟨g,e1,e⟩:=bind_some e
  obtain⟨gs,e2,e⟩:=map_some e
  cases e
  simp[zFy e2]
theorem zBR{ip:Option Nat}{Γ:En}:∀ {ss:List S} {k:Nat} {gs:List G} {j:Nat} {g:G},argsG ip Γ k ss=some gs->gs[j]?=some g->∃ s,ss[j]?=some s/\argG ip Γ (k+j) s=some g
 | [],_,_,_,_,e,h=>by cases e; simp at h
 | s::r,k,_,j,g,e,h=>by
  obtain⟨g',e1,e⟩:=bind_some e
  obtain⟨gs,e2,e⟩:=map_some e
  cases e
  cases j with
  | zero=>simp at h; subst h; exact⟨s,rfl,e1⟩
  | succ j =>
   obtain⟨s',a,b⟩:=zBR (j:=j) e2 (by simpa using h)
   exact⟨s',by simpa using a,by rw[← b]; congr 1; omega⟩
theorem zMf{ip:Option Nat}{n:Nat}{F:DF}{ds:List V}{E:XK}{ta:TA}{fa:DA}(hF:∀ gs r,F gs=some r->gs.length=n)(ha:SimA K ta fa):SimE K (tCall (spD K ip n F) ds E ta) (dCall ip F ds fa):=by
 intro C w Γ σ H s Γ' Q R e k
 obtain⟨⟨ss,Γ1⟩,e1,e⟩:=bind_some e
 dsimp only at e
 split at e
 rotate_left
 ·cases e
 rename_i honce
 obtain⟨gs,e2,e⟩:=bind_some e
 obtain⟨⟨r,ys⟩,e3,e⟩:=map_some e
 cases e
 refine ha C w Γ σ H ss Γ1 _ R e1 fun vs0 H1 R1 ev1 o0 n0=>?_
 have o1:=o0.app ds
 have hl0:=o0.len
 generalize hvs:vs0++ds=vs at o1 ⊢
 generalize hss:ss++(ds.map fun v=>S.v (.a v))=ss' at o1 e2
 have hl:=o1.len
 have hgl:=zFy e2
 have hn:vs.length=n:=by rw[hl,← hgl]; exact hF _ _ e3
 have resOk:∀ {H2:Hp} {v:V} {L:List Addr},Evo L H1 H2->ROk K H1 H2 v r->Rep K C w Γ1 σ H1->SOk K C w σ H2 v (toS r):=fun {H2 v L} ev hr R=>by
  cases r with
  | v t=>exact hr
  | l xs =>
   obtain⟨p,us,rfl,h1,h2,h3⟩:=hr
   obtain⟨a,b,c⟩:=R.fresh h1
   exact⟨p,us,rfl,a,b,c,h2,h3⟩
  | r xs=>exact hr.elim
  | k xs=>exact hr.elim
  | d xs =>
   obtain⟨p,us,rfl,h1,h2,h3⟩:=hr
   obtain⟨a,b,c⟩:=R.fresh h1
   exact⟨p,us,rfl,a,b,c,h2,h3⟩
  | e xs=>exact hr.elim
 have resNew:∀ {H2:Hp} {v:V},ROk K H1 H2 v r->Nw H v (toS r):=fun {H2 v} hr=>by
  cases r with
  | v t=>trivial
  | l xs =>
   obtain⟨p,us,rfl,h1,h2,h3⟩:=hr
   exact⟨p,rfl,zAt ev1 R1.lst h1⟩
  | r xs=>exact hr.elim
  | k xs=>exact hr.elim
  | d xs =>
   obtain⟨p,us,rfl,h1,h2,h3⟩:=hr
   exact⟨p,rfl,zAt ev1 R1.lst h1⟩
  | e xs=>exact hr.elim
 cases ip with
 | none =>
  have Rc:Rep K ⟨H1,[],[]⟩ ⟨[],fun q=>∃ o,H1 q=some o⟩ (gs.map some) (vs.map some) H1:=by
   refine⟨by simp[hl,hgl],fun j g h=>?_,fun i j p ga gb ma mb h1 h2 h3 h4=>?_,fun p hp=>(nomatch hp),fun p hp=>(nomatch hp),fun p hp=>hp,fun p hp=>nofun,fun b o h _=>h,fun q hq=>(nomatch hq)⟩
   ·rw[Af]at h
    obtain⟨g',h',h⟩:=map_some h
    cases h
    obtain⟨s,a1,a2⟩:=zBR e2 h'
    obtain⟨v,b1,b2⟩:=o1.get a1
    refine⟨v,by rw[Af,b1]; rfl,?_⟩
    cases s with
    | v t=>cases a2; exact b2
    | l xs =>
     simp only[argG,reduceCtorEq,if_false,A0]at a2
     subst a2
     obtain⟨p,us,rfl,n1,n2,ow,h1,h2⟩:=b2
     exact⟨p,us,rfl,h2,h1,nofun,⟨_,h1⟩⟩
    | d xs =>
     simp only[argG,reduceCtorEq,if_false,A0]at a2
     subst a2
     obtain⟨p,us,rfl,n1,n2,ow,h1,h2⟩:=b2
     exact⟨p,us,rfl,h2,h1,nofun,⟨_,h1⟩⟩
    | s i =>
     unfold argG at a2
     dsimp only at a2
     split at a2
     ·rename_i xs hx
      simp only[reduceCtorEq,if_false,A0]at a2
      subst a2
      obtain⟨v',c1,p,us,rfl,c2,c3,c4⟩:=R1.val i _ hx
      have b2':σ[i]?=some (some v):=b2
      rw[b2']at c1; cases c1
      exact⟨p,us,rfl,c4,c3,nofun,⟨_,c3⟩⟩
     ·rename_i xs hx
      simp only[reduceCtorEq,if_false,A0]at a2
      subst a2
      obtain⟨v',c1,p,us,rfl,c2,c3⟩:=R1.val i _ hx
      have b2':σ[i]?=some (some v):=b2
      rw[b2']at c1; cases c1
      exact⟨p,us,rfl,c2,c3.1,nofun,R1.ra p c3.2.2⟩
     ·rename_i xs hx
      simp only[reduceCtorEq,if_false,A0]at a2
      subst a2
      obtain⟨v',c1,c2⟩:=R1.val i _ hx
      have b2':σ[i]?=some (some v):=b2
      rw[b2']at c1; cases c1
      exact c2
     ·rename_i xs hx
      simp only[reduceCtorEq,if_false,A0]at a2
      subst a2
      obtain⟨v',c1,p,us,rfl,c2,c3,c4⟩:=R1.val i _ hx
      have b2':σ[i]?=some (some v):=b2
      rw[b2']at c1; cases c1
      exact⟨p,us,rfl,c4,c3,nofun,⟨_,c3⟩⟩
     ·rename_i xs hx
      simp only[reduceCtorEq,if_false,A0]at a2
      subst a2
      obtain⟨v',c1,p,us,rfl,c2,c3⟩:=R1.val i _ hx
      have b2':σ[i]?=some (some v):=b2
      rw[b2']at c1; cases c1
      exact⟨p,us,rfl,c2,c3.1,nofun,R1.ra p c3.2.2⟩
     ·cases a2
   ·rw[Af]at h1
    obtain⟨g',h',h⟩:=map_some h1
    cases h
    obtain⟨s,a1,a2⟩:=zBR e2 h'
    cases s with
    | v t=>cases a2; cases ma
    | l xs=>simp[argG]at a2; subst a2; cases ma
    | d xs=>simp[argG]at a2; subst a2; cases ma
    | s i =>
     unfold argG at a2
     dsimp only at a2
     split at a2 <;> simp at a2 <;> (subst a2; cases ma)
  refine⟨hn,⟨[],fun q=>∃ o,H1 q=some o⟩,gs,r,ys,e3,Rc,rfl,(fun p hp=>nomatch hp),fun v H2 ev _ hr=>?_⟩
  have R2:Rep K C w Γ1 σ H2:=R1.evo0 fun b o h=>ev b o h nofun
  exact k v H2 R2 (ev1.trans fun b o h _=>ev b o h nofun) (resOk ev hr R1) (resNew hr)
 | some kk =>
  have hkk:∃ s,ss[kk]?=some s:=by
   unfold onceS at honce
   dsimp only at honce
   cases z:ss[kk]? with
   | none=>rw[z]at honce; cases honce
   | some s=>exact⟨s,rfl⟩
  obtain⟨sk,hsk⟩:=hkk
  have hkl:kk < ss.length:=(Aa.mp hsk).1
  have hsk':ss'[kk]?=some sk:=by rw[← hss,Aq hkl]; exact hsk
  obtain⟨vk,hvk,ok⟩:=o1.get hsk'
  have at_k:∃ p us xs,vk=.ref p/\H1 p=some (.lst us)/\Ims K H1 us xs/\argG (some kk) Γ1 kk sk=some (.l xs)/\((∃ i,sk=.s i/\Γ1[i]?=some (some (.l xs))/\σ[i]?=some (some (.ref p))/\p∈w.L)\/(sk=.l xs/\p∉w.L/\¬ w.R p/\Ow C p)):=by
   obtain⟨gk,hgk⟩:∃ g,gs[kk]?=some g:=⟨gs[kk]'(by rw[hgl,← hss]; simp; omega),by simp⟩
   obtain⟨s,a1,a2⟩:=zBR e2 hgk
   rw[hsk']at a1; cases a1
   rw[Dm]at a2
   cases sk with
   | v t=>unfold onceS at honce; dsimp only at honce; rw[hsk]at honce; cases honce
   | l xs =>
    obtain⟨p,us,rfl,n1,n2,ow,h1,h2⟩:=ok
    exact⟨p,us,xs,rfl,h1,h2,by simp[argG],.inr ⟨rfl,n1,n2,ow⟩⟩
   | s i =>
    unfold argG at a2
    dsimp only at a2
    have ok':σ[i]?=some (some vk):=ok
    split at a2
    ·rename_i xs hx
     obtain⟨v',c1,p,us,rfl,c2,c3,c4⟩:=R1.val i _ hx
     rw[ok']at c1; cases c1
     exact⟨p,us,xs,rfl,c3,c4,by simp[argG,hx],.inl ⟨i,rfl,hx,ok',c2⟩⟩
    ·rw[if_pos rfl]at a2; cases a2
    ·rw[if_pos rfl]at a2; cases a2
    ·rw[if_pos rfl]at a2; cases a2
    ·rw[if_pos rfl]at a2; cases a2
    ·cases a2
   | d xs=>unfold onceS at honce; dsimp only at honce; rw[hsk]at honce; cases honce
  obtain⟨p,us,xs,rfl,hpu,hus,hag,hsort⟩:=at_k
  have other:∀ (j:Nat) s,j≠kk->ss'[j]?=some s->(∀ i xs',s=.s i->Γ1[i]?=some (some (.l xs'))->σ[i]?≠some (some (.ref p)))/\(∀ xs' q,s=.l xs'->SOk K C w σ H1 (.ref q) s->q≠p):=fun j s hj hs=>by
   rcases hsort with ⟨i0,rfl,g0,s0,m0⟩ | ⟨rfl,n1,n2,ow⟩
   ·refine⟨fun i xs' e hx z=>?_,fun xs' q e h z=>?_⟩
    ·subst e
     have:=R1.apart i0 i p _ _ rfl rfl g0 hx s0 z
     subst this
     have hjl:j < ss.length:=by
      rcases B8 j ss.length with z | z
      ·exact z
      ·rw[← hss,BJ z,Af]at hs
       obtain⟨d,_,hs⟩:=map_some hs
       cases hs
     rw[← hss,Aq hjl]at hs
     unfold onceS at honce
     dsimp only at honce
     rw[hsk]at honce
     have:=BK.mp honce (.s i0) (FT.mpr ⟨j,hj,hs⟩)
     simp[isSl]at this
    ·subst e
     obtain⟨q',us'',e,n1,_⟩:=h
     cases e
     exact n1 (z ▸ m0)
   ·refine⟨fun i xs' e hx z=>?_,fun xs' q e h z=>?_⟩
    ·obtain⟨v',c1,p',us2,rfl,c2,_⟩:=R1.val i _ hx
     rw[z]at c1; cases c1
     exact n1 c2
    ·subst e
     have hjl:j < ss.length:=by
      rcases B8 j ss.length with z | z
      ·exact z
      ·rw[← hss,BJ z,Af]at hs
       obtain⟨d,_,hs⟩:=map_some hs
       cases hs
     rw[← hss,Aq hjl]at hs
     unfold onceS at honce
     dsimp only at honce
     rw[hsk]at honce
     have:=BK.mp honce _ (FT.mpr ⟨j,hj,hs⟩)
     simp[isTmp]at this
  have hpins:pinsG (some kk) vs=[(kk,p)]:=by unfold pinsG; dsimp only; rw[hvk]
  have Rc:Rep K ⟨H1,[p],[(kk,p)]⟩ ⟨[p],fun q=>(∃ o,H1 q=some o)/\q≠p⟩ (gs.map some) (vs.map some) H1:=by
   have get:∀ {j:Nat} {g:G},(gs.map some)[j]?=some (some g)->∃ s,ss'[j]?=some s/\argG (some kk) Γ1 j s=some g:=fun {j g} h=>by
    rw[Af]at h
    obtain⟨g',h',h⟩:=map_some h
    cases h
    obtain⟨s,a1,a2⟩:=zBR e2 h'
    exact⟨s,a1,by rw[Dm]at a2; exact a2⟩
   have only:∀ {j:Nat} {gc:G},isMut gc=true->(gs.map some)[j]?=some (some gc)->j=kk:=fun {j gc} mc h=>by
    obtain⟨s,a1,a2⟩:=get h
    by_cases hj:kk=j
    ·exact hj.symm
    ·cases s with
     | v t=>cases a2; cases mc
     | l xs=>simp[argG,hj]at a2; subst a2; cases mc
     | d xs=>simp[argG,hj]at a2; subst a2; cases mc
     | s i =>
      unfold argG at a2
      dsimp only at a2
      split at a2 <;> simp[hj]at a2 <;> (subst a2; cases mc)
   refine⟨by simp[hl,hgl],fun j g h=>?_,fun i j p' ga gb ma mb h1 h2 h3 h4=>(only ma h1).trans (only mb h2).symm,fun q hq=>?_,fun q hq=>.inl hq,fun q hq=>hq.1,fun q hq z=>hq.2 (AI.mp z),fun b o h _=>h,fun q hq=>?_⟩
   ·obtain⟨s,a1,a2⟩:=get h
    obtain⟨v,b1,b2⟩:=o1.get a1
    refine⟨v,by rw[Af,b1]; rfl,?_⟩
    by_cases hj:j=kk
    ·subst hj
     rw[hsk']at a1; cases a1
     rw[hag]at a2; cases a2
     rw[hvk]at b1; cases b1
     exact⟨p,us,rfl,AI.mpr rfl,hpu,hus⟩
    ·have hj':¬ kk=j:=fun z=>hj z.symm
     obtain⟨x1,x2⟩:=other j s hj a1
     cases s with
     | v t=>cases a2; exact b2
     | l xs' =>
      simp only[argG,A0,hj',if_false]at a2
      subst a2
      have b3:=b2
      obtain⟨q,us',rfl,n1,n2,ow,h1,h2⟩:=b2
      have hne:q≠p:=x2 xs' q rfl b3
      exact⟨q,us',rfl,h2,h1,fun z=>hne (AI.mp z),⟨_,h1⟩,hne⟩
     | s i =>
      have b2':σ[i]?=some (some v):=b2
      unfold argG at a2
      dsimp only at a2
      split at a2
      ·rename_i xs' hx
       simp only[A0,hj',if_false]at a2
       subst a2
       obtain⟨v',c1,q,us',rfl,c2,c3,c4⟩:=R1.val i _ hx
       rw[b2']at c1; cases c1
       have hne:q≠p:=fun z=>x1 i xs' rfl hx (z ▸ b2')
       exact⟨q,us',rfl,c4,c3,fun z=>hne (AI.mp z),⟨_,c3⟩,hne⟩
      ·rename_i xs' hx
       simp only[A0,hj',if_false]at a2
       subst a2
       obtain⟨v',c1,q,us',rfl,c2,c3⟩:=R1.val i _ hx
       rw[b2']at c1; cases c1
       have hne:q≠p:=fun z=>by
        subst z
        rcases hsort with ⟨_,_,_,_,m0⟩ | ⟨_,n1,n2,ow⟩
        ·exact c3.2.1 m0
        ·exact n2 c3.2.2
       exact⟨q,us',rfl,c2,c3.1,fun z=>hne (AI.mp z),R1.ra q c3.2.2,hne⟩
      ·rename_i xs' hx
       simp only[A0,hj',if_false]at a2
       subst a2
       obtain⟨v',c1,c2⟩:=R1.val i _ hx
       rw[b2']at c1; cases c1
       exact c2
      ·rename_i xs' hx
       simp only[A0,hj',if_false]at a2
       subst a2
       obtain⟨v',c1,q,us',rfl,c2,c3,c4⟩:=R1.val i _ hx
       rw[b2']at c1; cases c1
       have hne:q≠p:=fun z=>by subst z; rw[hpu]at c3; cases c3; exact zFD c4
       exact⟨q,us',rfl,c4,c3,fun z=>hne (AI.mp z),⟨_,c3⟩,hne⟩
      ·rename_i xs' hx
       simp only[A0,hj',if_false]at a2
       subst a2
       obtain⟨v',c1,q,us',rfl,c2,c3⟩:=R1.val i _ hx
       rw[b2']at c1; cases c1
       have hne:q≠p:=fun z=>by subst z; have c4:=c3.1; rw[hpu]at c4; cases c4; exact zFD c2
       exact⟨q,us',rfl,c2,c3.1,fun z=>hne (AI.mp z),R1.ra q c3.2.2,hne⟩
      ·cases a2
     | d xs' =>
      simp only[argG,A0,hj',if_false]at a2
      subst a2
      obtain⟨q,us',rfl,n1,n2,ow,h1,h2⟩:=b2
      have hne:q≠p:=fun z=>by subst z; rw[hpu]at h1; cases h1; exact zFD h2
      exact⟨q,us',rfl,h2,h1,fun z=>hne (AI.mp z),⟨_,h1⟩,hne⟩
   ·rw[AI.mp hq]; exact⟨_,hpu,trivial⟩
   ·rw[AI.mp hq]
    refine⟨by rw[Af,hvk]; rfl,xs,?_⟩
    obtain⟨gk,hgk⟩:∃ g,gs[kk]?=some g:=⟨gs[kk]'(by rw[hgl,← hss]; simp; omega),by simp⟩
    obtain⟨s,a1,a2⟩:=zBR e2 hgk
    rw[hsk']at a1; cases a1
    rw[Dm,hag]at a2; cases a2
    rw[Af,hgk]; rfl
  refine⟨hn,⟨[p],fun q=>(∃ o,H1 q=some o)/\q≠p⟩,gs,r,ys,e3,by rw[hpins]; exact Rc,by rw[hpins]; rfl,by rw[hpins]; exact fun q hq=>hq,fun v H2 ev hch hr=>?_⟩
  rw[hpins]at hch
  obtain⟨us2,hp2,hu2⟩:=hch (kk,p) (AI.mpr rfl)
  rcases hsort with ⟨i0,rfl,g0,s0,m0⟩ | ⟨rfl,n1,n2,ow⟩
  ·obtain⟨R2,ev2⟩:=R1.put2 g0 s0 ev hp2 hu2
   have hb:backS (some kk) Γ1 ss ys=Γ1.set i0 (some (.l ys)):=by unfold backS; dsimp only; rw[hsk]
   dsimp only at k
   rw[hb]at k
   exact k v H2 R2 (ev1.trans ev2) (resOk ev hr R1) (resNew hr)
  ·have hb:backS (some kk) Γ1 ss ys=Γ1:=by unfold backS; dsimp only; rw[hsk]
   dsimp only at k
   rw[hb]at k
   have R2:=R1.temp n1 n2 ow ⟨_,hpu,trivial⟩ ev
   refine k v H2 R2 (fun b o h n=>?_) (resOk ev hr R1) (resNew hr)
   by_cases z:b=p
   ·subst z
    have hv0:vs0[kk]?=some (.ref b):=by
     rw[← hvs,Aq (by rw[hl0]; exact hkl)]at hvk; exact hvk
    obtain⟨p',e',hn'⟩:=n0.get hv0 hsk
    cases e'
    rw[hn']at h; cases h
   ·exact ev b o (ev1 b o h n) fun q=>z (AI.mp q)
end
noncomputable def lsOf (Γ:En):S->Option (List T)
 | .l xs=>some xs
 | .s i=>match Γ[i]? with
  | some (some (.l xs))=>some xs
  | some (some (.r xs))=>some xs
  | _=>none
 | .v _=>none
 | .d _=>none
noncomputable def sqlOf (Γ:En):S->Option (List T)
 | .l xs=>some xs
 | .s i=>match Γ[i]? with
  | some (some (.l xs))=>some xs
  | some (some (.r xs))=>some xs
  | some (some (.k xs))=>some xs
  | _=>none
 | .v (.l xs)=>some xs
 | .v _=>none
 | .d _=>none
section
variable {K:Fg}{C:Fr}{w:W}{Γ:En}{σ:St}{H:Hp}
theorem zGR{x:V}{s:S}{xs:List T}(R:Rep K C w Γ σ H)(o:SOk K C w σ H x s)(e:lsOf Γ s=some xs):∃ p vs,x=.ref p/\H p=some (.lst vs)/\Ims K H vs xs:=by
 cases s with
 | v t=>cases e
 | d _=>cases e
 | l ys=>cases e; obtain⟨p,vs,rfl,_,_,_,h1,h2⟩:=o; exact⟨p,vs,rfl,h1,h2⟩
 | s i =>
  have o':σ[i]?=some (some x):=o
  unfold lsOf at e
  dsimp only at e
  split at e
  ·rename_i ys h
   cases e
   obtain⟨v,e1,p,vs,rfl,_,h1,h2⟩:=R.val i _ h
   rw[o']at e1; cases e1
   exact⟨p,vs,rfl,h1,h2⟩
  ·rename_i ys h
   cases e
   obtain⟨v,e1,p,vs,rfl,h1,h2,_⟩:=R.val i _ h
   rw[o']at e1; cases e1
   exact⟨p,vs,rfl,h2,h1⟩
  ·cases e
theorem zBH{x:V}{s:S}{xs:List T}(R:Rep K C w Γ σ H)(o:SOk K C w σ H x s)(e:sqlOf Γ s=some xs):∃ p vs,x=.ref p/\SqL K H p vs/\Ims K H vs xs:=by
 cases s with
 | v t =>
  cases t with
  | l ys =>
   cases e
   obtain⟨p,vs,rfl,h1,h2⟩:=(show Im K H x (.l xs) from o).invl
   exact⟨p,vs,rfl,h1.sq,h2⟩
  | a _=>cases e
  | t _=>cases e
  | f _=>cases e
  | x _ _=>cases e
 | d _=>cases e
 | l ys=>cases e; obtain⟨p,vs,rfl,_,_,_,h1,h2⟩:=o; exact⟨p,vs,rfl,SqL.of h1,h2⟩
 | s i =>
  have o':σ[i]?=some (some x):=o
  unfold sqlOf at e
  dsimp only at e
  split at e
  ·rename_i ys h
   cases e
   obtain⟨v,e1,p,vs,rfl,_,h1,h2⟩:=R.val i _ h
   rw[o']at e1; cases e1
   exact⟨p,vs,rfl,SqL.of h1,h2⟩
  ·rename_i ys h
   cases e
   obtain⟨v,e1,p,vs,rfl,h1,h2,_⟩:=R.val i _ h
   rw[o']at e1; cases e1
   exact⟨p,vs,rfl,SqL.of h2,h1⟩
  ·rename_i ys h
   cases e
   obtain⟨v,e1,p,vs,rfl,h1,h2⟩:=R.val i _ h
   rw[o']at e1; cases e1
   exact⟨p,vs,rfl,h2.sq,h1⟩
  ·cases e
end
noncomputable def iS:S->Option Int
 | .v (.a (.int i))=>some i
 | _=>none
noncomputable def mkI (i:Int):S:=.v (.a (.int i))
noncomputable def mkB (b:Bool):S:=.v (.a (.bl b))
section
variable {K:Fg}{C:Fr}{w:W}{Γ:En}{σ:St}{H:Hp}
theorem zB4{x:V}{s:S}{i:Int}(o:SOk K C w σ H x s)(e:iS s=some i):x=.int i:=by
 unfold iS at e
 split at e
 ·cases e; exact o.inva
 ·cases e
end
noncomputable def inR (b:Nat):Int->Bool
 | .ofNat n=>Ej n b
 | .negSucc n=>Ej n b
theorem zDt{b:Nat}{i:Int}:inR b i=true ↔ -((b:Int)+1)<=i/\i<=b:=by
 cases i with
 | ofNat n =>
  simp only[inR,Kc,Int.ofNat_eq_natCast]
  omega
 | negSucc n =>
  simp only[inR,Kc,Int.negSucc_eq]
  omega
theorem inR62{i:Int}(h:inR 4611686018427387903 i=true):-(2 ^ 62)<=i/\i < 2 ^ 62:=by have:=zDt.mp h; omega
theorem inR63{i:Int}(h:inR 9223372036854775807 i=true):-(2 ^ 63)<=i/\i < 2 ^ 63:=by have:=zDt.mp h; omega
theorem zJA{b n:Nat}(h:n<=b):inR b (n:Int)=true:=zDt.mpr ⟨by omega,by omega⟩
noncomputable def opII (g:Int->Int->V):En->S->S->Option S:=fun _ a b=>(iS a).bind fun i=>(iS b).bind fun j=>some (.v (.a (g i j)))
noncomputable def opIIc (c:Int->Int->Prop) [∀ i j,Decidable (c i j)] (g:Int->Int->V):En->S->S->Option S:=fun _ a b=>(iS a).bind fun i=>(iS b).bind fun j=>if c i j then some (.v (.a (g i j))) else none
theorem zBw{K:Fg}{g:Int->Int->V}:SimR2 K (rI0 g) (opII g):=by
 intro C w Γ σ H x y a b s Q R ox oy e k
 obtain⟨i,e1,e⟩:=bind_some e
 obtain⟨j,e2,e⟩:=bind_some e
 cases e
 exact⟨i,j,zB4 ox e1,zB4 oy e2,k _ H R .refl SOk.atom trivial⟩
theorem zCt{K:Fg}{c:Int->Int->Prop} [∀ i j,Decidable (c i j)] {g:Int->Int->V}:SimR2 K (rI c g) (opIIc c g):=by
 intro C w Γ σ H x y a b s Q R ox oy e k
 obtain⟨i,e1,e⟩:=bind_some e
 obtain⟨j,e2,e⟩:=bind_some e
 split at e
 ·rename_i hc
  cases e
  exact⟨i,j,zB4 ox e1,zB4 oy e2,hc,k _ H R .refl SOk.atom trivial⟩
 ·cases e
theorem zOq{i j:Int}:((inR 18446744073709551615 i && inR 18446744073709551615 (-i)) || (inR 18446744073709551615 j && inR 18446744073709551615 (-j)))=true ↔ CMul i j:=by
 unfold CMul
 simp only[IM,Ax,zDt]
 omega
noncomputable instance (i j:Int):Decidable (CMul i j):=decidable_of_iff _ zOq
noncomputable instance (i j:Int):Decidable (CDiv i j):=by unfold CDiv; infer_instance
noncomputable instance (i j:Int):Decidable (CPow i j):=by unfold CPow; infer_instance
theorem SimR2.or{K:Fg}{r r':R2}{h h':En->S->S->Option S}(a:SimR2 K r h)(b:SimR2 K r' h'):SimR2 K (fun x y H Q=>r x y H Q\/r' x y H Q) (fun Γ x y=>(h Γ x y).or (h' Γ x y)):=by
 intro C w Γ σ H x y s1 s2 s Q R ox oy e k
 dsimp only at e
 cases q:h Γ s1 s2 with
 | some z =>
  rw[q,Option.some_or]at e
  cases e
  exact .inl (a C w Γ σ H x y s1 s2 _ Q R ox oy q k)
 | none =>
  rw[q,De]at e
  exact .inr (b C w Γ σ H x y s1 s2 _ Q R ox oy e k)
noncomputable def addStr:En->S->S->Option S:=fun _ a b=>match a,b with
 | .v (.a (.str x)),.v (.a (.str y))=>gd (x.length+y.length) (.v (.a (.str (x++y))))
 | _,_=>none
noncomputable def rAddStr:R2:=fun x y H Q=>∃ i j,x=.str i/\y=.str j/\i.length+j.length<=AE/\Q (.str (i++j)) H
theorem zHp{K:Fg}:SimR2 K rAddStr addStr:=by
 intro C w Γ σ H x y a b s Q R ox oy e k
 unfold addStr at e
 split at e
 ·obtain⟨h,e⟩:=zB0 e
  cases e
  exact⟨_,_,ox.inva,oy.inva,h,k _ H R .refl SOk.atom trivial⟩
 ·cases e
noncomputable def rCatS (K:Fg):R2:=fun x y H Q=>∃ a b xs ys,x=.ref a/\y=.ref b/\Tp K H a xs/\Tp K H b ys/\xs.length+ys.length<=AE/\∀ p H',Same H H'->Tp K H' p (xs++ys)->Q (.ref p) H'
open PySem.Spec PyProof.Rows in
theorem zN3{X:Cx}:OpR X (CU .Add) (rCatS X.K):=by
 intro pins s σ H x y v u Q I rx ry h
 obtain⟨a,b,xs,ys,rfl,rfl,ha,hb,hz,q⟩:=h
 cases rx
 cases ry
 obtain⟨its,r1,t1,z1⟩:=I.tuple ha.sq
 obtain⟨its2,r2,t2,z2⟩:=I.tuple hb.sq
 by_cases hx:xs=[]
 ·subst hx
  have e:its=[]:=by have:=r1.length; simpa using this.symm
  subst e
  obtain⟨⟨cls,dd,data,sl⟩,ho,hc,n,hd⟩:=id t1
  obtain⟨⟨cls2,dd2,data2,sl2⟩,ho2,hc2,n2,hd2⟩:=id t2
  simp only at hc hd hc2 hd2
  subst hc hd hc2 hd2
  refine Hj ⟨_,ho,rfl⟩ ⟨_,ho2,rfl⟩ GH HH Dx Dr (Do _ _)
   (tuple_addW0 a b _ its2.toArray n n2 dd dd2 sl sl2 (by simp)) ⟨ho,ho2,?_⟩
  exact⟨.ref b,H,I,rfl,q b H (Same.refl H) (by simpa using hb)⟩
 ·have hne:its≠[]:=fun e=>hx (by have:=r1.length; rw[e]at this; simpa using this)
  refine HT.cat_tup t1 t2 hne (fun e=>?_) (fun e=>?_) (by rw[← r1.length,← r2.length]; exact hz)
  ·have ey:ys=[]:=by have:=r2.length; rw[e]at this; simpa using this
   subst ey
   exact⟨.ref a,H,I,rfl,q a H (Same.refl H) (by simpa using ha)⟩
  ·have hf:H s.heap.objs.size=none:=I.hok.fresh (AL _)
   refine⟨.ref s.heap.objs.size,_,I.laid (t':=s.toks) (fun b o e=>AM _ e) (AL _) (show ObjOk X.prog X.w _ _ _ (.tup (xs++ys)) from ⟨by simpa using hz,its++its2,r1.append r2,TupD.new _ _⟩),rfl,q _ _ (Same.upd hf) (.inl zAT)⟩
noncomputable def addTup:En->S->S->Option S:=fun _ a b=>match a,b with
 | .v (.t xs),.v (.t ys)=>gd (xs.length+ys.length) (.v (.t (xs++ys)))
 | _,_=>none
theorem zGi{K:Fg}:SimR2 K (rCatS K) addTup:=by
 intro C w Γ σ H x y a b s Q R ox oy e k
 unfold addTup at e
 split at e
 ·obtain⟨h,e⟩:=zB0 e
  cases e
  obtain⟨p,vs,rfl,h1,i1⟩:=ox.invt
  obtain⟨q,us,rfl,h2,i2⟩:=oy.invt
  refine⟨p,q,vs,us,rfl,rfl,h1,h2,by rw[i1.len,i2.len]; exact h,fun c H' sm hc=>k _ H' (R.same sm) (.of_same sm) ?_ trivial⟩
  have ev:Evo w.L H H':=.of_same sm
  show Im K H' (.ref c) (.t _)
  unfold Im
  exact⟨c,_,rfl,hc,(i1.evo ev R.lst).app (i2.evo ev R.lst)⟩
 ·cases e
noncomputable def addLst:En->S->S->Option S:=fun Γ a b=>(lsOf Γ a).bind fun xs=>(lsOf Γ b).bind fun ys=>gd (xs.length+ys.length) (.l (xs++ys))
theorem zHo{K:Fg}:SimR2 K rCat addLst:=by
 intro C w Γ σ H x y a b s Q R ox oy e k
 obtain⟨xs,e1,e⟩:=bind_some e
 obtain⟨ys,e2,e⟩:=bind_some e
 obtain⟨h,e⟩:=zB0 e
 cases e
 obtain⟨p,vs,rfl,h1,i1⟩:=zGR R ox e1
 obtain⟨q,us,rfl,h2,i2⟩:=zGR R oy e2
 exact⟨p,q,vs,us,rfl,rfl,h1,h2,by rw[i1.len,i2.len]; exact h,fun c hc=>k _ _ (R.new hc) (Evo.new hc) (R.newl hc (i1.app i2)) ⟨c,rfl,hc⟩⟩
noncomputable def addS:En->S->S->Option S:=fun Γ x y=>((opII fun i j=>.int (i+j)) Γ x y).or ((addTup Γ x y).or ((addLst Γ x y).or (addStr Γ x y)))
noncomputable def rAddS (K:Fg):R2:=fun x y H Q=>rI0 (fun i j=>.int (i+j)) x y H Q\/rCatS K x y H Q\/rCat x y H Q\/rAddStr x y H Q
theorem zLk{K:Fg}:SimR2 K (rAddS K) addS:=zBw.or (zGi.or (zHo.or zHp))
theorem zOZ{X:Cx}:OpR X (CU .Add) (rAddS X.K):=zPi.or (zN3.or (zP0.or zKV))
noncomputable def fitM (n:Nat) (k:Int):Bool:=inR 9223372036854775807 k && Ej (n * k.toNat) AE
noncomputable def mulLst:En->S->S->Option S:=fun Γ a b=>(lsOf Γ a).bind fun xs=>(iS b).bind fun k=>if fitM xs.length k=true then some (.l (Ac k.toNat xs).flatten) else none
theorem Ims.rep{K:Fg}{H:Hp}{vs:List V}{ts:List T}(h:Ims K H vs ts):∀ n:Nat,Ims K H (Ac n vs).flatten (Ac n ts).flatten
 | 0=>.nil
 | n+1=>by rw[B4,B4,CZ,CZ]; exact h.app (h.rep n)
theorem zGt{K:Fg}:SimR2 K rRep mulLst:=by
 intro C w Γ σ H x y a b s Q R ox oy e k
 obtain⟨xs,e1,e⟩:=bind_some e
 obtain⟨n,e2,e⟩:=bind_some e
 split at e
 ·rename_i h
  cases e
  unfold fitM at h
  rw[Ax]at h
  have h0:=inR63 h.1
  have h3:=ES h.2
  obtain⟨p,vs,rfl,h1,i1⟩:=zGR R ox e1
  exact⟨p,n,vs,rfl,zB4 oy e2,h1,h0.1,h0.2,by rw[i1.len]; exact h3,fun c hc=>k _ _ (R.new hc) (Evo.new hc) (R.newl hc (i1.rep _)) ⟨c,rfl,hc⟩⟩
 ·cases e
noncomputable def mulS:En->S->S->Option S:=fun Γ x y=>(opIIc CMul (fun i j=>.int (i * j)) Γ x y).or (mulLst Γ x y)
noncomputable def rMulS:R2:=fun x y H Q=>rI CMul (fun i j=>.int (i * j)) x y H Q\/rRep x y H Q
theorem zLj{K:Fg}:SimR2 K rMulS mulS:=zCt.or zGt
theorem zOU{X:Cx}:OpR X (CU .Mult) rMulS:=zQG.or zPz
noncomputable def modS:En->S->S->Option S:=opIIc (fun _ j=>0 < j) fun i j=>.int (i % j)
noncomputable def fdivS:En->S->S->Option S:=opIIc CDiv fun i j=>.int (i / j)
noncomputable def powS:En->S->S->Option S:=opIIc CPow fun i j=>.int (i ^ j.toNat)
noncomputable def subS:En->S->S->Option S:=opII fun i j=>.int (i - j)
noncomputable def ltS:En->S->S->Option S:=opII fun i j=>.bl (decide (i < j))
noncomputable def gtS:En->S->S->Option S:=opII fun i j=>.bl (decide (j < i))
noncomputable def geS:En->S->S->Option S:=opII fun i j=>.bl (decide (j<=i))
noncomputable def negS:En->S->Option S:=fun _ a=>(iS a).map fun i=>mkI (-i)
theorem zMC{K:Fg}:SimR1 K (rU fun i=>.int (-i)) negS:=by
 intro C w Γ σ H x a s Q R ox e k
 obtain⟨i,e1,e⟩:=map_some e
 cases e
 exact⟨i,zB4 ox e1,k _ H R .refl SOk.atom trivial⟩
noncomputable def ixS:En->S->S->Option S:=fun Γ a b=>(iS b).bind fun i=>match a with
 | .v (.t xs)=>(atI xs i).map .v
 | .v (.a (.str z))=>if z.length<=AE then (atI z.cps.toList i).map fun c=>.v (.a (.str ⟨#[c]⟩)) else none
 | a=>(sqlOf Γ a).bind fun xs=>(atI xs i).map .v
theorem zIZ{K:Fg}{H:Hp}{vs:List V}{ts:List T}{i:Int}{t:T}(h:Ims K H vs ts)(e:atI ts i=some t):∃ v,atI vs i=some v/\Im K H v t:=by
 unfold atI at e ⊢
 rw[h.len]
 obtain⟨j,e1,e⟩:=bind_some e
 obtain⟨v,e2,hv⟩:=h.get e
 exact⟨v,by rw[e1]; exact e2,hv⟩
theorem zNN{K:Fg}:SimR2 K (rIx K) ixS:=by
 intro C w Γ σ H x y a b s Q R ox oy e k
 obtain⟨i,e1,e⟩:=bind_some e
 have hy:=zB4 oy e1
 split at e
 ·rename_i xs
  obtain⟨t,e2,e⟩:=map_some e
  cases e
  obtain⟨p,vs,rfl,h1,i1⟩:=ox.invt
  obtain⟨v,e3,hv⟩:=zIZ i1 e2
  exact .inr (.inl ⟨p,vs,i,v,rfl,hy,h1.sq,e3,k v H R .refl hv trivial⟩)
 ·rename_i z
  split at e
  ·rename_i hz
   obtain⟨c,e2,e⟩:=map_some e
   cases e
   exact .inr (.inr ⟨_,i,c,ox.inva,hy,hz,e2,k _ H R .refl SOk.atom trivial⟩)
  ·cases e
 ·obtain⟨xs,e2,e⟩:=bind_some e
  obtain⟨t,e3,e⟩:=map_some e
  cases e
  obtain⟨p,vs,rfl,h1,i1⟩:=zBH R ox e2
  obtain⟨v,e4,hv⟩:=zIZ i1 e3
  exact .inl ⟨p,vs,i,v,rfl,hy,h1,e4,k v H R .refl hv trivial⟩
noncomputable def lenS:En->List S->Option S:=fun Γ as=>match as with
 | [.v (.t xs)]=>some (mkI xs.length)
 | [.v (.a (.str z))]=>if z.length<=AE then some (mkI z.length) else none
 | [a]=>(sqlOf Γ a).map fun xs=>mkI xs.length
 | _=>none
noncomputable def rLenS (K:Fg):List V->Hp->VK->Prop:=fun xs H Q=>(∃ p ys,xs=[.ref p]/\(SqL K H p ys\/SqT K H p ys)/\Q (.int ys.length) H)\/(∃ z,xs=[.str z]/\z.length<=AE/\Q (.int z.length) H)
theorem soks1{K:Fg}{C:Fr}{w:W}{σ:St}{H:Hp}{vs:List V}{a:S}(h:SOks K C w σ H vs [a]):∃ v,vs=[v]/\SOk K C w σ H v a:=by
 match vs,h with
 | [v],h=>exact⟨v,rfl,h.1⟩
theorem soks2{K:Fg}{C:Fr}{w:W}{σ:St}{H:Hp}{vs:List V}{a b:S}(h:SOks K C w σ H vs [a,b]):∃ v u,vs=[v,u]/\SOk K C w σ H v a/\SOk K C w σ H u b:=by
 match vs,h with
 | [v,u],h=>exact⟨v,u,rfl,h.1,h.2.1⟩
theorem zK4{K:Fg}:SimRs K (rLenS K) lenS:=by
 intro C w Γ σ H vs as s Q R o e k
 unfold lenS at e
 split at e
 ·cases e
  obtain⟨v,rfl,o1⟩:=soks1 o
  obtain⟨p,us,rfl,h1,i1⟩:=o1.invt
  refine .inl ⟨p,us,rfl,.inr h1.sq,?_⟩
  rw[i1.len]
  exact k _ H R .refl SOk.atom trivial
 ·rename_i z
  split at e
  ·rename_i hz
   cases e
   obtain⟨v,rfl,o1⟩:=soks1 o
   exact .inr ⟨z,by rw[o1.inva],hz,k _ H R .refl SOk.atom trivial⟩
  ·cases e
 ·obtain⟨xs,e1,e⟩:=map_some e
  cases e
  obtain⟨v,rfl,o1⟩:=soks1 o
  obtain⟨p,us,rfl,h1,i1⟩:=zBH R o1 e1
  refine .inl ⟨p,us,rfl,.inl h1,?_⟩
  rw[i1.len]
  exact k _ H R .refl SOk.atom trivial
 ·cases e
theorem zLq{X:Cx}:CallR X (.builtin "len") (rLenS X.K):=zHs.or zH1
noncomputable def seqS (Γ:En):S->Option (List T)
 | .v (.t xs)=>some xs
 | a=>sqlOf Γ a
theorem zHN{K:Fg}{C:Fr}{w:W}{Γ:En}{σ:St}{H:Hp}{x:V}{s:S}{xs:List T}(R:Rep K C w Γ σ H)(o:SOk K C w σ H x s)(e:seqS Γ s=some xs):∃ p vs,x=.ref p/\(SqL K H p vs\/SqT K H p vs)/\Ims K H vs xs:=by
 unfold seqS at e
 split at e
 ·cases e
  obtain⟨p,us,rfl,h1,i1⟩:=o.invt
  exact⟨p,us,rfl,.inr h1.sq,i1⟩
 ·obtain⟨p,us,rfl,h1,i1⟩:=zBH R o e
  exact⟨p,us,rfl,.inl h1,i1⟩
noncomputable def listS:En->List S->Option S:=fun Γ as=>match as with
 | [a]=>(seqS Γ a).map .l
 | _=>none
theorem zKX{K:Fg}:SimRs K (fun xs H Q=>∃ p ys,xs=[.ref p]/\(SqL K H p ys\/SqT K H p ys)/\∀ l,H l=none->Q (.ref l) (upd H l (.lst ys))) listS:=by
 intro C w Γ σ H vs as s Q R o e k
 unfold listS at e
 split at e
 ·obtain⟨xs,e1,e⟩:=map_some e
  cases e
  obtain⟨v,rfl,o1⟩:=soks1 o
  obtain⟨p,us,rfl,h1,i1⟩:=zHN R o1 e1
  exact⟨p,us,rfl,h1,fun l hl=>k _ _ (R.new hl) (Evo.new hl) (R.newl hl i1) ⟨l,rfl,hl⟩⟩
 ·cases e
noncomputable def tupleS:En->List S->Option S:=fun Γ as=>match as with
 | [.v (.t xs)]=>some (.v (.t xs))
 | [a]=>(sqlOf Γ a).map fun xs=>.v (.t xs)
 | _=>none
theorem zIL{K:Fg}:SimRs K (fun xs H Q=>∃ p ys,xs=[.ref p]/\((SqL K H p ys/\∀ l,H l=none->Q (.ref l) (upd H l (.tup ys)))\/(SqT K H p ys/\Q (.ref p) H))) tupleS:=by
 intro C w Γ σ H vs as s Q R o e k
 unfold tupleS at e
 split at e
 ·cases e
  obtain⟨v,rfl,o1⟩:=soks1 o
  have o2:=o1
  obtain⟨p,us,rfl,h1,i1⟩:=o1.invt
  exact⟨p,us,rfl,.inr ⟨h1.sq,k _ H R .refl o2 trivial⟩⟩
 ·obtain⟨xs,e1,e⟩:=map_some e
  cases e
  obtain⟨v,rfl,o1⟩:=soks1 o
  obtain⟨p,us,rfl,h1,i1⟩:=zBH R o1 e1
  exact⟨p,us,rfl,.inl ⟨h1,fun l hl=>k _ _ (R.new hl) (Evo.new hl) (R.newt hl i1) trivial⟩⟩
 ·cases e
abbrev DO:=En->Option (Option Int×En)
def SimO (K:Fg) (t:TO) (f:DO):Prop:=∀ (C:Fr) (w:W) (Γ:En) (σ:St) (H:Hp) (i:Option Int) (Γ':En) (Q:Option Int->Hp->Prop),Rep K C w Γ σ H->f Γ=some (i,Γ')->(∀ H',Rep K C w Γ' σ H'->Evo w.L H H'->Q i H')->t σ H Q
noncomputable def dNoPart:DO:=fun Γ=>some (none,Γ)
noncomputable def dPart (f:DE):DO:=fun Γ=>(f Γ).bind fun p=>(iS p.1).map fun i=>(some i,p.2)
theorem zKA{K:Fg}:SimO K tNoPart dNoPart:=fun C w Γ σ H i Γ' Q R e k=>by cases e; exact k H R .refl
theorem zMS{K:Fg}{t:TE}{f:DE}(h:SimE K t f):SimO K (tPart t) (dPart f):=by
 intro C w Γ σ H i Γ' Q R e k
 obtain⟨p,e1,e⟩:=bind_some e
 obtain⟨i,e2,e⟩:=map_some e
 cases e
 exact h C w Γ σ H p.1 p.2 _ R e1 fun v H1 R1 ev o _=>⟨i,zB4 o e2,k H1 R1 ev⟩
noncomputable def cutT (xs:List T) (lo hi:Option Int):List T:=(xs.drop (HT.sIx xs.length 0 lo)).take (HT.sIx xs.length xs.length hi - HT.sIx xs.length 0 lo)
theorem Ims.cut{K:Fg}{H:Hp}{vs:List V}{ts:List T}(h:Ims K H vs ts)(lo hi:Option Int):Ims K H (cutV vs lo hi) (cutT ts lo hi):=by
 unfold cutV cutT
 rw[h.len]
 exact (h.drop _).take _
noncomputable def slS (Γ:En) (lo hi:Option Int):S->Option S
 | .v (.t xs)=>some (.v (.t (cutT xs lo hi)))
 | .v (.a _)=>none
 | a=>(sqlOf Γ a).map fun xs=>.l (cutT xs lo hi)
noncomputable def dSl (f:DE) (lo hi:DO):DE:=fun Γ=>(f Γ).bind fun p=>(lo p.2).bind fun l=>(hi l.2).bind fun h=>(slS h.2 l.1 h.1 p.1).map fun s=>(s,h.2)
noncomputable def rSlTS (K:Fg):V->Option Int->Option Int->Hp->VK->Prop:=fun x lo hi H Q=>∃ a xs,x=.ref a/\Tp K H a xs/\∀ p H',Same H H'->Tp K H' p (cutV xs lo hi)->Q (.ref p) H'
theorem zN6{X:Cx}:SlR X (rSlTS X.K):=by
 intro pins s σ H x v vl vu lo hi sl Q I rx hs pl pu h
 obtain⟨a,xs,rfl,hx,q⟩:=h
 cases rx
 obtain⟨its,r,ht,hz⟩:=I.tuple hx.sq
 have hlen:its.toArray.size=xs.length:=by rw[AN]; exact r.length.symm
 refine⟨"tuple",_,Bt.lookup,ht.typeIs,?_⟩
 by_cases hw:HT.sIx xs.length 0 lo=0/\HT.sIx xs.length xs.length hi=xs.length
 ·refine zC8 ht hs pl pu (by rw[hlen]; exact hw) ⟨.ref a,H,I,rfl,q a H (Same.refl H) ?_⟩
  unfold cutV
  rw[hw.1,hw.2,Ig,Jn,CS (AL _)]
  exact hx
 ·refine HT.qY ht hs pl pu (by rw[hlen]; exact hw) ?_ (by rw[hlen]; exact hz)
  rw[hlen]
  have hf:H s.heap.objs.size=none:=I.hok.fresh (AL _)
  refine⟨.ref s.heap.objs.size,_,I.laid (t':=s.toks) (o:=.tup (cutV xs lo hi)) (fun b ob q=>AM _ q) (AL _) ?_,rfl,q _ _ (Same.upd hf) (.inl zAT)⟩
  exact⟨Al (zD1 xs lo hi) hz,_,(r.drop (HT.sIx xs.length 0 lo)).take (HT.sIx xs.length xs.length hi - HT.sIx xs.length 0 lo),TupD.new _ _⟩
noncomputable def rSlS (K:Fg):V->Option Int->Option Int->Hp->VK->Prop:=fun x lo hi H Q=>rSlTS K x lo hi H Q\/rSlL K x lo hi H Q
theorem sl_S{X:Cx}:SlR X (rSlS X.K):=zN6.or zOo
theorem zQA{K:Fg}{te:TE}{f:DE}{tl th:TO}{lo hi:DO}(he:SimE K te f)(hl:SimO K tl lo)(hh:SimO K th hi):SimE K (tSl (rSlS K) te tl th) (dSl f lo hi):=by
 intro C w Γ σ H s Γ' Q R e k
 obtain⟨⟨a,G1⟩,e1,e⟩:=bind_some e
 obtain⟨⟨i,G2⟩,e2,e⟩:=bind_some e
 obtain⟨⟨j,G3⟩,e3,e⟩:=bind_some e
 obtain⟨z,e4,e⟩:=map_some e
 cases e
 dsimp only at e4
 refine he C w Γ σ H a G1 _ R e1 fun v H1 R1 ev1 o1 n1=>?_
 refine hl C w G1 σ H1 i G2 _ R1 e2 fun H2 R2 ev2=>?_
 refine hh C w G2 σ H2 j G3 _ R2 e3 fun H3 R3 ev3=>?_
 have o3:=(o1.evo ev2 R1.lst).evo ev3 R2.lst
 have ev:=(ev1.trans ev2).trans ev3
 unfold slS at e4
 split at e4
 ·cases e4
  obtain⟨p,us,rfl,h1,i1⟩:=o3.invt
  refine .inl ⟨p,us,rfl,h1,fun c H' sm hc=>k _ H' (R3.same sm) (ev.trans (.of_same sm)) ?_ trivial⟩
  show Im K H' (.ref c) (.t _)
  unfold Im
  exact⟨c,_,rfl,hc,(i1.evo (.of_same sm) R3.lst).cut _ _⟩
 ·cases e4
 ·obtain⟨xs,e5,e4⟩:=map_some e4
  cases e4
  obtain⟨p,us,rfl,h1,i1⟩:=zBH R3 o3 e5
  exact .inr ⟨p,us,rfl,h1,fun c hc=>k _ _ (R3.new hc) (ev.trans (Evo.new hc)) (R3.newl hc (i1.cut _ _)) ⟨c,rfl,zAt ev R3.lst hc⟩⟩
def SimMut (K:Fg) (r:V->List V->Hp->VK->Prop) (h:En->List T->List S->Option (T×List T)):Prop:=∀ (C:Fr) (w:W) (Γ:En) (σ:St) (H:Hp) (l:Addr) (us:List V) (xs:List T) (vs:List V) (as:List S) (t:T) (ys:List T) (Q:VK),Rep K C w Γ σ H->H l=some (.lst us)->Ims K H us xs->us.length<=AE->SOks K C w σ H vs as->h Γ xs as=some (t,ys) ->
 (∀ v us',Ims K H us' ys->Im K H v t->Q v (upd H l (.lst us')))->r (.ref l) vs H Q
noncomputable def isLs (Γ:En) (i:Nat):Bool:=match Γ[i]? with
 | some (some (.l _))=>true
 | _=>false
noncomputable def dMut (i:Nat) (h:En->List T->List S->Option (T×List T)) (fa:DA):DE:=fun Γ=>if isLs Γ i=true then (fa Γ).bind fun p=>match p.2[i]? with
 | some (some (.l xs))=>(gd xs.length ()).bind fun _=>(h p.2 xs p.1).map fun q=>(.v q.1,p.2.set i (some (.l q.2)))
 | _=>none
 else none
theorem zIr{K:Fg}{C:Fr}{w:W}{Γ:En}{σ:St}{H:Hp}{i:Nat}(R:Rep K C w Γ σ H)(h:isLs Γ i=true):∃ p vs,σ[i]?=some (some (.ref p))/\H p=some (.lst vs):=by
 unfold isLs at h
 split at h
 ·rename_i xs e
  obtain⟨v,e1,p,vs,rfl,_,h1,_⟩:=R.val i _ e
  exact⟨p,vs,e1,h1⟩
 ·cases h
theorem zIh{K:Fg}{i:Nat}{r:V->List V->Hp->VK->Prop}{h:En->List T->List S->Option (T×List T)}{ta:TA}{fa:DA}(hr:SimMut K r h)(ha:SimA K ta fa):SimE K (tBM K "list" r (tVar i) ta) (dMut i h fa):=by
 intro C w Γ σ H s Γ' Q R e k
 unfold dMut at e
 split at e
 rotate_left
 ·cases e
 rename_i hl
 obtain⟨p,vs,e1,e2⟩:=zIr R hl
 obtain⟨⟨as,G1⟩,e3,e⟩:=bind_some e
 dsimp only at e
 split at e
 rotate_left
 ·cases e
 rename_i xs hx
 obtain⟨_,eg,e⟩:=bind_some e
 obtain⟨hsz,_⟩:=zB0 eg
 obtain⟨⟨t,ys⟩,e4,e⟩:=map_some e
 cases e
 refine⟨.ref p,e1,.inl ⟨rfl,vs,SqL.of e2⟩,?_⟩
 refine ha C w Γ σ H as G1 _ R e3 fun us H1 R1 ev1 o1 n1=>?_
 obtain⟨v,s1,q,ws,rfl,m1,h1,i1⟩:=R1.val i _ hx
 rw[e1]at s1; cases s1
 refine hr C w G1 σ H1 p ws xs us as t ys _ R1 h1 i1 (by rw[i1.len]; exact hsz) o1 e4 fun v us' hu hv=>?_
 obtain⟨R2,ev2⟩:=R1.put hx e1 hu
 exact k v _ R2 (ev1.trans ev2) (hv.evo ev2 R1.lst) trivial
theorem zMv{K:Fg}{i:Nat}{r:V->List V->Hp->VK->Prop}{h:En->List T->List S->Option (T×List T)}(hr:SimMut K r h):SimE K (tBM0 K "list" r (tVar i)) (dMut i h qQ):=by
 intro C w Γ σ H s Γ' Q R e k
 have:=zIh (i:=i) hr (zI9 (K:=K)) C w Γ σ H s Γ' Q R e k
 obtain⟨v,e1,e2,e3⟩:=this
 exact⟨v,e1,e2,e3⟩
noncomputable def hAppend:En->List T->List S->Option (T×List T):=fun _ xs as=>match as with
 | [.v t]=>if xs.length < AE then some (.a .non,xs++[t]) else none
 | _=>none
theorem zB6{K:Fg}:SimMut K rAppend hAppend:=by
 intro C w Γ σ H l us xs vs as t ys Q R hl hi hz o e k
 unfold hAppend at e
 split at e
 ·rename_i t'
  split at e
  ·rename_i hn
   cases e
   obtain⟨v,rfl,o1⟩:=soks1 o
   exact⟨l,us,v,rfl,rfl,hl,by rw[hi.len]; exact hn,k _ _ (hi.app (.one o1)) Im.atom⟩
  ·cases e
 ·cases e
noncomputable def hPop:En->List T->List S->Option (T×List T):=fun _ xs as=>match as with
 | []=>(xs[xs.length - 1]?).map fun t=>(t,xs.dropLast)
 | _=>none
theorem Ims.dropLast{K:Fg}{H:Hp}{vs:List V}{ts:List T}(h:Ims K H vs ts):Ims K H vs.dropLast ts.dropLast:=by
 rw[Gs,Gs,h.len]; exact h.take _
theorem soks0{K:Fg}{C:Fr}{w:W}{σ:St}{H:Hp}{vs:List V}(h:SOks K C w σ H vs []):vs=[]:=by
 match vs,h with
 | [],_=>rfl
theorem zOc{K:Fg}:SimMut K rPop hPop:=by
 intro C w Γ σ H l us xs vs as t ys Q R hl hi hz o e k
 unfold hPop at e
 split at e
 ·obtain⟨t',e1,e⟩:=map_some e
  cases e
  obtain⟨v,e2,hv⟩:=hi.get e1
  exact⟨l,us,v,rfl,soks0 o,hl,by rw[hi.len]; exact e2,k _ _ hi.dropLast hv⟩
 ·cases e
noncomputable def hPopAt:En->List T->List S->Option (T×List T):=fun _ xs as=>match as with
 | [.v (.a (.int i))]=>if inR 9223372036854775807 i=true then (E8 i xs.length).bind fun k=>(xs[k]?).map fun t=>(t,xs.eraseIdx k) else none
 | _=>none
theorem zL6{K:Fg}:SimMut K rPopAt hPopAt:=by
 intro C w Γ σ H l us xs vs as t ys Q R hl hi hz o e k
 unfold hPopAt at e
 split at e
 ·rename_i i
  split at e
  ·rename_i hb
   have hb:=inR63 hb
   obtain⟨j,e1,e⟩:=bind_some e
   obtain⟨t',e2,e⟩:=map_some e
   cases e
   obtain⟨v,rfl,o1⟩:=soks1 o
   obtain⟨y,e3,hy⟩:=hi.get e2
   exact⟨l,us,i,j,y,rfl,by rw[o1.inva],hl,hb.1,hb.2,by rw[hi.len]; exact e1,e3,k _ _ (hi.erase _) hy⟩
  ·cases e
 ·cases e
noncomputable def hExtend:En->List T->List S->Option (T×List T):=fun Γ xs as=>match as with
 | [a]=>(lsOf Γ a).bind fun zs=>gd (xs.length+zs.length) (.a .non,xs++zs)
 | _=>none
theorem zJm{K:Fg}:SimMut K rExtend hExtend:=by
 intro C w Γ σ H l us xs vs as t ys Q R hl hi hz o e k
 unfold hExtend at e
 split at e
 ·obtain⟨zs,e1,e⟩:=bind_some e
  obtain⟨hg,e⟩:=zB0 e
  cases e
  obtain⟨v,rfl,o1⟩:=soks1 o
  obtain⟨p,ws,rfl,h1,i1⟩:=zGR R o1 e1
  exact⟨l,p,us,ws,rfl,rfl,hl,h1,by rw[hi.len,i1.len]; exact hg,k _ _ (hi.app i1) Im.atom⟩
 ·cases e
noncomputable def dSetIx (i:Nat) (fe fi:DE):DS:=fun Γ=>(fe Γ).bind fun p=>p.1.tree.bind fun t=>if isLs p.2 i=true then (fi p.2).bind fun q=>(iS q.1).bind fun k=>match q.2[i]? with
  | some (some (.l xs))=>(ixN xs.length k).map fun j=>.nx (q.2.set i (some (.l (xs.set j t))))
  | _=>none
 else none
theorem zKJ{K:Fg}{ip:Option Nat}{i:Nat}{te ti:TE}{fe fi:DE}(he:SimE K te fe)(hi:SimE K ti fi):SimS K ip (tAsg te (gSub (tVar i) ti rSetL)) (dSetIx i fe fi):=by
 intro C w Γ σ H D o hp R e k
 obtain⟨⟨s,G1⟩,e1,e⟩:=bind_some e
 obtain⟨t,e2,e⟩:=bind_some e
 dsimp only at e e2
 split at e
 rotate_left
 ·cases e
 rename_i hl
 obtain⟨⟨s2,G2⟩,e3,e⟩:=bind_some e
 obtain⟨n,e4,e⟩:=bind_some e
 dsimp only at e e4
 split at e
 rotate_left
 ·cases e
 rename_i xs hx
 obtain⟨j,e5,e⟩:=map_some e
 subst e
 cases s with
 | l _=>cases e2
 | s _=>cases e2
 | d _=>cases e2
 | v t' =>
  cases e2
  refine he C w Γ σ H _ G1 _ R e1 fun v H1 R1 ev1 o1 n1=>?_
  obtain⟨p,vs,s1,h1⟩:=zIr R1 hl
  refine⟨.ref p,s1,?_⟩
  refine hi C w G1 σ H1 s2 G2 _ R1 e3 fun v2 H2 R2 ev2 o2 n2=>?_
  obtain⟨v3,s3,q,ws,rfl,m3,h3,i3⟩:=R2.val i _ hx
  rw[s1]at s3; cases s3
  have o1':Im K H1 v t:=o1
  exact⟨p,ws,n,j,rfl,zB4 o2 e4,h3,by rw[i3.len]; exact e5,k w σ _ (R2.put hx s1 (i3.set j (o1'.evo ev2 R1.lst))).1⟩
noncomputable def tyN (Γ:En):S->Option String
 | .v (.t _)=>some "tuple"
 | .v (.a (.int _))=>some "int"
 | .v (.a (.bl _))=>some "bool"
 | .v (.a (.str _))=>some "str"
 | .v (.a .non)=>some "NoneType"
 | .v (.l _)=>some "list"
 | .v _=>none
 | a=>(sqlOf Γ a).map fun _=>"list"
noncomputable def TyS (K:Fg) (H:Hp) (n:String):V->Prop
 | .int _=>n="int"
 | .bl _=>n="bool"
 | .str _=>n="str"
 | .non=>n="NoneType"
 | .ref p=>(n="list"/\∃ xs,SqL K H p xs)\/(n="tuple"/\∃ xs,SqT K H p xs)
 | _=>False
theorem zKz{K:Fg}{C:Fr}{w:W}{Γ:En}{σ:St}{H:Hp}{x:V}{s:S}{n:String}(R:Rep K C w Γ σ H)(o:SOk K C w σ H x s)(e:tyN Γ s=some n):TyS K H n x:=by
 unfold tyN at e
 split at e
 ·cases e; obtain⟨p,us,rfl,h1,i1⟩:=o.invt; exact .inr ⟨rfl,us,h1.sq⟩
 ·cases e; rw[o.inva]; exact rfl
 ·cases e; rw[o.inva]; exact rfl
 ·cases e; rw[o.inva]; exact rfl
 ·cases e; rw[o.inva]; exact rfl
 ·rename_i ys; cases e; obtain⟨p,us,rfl,h1,i1⟩:=(show Im K H x (.l ys) from o).invl; exact .inl ⟨rfl,us,h1.sq⟩
 ·cases e
 ·obtain⟨xs,e1,e⟩:=map_some e
  cases e
  obtain⟨p,us,rfl,h1,i1⟩:=zBH R o e1
  exact .inl ⟨rfl,us,h1⟩
theorem zLp{X:Cx}{pins:List (Addr×Obj)}{σ:St}{H:Hp}{s:AG}{x:V}{u:AB}{n:String}(I:Inv X pins σ H s)(rx:RelV x u)(ty:TyS X.K H n x):∃ P:Heap->Prop,PySem.W.KitX X.K u (.type n) P/\P s.heap/\u≠.builtin "__main__.__loader__#opaque":=by
 cases x with
 | non=>cases ty; cases (show u=CB from rx); exact⟨_,PySem.W.kitx_none,DM,fun z=>nomatch z⟩
 | bl y=>cases ty; cases (show u=Ep y from rx); exact⟨_,PySem.W.kitx_bool,DM,fun z=>nomatch z⟩
 | int i=>cases ty; obtain⟨t,q⟩:=(show ∃ t,u=DJ i t from rx); cases q; exact⟨_,PySem.W.kitx_int,DM,fun z=>nomatch z⟩
 | str y=>cases ty; obtain⟨t,q⟩:=(show ∃ t,u=FC y t from rx); cases q; exact⟨_,PySem.W.kitx_str,DM,fun z=>nomatch z⟩
 | ref p =>
  cases (show u=BP p from rx)
  rcases ty with ⟨rfl,xs,h⟩ | ⟨rfl,xs,h⟩
  ·obtain⟨its,_,pl,_⟩:=I.list h
   obtain⟨o,h1,h2,_⟩:=pl.isList
   exact⟨_,PySem.W.kitx_list,⟨o,h1,h2⟩,fun z=>nomatch z⟩
  ·obtain⟨its,_,pl,_⟩:=I.tuple h
   obtain⟨o,h1,h2,_⟩:=pl
   exact⟨_,PySem.W.kitx_tuple,⟨o,h1,h2⟩,fun z=>nomatch z⟩
 | byt _=>exact ty.elim
 | flt _=>exact ty.elim
 | ty _=>exact ty.elim
noncomputable def tyIx:String->Option Nat
 | "int"=>some 0
 | "bool"=>some 1
 | "str"=>some 2
 | "list"=>some 3
 | "tuple"=>some 4
 | "NoneType"=>some 5
 | _=>none
noncomputable def tyNm:Nat->String
 | 0=>"int" | 1=>"bool" | 2=>"str" | 3=>"list" | 4=>"tuple" | _=>"NoneType"
theorem zIR{a:String}{i:Nat}(h:tyIx a=some i):a=tyNm i/\i < 6:=by
 unfold tyIx at h
 split at h <;> first | (cases h; exact⟨rfl,by decide⟩) | cases h
noncomputable def subTy (a b:String):Option Bool:=(tyIx a).bind fun i=>(tyIx b).bind fun j=>if j=5 then none else some (i == j || (i == 1 && j == 0))
theorem zM0{K:Fg}{a b:String}{c:Bool}(e:subTy a b=some c):Hq K (.type a) (.type b)=some c:=by
 obtain⟨i,e1,z0⟩:=bind_some e
 obtain⟨j,e2,z⟩:=bind_some z0
 clear z0
 clear e
 obtain⟨rfl,hi⟩:=zIR e1
 obtain⟨rfl,hj⟩:=zIR e2
 clear e1 e2
 by_cases h5:j=5
 ·rw[if_pos h5]at z; cases z
 rw[if_neg h5]at z
 cases z
 have key:∀ i < 6,∀ j < 5,Hq K (.type (tyNm i)) (.type (tyNm j))=some (i == j || (i == 1 && j == 0)):=fun i hi j hj=>by
  match i,hi,j,hj with
  | 0,_,0,_=>kernel_rfl
  | 0,_,1,_=>kernel_rfl
  | 0,_,2,_=>kernel_rfl
  | 0,_,3,_=>kernel_rfl
  | 0,_,4,_=>kernel_rfl
  | 1,_,0,_=>kernel_rfl
  | 1,_,1,_=>kernel_rfl
  | 1,_,2,_=>kernel_rfl
  | 1,_,3,_=>kernel_rfl
  | 1,_,4,_=>kernel_rfl
  | 2,_,0,_=>kernel_rfl
  | 2,_,1,_=>kernel_rfl
  | 2,_,2,_=>kernel_rfl
  | 2,_,3,_=>kernel_rfl
  | 2,_,4,_=>kernel_rfl
  | 3,_,0,_=>kernel_rfl
  | 3,_,1,_=>kernel_rfl
  | 3,_,2,_=>kernel_rfl
  | 3,_,3,_=>kernel_rfl
  | 3,_,4,_=>kernel_rfl
  | 4,_,0,_=>kernel_rfl
  | 4,_,1,_=>kernel_rfl
  | 4,_,2,_=>kernel_rfl
  | 4,_,3,_=>kernel_rfl
  | 4,_,4,_=>kernel_rfl
  | 5,_,0,_=>kernel_rfl
  | 5,_,1,_=>kernel_rfl
  | 5,_,2,_=>kernel_rfl
  | 5,_,3,_=>kernel_rfl
  | 5,_,4,_=>kernel_rfl
 exact key i hi j (by lia)
noncomputable def subLT:String->Option Bool
 | "int"=>some false
 | "bool"=>some false
 | "str"=>some false
 | "NoneType"=>some false
 | "list"=>some true
 | "tuple"=>some true
 | _=>none
theorem zMQ{K:Fg}{a:String}{c:Bool}(e:subLT a=some c):PySem.W.kitAny K (.type a) [.type "list",.type "tuple"]=some c:=by
 unfold subLT at e
 split at e <;> first | (cases e; kernel_rfl) | cases e
noncomputable def rIsi (K:Fg):List V->Hp->VK->Prop:=fun xs H Q=>∃ x T n b,xs=[x,.ty T]/\TyS K H n x/\subTy n T=some b/\Q (.bl b) H
theorem zNK{X:Cx}:CallR X (.builtin "isinstance") (rIsi X.K):=by
 intro pins s σ H xs us Q I r h
 obtain⟨x,T,n,b,rfl,ty,e,q⟩:=h
 obtain⟨u,u',rfl,r1,r2⟩:=vals2 r
 cases (show u'=Dh T from r2)
 obtain⟨P,Z,hP,hx⟩:=zLp I r1 ty
 exact PySem.W.kia_one Z I.kIn hP (zM0 e) hx fun tk=>⟨.bl b,H,I.tok tk,rfl,q⟩
noncomputable def rIsiLT (K:Fg):List V->Hp->VK->Prop:=fun xs H Q=>∃ x p n b,xs=[x,.ref p]/\SqT K H p [.ty "list",.ty "tuple"]/\TyS K H n x/\subLT n=some b/\Q (.bl b) H
theorem zJY{X:Cx}:CallR X (.builtin "isinstance") (rIsiLT X.K):=by
 intro pins s σ H xs us Q I r h
 obtain⟨x,p,n,b,rfl,hp,ty,e,q⟩:=h
 obtain⟨u,u',rfl,r1,r2⟩:=vals2 r
 cases (show u'=BP p from r2)
 obtain⟨its,rv,⟨o,ho,hcl,⟨m,hd⟩⟩,hz⟩:=I.tuple hp
 obtain⟨u1,u2,rfl,q1,q2⟩:=vals2 rv
 cases (show u1=Dh "list" from q1)
 cases (show u2=Dh "tuple" from q2)
 obtain⟨P,Z,hP,hx⟩:=zLp I r1 ty
 obtain⟨cls,dd,data,sl⟩:=o
 simp only at hcl hd
 subst hcl hd
 exact PySem.W.kia_tup Z I.kIn hP ho (zMQ e) hx fun tk=>⟨.bl b,H,I.tok tk,rfl,q⟩
noncomputable def isiS:En->List S->Option S:=fun Γ as=>match as with
 | [a,.v (.a (.ty T))]=>(tyN Γ a).bind fun n=>(subTy n T).map mkB
 | [a,.v (.t [.a (.ty "list"),.a (.ty "tuple")])]=>(tyN Γ a).bind fun n=>(subLT n).map mkB
 | _=>none
noncomputable def rIsiS (K:Fg):List V->Hp->VK->Prop:=fun xs H Q=>rIsi K xs H Q\/rIsiLT K xs H Q
theorem zKr{X:Cx}:CallR X (.builtin "isinstance") (rIsiS X.K):=zNK.or zJY
theorem zKq{K:Fg}:SimRs K (rIsiS K) isiS:=by
 intro C w Γ σ H vs as s Q R o e k
 unfold isiS at e
 split at e
 ·obtain⟨n,e1,e⟩:=bind_some e
  obtain⟨b,e2,e⟩:=map_some e
  cases e
  obtain⟨v,u,rfl,o1,o2⟩:=soks2 o
  exact .inl ⟨v,_,n,b,by rw[o2.inva],zKz R o1 e1,e2,k _ H R .refl SOk.atom trivial⟩
 ·obtain⟨n,e1,e⟩:=bind_some e
  obtain⟨b,e2,e⟩:=map_some e
  cases e
  obtain⟨v,u,rfl,o1,o2⟩:=soks2 o
  obtain⟨p,us,rfl,h1,i1⟩:=o2.invt
  have hus:us=[.ty "list",.ty "tuple"]:=Ims.of_atoms (us:=[.ty "list",.ty "tuple"]) i1
  subst hus
  exact .inr ⟨v,p,n,b,rfl,h1.sq,zKz R o1 e1,e2,k _ H R .refl SOk.atom trivial⟩
 ·cases e
noncomputable def intS:En->List S->Option S:=fun _ as=>match as with
 | [.v (.a (.int i))]=>some (mkI i)
 | [.v (.a (.bl b))]=>some (mkI (if b then 1 else 0))
 | _=>none
theorem zLf{K:Fg}:SimRs K (fun xs H Q=>(∃ i,xs=[.int i]/\Q (.int i) H)\/∃ k,xs=[.bl k]/\Q (.int (if k then 1 else 0)) H) intS:=by
 intro C w Γ σ H vs as s Q R o e k
 unfold intS at e
 split at e
 ·cases e
  obtain⟨v,rfl,o1⟩:=soks1 o
  exact .inl ⟨_,by rw[o1.inva],k _ H R .refl SOk.atom trivial⟩
 ·cases e
  obtain⟨v,rfl,o1⟩:=soks1 o
  exact .inr ⟨_,by rw[o1.inva],k _ H R .refl SOk.atom trivial⟩
 ·cases e
noncomputable def max2S:En->List S->Option S:=fun _ as=>match as with
 | [.v (.a (.int i)),.v (.a (.int j))]=>some (mkI (if j > i then j else i))
 | _=>none
noncomputable def min2S:En->List S->Option S:=fun _ as=>match as with
 | [.v (.a (.int i)),.v (.a (.int j))]=>some (mkI (if j < i then j else i))
 | _=>none
theorem zKM{K:Fg}:SimRs K (fun xs H Q=>∃ i j,xs=[.int i,.int j]/\Q (.int (if j > i then j else i)) H) max2S:=by
 intro C w Γ σ H vs as s Q R o e k
 unfold max2S at e
 split at e
 ·cases e
  obtain⟨v,u,rfl,o1,o2⟩:=soks2 o
  exact⟨_,_,by rw[o1.inva,o2.inva],k _ H R .refl SOk.atom trivial⟩
 ·cases e
theorem zKN{K:Fg}:SimRs K (fun xs H Q=>∃ i j,xs=[.int i,.int j]/\Q (.int (if j < i then j else i)) H) min2S:=by
 intro C w Γ σ H vs as s Q R o e k
 unfold min2S at e
 split at e
 ·cases e
  obtain⟨v,u,rfl,o1,o2⟩:=soks2 o
  exact⟨_,_,by rw[o1.inva,o2.inva],k _ H R .refl SOk.atom trivial⟩
 ·cases e
noncomputable def atomsOf:List T->Option (List V)
 | []=>some []
 | .a v::r=>(atomsOf r).map fun vs=>v::vs
 | _=>none
theorem zEN{K:Fg}{H:Hp}:∀ {vs:List V} {ts:List T} {us:List V},Ims K H vs ts->atomsOf ts=some us->vs=us
 | _,[],_,h,e=>by cases e; exact h.inv0
 | _,.a b::r,_,h,e=>by
  obtain⟨v,us,rfl,h1,h2⟩:=h.inv
  obtain⟨bs,e1,e⟩:=map_some e
  cases e
  rw[h1.inva,zEN h2 e1]
 | _,.t _::_,_,_,e=>by cases e
 | _,.l _::_,_,_,e=>by cases e
 | _,.f _::_,_,_,e=>by cases e
 | _,.x _ _::_,_,_,e=>by cases e
noncomputable def tBMS (K:Fg) (r:V->List V->Hp->VK->Prop) (to:TE) (t:TA):TE:=fun σ H Q=>to σ H fun x H1=>(∃ p xs,x=.ref p/\Tp K H1 p xs)/\t σ H1 fun xs H2=>r x xs H2 Q
open PySem.Spec PyProof.Rows in
theorem zPp{X:Cx}{o e:Expr}{es:List Expr}{to:TE}{t:TA}{name:Str}{apos cpos:Pos}{id:String}{r:V->List V->Hp->VK->Prop}(slot:Slot "tuple" name id)(hty:Gp (.builtin id)=pure (.type "method_descriptor"))(hm:MtM X id r)(ho:PE X o to)(ha:PA X (e::es) t)
  (hbase:C4 o name X.env (eval o X.env)=eval o X.env:=by rfl)
  (hfew:((CT cpos (Ae (e::es) X.env)).all (fun x=>!x.1) && (Gq cpos (E1 [] X.env)).all (fun x=>x.1.isSome) && decide ((e::es).length+([]:List D9).length+(if ([]:List D9).isEmpty then 0 else 1) < 30))=true:=by rfl)
  (hline:(apos.endLine == cpos.line)=true:=by rfl) (hs:Ae (e::es) X.env=(false,eval e X.env)::Ae es X.env:=by rfl) (hplain:(CT cpos (Ae es X.env)).any (·.1)=false:=by rfl) :
  PE X (.Call (.Attribute o name apos) (e::es) [] cpos) (tBMS X.K r to t):=by
 intro pins s σ H Q I h
 refine Hm hbase hfew hline rfl (thn (ho pins s σ H _ I h) fun v s1 ⟨x,H1,I1,r1,⟨p,xs,ex,hp⟩,q1⟩=>?_)
 subst ex
 cases r1
 have key:∃ o',s1.heap.get? p=some o'/\o'.cls=.type "tuple"/\o'.dict=none:=by
  rcases hp with hp | ⟨o',its,n,a1,a2,a3,a4⟩
  ·obtain⟨_,its,_,o',ho',hc',_,hd'⟩:=(show ObjOk X.prog X.w H1 s1.heap p (.tup xs) from I1.hok p _ hp)
   exact⟨o',ho',hc',hd'⟩
  ·exact⟨o',I1.kIn p o' a1,a2,a3⟩
 obtain⟨o',ho',hc',hd'⟩:=key
 refine⟨"tuple",id,F.plainAttrs_tuple,slot,hty,⟨o',ho',hc'⟩,fun a e=>by cases e; exact⟨o',ho',hd'⟩,?_⟩
 have hA:=ha cpos pins s1 σ H1 _ I1 q1
 rw[hs]at hA ⊢
 refine C5 (by show (false || (CT cpos (Ae es X.env)).any (·.1))=false; rw[hplain] <;> rfl) (EO ?_)
 exact thn hA fun us s2 ⟨vs,H2,I2,r2,q2⟩=>hm pins s2 σ H2 (.ref p) vs (.ref p) us Q I2 (show RelV (.ref p) (.ref p) from rfl) r2 q2
noncomputable def dIndex (fo:DE) (fa:DA):DE:=fun Γ=>(fo Γ).bind fun p=>(fa p.2).bind fun q=>match p.1,q.1 with
 | .v (.t xs),[.v (.a y)]=>(atomsOf xs).bind fun vs=>if flatV y=true/\vs.all flatV=true then (vs.findIdx? fun z=>eqV z y).map fun j=>(mkI (j:Nat),q.2) else none
 | _,_=>none
theorem zK6{K:Fg}{to:TE}{ta:TA}{fo:DE}{fa:DA}(ho:SimE K to fo)(ha:SimA K ta fa):SimE K (tBMS K (rTupIndex K) to ta) (dIndex fo fa):=by
 intro C w Γ σ H s Γ' Q R e k
 obtain⟨⟨a,G1⟩,e1,e⟩:=bind_some e
 obtain⟨⟨as,G2⟩,e2,e⟩:=bind_some e
 dsimp only at e
 split at e
 ·rename_i xs y
  obtain⟨vs,e3,e⟩:=bind_some e
  split at e
  ·rename_i hf
   obtain⟨j,e4,e⟩:=map_some e
   cases e
   refine ho C w Γ σ H _ G1 _ R e1 fun v H1 R1 ev1 o1 n1=>?_
   have o1':=o1
   obtain⟨p,us,rfl,h1,i1⟩:=o1.invt
   refine⟨⟨p,us,rfl,h1⟩,?_⟩
   refine ha C w G1 σ H1 _ _ _ R1 e2 fun ws H2 R2 ev2 o2 n2=>?_
   obtain⟨u,rfl,o3⟩:=soks1 o2
   obtain⟨p',us',e5,h1',i1'⟩:=(o1'.evo ev2 R1.lst).invt
   cases e5
   have hus:=zEN i1' e3
   subst hus
   exact⟨p,us',_,j,rfl,by rw[o3.inva],h1'.sq,hf.1,hf.2,e4,k _ H2 R2 (ev1.trans ev2) SOk.atom trivial⟩
  ·cases e
 ·cases e
end D
namespace L2
open PySem PySem.Spec PyProof.Rows
section
variable {X:Cx}{tg:Expr}
noncomputable def iSeq (K:AU) (tl:TE):TI:=fun σ H R=>tl σ H fun x H1=>∃ a,x=.ref a/\(((∃ xs,SqL K H1 a xs)/\R (Itl K a) H1)\/((∃ xs,SqT K H1 a xs)/\R (Itt K a) H1))
theorem zN4{l:Expr}{tl:TE}(hl:PE X l tl):PI X tg l (iSeq X.K tl):=by
 intro pins s σ H R I h
 refine thn (hl pins s σ H _ I h) fun v s1 ⟨x,H1,I1,r1,q1⟩=>?_
 obtain⟨a,e,q⟩:=q1
 subst e
 cases r1
 rcases q with ⟨⟨xs,hq⟩,q⟩ | ⟨⟨xs,hq⟩,q⟩
 ·obtain⟨its,rv,p,hz⟩:=I1.list hq
  refine wpAny_pyIter_list p.isList ?_
  refine⟨s1.heap.objs.size,[s1.heap.objs.size],_,_,H1,rfl,I1.kept (t':=s1.toks) fun b o e=>AM _ e,zLQ a _,⟨_,AZ _ rfl,rfl,rfl⟩,fun b hb=>?_,q⟩
  have e:b=s1.heap.objs.size:=by simpa using hb
  subst e
  exact I1.fpOk (AL _) (I1.hok.fresh (AL _))
 ·obtain⟨its,rv,p,hz⟩:=I1.tuple hq
  refine wpAny_pyIter_tuple (show s1.heap.IsTuple a its.toArray from p) ?_
  refine⟨s1.heap.objs.size,[s1.heap.objs.size],_,_,H1,rfl,I1.kept (t':=s1.toks) fun b o e=>AM _ e,zKH a _,⟨_,AZ _ rfl,rfl,rfl⟩,fun b hb=>?_,q⟩
  have e:b=s1.heap.objs.size:=by simpa using hb
  subst e
  exact I1.fpOk (AL _) (I1.hok.fresh (AL _))
end
section
variable {X:Cx}{pos:Pos}
noncomputable def tPar3 (i j k:Nat) (ta:TA):TS:=fun D σ H=>ta σ H fun vs H1=>∃ v w z,vs=[v,w,z]/\D.nx (((σ.set i (some v)).set j (some w)).set k (some z)) H1
theorem zOm{i j k:Nat}{x y z:Str}{a b c:Expr}{ta:TA}{px py pz pt:Pos}{kt k2 pt2}(hc:X.calm=true)(hN:X.N.Nodup)(hi:X.N[i]?=some x)(hj:X.N[j]?=some y)(hk:X.N[k]?=some z)(hij:i≠j)(hik:i≠k)(hjk:j≠k)
  (hx:X.env.scope.names.lookup x=some .local) (hy:X.env.scope.names.lookup y=some .local) (hz:X.env.scope.names.lookup z=some .local) (ha:PA X [a,b,c] ta)
  (hw:EF [.Tuple [.Name x px,.Name y py,.Name z pz] kt pt] (.Tuple [a,b,c] k2 pt2) X.env=pure (some [x,y,z]))
  (hs:EE [.Tuple [.Name x px,.Name y py,.Name z pz] kt pt] (.Tuple [a,b,c] k2 pt2) pos.line X.env=pure false:=by rfl) :
  PS X (.Assign [.Tuple [.Name x px,.Name y py,.Name z pz] kt pt] (.Tuple [a,b,c] k2 pt2) pos) (tPar3 i j k ta):=by
 intro pins s σ H D I h
 rw[exec_Assign_arm]
 refine AD (FP ?_)
 rw[hs]
 refine AD (AO ?_)
 rw[if_neg (by decide)]
 refine AD (Tuple_ (thn (ha _ pins s σ H _ I h) fun us s1 ⟨vs,H1,I1,r1,q1⟩=>?_))
 obtain⟨v,w,q,e1,q1⟩:=q1
 subst e1
 obtain⟨u1,u2,u3,rfl,rv,rw',rz⟩:∃ u1 u2 u3,us=[u1,u2,u3]/\RelV v u1/\RelV w u2/\RelV q u3:=by
  cases r1 with
  | cons p q =>
   cases q with
   | cons p' q' =>
    cases q' with
    | cons p'' q'' =>
     cases q''
     exact⟨_,_,_,rfl,p,p',p''⟩
 refine BR ?_ (by show 3<=AE; decide)
 have I2:Inv X pins σ H1 { s1 with heap:=s1.heap.push { cls:=.type "tuple",data:=.seq [u1,u2,u3].toArray } }:=I1.kept (t':=s1.toks) fun b o e=>AM _ e
 rw[hw]
 refine AD (AO ?_)
 show AV (model X.prog X.w) X.A (do rule "assign.swapped-stores"; let items ← unpackItems (.ref s1.heap.objs.size) 3 none; HG [fun v=>Ft X.env z v,fun v=>Ft X.env y v,fun v=>Ft X.env x v] items.reverse; pure Kd) _ _ _
 refine AD (Gr (AD (unpackItems_tuple (items:=#[u1,u2,u3]) (I.ok.hd hc) (IsTup.new s1.heap _) fun h' hx'=>?_)))
 have I3:=I2.kept (h':=h') (t':=s1.toks) fun b o e=>hx' b o (BA (AY e)) e
 show AV _ _ (HG [fun v=>Ft X.env z v,fun v=>Ft X.env y v,fun v=>Ft X.env x v] [u3,u2,u1] >>= fun _=>pure Kd) _ _ _
 refine AD (Dw (Gu (zCG I3 hN hk (.inl hz) rz (fun s2 I4=>?_) (.inr hz))))
 refine Dw (Gu (zCG I4 hN hj (.inl hy) rw' (fun s3 I5=>?_) (.inr hy)))
 refine Dw (Gu (zCG I5 hN hi (.inl hx) rv (fun s4 I6=>JI (AO ?_)) (.inr hx)))
 rw[GR _ _ (BC hij),GR _ _ (BC hik),GR _ _ (BC hjk)]at I6
 exact⟨_,H1,I6,q1⟩
end
end L2
namespace D
open PySem L2
noncomputable def rngT (lo:Int) (n:Nat):List T:=(AC n).map fun (i:Nat)=>T.a (.int (lo+(i:Int)))
noncomputable def dRng1 (fa:DA):DI:=fun Γ=>(fa Γ).bind fun p=>match p.1 with
 | [.v (.a (.int j))]=>if (inR 4611686018427387903 j && Ej j.toNat AE)=true then some ((rngT 0 j.toNat,[]),p.2) else none
 | _=>none
section
variable {K:Fg}
theorem zMw{w:W}{Γ:En}{σ:St}{H:Hp}{lo:Int}{n:Nat}(h:n<=AE):ItOk K w Γ σ (Itr lo n) H (rngT lo n) []:=by
 refine⟨by simp[rngT]; exact h,fun L' _ _ H2 _=>⟨fun i t e=>?_,by simp[rngT]; exact AL n⟩⟩
 unfold rngT at e
 rw[Af]at e
 obtain⟨j,e1,e⟩:=map_some e
 obtain⟨hi',e1⟩:=Aa.mp e1
 have hi:i < n:=by simpa using hi'
 have e1':i=j:=by simpa using e1
 subst e
 subst e1'
 refine⟨hi,fun x H3 y=>?_⟩
 obtain⟨a,b⟩:=y
 subst a b
 exact⟨fun _ _ z=>z,Im.atom⟩
theorem fit1{j:Int}(h:(inR 4611686018427387903 j && Ej j.toNat AE)=true):-(2 ^ 62)<=j/\j < 2 ^ 62/\j.toNat<=AE:=by
 rw[Ax]at h
 exact⟨(inR62 h.1).1,(inR62 h.1).2,ES h.2⟩
theorem fit2{i j:Int}(h:(inR 4611686018427387903 i && inR 4611686018427387903 j && Ej (j - i).toNat AE)=true):(-(2 ^ 62)<=i/\i < 2 ^ 62/\-(2 ^ 62)<=j/\j < 2 ^ 62)/\(j - i).toNat<=AE:=by
 rw[Ax,Ax]at h
 exact⟨⟨(inR62 h.1.1).1,(inR62 h.1.1).2,(inR62 h.1.2).1,(inR62 h.1.2).2⟩,ES h.2⟩
theorem zLY{ta:TA}{fa:DA}(ha:SimA K ta fa):SimI K (iRng1 ta) (dRng1 fa):=by
 intro C w Γ σ H its src Γ' R Rp e k
 obtain⟨⟨as,G1⟩,e1,e⟩:=bind_some e
 dsimp only at e
 split at e
 ·split at e
  ·rename_i j hj0
   have hj:=fit1 hj0
   cases e
   refine ha C w Γ σ H _ _ _ Rp e1 fun vs H1 R1 ev1 o1 n1=>?_
   obtain⟨v,rfl,o2⟩:=soks1 o1
   exact⟨_,by rw[o2.inva],hj.1,hj.2.1,k _ H1 R1 ev1 (zMw hj.2.2)⟩
  ·cases e
 ·cases e
noncomputable def srcS (Γ:En):S->List Nat
 | .s i=>match Γ[i]? with
  | some (some (.l _))=>[i]
  | _=>[]
 | _=>[]
noncomputable def dSeqI (f:DE):DI:=fun Γ=>(f Γ).bind fun p=>(seqS p.2 p.1).bind fun xs=>gd xs.length ((xs,srcS p.2 p.1),p.2)
theorem zMH{C:Fr}{w:W}{Γ:En}{σ:St}{H:Hp}{x:V}{s:S}{xs:List T}(R:Rep K C w Γ σ H)(o:SOk K C w σ H x s)(e:sqlOf Γ s=some xs):∃ p vs,x=.ref p/\SqL K H p vs/\Ims K H vs xs /\
  ∀ L',(∀ q∈L',q∈w.L)->(∀ i∈srcS Γ s,∀ q,σ[i]?=some (some (.ref q))->(∃ zs,Γ[i]?=some (some (.l zs)))->q∉L')->∀ H2,Evo L' H H2->SqL K H2 p vs:=by
 cases s with
 | v t =>
  cases t with
  | l ys =>
   cases e
   obtain⟨p,vs,rfl,h1,h2⟩:=(show Im K H x (.l xs) from o).invl
   exact⟨p,vs,rfl,h1.sq,h2,fun L' hs _ H2 ev=>(h1.evo ev fun q hq=>R.lst q (hs q hq)).sq⟩
  | a _=>cases e
  | t _=>cases e
  | f _=>cases e
  | x _ _=>cases e
 | d _=>cases e
 | l ys =>
  cases e
  obtain⟨p,vs,rfl,n1,n2,n3,h1,h2⟩:=o
  exact⟨p,vs,rfl,SqL.of h1,h2,fun L' hs _ H2 ev=>SqL.of (ev _ _ h1 fun z=>n1 (hs p z))⟩
 | s i =>
  have o':σ[i]?=some (some x):=o
  unfold sqlOf at e
  dsimp only at e
  split at e
  ·rename_i ys h
   cases e
   obtain⟨v,e1,p,vs,rfl,_,h1,h2⟩:=R.val i _ h
   rw[o']at e1; cases e1
   refine⟨p,vs,rfl,SqL.of h1,h2,fun L' hs av H2 ev=>SqL.of (ev _ _ h1 (av i ?_ p o' ⟨_,h⟩))⟩
   simp[srcS,h]
  ·rename_i ys h
   cases e
   obtain⟨v,e1,p,vs,rfl,h1,h2,h3,_⟩:=R.val i _ h
   rw[o']at e1; cases e1
   exact⟨p,vs,rfl,SqL.of h2,h1,fun L' hs av H2 ev=>SqL.of (ev _ _ h2 fun z=>h3 (hs p z))⟩
  ·rename_i ys h
   cases e
   obtain⟨v,e1,p,vs,rfl,h1,h2⟩:=R.val i _ h
   rw[o']at e1; cases e1
   exact⟨p,vs,rfl,h2.sq,h1,fun L' hs av H2 ev=>(h2.evo ev fun q hq=>R.lst q (hs q hq)).sq⟩
  ·cases e
theorem zND{tl:TE}{f:DE}(hl:SimE K tl f):SimI K (iSeq K tl) (dSeqI f):=by
 intro C w Γ σ H its src Γ' R Rp e k
 obtain⟨⟨a,G1⟩,e1,e⟩:=bind_some e
 obtain⟨xs,e2,e⟩:=bind_some e
 obtain⟨hz,e⟩:=zB0 e
 cases e
 refine hl C w Γ σ H a _ _ Rp e1 fun v H1 R1 ev1 o1 n1=>?_
 dsimp only at e2
 have go:∀ {vs:List V} {H2:Hp} {J:It} (mk:∀ i x,vs[i]?=some x->J.go i H2) (yl:∀ i x H3,J.yld i H2 x H3->H3=H2/\vs[i]?=some x),Ims K H2 vs its->∀ (i:Nat) t,its[i]?=some t->J.go i H2/\∀ x H3,J.yld i H2 x H3->(∀ b o,H2 b=some o->H3 b=some o)/\Im K H3 x t:=fun {vs H2 J} mk yl hi i t e=>by
  obtain⟨v,e3,hv⟩:=hi.get e
  refine⟨mk i v e3,fun x H3 y=>?_⟩
  obtain⟨rfl,e4⟩:=yl i x H3 y
  rw[e3]at e4; cases e4
  exact⟨fun _ _ z=>z,hv⟩
 unfold seqS at e2
 split at e2
 ·cases e2
  obtain⟨p,vs,rfl,h1,i1⟩:=o1.invt
  refine⟨p,rfl,.inr ⟨⟨vs,h1.sq⟩,k _ H1 R1 ev1 ⟨hz,fun L' hs av H2 ev=>?_⟩⟩⟩
  have hL:LL L' H1:=fun q hq=>R1.lst q (hs q hq)
  have h2:SqT K H2 p vs:=(zGw ev hL h1).sq
  have i2:=i1.evo ev hL
  exact⟨go (vs:=vs) (J:=Itt K p) (fun i x e=>⟨vs,x,h2,e⟩) (fun i x H3 y=>⟨y.1,y.2 vs h2⟩) i2,⟨vs,h2,by rw[i2.len]; exact AL _⟩⟩
 ·obtain⟨p,vs,rfl,h1,i1,st⟩:=zMH R1 o1 e2
  refine⟨p,rfl,.inl ⟨⟨vs,h1⟩,k _ H1 R1 ev1 ⟨hz,fun L' hs av H2 ev=>?_⟩⟩⟩
  have hL:LL L' H1:=fun q hq=>R1.lst q (hs q hq)
  have h2:=st L' hs av H2 ev
  have i2:=i1.evo ev hL
  exact⟨go (vs:=vs) (J:=Itl K p) (fun i x e=>⟨vs,x,h2,e⟩) (fun i x H3 y=>⟨y.1,y.2 vs h2⟩) i2,⟨vs,h2,by rw[i2.len]; exact AL _⟩⟩
theorem zHB{H:Hp}(lo:Int)(n:Nat):Ims K H (rngV lo n) (rngT lo n):=by
 have:rngT lo n=(rngV lo n).map T.a:=by simp[rngT,rngV]
 rw[this]
 exact Ims.atoms _
noncomputable def rngS (as:List S):Option (List T):=match as with
 | [.v (.a (.int j))]=>if (inR 4611686018427387903 j && Ej j.toNat AE)=true then some (rngT 0 j.toNat) else none
 | [.v (.a (.int i)),.v (.a (.int j))]=>if (inR 4611686018427387903 i && inR 4611686018427387903 j && Ej (j - i).toNat AE)=true then some (rngT i (j - i).toNat) else none
 | _=>none
noncomputable def rRng:List V->Hp->VK->Prop:=fun xs H Q=>(∃ j:Int,xs=[.int j]/\∀ p,H p=none->Q (.ref p) (upd H p (.rng 0 j)))\/(∃ i j:Int,xs=[.int i,.int j]/\∀ p,H p=none->Q (.ref p) (upd H p (.rng i j)))
noncomputable def rOfRngL:List V->Hp->VK->Prop:=fun xs H Q=>∃ p lo hi,xs=[.ref p]/\H p=some (.rng lo hi)/\(-(2 ^ 62)<=lo/\lo < 2 ^ 62/\-(2 ^ 62)<=hi/\hi < 2 ^ 62)/\(hi - lo).toNat<=2 ^ 24/\∀ l,H l=none->Q (.ref l) (upd H l (.lst (rngV lo (hi - lo).toNat)))
noncomputable def rOfRngT:List V->Hp->VK->Prop:=fun xs H Q=>∃ p lo hi,xs=[.ref p]/\H p=some (.rng lo hi)/\(-(2 ^ 62)<=lo/\lo < 2 ^ 62/\-(2 ^ 62)<=hi/\hi < 2 ^ 62)/\(hi - lo).toNat<=2 ^ 24/\∀ l,H l=none->Q (.ref l) (upd H l (.tup (rngV lo (hi - lo).toNat)))
noncomputable def dListRng (fa:DA):DE:=fun Γ=>(fa Γ).bind fun p=>(rngS p.1).map fun xs=>(.l xs,p.2)
noncomputable def dTupRng (fa:DA):DE:=fun Γ=>(fa Γ).bind fun p=>(rngS p.1).map fun xs=>(.v (.t xs),p.2)
theorem zHx{C:Fr}{w:W}{Γ:En}{σ:St}{H:Hp}{vs:List V}{as:List S}{xs:List T}{Q:VK}(R:Rep K C w Γ σ H)(o:SOks K C w σ H vs as)(e:rngS as=some xs)
  (k:∀ p lo hi,H p=none->(-(2 ^ 62)<=lo/\lo < 2 ^ 62/\-(2 ^ 62)<=hi/\hi < 2 ^ 62)->(hi - lo).toNat<=2 ^ 24->xs=rngT lo (hi - lo).toNat->Q (.ref p) (upd H p (.rng lo hi))):rRng vs H Q:=by
 have hs:AE=2 ^ 24:=by rw[BM]
 unfold rngS at e
 split at e
 ·split at e
  ·rename_i j hj0
   have hj:=fit1 hj0
   cases e
   obtain⟨v,rfl,o2⟩:=soks1 o
   refine .inl ⟨_,by rw[o2.inva],fun p hp=>k p 0 _ hp ⟨by decide,by decide,hj.1,hj.2.1⟩ ?_ (by rw[Jo])⟩
   rw[Jo]; have:=hj.2.2; omega
  ·cases e
 ·split at e
  ·rename_i j hj0
   have hj:=fit2 hj0
   cases e
   obtain⟨v,u,rfl,o2,o3⟩:=soks2 o
   exact .inr ⟨_,_,by rw[o2.inva,o3.inva],fun p hp=>k p _ _ hp hj.1 (by have:=hj.2; omega) rfl⟩
  ·cases e
 ·cases e
theorem zIM{ta:TA}{fa:DA}(ha:SimA K ta fa):SimE K (tCB rOfRngL (tCons (tCB rRng ta) tNil)) (dListRng fa):=by
 intro C w Γ σ H s Γ' Q R e k
 obtain⟨⟨as,G1⟩,e1,e⟩:=bind_some e
 obtain⟨xs,e2,e⟩:=map_some e
 cases e
 refine ha C w Γ σ H as G1 _ R e1 fun vs H1 R1 ev1 o1 n1=>?_
 refine zHx R1 o1 e2 fun p lo hi hp hb hz hx=>?_
 have R2:Rep K C w G1 σ (upd H1 p (.rng lo hi)):=R1.new hp
 have ev2:Evo w.L H (upd H1 p (.rng lo hi)):=ev1.trans (Evo.new hp)
 refine⟨p,lo,hi,rfl,zAT,hb,hz,fun l hl=>?_⟩
 subst hx
 exact k _ _ (R2.new hl) (ev2.trans (Evo.new hl)) (R2.newl hl (zHB _ _)) ⟨l,rfl,zAt ev2 R2.lst hl⟩
theorem zJs{ta:TA}{fa:DA}(ha:SimA K ta fa):SimE K (tCB rOfRngT (tCons (tCB rRng ta) tNil)) (dTupRng fa):=by
 intro C w Γ σ H s Γ' Q R e k
 obtain⟨⟨as,G1⟩,e1,e⟩:=bind_some e
 obtain⟨xs,e2,e⟩:=map_some e
 cases e
 refine ha C w Γ σ H as G1 _ R e1 fun vs H1 R1 ev1 o1 n1=>?_
 refine zHx R1 o1 e2 fun p lo hi hp hb hz hx=>?_
 have R2:Rep K C w G1 σ (upd H1 p (.rng lo hi)):=R1.new hp
 have ev2:Evo w.L H (upd H1 p (.rng lo hi)):=ev1.trans (Evo.new hp)
 refine⟨p,lo,hi,rfl,zAT,hb,hz,fun l hl=>?_⟩
 subst hx
 exact k _ _ (R2.new hl) (ev2.trans (Evo.new hl)) (R2.newt hl (zHB _ _)) trivial
noncomputable def dPar3 (i j k:Nat) (fa:DA):DS:=fun Γ=>(fa Γ).bind fun p=>match p.1 with
  | [.v a,.v b,.v c]=>some (.nx (((p.2.set i (some (.v a))).set j (some (.v b))).set k (some (.v c))))
  | _=>none
theorem soks3{C:Fr}{w:W}{σ:St}{H:Hp}{vs:List V}{a b c:S}(h:SOks K C w σ H vs [a,b,c]):∃ v u z,vs=[v,u,z]/\SOk K C w σ H v a/\SOk K C w σ H u b/\SOk K C w σ H z c:=by
 match vs,h with
 | [v,u,z],h=>exact⟨v,u,z,rfl,h.1,h.2.1,h.2.2.1⟩
theorem zLe{ip:Option Nat}{i j k:Nat}{ta:TA}{fa:DA}(ha:SimA K ta fa)(hi:ip≠some i)(hj:ip≠some j)(hk:ip≠some k):SimS K ip (tPar3 i j k ta) (dPar3 i j k fa):=by
 intro C w Γ σ H D o hp R e kk
 obtain⟨⟨as,G1⟩,e1,e⟩:=bind_some e
 dsimp only at e
 split at e
 ·cases e
  refine ha C w Γ σ H _ G1 _ R e1 fun vs H1 R1 ev1 o1 n1=>?_
  obtain⟨v,u,z,rfl,o2,o3,o4⟩:=soks3 o1
  exact⟨v,u,z,rfl,kk w _ H1 (((R1.setv (g:=.v _) rfl o2 (zCB hp hi)).setv (g:=.v _) rfl o3 (zCB hp hj)).setv (g:=.v _) rfl o4 (zCB hp hk))⟩
 ·cases e
noncomputable def dUnp (tg:En->T->Option En) (f:DE):DS:=fun Γ=>(f Γ).bind fun p=>p.1.tree.bind fun t=>(tg p.2 t).map .nx
theorem zMx{ip:Option Nat}{te:TE}{f:DE}{g:TG}{tg:En->T->Option En}(h:SimE K te f)(hg:SimG K ip g tg):SimS K ip (tAsg te g) (dUnp tg f):=by
 intro C w Γ σ H D o hp R e k
 obtain⟨⟨s,G1⟩,e1,e⟩:=bind_some e
 obtain⟨t,e2,e⟩:=bind_some e
 obtain⟨Γ2,e3,e⟩:=map_some e
 subst e
 cases s with
 | l _=>cases e2
 | s _=>cases e2
 | d _=>cases e2
 | v t' =>
  cases e2
  refine h C w Γ σ H _ G1 _ R e1 fun v H1 R1 ev1 o1 n1=>?_
  exact hg C w G1 σ H1 v t Γ2 _ hp R1 o1 e3 fun σ' R'=>k w σ' H1 R'
end
noncomputable def toDa:V->Option CM
 | .int i=>some (.int i)
 | .bl b=>some (.bool b)
 | .str x=>some (.str x)
 | .non=>some .none
 | _=>none
mutual
noncomputable def toD:T->Option CM
 | .a v=>toDa v
 | .t ts=>(toDs ts).map .tuple
 | .l ts=>(toDs ts).map .list
 | .f _=>none
 | .x _ _=>none
noncomputable def toDs:List T->Option (List CM)
 | []=>some []
 | t::r=>(toD t).bind fun d=>(toDs r).map fun ds=>d::ds
end
mutual
theorem zGz{X:Cx}{pins:List (Addr×Obj)}{σ:St}{H:Hp}{s:AG}(I:Inv X pins σ H s):∀ {v:V} {u:AB} {t:T} {d:CM},Im X.K H v t->RelV v u->toD t=some d->∃ as,Reads s.heap u d as
 | v,u,.a x,d,h,r,e=>by
  have hv:=h.inva
  subst hv
  unfold toD at e
  cases v with
  | int i=>cases e; obtain⟨t,rfl⟩:=(show ∃ t,u=DJ i t from r); exact⟨_,.int i t⟩
  | bl b=>cases e; cases (show u=Ep b from r); exact⟨_,.bool b⟩
  | str x=>cases e; obtain⟨t,rfl⟩:=(show ∃ t,u=FC x t from r); exact⟨_,.str x t⟩
  | non=>cases e; cases (show u=CB from r); exact⟨_,.none⟩
  | byt _=>cases e
  | flt _=>cases e
  | ref _=>cases e
  | ty _=>cases e
 | v,u,.t ts,d,h,r,e=>by
  obtain⟨p,vs,rfl,h1,h2⟩:=h.inv
  cases (show u=BP p from r)
  unfold toD at e
  obtain⟨ds,e1,rfl⟩:=map_some e
  obtain⟨its,rv,⟨o,ho,hc,n,hd⟩,_⟩:=I.tuple h1.sq
  obtain⟨as,q⟩:=zBk I h2 rv e1
  exact⟨as,.tuple ho hc hd (by simpa using q)⟩
 | v,u,.l ts,d,h,r,e=>by
  obtain⟨p,vs,rfl,h1,h2⟩:=h.invl
  cases (show u=BP p from r)
  unfold toD at e
  obtain⟨ds,e1,rfl⟩:=map_some e
  obtain⟨its,rv,pl,_⟩:=I.list h1.sq
  obtain⟨o,ho,hc,n,hd⟩:=pl.isList
  obtain⟨as,q⟩:=zBk I h2 rv e1
  exact⟨_,.list ho hc hd (by simpa using q)⟩
 | v,u,.f _,d,h,r,e=>by unfold toD at e; cases e
 | v,u,.x _ _,d,h,r,e=>by unfold toD at e; cases e
theorem zBk{X:Cx}{pins:List (Addr×Obj)}{σ:St}{H:Hp}{s:AG}(I:Inv X pins σ H s):∀ {vs:List V} {us:List AB} {ts:List T} {ds:List CM},Ims X.K H vs ts->Vals vs us->toDs ts=some ds->∃ as,ReadsAll s.heap us ds as
 | vs,us,[],ds,h,r,e=>by
  have:=h.inv0
  subst this
  cases r
  unfold toDs at e
  cases e
  exact⟨_,.nil⟩
 | vs,us,t::ts,ds,h,r,e=>by
  obtain⟨v,r',rfl,h1,h2⟩:=h.inv
  unfold toDs at e
  obtain⟨d,e1,e⟩:=bind_some e
  obtain⟨ds',e2,rfl⟩:=map_some e
  cases r with
  | cons r1 r2 =>
   obtain⟨as,q1⟩:=zGz I h1 r1 e1
   obtain⟨bs,q2⟩:=zBk I h2 r2 e2
   exact⟨_,Hr q1 q2⟩
end
def DatV (K:Fg) (H:Hp) (x:V) (d:CM):Prop:=(∃ t,Im K H x t/\toD t=some d)\/(∃ p vs ts ds,x=.ref p/\SqL K H p vs/\Ims K H vs ts/\toDs ts=some ds/\d=.list ds)
theorem zBg{X:Cx}{pins:List (Addr×Obj)}{σ:St}{H:Hp}{s:AG}{x:V}{u:AB}{d:CM}(I:Inv X pins σ H s)(r:RelV x u)(h:DatV X.K H x d):∃ as,Reads s.heap u d as:=by
 rcases h with ⟨t,h,e⟩ | ⟨p,vs,ts,ds,rfl,h1,h2,e,rfl⟩
 ·exact zGz I h r e
 ·cases (show u=BP p from r)
  obtain⟨its,rv,pl,_⟩:=I.list h1
  obtain⟨o,ho,hc,n,hd⟩:=pl.isList
  obtain⟨as,q⟩:=zBk I h2 rv e
  exact⟨_,.list ho hc hd (by simpa using q)⟩
noncomputable def rEqD (K:Fg):R2:=fun x y H Q=>∃ da db,DatV K H x da/\DatV K H y db/\da.canLay0=true/\db.canLay0=true/\min da.depth db.depth<=100/\Q (.bl (Bo da db)) H
noncomputable def rNeD (K:Fg):R2:=fun x y H Q=>∃ da db,DatV K H x da/\DatV K H y db/\da.canLay0=true/\db.canLay0=true/\min da.depth db.depth<=100/\Q (.bl (!PyData.eqv da db)) H
theorem zQC{X:Cx}{k:Nat}(hr:Room k X.A):OpR X (BY .Eq) (rEqD X.K):=by
 intro pins s σ H x y v u Q I rx ry h
 obtain⟨da,db,h1,h2,c1,c2,hm,q⟩:=h
 obtain⟨_,r1⟩:=zBg I rx h1
 obtain⟨_,r2⟩:=zBg I ry h2
 exact SeqAt.compareEq_reads r1 r2 c1 c2 (by have:=hr.un; lia) ⟨.bl _,H,I,rfl,q⟩
theorem zQB{X:Cx}{k:Nat}(hr:Room k X.A):OpR X (BY .NotEq) (rNeD X.K):=by
 intro pins s σ H x y v u Q I rx ry h
 obtain⟨da,db,h1,h2,c1,c2,hm,q⟩:=h
 obtain⟨_,r1⟩:=zBg I rx h1
 obtain⟨_,r2⟩:=zBg I ry h2
 exact SeqAt.compareNe_reads r1 r2 c1 c2 (by have:=hr.un; lia) ⟨.bl _,H,I,rfl,q⟩
noncomputable def datS (Γ:En):S->Option CM
 | .v t=>toD t
 | a=>(sqlOf Γ a).bind fun xs=>(toDs xs).map .list
theorem zDG{K:Fg}{C:Fr}{w:W}{Γ:En}{σ:St}{H:Hp}{x:V}{s:S}{d:CM}(R:Rep K C w Γ σ H)(o:SOk K C w σ H x s)(e:datS Γ s=some d):DatV K H x d:=by
 have lst:∀ {s:S},SOk K C w σ H x s->(sqlOf Γ s).bind (fun xs=>(toDs xs).map PyData.list)=some d->DatV K H x d:=fun {s} o e=>by
  obtain⟨xs,e1,e⟩:=bind_some e
  obtain⟨ds,e2,rfl⟩:=map_some e
  obtain⟨p,vs,rfl,h1,h2⟩:=zBH R o e1
  exact .inr ⟨p,vs,xs,ds,rfl,h1,h2,e2,rfl⟩
 cases s with
 | v t=>exact .inl ⟨t,o,e⟩
 | l xs=>exact lst o e
 | s i=>exact lst o e
 | d _=>cases e
noncomputable def cmpD (f:CM->CM->Bool):En->S->S->Option S:=fun Γ a b=>(datS Γ a).bind fun da=>(datS Γ b).bind fun db=>if da.canLay0=true/\db.canLay0=true/\min da.depth db.depth<=100 then some (mkB (f da db)) else none
noncomputable def eqA (f:V->V->Bool):En->S->S->Option S:=fun _ a b=>match a,b with
 | .v (.a x),.v (.a y)=>if scal x y=true then some (mkB (f x y)) else none
 | _,_=>none
theorem zK2{K:Fg}:SimR2 K rEq (eqA fun x y=>decide (x=y)):=by
 intro C w Γ σ H x y a b s Q R ox oy e k
 unfold eqA at e
 split at e
 ·split at e
  ·rename_i h
   cases e
   rw[ox.inva,oy.inva]
   exact⟨h,k _ H R .refl SOk.atom trivial⟩
  ·cases e
 ·cases e
theorem zMJ{K:Fg}:SimR2 K rNe (eqA fun x y=>!decide (x=y)):=by
 intro C w Γ σ H x y a b s Q R ox oy e k
 unfold eqA at e
 split at e
 ·split at e
  ·rename_i h
   cases e
   rw[ox.inva,oy.inva]
   exact⟨h,k _ H R .refl SOk.atom trivial⟩
  ·cases e
 ·cases e
noncomputable def eqS:En->S->S->Option S:=fun Γ a b=>(eqA (fun x y=>decide (x=y)) Γ a b).or (cmpD Bo Γ a b)
noncomputable def neS:En->S->S->Option S:=fun Γ a b=>(eqA (fun x y=>!decide (x=y)) Γ a b).or (cmpD (fun a b=>!PyData.eqv a b) Γ a b)
theorem zLD{K:Fg}:SimR2 K (rEqD K) (cmpD Bo):=by
 intro C w Γ σ H x y a b s Q R ox oy e k
 obtain⟨da,e1,e⟩:=bind_some e
 obtain⟨db,e2,e⟩:=bind_some e
 split at e
 ·rename_i h
  cases e
  exact⟨da,db,zDG R ox e1,zDG R oy e2,h.1,h.2.1,h.2.2,k _ H R .refl SOk.atom trivial⟩
 ·cases e
theorem zK1{K:Fg}:SimR2 K (rNeD K) (cmpD fun a b=>!PyData.eqv a b):=by
 intro C w Γ σ H x y a b s Q R ox oy e k
 obtain⟨da,e1,e⟩:=bind_some e
 obtain⟨db,e2,e⟩:=bind_some e
 split at e
 ·rename_i h
  cases e
  exact⟨da,db,zDG R ox e1,zDG R oy e2,h.1,h.2.1,h.2.2,k _ H R .refl SOk.atom trivial⟩
 ·cases e
theorem zMo{K:Fg}:SimR2 K (fun x y H Q=>rEq x y H Q\/rEqD K x y H Q) eqS:=zK2.or zLD
theorem zNP{K:Fg}:SimR2 K (fun x y H Q=>rNe x y H Q\/rNeD K x y H Q) neS:=zMJ.or zK1
theorem zPN{X:Cx}{k:Nat}(hr:Room k X.A):OpR X (BY .Eq) (fun x y H Q=>rEq x y H Q\/rEqD X.K x y H Q):=zRD.or (zQC hr)
theorem zPm{X:Cx}{k:Nat}(hr:Room k X.A):OpR X (BY .NotEq) (fun x y H Q=>rNe x y H Q\/rNeD X.K x y H Q):=zQT.or (zQB hr)
noncomputable def rRepr (K:Fg):List V->Hp->VK->Prop:=fun xs H Q=>∃ x d,xs=[x]/\DatV K H x d/\d.showable=true/\d.hasDict=false/\d.depth<=100/\d.shown.length<=AE/\Q (.str d.shown) H
theorem zKn{X:Cx}{k:Nat}(hr:Room k X.A):CallR X (.builtin "repr") (rRepr X.K):=by
 intro pins s σ H xs us Q I r h
 obtain⟨x,d,rfl,h1,hs,hd,hp,hz,q⟩:=h
 obtain⟨u,rfl,rx⟩:=vals1 r
 obtain⟨as,r1⟩:=zBg I rx h1
 cases r1 with
 | none=>exact PySem.P.repr_of_none ⟨.str _,H,I.tok _,⟨_,rfl⟩,q⟩
 | bool b=>exact PySem.P.repr_of_bool ⟨.str _,H,I.tok _,⟨_,rfl⟩,q⟩
 | int i t=>exact PySem.P.repr_of_int (by simpa [FR] using hs) ⟨.str _,H,I.tok _,⟨_,rfl⟩,q⟩
 | str z t=>exact PySem.P.repr_of_str ⟨.str _,H,I.tok _,⟨_,rfl⟩,q⟩ hz
 | list a b c e =>
  exact Ke (.list a b c e) hs (HL hd) hr.gd (by have:=hr.un; lia) (fun _ _ e=>e) (fun h' u tk hk=>⟨.str _,H,I.kept hk,⟨u,rfl⟩,q⟩) hz
 | tuple a b c e =>
  exact Ke (.tuple a b c e) hs (HL hd) hr.gd (by have:=hr.un; lia) (fun _ _ e=>e) (fun h' u tk hk=>⟨.str _,H,I.kept hk,⟨u,rfl⟩,q⟩) hz
 | dict=>cases hd
noncomputable def reprS:En->List S->Option S:=fun Γ as=>match as with
 | [a]=>(datS Γ a).bind fun d=>if d.showable=true/\d.hasDict=false/\d.depth<=100/\d.shown.length<=AE then some (.v (.a (.str d.shown))) else none
 | _=>none
theorem zKI{K:Fg}:SimRs K (rRepr K) reprS:=by
 intro C w Γ σ H vs as s Q R o e k
 unfold reprS at e
 split at e
 ·obtain⟨d,e1,e⟩:=bind_some e
  split at e
  ·rename_i h
   cases e
   obtain⟨v,rfl,o1⟩:=soks1 o
   exact⟨v,d,rfl,zDG R o1 e1,h.1,h.2.1,h.2.2.1,h.2.2.2,k _ H R .refl SOk.atom trivial⟩
  ·cases e
 ·cases e
noncomputable def inS (neg:Bool):En->S->S->Option S:=fun Γ a b=>match a with
 | .v (.a x)=>(seqS Γ b).bind fun xs=>(atomsOf xs).bind fun vs=>if flatV x=true/\vs.all flatV=true then some (mkB (if neg then !inV x vs else inV x vs)) else none
 | _=>none
theorem zGY{K:Fg}{neg:Bool}:SimR2 K (rIn K neg) (inS neg):=by
 intro C w Γ σ H x y a b s Q R ox oy e k
 unfold inS at e
 split at e
 ·obtain⟨xs,e1,e⟩:=bind_some e
  obtain⟨vs,e2,e⟩:=bind_some e
  split at e
  ·rename_i h
   cases e
   obtain⟨p,us,rfl,h1,i1⟩:=zHN R oy e1
   have:=zEN i1 e2
   subst this
   rw[ox.inva]
   exact⟨p,us,rfl,h1,h.1,h.2,k _ H R .refl SOk.atom trivial⟩
  ·cases e
 ·cases e
noncomputable def truS (Γ:En):S->Option Bool
 | .v (.a .non)=>some false
 | .v (.a (.bl b))=>some b
 | .v (.a (.int i))=>some (i != 0)
 | .v (.a (.str y))=>if y.length<=AE then some ((y.length:Int) != 0) else none
 | .v (.t xs)=>some (!xs.isEmpty)
 | .v _=>none
 | a=>(sqlOf Γ a).map fun xs=>!xs.isEmpty
noncomputable def dTru (f:DE):DT:=fun Γ=>(f Γ).bind fun p=>(truS p.2 p.1).map fun b=>(b,p.2)
theorem Ims.isEmpty{K:Fg}{H:Hp}{vs:List V}{ts:List T}(h:Ims K H vs ts):vs.isEmpty=ts.isEmpty:=by
 have:=h.len
 cases vs <;> cases ts <;> simp at this ⊢
theorem zOs{K:Fg}{te:TE}{f:DE}(h:SimE K te f):SimT K (fun σ H Q=>te σ H fun x H'=>∃ k,TruV K x H' k/\Q k H') (dTru f):=by
 intro C w Γ σ H b Γ' Q R e k
 obtain⟨⟨a,G1⟩,e1,e⟩:=bind_some e
 obtain⟨b',e2,e⟩:=map_some e
 cases e
 refine h C w Γ σ H a _ _ R e1 fun v H1 R1 ev1 o1 n1=>⟨b,?_,k H1 R1 ev1⟩
 dsimp only at e2
 unfold truS at e2
 split at e2
 ·cases e2; rw[o1.inva]; exact rfl
 ·cases e2; rw[o1.inva]; exact rfl
 ·cases e2; rw[o1.inva]; exact rfl
 ·split at e2
  ·rename_i hz
   cases e2; rw[o1.inva]; exact⟨hz,rfl⟩
  ·cases e2
 ·cases e2
  obtain⟨p,us,rfl,h1,i1⟩:=o1.invt
  exact .inr (.inl ⟨us,h1.sq,by rw[i1.isEmpty]⟩)
 ·cases e2
 ·obtain⟨xs,e3,e2⟩:=map_some e2
  subst e2
  obtain⟨p,us,rfl,h1,i1⟩:=zBH R1 o1 e3
  exact .inl ⟨us,h1,by rw[i1.isEmpty]⟩
noncomputable def rfS (Γ:En):S->Option Unit
 | .v (.x _ _)=>some ()
 | .v (.l _)=>some ()
 | .l _=>some ()
 | .s i=>(sqlOf Γ (.s i)).map fun _=>()
 | _=>none
theorem zNm{K:Fg}{C:Fr}{w:W}{Γ:En}{σ:St}{H:Hp}{x:V}{a:S}{u:Unit}(R:Rep K C w Γ σ H)(o:SOk K C w σ H x a)(e:rfS Γ a=some u):∃ p,x=.ref p:=by
 unfold rfS at e
 split at e
 ·obtain⟨p,rfl,_⟩:=(show Im K H x (.x _ _) from o).invx; exact⟨p,rfl⟩
 ·obtain⟨p,_,rfl,_⟩:=(show Im K H x (.l _) from o).invl; exact⟨p,rfl⟩
 ·obtain⟨p,_,rfl,_⟩:=o; exact⟨p,rfl⟩
 ·obtain⟨xs,e1,_⟩:=map_some e
  obtain⟨p,_,rfl,_⟩:=zBH R o e1; exact⟨p,rfl⟩
 ·cases e
noncomputable def isNoneS (neg:Bool):En->S->S->Option S:=fun Γ a b=>match b with
 | .v (.a .non)=>match a with
  | .v (.a x)=>some (mkB (if neg then !decide (x=V.non) else decide (x=V.non)))
  | .v (.t _)=>some (mkB neg)
  | a=>(rfS Γ a).map fun _=>mkB neg
 | _=>none
theorem zLJ{K:Fg}:SimR2 K (fun x y H Q=>y=.non/\Q (.bl (decide (x=.non))) H) (isNoneS false):=by
 intro C w Γ σ H x y a b s Q R ox oy e k
 unfold isNoneS at e
 split at e
 ·refine⟨oy.inva,?_⟩
  split at e
  ·cases e; rw[ox.inva]; exact k _ H R .refl SOk.atom trivial
  ·cases e
   obtain⟨p,us,rfl,h1,i1⟩:=ox.invt
   rw[decide_eq_false (by intro z; cases z)]
   exact k _ H R .refl SOk.atom trivial
  ·obtain⟨u,e1,e⟩:=map_some e
   cases e
   obtain⟨p,rfl⟩:=zNm R ox e1
   rw[decide_eq_false (by intro z; cases z)]
   exact k _ H R .refl SOk.atom trivial
 ·cases e
theorem zKG{K:Fg}:SimR2 K (fun x y H Q=>y=.non/\Q (.bl (!decide (x=.non))) H) (isNoneS true):=by
 intro C w Γ σ H x y a b s Q R ox oy e k
 unfold isNoneS at e
 split at e
 ·refine⟨oy.inva,?_⟩
  split at e
  ·cases e; rw[ox.inva]; exact k _ H R .refl SOk.atom trivial
  ·cases e
   obtain⟨p,us,rfl,h1,i1⟩:=ox.invt
   rw[decide_eq_false (by intro z; cases z)]
   exact k _ H R .refl SOk.atom trivial
  ·obtain⟨u,e1,e⟩:=map_some e
   cases e
   obtain⟨p,rfl⟩:=zNm R ox e1
   rw[decide_eq_false (by intro z; cases z)]
   exact k _ H R .refl SOk.atom trivial
 ·cases e
def EX {ι:Type} (K:Fg) (X:ι->Cx) (e:Expr) (f:DE):Prop:=∃ te,(∀ j,PE (X j) e te)/\SimE K te f
def TX {ι:Type} (K:Fg) (X:ι->Cx) (e:Expr) (f:DT):Prop:=∃ t,(∀ j,PT (X j) e t)/\SimT K t f
def WX {ι:Type} (K:Fg) (X:ι->Cx) (e:Expr) (f:DT):Prop:=∃ t,(∀ j,PW (X j) e t)/\SimT K t f
def AX {ι:Type} (K:Fg) (X:ι->Cx) (es:List Expr) (f:DA):Prop:=∃ t,(∀ j,PA (X j) es t)/\SimA K t f
def OX {ι:Type} (K:Fg) (X:ι->Cx) (e:Option Expr) (f:DO):Prop:=∃ t,(∀ j,PO (X j) e t)/\SimO K t f
def IX {ι:Type} (K:Fg) (X:ι->Cx) (tg it:Expr) (f:DI):Prop:=∃ t,(∀ j,PI (X j) tg it t)/\SimI K t f
def GX {ι:Type} (K:Fg) (X:ι->Cx) (ip:Option Nat) (tg:Expr) (f:En->T->Option En):Prop:=∃ t,(∀ j,PG (X j) tg t)/\SimG K ip t f
def GXs {ι:Type} (K:Fg) (X:ι->Cx) (ip:Option Nat) (tg:List Expr) (f:En->List T->Option En):Prop:=∃ t,(∀ j,PGs (X j) tg t)/\SimGs K ip t f
def SX {ι:Type} (K:Fg) (X:ι->Cx) (ip:Option Nat) (s:Stmt) (f:DS):Prop:=∃ t,(∀ j,PS (X j) s t)/\SimS K ip t f
def BX {ι:Type} (K:Fg) (X:ι->Cx) (ip:Option Nat) (s:List Stmt) (f:DS):Prop:=∃ t,(∀ j,PSs (X j) s t)/\SimS K ip t f
structure Fm{ι:Type}(K:Fg)(mg:Str->Option AB)(k:Nat)(X:ι->Cx):Prop where
 K:∀ j,(X j).K=K
 mg:∀ j,(X j).mg=mg
 calm:∀ j,(X j).calm=true
 room:∀ j,Room k (X j).A
section
variable {ι:Type}{K:Fg}{mg:Str->Option AB}{k:Nat}{X:ι->Cx}{ip:Option Nat}{a b c e:Expr}{es:List Expr}{pos:Pos}{fa fb fc:DE}{ta tb:DT}{da:DA}
theorem jZ(i:Nat){x:Str}(hN:∀ j,(X j).N[i]?=some x:=by intro _; rfl)(hv:∀ j,Vis (X j).env.scope x:=by intro _; first | exact Df rfl | exact Ck (Df rfl) | exact Ck (Ck rfl))(hd:(x == ("__debug__":Str))=false:=by decide)
  (hcd:(x == ("__classdict__":Str))=false:=by decide):EX K X (.Name x pos) (jV i):=⟨tVar i,fun j=>zDI (hN j) (hv j) hd hcd,zO1⟩
theorem jJ{i:Int}{u}:EX K X (.Constant (.int i) u pos) (dC (.int i)):=⟨_,fun _=>zLr,zEy⟩
theorem zEx{v:Bool}{u}:EX K X (.Constant (.bool v) u pos) (dC (.bl v)):=⟨_,fun _=>zQk,zEy⟩
theorem zEY{u}:EX K X (.Constant .none u pos) (dC .non):=⟨_,fun _=>zPL,zEy⟩
theorem zBA{v:Str}{u}:EX K X (.Constant (.str v) u pos) (dC (.str v)):=⟨_,fun _=>zPd,zEy⟩
theorem zRR{x:Str}{N:String}(M:Fm K mg k X)(hm:mg x=none)(hv:CN x=some (.type N))(hg:∀ j,Gl (X j) x:=by intro _; rfl)(hn:x≠"__name__":=by decide)(hd:(x == ("__debug__":Str))=false:=by decide):EX K X (.Name x pos) (dC (.ty N)) :=
 ⟨_,fun j=>zQc (hg j) (by rw[M.mg]; exact hm) hv hn hd,zEy⟩
theorem zDx{op:Operator}{r:R2}{h:En->S->S->Option S}(ho:∀ j,OpR (X j) (CU op) r)(hs:SimR2 K r h)(ha:EX K X a fa)(hb:EX K X b fb):EX K X (.BinOp a op b pos) (dOp h fa fb) :=
 let ⟨_,p,s⟩:=ha; let ⟨_,q,u⟩:=hb; ⟨_,fun j=>zRN (ho j) (p j) (q j),zDS hs s u⟩
theorem zAY(M:Fm K mg k X)(ha:EX K X a fa)(hb:EX K X b fb):EX K X (.BinOp a .Add b pos) (dOp addS fa fb):=zDx (fun j=>by rw[← M.K j]; exact zOZ) zLk ha hb
theorem zEp(ha:EX K X a fa)(hb:EX K X b fb):EX K X (.BinOp a .Sub b pos) (dOp subS fa fb):=zDx (fun j=>zPw) zBw ha hb
theorem zAk(ha:EX K X a fa)(hb:EX K X b fb):EX K X (.BinOp a .Mult b pos) (dOp mulS fa fb):=zDx (fun j=>zOU) zLj ha hb
theorem zAx(ha:EX K X a fa)(hb:EX K X b fb):EX K X (.BinOp a .Mod b pos) (dOp modS fa fb):=zDx (fun j=>zPf) zCt ha hb
theorem zIe(ha:EX K X a fa)(hb:EX K X b fb):EX K X (.BinOp a .FloorDiv b pos) (dOp fdivS fa fb):=zDx (fun j=>zPG) zCt ha hb
theorem zPT(ha:EX K X a fa)(hb:EX K X b fb):EX K X (.BinOp a .Pow b pos) (dOp powS fa fb):=zDx (fun j=>zPJ) zCt ha hb
theorem zHL(ha:EX K X a fa):EX K X (.UnaryOp .USub a pos) (dUn negS fa):=let ⟨_,p,s⟩:=ha; ⟨_,fun j=>zQ0 zPQ (p j),zPP zMC s⟩
theorem zPU{op:FO}{r:R2}{h:En->S->S->Option S}(ho:∀ j,OpR (X j) (BY op) r)(hs:SimR2 K r h)(hm:B2 op b=false)(ha:EX K X a fa)(hb:EX K X b fb):EX K X (.Compare a [op] [b] pos) (dOp h fa fb) :=
 let ⟨_,p,s⟩:=ha; let ⟨_,q,u⟩:=hb; ⟨_,fun j=>zOF (ho j) (p j) (q j) hm,zDS hs s u⟩
theorem zPv{op:FO}{r:R2}{h:En->S->S->Option S}(ho:∀ j,OpR (X j) (BY op) r)(hs:SimR2 K r h)(hm:B2 op b=false)(ha:EX K X a fa)(hb:EX K X b fb):TX K X (.Compare a [op] [b] pos) (dTest (dOp h fa fb)) :=
 let ⟨_,p,s⟩:=ha; let ⟨_,q,u⟩:=hb; ⟨_,fun j=>zPH (ho j) (p j) (q j) hm,zHO (zDS hs s u)⟩
structure CmpR{ι:Type}(K:Fg)(X:ι->Cx)(op:FO)(h:En->S->S->Option S):Prop where
 ex:∃ r,(∀ j,OpR (X j) (BY op) r)/\SimR2 K r h
theorem zKD:CmpR K X .Lt ltS:=⟨_,fun _=>zQV,zBw⟩
theorem zDV:CmpR K X .Gt gtS:=⟨_,fun _=>zQW,zBw⟩
theorem zQp:CmpR K X .GtE geS:=⟨_,fun _=>zRC,zBw⟩
theorem zA1(M:Fm K mg k X):CmpR K X .Eq eqS:=⟨_,fun j=>by have:=zPN (M.room j); rw[M.K j]at this; exact this,zMo⟩
theorem zA5(M:Fm K mg k X):CmpR K X .NotEq neS:=⟨_,fun j=>by have:=zPm (M.room j); rw[M.K j]at this; exact this,zNP⟩
theorem zGT(M:Fm K mg k X):CmpR K X .In (inS false):=⟨_,fun j=>by have:=zLx (X:=X j); rw[M.K j]at this; exact this,zGY⟩
theorem zED(M:Fm K mg k X):CmpR K X .NotIn (inS true):=⟨_,fun j=>by have:=zHW (X:=X j); rw[M.K j]at this; exact this,zGY⟩
theorem zNl:CmpR K X .Is (isNoneS false):=⟨_,fun _=>zP1,zLJ⟩
theorem zMn:CmpR K X .IsNot (isNoneS true):=⟨_,fun _=>zOv,zKG⟩
theorem ex_c{op:FO}{h:En->S->S->Option S}(hc:CmpR K X op h)(ha:EX K X a fa)(hb:EX K X b fb)(hm:B2 op b=false:=by first | exact nomark _ | with_unfolding_all rfl):EX K X (.Compare a [op] [b] pos) (dOp h fa fb) :=
 let ⟨_,p,q⟩:=hc.ex; zPU p q hm ha hb
theorem tx_c{op:FO}{h:En->S->S->Option S}(hc:CmpR K X op h)(ha:EX K X a fa)(hb:EX K X b fb)(hm:B2 op b=false:=by first | exact nomark _ | with_unfolding_all rfl):TX K X (.Compare a [op] [b] pos) (dTest (dOp h fa fb)) :=
 let ⟨_,p,q⟩:=hc.ex; zPv p q hm ha hb
theorem tx_v(M:Fm K mg k X)(ha:EX K X a fa)(he:∀ j whole,Hh a (X j).env whole=(do let v ← whole; JJ a.pos; holding [v] (truthy v)):=by intro _ _; rfl):TX K X a (dTru fa) :=
 let ⟨te,p,s⟩:=ha; ⟨(fun σ H Q=>te σ H fun x H'=>∃ k,TruV K x H' k/\Q k H'),fun j=>by have:=zMq (p j) (he j); rw[M.K j]at this; exact this,zOs s⟩
theorem zKe(ha:TX K X a ta):TX K X (.UnaryOp .Not a pos) (dNot ta):=let ⟨_,p,s⟩:=ha; ⟨_,fun j=>zQE (p j),zNx s⟩
theorem zDd(ha:TX K X a ta):WX K X (.BoolOp .And [a] pos) ta:=let ⟨_,p,s⟩:=ha; ⟨_,fun j=>zOD (p j),s⟩
theorem zEa(ha:TX K X a ta):WX K X (.BoolOp .Or [a] pos) ta:=let ⟨_,p,s⟩:=ha; ⟨_,fun j=>zQH (p j),s⟩
theorem zEg(ha:TX K X a ta)(hb:WX K X (.BoolOp .And (b::es) pos) tb):WX K X (.BoolOp .And (a::b::es) pos) (dAnd ta tb):=let ⟨_,p,s⟩:=ha; let ⟨_,q,u⟩:=hb; ⟨_,fun j=>zQM (p j) (q j),zOB s u⟩
theorem zEh(ha:TX K X a ta)(hb:WX K X (.BoolOp .Or (b::es) pos) tb):WX K X (.BoolOp .Or (a::b::es) pos) (dOr ta tb):=let ⟨_,p,s⟩:=ha; let ⟨_,q,u⟩:=hb; ⟨_,fun j=>zQz (p j) (q j),zQD s u⟩
theorem tx_w(ha:WX K X a ta):TX K X a ta:=let ⟨_,p,s⟩:=ha; ⟨_,fun j=>(p j).pt,s⟩
theorem zPt{op}(ha:EX K X a fa):EX K X (.BoolOp op [a] pos) fa:=let ⟨_,p,s⟩:=ha; ⟨_,fun j=>zQN (p j),s⟩
theorem zPV(ha:EX K X a fa)(hb:EX K X (.BoolOp .And (b::es) pos) fb):EX K X (.BoolOp .And (a::b::es) pos) (dAndV fa fb):=let ⟨_,p,s⟩:=ha; let ⟨_,q,u⟩:=hb; ⟨_,fun j=>zPb (p j) (q j),zNJ s u⟩
theorem zE1(hc:TX K X c ta)(ha:EX K X a fa)(hb:EX K X b fb):EX K X (.IfExp c a b pos) (dIfE ta fa fb):=let ⟨_,p,s⟩:=hc; let ⟨_,q,u⟩:=ha; let ⟨_,q',u'⟩:=hb; ⟨_,fun j=>zM2 (p j) (q j) (q' j),zN7 s u u'⟩
theorem jY:AX K X [] qQ:=⟨_,fun _=>zEO,zI9⟩
theorem jQ{fr:DA}(ha:EX K X e fa)(hr:AX K X es fr)(hs:∀ j,Ae (e::es) (X j).env=(false,eval e (X j).env)::Ae es (X j).env:=by intro _; rfl):AX K X (e::es) (jW fa fr) :=
 let ⟨_,p,s⟩:=ha; let ⟨_,q,u⟩:=hr; ⟨_,fun j=>zCa (p j) (q j) (hs j),zNF s u⟩
theorem zAL{x1}(h:AX K X es da):EX K X (.Tuple es x1 pos) (dTup da):=let ⟨_,p,s⟩:=h; ⟨_,fun j=>zK5 (p j),zPE s⟩
theorem zA3(h:AX K X es da):EX K X (.List es pos) (dLst da):=let ⟨_,p,s⟩:=h; ⟨_,fun j=>zP7 (p j),zO9 s⟩
theorem zAC(M:Fm K mg k X)(ha:EX K X a fa)(hb:EX K X b fb)(hs:PlainIx b:=by exact fun _ _=>rfl):EX K X (.Subscript a b pos) (dOp ixS fa fb) :=
 let ⟨_,p,s⟩:=ha; let ⟨_,q,u⟩:=hb; ⟨_,fun j=>zQy (by have:=zPM (X:=X j); rw[M.K j]at this; exact this) (p j) (q j) hs,zDS zNN s u⟩
theorem zDo:OX K X none dNoPart:=⟨_,fun _=>zPB,zKA⟩
theorem zDa(ha:EX K X a fa):OX K X (some a) (dPart fa):=let ⟨_,p,s⟩:=ha; ⟨_,fun j=>zOS (p j),zMS s⟩
theorem zGV(M:Fm K mg k X){lo hi:Option Expr}{p2:Pos}{dl dh:DO}(ha:EX K X a fa)(hl:OX K X lo dl)(hh:OX K X hi dh):EX K X (.Subscript a (.Slice lo hi none p2) pos) (dSl fa dl dh) :=
 let ⟨_,p,s⟩:=ha; let ⟨_,q,u⟩:=hl; let ⟨_,q',u'⟩:=hh; ⟨_,fun j=>zMX (by have:=sl_S (X:=X j); rw[M.K j]at this; exact this) (p j) (q j) (q' j),zQA s u u'⟩
structure CalR{ι:Type}(K:Fg)(X:ι->Cx)(f:AB)(h:En->List S->Option S):Prop where
 ex:∃ r,(∀ j,CallR (X j) f r)/\SimRs K r h
theorem zAf{x:Str}{p:Pos}{id:String}{h:En->List S->Option S}(M:Fm K mg k X)(hc:CalR K X (.builtin id) h)(hm:mg x=none)(hv:CN x=some (.builtin id))(ha:AX K X (e::es) da)(hg:∀ j,Gl (X j) x:=by intro _; rfl)(hn:x≠"__name__":=by decide)(hdb:(x == ("__debug__":Str))=false:=by decide)
  (he:∀ j,Ae (e::es) (X j).env=(false,eval e (X j).env)::Ae es (X j).env:=by intro _; rfl) (hpl:∀ j,(CT pos (Ae es (X j).env)).any (·.1)=false:=by intro _; rfl):EX K X (.Call (.Name x p) (e::es) [] pos) (dCB h da) :=
 let ⟨_,p,s⟩:=hc.ex; let ⟨_,q,u⟩:=ha; ⟨_,fun j=>zNI (p j) (hg j) (by rw[M.mg]; exact hm) hv (q j) hn hdb (he j) (hpl j),zLG s u⟩
theorem zAg{x:Str}{p:Pos}{N:String}{h:En->List S->Option S}(M:Fm K mg k X)(hc:CalR K X (.type N) h)(hm:mg x=none)(hv:CN x=some (.type N))(ha:AX K X (e::es) da)(hg:∀ j,Gl (X j) x:=by intro _; rfl)(hn:x≠"__name__":=by decide)(hdb:(x == ("__debug__":Str))=false:=by decide)
  (he:∀ j,Ae (e::es) (X j).env=(false,eval e (X j).env)::Ae es (X j).env:=by intro _; rfl) (hpl:∀ j,(CT pos (Ae es (X j).env)).any (·.1)=false:=by intro _; rfl):EX K X (.Call (.Name x p) (e::es) [] pos) (dCB h da) :=
 let ⟨_,p,s⟩:=hc.ex; let ⟨_,q,u⟩:=ha; ⟨_,fun j=>zBq (p j) (hg j) (by rw[M.mg]; exact hm) hv (q j) hn hdb (he j) (hpl j),zLG s u⟩
theorem zA2(M:Fm K mg k X):CalR K X (.builtin "len") lenS:=⟨_,fun j=>by have:=zLq (X:=X j); rw[M.K j]at this; exact this,zK4⟩
theorem zPK(M:Fm K mg k X):CalR K X (.builtin "isinstance") isiS:=⟨_,fun j=>by have:=zKr (X:=X j); rw[M.K j]at this; exact this,zKq⟩
theorem zDw(M:Fm K mg k X):CalR K X (.builtin "repr") reprS:=⟨_,fun j=>by have:=zKn (M.room j); rw[M.K j]at this; exact this,zKI⟩
theorem zOM(M:Fm K mg k X):CalR K X (.builtin "max") max2S:=⟨_,fun j=>zLP (M.calm j),zKM⟩
theorem zPD(M:Fm K mg k X):CalR K X (.builtin "min") min2S:=⟨_,fun j=>zL1 (M.calm j),zKN⟩
theorem zG9:CalR K X (.type "int") intS:=⟨_,fun j=>zMI,zLf⟩
theorem zOY(M:Fm K mg k X):CalR K X (.type "list") listS:=⟨_,fun j=>by have:=zGq (X:=X j); rw[M.K j]at this; exact this,zKX⟩
theorem zAV(M:Fm K mg k X):CalR K X (.type "tuple") tupleS:=⟨_,fun j=>by have:=zGP (X:=X j); rw[M.K j]at this; exact this,zIL⟩
theorem zGC{X:Cx}:CallR X (.type "range") rRng:=zK3.or zKm
theorem zJc{p p2 pos2:Pos}(M:Fm K mg k X)(hl:mg "list"=none)(hr:mg "range"=none)(ha:AX K X (e::es) da)(hg:∀ j,Gl (X j) "list":=by intro _; rfl)(hg2:∀ j,Gl (X j) "range":=by intro _; rfl)
  (he:∀ j,Ae (e::es) (X j).env=(false,eval e (X j).env)::Ae es (X j).env:=by intro _; rfl) (hpl:∀ j,(CT pos2 (Ae es (X j).env)).any (·.1)=false:=by intro _; rfl) :
  EX K X (.Call (.Name "list" p) [.Call (.Name "range" p2) (e::es) [] pos2] [] pos) (dListRng da) :=
 let ⟨_,q,u⟩:=ha; ⟨_,fun j=>zBq (zGn (M.calm j)) (hg j) (by rw[M.mg]; exact hl) KD (zCa (zBq zGC (hg2 j) (by rw[M.mg]; exact hr) FI (q j) (by decide) (by decide) (he j) (hpl j)) zEO),zIM u⟩
theorem zCR{p p2 pos2:Pos}(M:Fm K mg k X)(hl:mg "tuple"=none)(hr:mg "range"=none)(ha:AX K X (e::es) da)(hg:∀ j,Gl (X j) "tuple":=by intro _; rfl)(hg2:∀ j,Gl (X j) "range":=by intro _; rfl)
  (he:∀ j,Ae (e::es) (X j).env=(false,eval e (X j).env)::Ae es (X j).env:=by intro _; rfl) (hpl:∀ j,(CT pos2 (Ae es (X j).env)).any (·.1)=false:=by intro _; rfl) :
  EX K X (.Call (.Name "tuple" p) [.Call (.Name "range" p2) (e::es) [] pos2] [] pos) (dTupRng da) :=
 let ⟨_,q,u⟩:=ha; ⟨_,fun j=>zBq (zGM (M.calm j)) (hg j) (by rw[M.mg]; exact hl) KE (zCa (zBq zGC (hg2 j) (by rw[M.mg]; exact hr) FI (q j) (by decide) (by decide) (he j) (hpl j)) zEO),zJs u⟩
end
structure Fb{ι:Type}(P:Ah)(wd:Aw)(base:Heap)(X:ι->Cx):Prop where
 P:∀ j,(X j).prog=P
 w:∀ j,(X j).w=wd
 b:∀ j,(X j).base=base
structure FD(P:Ah)(wd:Aw)(K:Fg)(mg:Str->Option AB)(base:Heap)(k:Nat)(x:Str)(ip:Option Nat)(n:Nat)(F:DF):Prop where
 ex:∃ (f:Addr) (fd:Ai) (ps:List Str),FnOk P wd K mg base CX0 k f fd ps (spD K ip n F)/\mg x=some (.ref f)/\CY K (.ref f)=true/\Binds K fd ps []
 len:∀ gs r,F gs=some r->gs.length=n
theorem zOi{ip:Option Nat}{np nN:Nat}{g:DS}:∀ gs r,fnD ip np nN g gs=some r->gs.length=np:=fun gs r e=>by
 unfold fnD at e
 split at e
 ·assumption
 ·cases e
section
variable {ι:Type}{P:Ah}{wd:Aw}{base:Heap}{K:Fg}{mg:Str->Option AB}{k k' n:Nat}{X:ι->Cx}{ip:Option Nat}{a b c e:Expr}{es:List Expr}{pos p:Pos}{fa fb fc:DE}{ta tb:DT}{da:DA}{F:DF}{x:Str}
theorem zAE(M:Fm K mg k X)(B:Fb P wd base X)(D0:FD P wd K mg base k' x ip n F)(ha:AX K X (e::es) da)(hk:k'<=k:=by first | exact AL _ | decide | omega)(hg:∀ j,Gl (X j) x:=by intro _; rfl)(hdb:(x == ("__debug__":Str))=false:=by decide)
  (he:∀ j,Ae (e::es) (X j).env=(false,eval e (X j).env)::Ae es (X j).env:=by intro _; rfl) (hpl:∀ j,(CT pos (Ae es (X j).env)).any (·.1)=false:=by intro _; rfl) :
  EX K X (.Call (.Name x p) (e::es) [] pos) (dCall ip F [] da):=by
 obtain⟨f,fd,ps,h1,h2,h3,h4⟩:=D0.ex
 obtain⟨t,q,u⟩:=ha
 refine⟨tCall (spD K ip n F) [] E0 t,fun j=>?_,zMf D0.len u⟩
 have hF:FnOk (X j).prog (X j).w (X j).K (X j).mg (X j).base CX0 k' f fd ps (spD K ip n F):=by rw[B.P,B.w,M.K,M.mg,B.b]; exact h1
 exact zOg hF ((M.room j).mono hk) (hg j) (by rw[M.mg]; exact h2) (by rw[M.K]; exact h3) (by rw[M.K]; exact h4) .nil pass0 (q j) hdb (he j) (hpl j)
theorem zAS{tg l:Expr}(M:Fm K mg k X)(hl:EX K X l fa):IX K X tg l (dSeqI fa):=let ⟨t,p,s⟩:=hl; ⟨iSeq K t,fun j=>by have:=zN4 (tg:=tg) (p j); rw[M.K j]at this; exact this,zND s⟩
theorem zBj{tg:Expr}(M:Fm K mg k X)(hm:mg "range"=none)(ha:AX K X [a] da)(hg:∀ j,Gl (X j) "range":=by intro _; rfl)(hs:∀ j,Ae [a] (X j).env=[(false,eval a (X j).env)]:=by intro _; rfl):IX K X tg (.Call (.Name "range" p) [a] [] pos) (dRng1 da) :=
 let ⟨_,q,u⟩:=ha; ⟨_,fun j=>zMG (hg j) (by rw[M.mg]; exact hm) (q j) (hs j),zLY u⟩
theorem zAH(i:Nat)(hi:ip≠some i:=by decide)(hN:∀ j,(X j).N.Nodup:=by intro _; show (Fz _); decide +kernel)(hx':∀ j,(X j).N[i]?=some x:=by intro _; rfl)(hx:∀ j,Loc (X j).env.scope x:=by intro _; first | exact Df rfl | exact Ck rfl)
  (hf:∀ j,(X j).fn x=true\/(X j).env.scope.names.lookup x=some .local:=by intro _; first | exact .inl rfl | exact .inr rfl):GX K X ip (.Name x pos) (gdName i):=⟨_,fun j=>zFI (hN j) (hx' j) (hx j) (hf j),zLZ hi⟩
theorem zBD:GXs K X ip [] gdNil:=⟨_,fun _=>zOn,zKt⟩
theorem zAP{f:En->T->Option En}{g:En->List T->Option En}(h1:GX K X ip e f)(h2:GXs K X ip es g)(hst:∀ j,(B7 (e::es) (X j).env).map (·.2)=assign e (X j).env::(B7 es (X j).env).map (·.2):=by intro _; rfl):GXs K X ip (e::es) (gdCons f g) :=
 let ⟨_,p,s⟩:=h1; let ⟨_,q,u⟩:=h2; ⟨_,fun j=>zNc (p j) (q j) (hst j),zJ5 s u⟩
theorem zBa(n:Nat){kk:Nat}{g:En->List T->Option En}(M:Fm K mg k X)(h:GXs K X ip es g)(hn:∀ j,(B7 es (X j).env).length=n:=by intro _; rfl)(hst:∀ j,(B7 es (X j).env).findIdx? (·.1)=none:=by intro _; rfl):GX K X ip (.Tuple es kk pos) (gdTup n g) :=
 let ⟨_,p,s⟩:=h; ⟨_,fun j=>zPC K (M.K j) (M.calm j) (p j) (hn j) (hst j),zNU s⟩
def QX {ι:Type} (K:Fg) (X:ι->Cx) (ifs:List Expr) (f:DT):Prop:=∃ t,(∀ j,PTs (X j) ifs t)/\SimT K t f
noncomputable def dYes:DT:=fun Γ=>some (true,Γ)
theorem zAs:QX K X [] dYes:=⟨_,fun _=>zOy,fun C w Γ σ H b Γ' Q R e k=>by cases e; exact k H R .refl⟩
theorem zCf(h:TX K X c ta):QX K X [c] ta:=let ⟨_,p,s⟩:=h; ⟨_,fun j=>zIV (p j),s⟩
noncomputable abbrev CI (ι:Type):=ι×Addr×List (Str×Addr)×AG×Hp×List Addr
noncomputable abbrev cxF {ι:Type} (X:ι->Cx) (N':List Str) (sc:Cg):CI ι->Cx:=fun q=>cxC (X q.1) N' sc q.2.1 q.2.2.1 q.2.2.2.1 q.2.2.2.2.1 q.2.2.2.2.2
theorem Fm.comp{N':List Str}{sc:Cg}(M:Fm K mg k X):Fm K mg k (cxF X N' sc):=⟨fun j=>M.K j.1,fun j=>M.mg j.1,fun j=>M.calm j.1,fun j=>M.room j.1⟩
theorem Fb.comp{N':List Str}{sc:Cg}(B:Fb P wd base X):Fb P wd base (cxF X N' sc):=⟨fun j=>B.P j.1,fun j=>B.w j.1,fun j=>B.b j.1⟩
theorem zAy{N':List Str}{ix:List (Option Nat)}{sc:Cg}{elt tg iter:Expr}{ifs:List Expr}{di:DI}{g:En->T->Option En}{dc:DT}{de:DE}(mu:Option (Nat×Nat))(M:Fm K mg k X)(S:∀ j,CompOk (X j) N' ix sc)(hi:IX K X tg iter di)
  (hg:GX K (cxF X N' sc) (mu.map (·.1)) tg g) (ht:QX K (cxF X N' sc) ifs dc) (he:EX K (cxF X N' sc) elt de)
  (hmu:∀ j i,mu=some (j,i)->ix[j]?=some (some i):=by intro _ _ e; first | (cases e; rfl) | cases e) (hix:∀ (j j' i:Nat),mu.map (·.2)=some i->ix[j]?=some (some i)->ix[j']?=some (some i)->j=j')
  (hs:∀ j x,Bx iter (X j).env x=pure x:=by intro _ _; rfl):EX K X (.ListComp elt [⟨tg,iter,ifs,0⟩] sc pos) (dComp mu ix di g dc de) :=
 let ⟨_,p1,s1⟩:=hi; let ⟨_,p2,s2⟩:=hg; let ⟨_,p3,s3⟩:=ht; let ⟨_,p4,s4⟩:=he
 ⟨_,fun j=>zIc (S j) (M.calm j) (p1 j) (fun C cs s H ex=>p2 (j,C,cs,s,H,ex)) (fun C cs s H ex=>p3 (j,C,cs,s,H,ex)) (fun C cs s H ex=>p4 (j,C,cs,s,H,ex)) (hs j),zHT s1 s2 s3 s4 hmu hix⟩
theorem hix0{ix:List (Option Nat)}:∀ (j j' i:Nat),(none:Option (Nat×Nat)).map (·.2)=some i->ix[j]?=some (some i)->ix[j']?=some (some i)->j=j':=fun _ _ _ e=>by cases e
noncomputable def onceIx (ix:List (Option Nat)) (j i:Nat):Bool:=(AC ix.length).all fun m=>decide (ix[m]?=some (some i)->m=j)
theorem hix1{ix:List (Option Nat)}{j0 i0:Nat}(h:onceIx ix j0 i0=true):∀ (j j' i:Nat),(some (j0,i0)).map (·.2)=some i->ix[j]?=some (some i)->ix[j']?=some (some i)->j=j':=by
 intro j j' i e h1 h2
 cases e
 have key:∀ m:Nat,ix[m]?=some (some i0)->m=j0:=fun m hm=>by
  have hl:=(Aa.mp hm).1
  have:=BK.mp h m (by simpa using hl)
  exact (of_decide_eq_true this) hm
 rw[key j h1,key j' h2]
theorem zCj{i:Nat}{name:Str}{apos cpos:Pos}{id:String}{r:V->List V->Hp->VK->Prop}{h:En->List T->List S->Option (T×List T)}{y:Str}{yp:Pos}(M:Fm K mg k X)(slot:Slot "list" name id)(hty:Gp (.builtin id)=pure (.type "method_descriptor"))(hm:∀ j,MtM (X j) id r)(hr:SimMut K r h)
  (ho:∀ j,PE (X j) (.Name y yp) (tVar i)) (ha:AX K X (e::es) da)
  (hbase:∀ j,C4 (.Name y yp) name (X j).env (eval (.Name y yp) (X j).env)=eval (.Name y yp) (X j).env:=by intro _; rfl)
  (hfew:∀ j,((CT cpos (Ae (e::es) (X j).env)).all (fun x=>!x.1) && (Gq cpos (E1 [] (X j).env)).all (fun x=>x.1.isSome) && decide ((e::es).length+([]:List D9).length+(if ([]:List D9).isEmpty then 0 else 1) < 30))=true:=by intro _; rfl)
  (hline:(apos.endLine == cpos.line)=true:=by rfl) (hs:∀ j,Ae (e::es) (X j).env=(false,eval e (X j).env)::Ae es (X j).env:=by intro _; rfl) (hplain:∀ j,(CT cpos (Ae es (X j).env)).any (·.1)=false:=by intro _; rfl) :
  EX K X (.Call (.Attribute (.Name y yp) name apos) (e::es) [] cpos) (dMut i h da) :=
 let ⟨t,q,u⟩:=ha; ⟨tBM K "list" r (tVar i) t,fun j=>by have:=zRQ F0 slot hty (hm j) (ho j) (q j) (hbase j) (hfew j) hline (hs j) (hplain j); rw[M.K j]at this; exact this,zIh hr u⟩
theorem zOV{i:Nat}{name:Str}{apos cpos:Pos}{id:String}{r:V->List V->Hp->VK->Prop}{h:En->List T->List S->Option (T×List T)}{y:Str}{yp:Pos}(M:Fm K mg k X)(slot:Slot "list" name id)(hty:Gp (.builtin id)=pure (.type "method_descriptor"))(hm:∀ j,MtM (X j) id r)(hr:SimMut K r h)
  (ho:∀ j,PE (X j) (.Name y yp) (tVar i)) (hbase:∀ j,C4 (.Name y yp) name (X j).env (eval (.Name y yp) (X j).env)=eval (.Name y yp) (X j).env:=by intro _; rfl) (hline:(apos.endLine == cpos.line)=true:=by rfl) :
  EX K X (.Call (.Attribute (.Name y yp) name apos) [] [] cpos) (dMut i h qQ) :=
 ⟨tBM0 K "list" r (tVar i),fun j=>by have:=zP6 F0 slot hty (hm j) (ho j) (hbase j) hline; rw[M.K j]at this; exact this,zMv hr⟩
theorem zHg{apos cpos:Pos}{o:Expr}(M:Fm K mg k X)(ho:EX K X o fa)(ha:AX K X (e::es) da)
  (hbase:∀ j,C4 o "index" (X j).env (eval o (X j).env)=eval o (X j).env:=by intro _; rfl)
  (hfew:∀ j,((CT cpos (Ae (e::es) (X j).env)).all (fun x=>!x.1) && (Gq cpos (E1 [] (X j).env)).all (fun x=>x.1.isSome) && decide ((e::es).length+([]:List D9).length+(if ([]:List D9).isEmpty then 0 else 1) < 30))=true:=by intro _; rfl)
  (hline:(apos.endLine == cpos.line)=true:=by rfl) (hs:∀ j,Ae (e::es) (X j).env=(false,eval e (X j).env)::Ae es (X j).env:=by intro _; rfl) (hplain:∀ j,(CT cpos (Ae es (X j).env)).any (·.1)=false:=by intro _; rfl) :
  EX K X (.Call (.Attribute o "index" apos) (e::es) [] cpos) (dIndex fa da) :=
 have hm:∀ j,MtM (X j) "tuple.index" (rTupIndex K):=fun j=>by have:=zIK (X:=X j); rw[M.K j]at this; exact this
 let ⟨t0,q0,u0⟩:=ho; let ⟨t,q,u⟩:=ha; ⟨tBMS K (rTupIndex K) t0 t,fun j=>by have:=zPp PySem.F.slot_tuple_index PySem.F.type_tuple_index (hm j) (q0 j) (q j) (hbase j) (hfew j) hline (hs j) (hplain j); rw[M.K j]at this; exact this,zK6 u0 u⟩
theorem pv'(i:Nat){x:Str}{pos:Pos}(hN:∀ j,(X j).N[i]?=some x:=by intro _; rfl)(hv:∀ j,Vis (X j).env.scope x:=by intro _; first | exact Df rfl | exact Ck (Df rfl) | exact Ck (Ck rfl))(hd:(x == ("__debug__":Str))=false:=by decide)
  (hcd:(x == ("__classdict__":Str))=false:=by decide):∀ j,PE (X j) (.Name x pos) (tVar i):=fun j=>zDI (hN j) (hv j) hd hcd
variable {st:Stmt}{sts sts':List Stmt}{f g:DS}
theorem zAU:BX K X ip [] dNext:=⟨_,fun _=>zNy,zKh⟩
theorem zAF(h:SX K X ip st f):BX K X ip [st] f:=let ⟨_,p,s⟩:=h; ⟨_,fun j=>zOE (p j),s⟩
theorem zAB(h:SX K X ip st f)(h2:BX K X ip sts g):BX K X ip (st::sts) (dSeq f g):=let ⟨_,p,s⟩:=h; let ⟨_,q,u⟩:=h2; ⟨_,fun j=>zMl (p j) (q j),zNR s u⟩
theorem zH8:SX K X ip st dNever:=⟨_,fun _=>zNW,zJj (ts:=dNever)⟩
theorem zCX(h:EX K X e fa)(hs:∀ j,Ds e none pos.line (X j).env=pure false:=by intro _; rfl):SX K X ip (.Expr e pos) (dDrop fa):=let ⟨_,p,s⟩:=h; ⟨_,fun j=>zO3 (p j) (hs j),zLm s⟩
theorem zAJ(h:EX K X e fa):SX K X ip (.Return (some e) pos) (dRet fa):=let ⟨_,p,s⟩:=h; ⟨_,fun j=>zP5 (p j),zMy s⟩
theorem zAb(hc:TX K X c ta)(h1:BX K X ip sts f)(h2:BX K X ip sts' g):SX K X ip (.If c sts sts' pos) (dIf ta f g):=let ⟨_,p,s⟩:=hc; let ⟨_,q,u⟩:=h1; let ⟨_,q',u'⟩:=h2; ⟨_,fun j=>zRO (p j) (q j) (q' j),zO8 s u u'⟩
theorem zAI(i:Nat){pos':Pos}(h:EX K X e fa)(hi:ip≠some i:=by decide)(hN:∀ j,(X j).N.Nodup:=by intro _; show (Fz _); decide +kernel)(hx':∀ j,(X j).N[i]?=some x:=by intro _; rfl)(hx:∀ j,Loc (X j).env.scope x:=by intro _; first | exact Df rfl | exact Ck rfl)
  (hs:∀ j,Ds e (some (.Name x pos')) pos.line (X j).env=pure false:=by intro _; rfl) (hf:∀ j,(X j).fn x=true\/(X j).env.scope.names.lookup x=some .local:=by intro _; first | exact .inl rfl | exact .inr rfl):SX K X ip (.Assign [.Name x pos'] e pos) (dSet i fa) :=
 let ⟨_,p,s⟩:=h; ⟨_,fun j=>zQK (hN j) (hx' j) (hx j) (p j) (hs j) (hf j),zHS s hi⟩
theorem zBB{N':List Str}{ix:List (Option Nat)}{sc:Cg}{elt tg iter:Expr}{ifs:List Expr}{di:DI}{gg:En->T->Option En}{dc:DT}{de:DE}{pos' spos:Pos}(i:Nat)(mu:Option (Nat×Nat))(M:Fm K mg k X)(S:∀ j,CompOk (X j) N' ix sc)(h1:IX K X tg iter di)
  (hg:GX K (cxF X N' sc) (mu.map (·.1)) tg gg) (ht:QX K (cxF X N' sc) ifs dc) (he:EX K (cxF X N' sc) elt de)
  (hix:∀ (j j' i:Nat),mu.map (·.2)=some i->ix[j]?=some (some i)->ix[j']?=some (some i)->j=j') (hi:ip≠some i:=by decide) (hmu:∀ j i,mu=some (j,i)->ix[j]?=some (some i):=by intro _ _ e; first | (cases e; rfl) | cases e)
  (hN:∀ j,(X j).N.Nodup:=by intro _; show (Fz _); decide +kernel) (hx':∀ j,(X j).N[i]?=some x:=by intro _; rfl) (hx:∀ j,Loc (X j).env.scope x:=by intro _; first | exact Df rfl | exact Ck rfl)
  (hsw:∀ j,Ds (.ListComp elt [⟨tg,iter,ifs,0⟩] sc pos) (some (.Name x pos')) spos.line (X j).env=pure true:=by intro _; rfl)
  (hf:∀ j,(X j).fn x=true\/(X j).env.scope.names.lookup x=some .local:=by intro _; first | exact .inl rfl | exact .inr rfl)
  (hs:∀ j x,Bx iter (X j).env x=pure x:=by intro _ _; rfl):SX K X ip (.Assign [.Name x pos'] (.ListComp elt [⟨tg,iter,ifs,0⟩] sc pos) spos) (dSet i (dComp mu ix di gg dc de)) :=
 let ⟨_,p1,s1⟩:=h1; let ⟨_,p2,s2⟩:=hg; let ⟨_,p3,s3⟩:=ht; let ⟨_,p4,s4⟩:=he
 ⟨_,fun j=>zOa (hN j) (hx' j) (hx j) (S j) (M.calm j) (p1 j) (fun C cs s H ex=>p2 (j,C,cs,s,H,ex)) (fun C cs s H ex=>p3 (j,C,cs,s,H,ex)) (fun C cs s H ex=>p4 (j,C,cs,s,H,ex)) (hsw j) (hf j) (hs j),zHS (zHT s1 s2 s3 s4 hmu hix) hi⟩
theorem zHC(i:Nat){y:Str}{yp p2:Pos}(he:EX K X e fa)(ho:∀ j,PE (X j) (.Name y yp) (tVar i))(hb:EX K X b fb)(hs:∀ j,EE [.Subscript (.Name y yp) b p2] e pos.line (X j).env=pure false:=by intro _; rfl)(hw:∀ j,EF [.Subscript (.Name y yp) b p2] e (X j).env=pure none:=by intro _; rfl)
  (hA:∀ j v,assign (.Subscript (.Name y yp) b p2) (X j).env v=(do let ov ← holding [v] (eval (.Name y yp) (X j).env); let iv ← holding [v,ov] (eval b (X j).env); JJ p2; holding [v,ov,iv] (JH ov iv v); release [v,ov,iv] []):=by intro _ _; rfl) (h1:∀ j,(B7 [.Subscript (.Name y yp) b p2] (X j).env).map (·.2)=[assign (.Subscript (.Name y yp) b p2) (X j).env]:=by intro _; rfl) :
  SX K X ip (.Assign [.Subscript (.Name y yp) b p2] e pos) (dSetIx i fa fb) :=
 let ⟨_,p,s⟩:=he; let ⟨_,q,u⟩:=hb; ⟨_,fun j=>zMD (p j) (zPk (ho j) (q j) zMz (hA j)) (hs j) (hw j) (h1 j),zKJ s u⟩
theorem zGx{tg:Expr}{gg:En->T->Option En}(he:EX K X e fa)(hg:GX K X ip tg gg)(hs:∀ j,EE [tg] e pos.line (X j).env=pure false:=by intro _; rfl)(hw:∀ j,EF [tg] e (X j).env=pure none:=by intro _; rfl)(h1:∀ j,(B7 [tg] (X j).env).map (·.2)=[assign tg (X j).env]:=by intro _; rfl):SX K X ip (.Assign [tg] e pos) (dUnp gg fa) :=
 let ⟨_,p,s⟩:=he; let ⟨_,q,u⟩:=hg; ⟨_,fun j=>zMD (p j) (q j) (hs j) (hw j) (h1 j),zMx s u⟩
theorem zO0(i1 i2 i3:Nat){x1 x2 x3:Str}{px py pz pt:Pos}{kt k2 pt2}(M:Fm K mg k X)(ha:AX K X [a,b,c] da)(h12:i1≠i2:=by decide)(h13:i1≠i3:=by decide)(h23:i2≠i3:=by decide)(hi1:ip≠some i1:=by decide)(hi2:ip≠some i2:=by decide)(hi3:ip≠some i3:=by decide)(hN:∀ j,(X j).N.Nodup:=by intro _; show (Fz _); decide +kernel)
  (e1:∀ j,(X j).N[i1]?=some x1:=by intro _; rfl) (e2:∀ j,(X j).N[i2]?=some x2:=by intro _; rfl) (e3:∀ j,(X j).N[i3]?=some x3:=by intro _; rfl) (l1:∀ j,(X j).env.scope.names.lookup x1=some .local:=by intro _; rfl) (l2:∀ j,(X j).env.scope.names.lookup x2=some .local:=by intro _; rfl) (l3:∀ j,(X j).env.scope.names.lookup x3=some .local:=by intro _; rfl)
  (hw:∀ j,EF [.Tuple [.Name x1 px,.Name x2 py,.Name x3 pz] kt pt] (.Tuple [a,b,c] k2 pt2) (X j).env=pure (some [x1,x2,x3]):=by intro _; rfl)
  (hs:∀ j,EE [.Tuple [.Name x1 px,.Name x2 py,.Name x3 pz] kt pt] (.Tuple [a,b,c] k2 pt2) pos.line (X j).env=pure false:=by intro _; rfl) :
  SX K X ip (.Assign [.Tuple [.Name x1 px,.Name x2 py,.Name x3 pz] kt pt] (.Tuple [a,b,c] k2 pt2) pos) (dPar3 i1 i2 i3 da) :=
 let ⟨_,q,u⟩:=ha; ⟨_,fun j=>zOm (M.calm j) (hN j) (e1 j) (e2 j) (e3 j) h12 h13 h23 (l1 j) (l2 j) (l3 j) (q j) (hw j) (hs j),zLe u hi1 hi2 hi3⟩
theorem zM8(nn:Nat)(hp:∀ j,HV (model (X j).prog (X j).w) (X j).A (X j).env (X j).xe)(hc:TX K X c ta)(hb:BX K X ip sts f):SX K X ip (.While c sts [] pos) (dWhile ta f nn) :=
 let ⟨_,p,s⟩:=hc; let ⟨_,q,u⟩:=hb; ⟨_,fun j=>zMu (hp j) (p j) (q j),zJo nn s u⟩
theorem zA8{tg iter:Expr}{di:DI}{gg:En->T->Option En}(M:Fm K mg k X)(hp:∀ j,HV (model (X j).prog (X j).w) (X j).A (X j).env (X j).xe)(hi:IX K X tg iter di)(hg:GX K X ip tg gg)(hb:BX K X ip sts f)
  (hs:∀ j x,Bx iter (X j).env x=pure x:=by intro _ _; rfl):SX K X ip (.For tg iter sts [] pos) (dFor ip di gg f) :=
 let ⟨_,p1,s1⟩:=hi; let ⟨_,p2,s2⟩:=hg; let ⟨_,p3,s3⟩:=hb; ⟨_,fun j=>zP3 (hp j) (M.calm j) (p1 j) (p2 j) (p3 j) (hs j),zMt s1 s2 s3⟩
end
section
variable {P:Ah}{wd:Aw}{base:Heap}{K:Fg}{mg:Str->Option AB}{k:Nat}
noncomputable abbrev cx1 (P:Ah) (wd:Aw) (K:Fg) (mg:Str->Option AB) (base:Heap) (N:List Str) (qual:Str) (sc:Cg) (f:Addr) (cdv:AB) (A:A4) (outer:List Env) (s:AG) (H:Hp) (E:XK):Unit->Cx:=fun _=>(cxOf CX0 P wd K mg base N qual sc f cdv A outer s H E).nox
theorem zAO{x:Str}{st:Stmt}{f:Addr}{fd:Ai}{N ps:List Str}{ip:Option Nat}{g:DS}(F:Fun K x x st f fd)(S:FnScope N ps (defScope st))(hm:mg x=some (.ref f))(hb:Binds K fd ps [])
  (body:∀ (cdv:AB) (A:A4) (outer:List Env) (s:AG) (H:Hp) (E:XK),Fm K mg k (cx1 P wd K mg base N x (defScope st) f cdv A outer s H E)->Fb P wd base (cx1 P wd K mg base N x (defScope st) f cdv A outer s H E)->BX K (cx1 P wd K mg base N x (defScope st) f cdv A outer s H E) ip (defBody st) g) :
  FD P wd K mg base (k+1) x ip ps.length (fnD ip ps.length N.length g):=by
 refine⟨⟨f,fd,ps,?_,hm,F.kp,hb⟩,zOi⟩
 refine F.ok S (fun vs H Q E h=>h.1) fun cdv A outer s H vs Q E hr h=>?_
 obtain⟨t,p,u⟩:=body cdv A outer s H E ⟨fun _=>rfl,fun _=>rfl,fun _=>rfl,fun _=>hr⟩ ⟨fun _=>rfl,fun _=>rfl,fun _=>rfl⟩
 exact⟨t,p (),zIq u h⟩
end
section
variable {P:Ah}{wd:Aw}{base:Heap}{K:Fg}{mg:Str->Option AB}{k:Nat}
theorem zQb{x:Str}{st:Stmt}{f:Addr}{fd:Ai}{N ps:List Str}{ip:Option Nat}{g:DS}(F:Fun K x x st f fd)(S:FnScope N ps (defScope st))
  (body:∀ (cdv:AB) (A:A4) (outer:List Env) (s:AG) (H:Hp) (E:XK),Fm K mg k (cx1 P wd K mg base N x (defScope st) f cdv A outer s H E)->Fb P wd base (cx1 P wd K mg base N x (defScope st) f cdv A outer s H E)->BX K (cx1 P wd K mg base N x (defScope st) f cdv A outer s H E) ip (defBody st) g) :
  FnOk P wd K mg base CX0 (k+1) f fd ps (spD K ip ps.length (fnD ip ps.length N.length g)):=by
 refine F.ok S (fun vs H Q E h=>h.1) fun cdv A outer s H vs Q E hr h=>?_
 obtain⟨t,p,u⟩:=body cdv A outer s H E ⟨fun _=>rfl,fun _=>rfl,fun _=>rfl,fun _=>hr⟩ ⟨fun _=>rfl,fun _=>rfl,fun _=>rfl⟩
 exact⟨t,p (),zIq u h⟩
theorem len1{us:List AB}(h:us.length=1):∃ a,us=[a]:=List.length_eq_one_iff.mp h
theorem lenSc{us:List AB}{n:Nat}(h:us.length=n+1):∃ a r,us=a::r/\r.length=n:=by
 cases us with
 | nil=>cases h
 | cons a r=>exact⟨a,r,rfl,Nat.succ.inj h⟩
theorem len2{us:List AB}(h:us.length=2):∃ a b,us=[a,b]:=by
 obtain⟨a,r,rfl,h'⟩:=lenSc h
 obtain⟨b,rfl⟩:=len1 h'
 exact⟨a,b,rfl⟩
theorem len3{us:List AB}(h:us.length=3):∃ a b c,us=[a,b,c]:=by
 obtain⟨a,r,rfl,h'⟩:=lenSc h
 obtain⟨b,c,rfl⟩:=len2 h'
 exact⟨a,b,c,rfl⟩
theorem len4{us:List AB}(h:us.length=4):∃ a b c d,us=[a,b,c,d]:=by
 obtain⟨a,r,rfl,h'⟩:=lenSc h
 obtain⟨b,c,d,rfl⟩:=len3 h'
 exact⟨a,b,c,d,rfl⟩
noncomputable def intsT (ns:List Int):List T:=ns.map fun i=>.a (.int i)
theorem zO5{F:DF}{H:Hp}{a:Addr}{ns:List Int}(hO:Only H)(hS:SqL K H a (ns.map V.int))(h:F [.k (intsT ns)]=some (.v (.a (.bl true)),[])):spD K none 1 F [.ref a] H (fun v _=>v=.bl true) fun _ _ _=>False:=by
 have hK:KF K H a (ns.map V.int):=KF.of hS fun us e=>by
  rcases hO a with z | ⟨o,xs,z⟩
  ·rw[e]at z; cases z
  ·rw[e]at z; cases z
 refine⟨rfl,⟨[],fun _=>False⟩,_,_,_,h,⟨rfl,fun i g e=>?_,fun i j p ga gb ma mb e=>?_,fun p hp=>(nomatch hp),fun p hp=>(nomatch hp),fun p hp=>hp.elim,fun p hp=>hp.elim,fun b o e _=>e,fun q hq=>(nomatch hq)⟩,rfl,(fun p hp=>nomatch hp),fun v H' _ _ hr=>?_⟩
 ·match i,e with
  | 0,e =>
   cases e
   refine⟨_,rfl,a,ns.map V.int,rfl,?_,hK⟩
   have:intsT ns=(ns.map V.int).map T.a:=by simp[intsT]
   rw[this]
   exact Ims.atoms _
  | i+1,e=>simp at e
 ·match i,e with
  | 0,e=>cases e; cases ma
  | i+1,e=>simp at e
 ·exact (show Im K H' v (.a (.bl true)) from hr).inva
end
end D
namespace D
open PySem L2
end D
namespace L2
open PySem PySem.Spec PyProof.Rows
theorem zOP:Slot "reversed" "__init__" "object.__init__" :=
 .of (owner:="object") (n:="__init__") (by rw[Ek,DX]; kernel_rfl) (by decide +kernel) (by decide +kernel) (by decide +kernel)
  (by first | exact .inl (by decide +kernel) | exact .inr (by decide +kernel)) (by rw[Dz]; kernel_rfl)
theorem zLd:TypeCalled "reversed" "reversed.__new__" "object.__init__" :=
 ⟨by decide +kernel,by decide +kernel,⟨_,_,F.mro_reversed⟩,F.made_reversed,by decide +kernel,by rw[Dz]; kernel_rfl,zOP⟩
theorem zGg:Manifest.owners.lookup (String.ofList ['d','e','s','r','e','v','e','r'].reverse)=some Manifest.sig_reversed:=by kernel_rfl
theorem zCY:Slot "reversed" "__next__" "reversed.__next__" :=
 .of (owner:="reversed") (n:="__next__") (by rw[Ek,DX]; kernel_rfl) (by decide +kernel) (by decide +kernel) (by decide +kernel)
  (by first | exact .inl (by decide +kernel) | exact .inr (by decide +kernel)) (by rw[Dz]; kernel_rfl)
theorem zC7:entryFor table "reversed.__next__"=some Builtin.«reversed.__next__»:=entryFor_of_tree (by kernel_rfl)
theorem zIs:Slot "reversed" "__iter__" "reversed.__iter__" :=
 .of (owner:="reversed") (n:="__iter__") (by rw[Ek,DX]; kernel_rfl) (by decide +kernel) (by decide +kernel) (by decide +kernel)
  (by first | exact .inl (by decide +kernel) | exact .inr (by decide +kernel)) (by rw[Dz]; kernel_rfl)
theorem zO6:Iq (.type "tuple") "__reversed__"=pure none:=by rw[Ek,DX]; kernel_rfl
theorem zOO:isSubtype (.type "tuple") (.type "dict")=pure false:=by rw[Dz]; kernel_rfl
theorem zDR(a:AB):Kh "reversed.__next__" ⟨[a],[]⟩:=by
 unfold Kh; rw[K6 (id:="reversed.__next__") (n:=['_','_','t','x','e','n','_','_']) (o:=['d','e','s','r','e','v','e','r']) (by kernel_rfl) zGg]; kernel_rfl
theorem zGj(a:AB):Kh "reversed.__iter__" ⟨[a],[]⟩:=by
 unfold Kh; rw[K6 (id:="reversed.__iter__") (n:=['_','_','r','e','t','i','_','_']) (o:=['d','e','s','r','e','v','e','r']) (by kernel_rfl) zGg]; kernel_rfl
theorem zGO:entryFor table "reversed.__iter__"=some Builtin.«dict_keyiterator.__iter__» :=
 entryFor_alias (id':="dict_keyiterator.__iter__") (by kernel_rfl) (by first | rfl | decide +kernel | (unfold String.splitOn; simp +decide [String.splitOnAux])) (by decide +kernel) (by kernel_rfl)
abbrev IsRv (h:Heap) (e l:Addr) (i:Int):Prop:=h.get? e=some { cls:=.type "reversed",dict:=none,data:=.fields #[.ref l,FX i],slots:=#[] }
section
variable {prog:Ah}{w:Aw}{A:A4}{E:AB->AG->Prop}{s:AG}
theorem zPA{l:Addr}{xs:Array AB}{Q:Bool->AG->Prop}(hl:s.heap.IsTuple l xs)(hQ:Q true s):AV (model prog w) A (do
  if ← isInstance (.ref l) (.type "dict") then return false
  match ← specialOf (.ref l) "__getitem__" with
  | none=>return false
  | some (.builtin id) =>
   if ["tuple.__getitem__","str.__getitem__","bytes.__getitem__","bytearray.__getitem__","memoryview.__getitem__","numpy.ndarray.__getitem__","sqlite3.Row.__getitem__"].contains id then return true
   if id == "sqlite3.Blob.__getitem__" then return false
   unsupported "reversed.__new__:is-it-a-sequence"
  | some _=>return true) Q E s:=by
 refine AD (GI hl.typeIs zOO ?_)
 refine AD (El hl.typeIs Hs.lookup ?_)
 exact AO hQ
theorem zLA(l:Addr)(xs:Array AB)(hz:xs.size<=AE) :
  Meets (Builtin.«reversed.__new__» ⟨[.type "reversed",.ref l],[]⟩) (fun _ R s=>s.heap.IsTuple l xs /\
   R (.ok (.ret (.ref s.heap.objs.size))) { s with heap:=s.heap.push { cls:=.type "reversed",data:=.fields #[.ref l,FX ((xs.size:Int) - 1)] },toks:=s.toks+1+1 }) :=
 .of_wp fun prog w A R s h=>by
  obtain⟨hl,h⟩:=h
  unfold Builtin.«reversed.__new__»
  refine AD (Dn (newClass_reversed _) ?_)
  try dsimp only
  refine AD (Dn (a:=()) (by first | rfl | kernel_rfl) ?_)
  refine AD (Dn (a:=()) (by first | rfl | kernel_rfl) ?_)
  try dsimp only
  refine AD (El hl.typeIs zO6 ?_)
  try dsimp only
  refine AD (zPA hl ?_)
  rw[if_neg (by decide)]
  refine AD (len_tuple hl (by have:=hz; rw[BM]at this; lia) ?_)
  refine AD (Dn (a:=some (xs.size:Int)) (by first | rfl | kernel_rfl) ?_)
  try dsimp only
  refine AD (m:=EB _ _) ?_
  unfold EB
  refine BR ?_ (by size_fits)
  exact AO ⟨_,rfl,h⟩
theorem zNA{l:Addr}{xs:Array AB}{Q:AB->AG->Prop}(hl:s.heap.IsTuple l xs)(hz:xs.size<=AE)
  (h:∀ h' tk,IsRv h' s.heap.objs.size l ((xs.size:Int) - 1)->(∀ c o,s.heap.get? c=some o->h'.get? c=some o)->Q (.ref s.heap.objs.size) { s with heap:=h',toks:=tk }) :
  AV (model prog w) A (call (.type "reversed") [.ref l]) Q E s:=by
 refine LI zLd (by decide) (F.typeCall_reversed_1 _) (F.newCall_reversed_1 _) (fun obj=>Ho obj _) F.entry_reversed_new (zLA l xs hz) ⟨hl,?_⟩
 have g:=AZ s.heap (o:={ cls:=.type "reversed",data:=.fields #[.ref l,FX ((xs.size:Int) - 1)] }) rfl
 exact⟨⟨_,g,rfl⟩,h _ _ g fun c o x=>AM _ x⟩
theorem zFz{e l:Addr}{i:Int}{Q:AB->AG->Prop}(he:IsRv s.heap e l i)(h:Q (.ref e) s):AV (model prog w) A (Io (.ref e)) Q E s:=by
 have hT:s.TypeIs (.ref e) "reversed":=⟨_,he,rfl⟩
 refine JQ hT zIs (Bu zIs hT zGO ?_ (zGj _))
 show AV _ _ (ret (.ref e)) _ _ s
 exact AO ⟨_,rfl,"reversed",_,hT,zCY.lookup,h⟩
theorem zOh{e l:Addr}{i:Nat}{xs:Array AB}{x:AB}{Q:Option AB->AG->Prop}(he:IsRv s.heap e l (i:Int))(hl:s.heap.IsTuple l xs)(hz:xs.size<=AE)(hx:xs[i]?=some x)
  (hQ:∀ h' tk,IsRv h' e l ((i:Int) - 1)->C6 e s.heap h'->Q (some x) { s with heap:=h',toks:=tk }):AV (model prog w) A (Ec (.ref e)) Q E s:=by
 have hT:s.TypeIs (.ref e) "reversed":=⟨_,he,rfl⟩
 have hi:i < xs.size:=(Array.getElem?_eq_some_iff.mp hx).1
 rw[BM]at hz
 obtain⟨hp,g,d,tk,os⟩:=s
 unfold Ec
 refine AD (Dg (B5 (name:=Di "__next__") hT zCY (Bu zCY hT zC7 ?_ (zDR _))))
 unfold Builtin.«reversed.__next__»
 refine AD (Dn (a:=(BP e,[])) rfl ?_)
 try dsimp only
 refine AD (DG he rfl (x:=.ref l) rfl ?_)
 refine AD (DG he rfl (x:=FX (i:Int)) rfl ?_)
 show AV _ _ (if (i:Int) < 0 then _ else _) _ _ _
 rw[if_neg (by lia)]
 refine AD (El hl.typeIs Hs.lookup ?_)
 try dsimp only
 rw[if_neg (by decide)]
 refine AD (wpAny_mkInt ?_)
 refine AD (Dg (KG (j:=i) hl (by lia) (by lia) (by rw[GQ (by lia) (by lia),Du]) hx ?_))
 show AV _ _ (field (.ref e) 1 >>= _) _ _ _
 refine AD (DG he rfl (x:=FX (i:Int)) rfl ?_)
 show AV _ _ (Ki (.ref e) 1 (FX ((i:Int) - 1)) >>= _) _ _ _
 refine AD (Fc he (by simp) fun h1 e1 b1=>?_)
 exact AO ⟨x,rfl,AO (hQ h1 _ e1 b1)⟩
theorem zPR{e l:Addr}{Q:Option AB->AG->Prop}(hh:A.handled=none)(he:IsRv s.heap e l (-1))(hQ:∀ h',G8 e s.heap h'->Q none { s with heap:=h' }):AV (model prog w) A (Ec (.ref e)) Q E s:=by
 have hT:s.TypeIs (.ref e) "reversed":=⟨_,he,rfl⟩
 obtain⟨hp,g,d,tk,os⟩:=s
 unfold Ec
 refine AD (Dg (B5 (name:=Di "__next__") hT zCY (Bu zCY hT zC7 ?_ (zDR _))))
 unfold Builtin.«reversed.__next__»
 refine AD (Dn (a:=(BP e,[])) rfl ?_)
 try dsimp only
 refine AD (DG he rfl (x:=.ref l) rfl ?_)
 refine AD (DG he rfl (x:=FX (-1)) rfl ?_)
 show AV _ _ (if (-1:Int) < 0 then _ else _) _ _ _
 rw[if_pos (by decide)]
 refine AD (Gr ?_)
 refine AD ?_
 show AV _ _ (Ki (.ref e) 1 (FX (-1)) >>= fun _=>Ki (.ref e) 0 .none) _ _ _
 refine AD (Fc he (by simp) fun h1 e1 b1=>?_)
 replace e1:IsRv h1 e l (-1):=e1
 refine Fc e1 (by simp) fun h2 e2 b2=>?_
 replace b1:C6 e hp h1:=b1
 replace b2:C6 e h1 h2:=b2
 have x2:G8 e hp h2:=fun c o hc q=>b2.extBut c o hc (b1.extBut c o hc q)
 refine AD ?_
 show AV _ _ (newExc (.type "StopIteration") [] >>= _) _ _ _
 refine AD ?_
 simp only[newExc,newTuple]
 refine AD (BR ?_ (by size_fits))
 refine AD (m:=Kj _ _) (Dn (a:=CB) (by first | rfl | (simp only[Kj]; rfl)) ?_)
 refine BR ?_ (by size_fits)
 simp only[raiseNew]
 refine AD (K7 ?_)
 first | rw[show A.in1.handled=none from hh] | rw[hh]
 refine AD (AO (wpAny_throw ?_))
 refine AD (GI (T:="StopIteration") (b:=true) ⟨_,AZ _ rfl,rfl⟩ Kk ?_)
 exact AO (hQ _ ((x2.push _).push _))
end
noncomputable def Itv (K:AU) (a1:Addr) (n:Nat):It :=
 ⟨fun i H=>∃ xs x,SqT K H a1 xs/\xs.length=n/\i < n/\xs[n - 1 - i]?=some x,
  fun i H v H'=>H'=H/\∀ xs,SqT K H a1 xs->xs[n - 1 - i]?=some v,
  fun i H=>i=n⟩
theorem zN5{P:Ah}{w:Aw}{K:AU}{tg:Expr}{e a1:Addr}(n:Nat)(hle:a1≠e) :
  Turn P w K tg (Itv K a1 n) [e] e (fun i h=>IsRv h e a1 ((n:Int) - 1 - (i:Int))) where
 mem:=by simp
 obj:=fun i h st c hc=>by
  have q:c=e:=by simpa using hc
  exact⟨_,q ▸ st,fun v z=>by cases z⟩
 keep:=fun i h h' st k=>k e (by simp) _ st
 item:=by
  intro X hP hw hK hc i pins s σ H E I hf st hg
  subst hP hw hK
  obtain⟨xs,x,h1,hn,hi,hx⟩:=hg
  obtain⟨its1,v1,o1,z1⟩:=I.tuple h1
  obtain⟨u1,e1,r1⟩:=v1.get hx
  have l1:=v1.length
  have ei:(n:Int) - 1 - (i:Int)=((n - 1 - i:Nat):Int):=by lia
  have st':IsRv s.heap e a1 ((n - 1 - i:Nat):Int):=by rw[← ei]; exact st
  obtain⟨f0,f1,f2,f3,f4,f5⟩:=hf e (by simp)
  refine zOh (xs:=its1.toArray) st' (show s.heap.IsTuple a1 its1.toArray from o1) (by rw[AN]; lia) (by simpa using e1) fun h' tk he sb=>?_
  have I1:Inv X pins σ H { s with heap:=h',toks:=tk }:=I.turned (t':=tk) (fun b o hb q=>(sb.2 b hb).trans q) f0 f1 f3 f4 f5
  have he':IsRv h' e a1 ((n:Int) - 1 - ((i+1:Nat):Int)):=by
   have:(n:Int) - 1 - ((i+1:Nat):Int)=((n - 1 - i:Nat):Int) - 1:=by lia
   rw[this]; exact he
  exact⟨u1,rfl,zEv (s:={ s with heap:=h',toks:=tk }) he' rfl rfl (by decide) ⟨x,H,I1,r1,⟨rfl,fun ys hy=>by rw[I.tuple_inj hy h1]; exact hx⟩,he',fun b hb=>(hf b hb).1⟩⟩
 done:=by
  intro X hP hw hK hc i pins s σ H E I hf st hg
  subst hP hw hK
  have hg:i=n:=hg
  subst hg
  obtain⟨f0,f1,f2,f3,f4,f5⟩:=hf e (by simp)
  have st':IsRv s.heap e a1 (-1):=by
   have:(i:Int) - 1 - (i:Int)=-1:=by lia
   rw[← this]; exact st
  exact zPR (I.ok.hd hc) st' fun h' eb=>⟨rfl,I.turned (t':=s.toks) (fun b o hb q=>eb b o hb q) f0 f1 f3 f4 f5⟩
 self:=fun _ _ _ _ _ st h=>zFz st h
section
variable {X:Cx}{tg:Expr}
noncomputable def iRevU (K:AU) (ta:TA):TI:=fun σ H R=>ta σ H fun vs H1=>∃ (a1:Addr) (xs:List V),vs=[.ref a1]/\SqT K H1 a1 xs/\R (Itv K a1 xs.length) H1
theorem zOJ{e1:Expr}{ta:TA}{p pos:Pos}(hg:Gl X "reversed")(hm:X.mg "reversed"=none)(ha:PA X [e1] ta)(hs:Ae [e1] X.env=[(false,eval e1 X.env)]:=by rfl) :
  PI X tg (.Call (.Name "reversed" p) [e1] [] pos) (iRevU X.K ta):=by
 intro pins s σ H R I h
 refine Call_ (zDL I hg hm boot_reversed (DB (thn (ha pos pins s σ H _ I h) fun us s1 ⟨vs,H1,I1,r1,q1⟩=>?_) (by rw[hs]; rfl) (by rfl)))
 obtain⟨a1,xs,e,h1,q⟩:=q1
 subst e
 obtain⟨u1,e,r⟩:=r1.one
 subst e
 cases r
 obtain⟨its1,v1,o1,z1⟩:=I1.tuple h1
 have l1:=v1.length
 have lt1:a1 < s1.heap.objs.size:=by obtain⟨o,e,_⟩:=(show s1.heap.IsTuple a1 its1.toArray from o1); exact AY e
 refine zNA (show s1.heap.IsTuple a1 its1.toArray from o1) (by rw[AN]; lia) fun h' tk st hk=>?_
 have st':IsRv h' s1.heap.objs.size a1 ((xs.length:Int) - 1 - ((0:Nat):Int)):=by
  have:((xs.length:Int) - 1 - ((0:Nat):Int))=(its1.toArray.size:Int) - 1:=by rw[AN]; lia
  rw[this]; exact st
 refine zFz st' ?_
 refine⟨_,_,_,_,H1,rfl,I1.kept (t':=tk) hk,zN5 xs.length (BA lt1),st',fun c hc=>?_,q⟩
 have e:c=s1.heap.objs.size:=by simpa using hc
 subst e
 exact I1.fpOk (AL _) (I1.hok.fresh (AL _))
end
end L2
namespace D
open PySem L2
noncomputable def dRev (fa:DA):DI:=fun Γ=>(fa Γ).bind fun p=>match p.1 with
 | [.v (.t xs)]=>gd xs.length ((xs.reverse,[]),p.2)
 | _=>none
section
variable {K:Fg}
theorem zNS{ta:TA}{fa:DA}(ha:SimA K ta fa):SimI K (iRevU K ta) (dRev fa):=by
 intro C w Γ σ H its src Γ' R Rp e k
 obtain⟨⟨as,G1⟩,e1,e⟩:=bind_some e
 dsimp only at e
 split at e
 ·rename_i xs
  obtain⟨hz,e⟩:=zB0 e
  cases e
  refine ha C w Γ σ H _ _ _ Rp e1 fun vs H1 R1 ev1 o1 n1=>?_
  obtain⟨v,rfl,o2⟩:=soks1 o1
  obtain⟨p,vs,rfl,h1,i1⟩:=o2.invt
  refine⟨p,vs,rfl,h1.sq,k _ H1 R1 ev1 ⟨by simpa using hz,fun L' hs av H2 ev=>?_⟩⟩
  have hL:LL L' H1:=fun q hq=>R1.lst q (hs q hq)
  have h2:=(zGw ev hL h1).sq
  have i2:=i1.evo ev hL
  have l2:=i2.len
  refine⟨fun i t e=>?_,by show _=_; simp[l2]⟩
  have hi:i < xs.length:=by simpa using (Aa.mp e).1
  rw[Gv hi]at e
  obtain⟨v,e3,hv⟩:=i2.get e
  refine⟨⟨vs,v,h2,rfl,by lia,by rw[l2]; exact e3⟩,fun x H3 y=>?_⟩
  obtain⟨rfl,k1⟩:=y
  have q1:=k1 vs h2
  rw[l2,e3]at q1; cases q1
  exact⟨fun b o e=>e,hv⟩
 ·cases e
end
section
variable {ι:Type}{K:Fg}{X:ι->Cx}{mg:Str->Option AB}{k:Nat}{a:Expr}{da:DA}{p pos:Pos}
theorem zLg{tg:Expr}(M:Fm K mg k X)(hm:mg "reversed"=none)(ha:AX K X [a] da)(hg:∀ j,Gl (X j) "reversed":=by intro _; rfl)(hs:∀ j,Ae [a] (X j).env=[(false,eval a (X j).env)]:=by intro _; rfl) :
  IX K X tg (.Call (.Name "reversed" p) [a] [] pos) (dRev da) :=
 let ⟨t,q,u⟩:=ha; ⟨iRevU K t,fun j=>by have:=zOJ (tg:=tg) (p:=p) (pos:=pos) (hg j) (by rw[M.mg]; exact hm) (q j) (hs j); rw[M.K j]at this; exact this,zNS u⟩
end
noncomputable def insI (x:Int):List Int->List Int
 | []=>[x]
 | y::r=>if x<=y then x::y::r else y::insI x r
noncomputable def sortI:List Int->List Int
 | []=>[]
 | x::r=>insI x (sortI r)
theorem zDD(x:Int):∀ l,(insI x l).Perm (x::l)
 | []=>.refl _
 | y::r=>by
  unfold insI
  split
  ·exact .refl _
  ·exact ((zDD x r).cons y).trans (LO x y r)
theorem zB5:∀ l,(sortI l).Perm l
 | []=>.refl _
 | x::r=>(zDD x _).trans ((zB5 r).cons x)
theorem zD6(x:Int):∀ l:List Int,l.Pairwise (·<=·)->(insI x l).Pairwise (·<=·)
 | [],_=>by simp[insI]
 | y::r,h=>by
  unfold insI
  have h':=Bb.mp h
  split
  ·rename_i hx
   exact Bb.mpr ⟨fun z hz=>by
    rcases AS.mp hz with e | e
    ·lia
    ·have:=h'.1 z e; lia,h⟩
  ·rename_i hx
   exact Bb.mpr ⟨fun z hz=>by
    have:=(zDD x r).subset hz
    rcases AS.mp this with e | e
    ·lia
    ·exact h'.1 z e,zD6 x r h'.2⟩
theorem zBb:∀ l,(sortI l).Pairwise (·<=·)
 | []=>.nil
 | x::r=>zD6 x _ (zBb r)
theorem zB2:∀ {a b:List Int},a.Perm b->a.Pairwise (·<=·)->b.Pairwise (·<=·)->a=b
 | [],b,p,_,_=>(List.nil_perm.mp p).symm
 | x::r,[],p,_,_=>by have:=p.length_eq; simp at this
 | x::r,y::s,p,ha,hb=>by
  have ha':=Bb.mp ha
  have hb':=Bb.mp hb
  have e:x=y:=by
   have h1:x∈y::s:=p.subset AH
   have h2:y∈x::r:=p.symm.subset AH
   rcases AS.mp h1 with e | e
   ·exact e
   ·rcases AS.mp h2 with f | f
    ·exact f.symm
    ·have:=ha'.1 y f; have:=hb'.1 x e; lia
  subst e
  rw[zB2 ((List.perm_cons x).mp p) ha'.2 hb'.2]
noncomputable def intsOf:List T->Option (List Int)
 | []=>some []
 | .a (.int n)::r=>(intsOf r).map fun ns=>n::ns
 | _::_=>none
theorem zDN:∀ {xs:List T} {ns:List Int},intsOf xs=some ns->xs=(ns.map V.int).map T.a
 | [],ns,e=>by cases e; rfl
 | x::r,ns,e=>by
  unfold intsOf at e
  split at e
  ·rename_i h; cases h
  ·rename_i n r' h
   cases h
   obtain⟨ms,e1,e⟩:=map_some e
   subst e
   rw[zDN e1]; rfl
  ·cases e
noncomputable def sortedS:En->List S->Option S:=fun Γ as=>match as with
 | [a]=>(seqS Γ a).bind fun xs=>(intsOf xs).bind fun ns=>if ns.length < 64 then some (.l ((sortI ns).map fun n=>.a (.int n))) else none
 | _=>none
theorem zHH{K:Fg}:SimRs K (fun xs H Q=>∃ (p:Addr) (ns:List Int),xs=[.ref p]/\(SqL K H p (ns.map V.int)\/SqT K H p (ns.map V.int))/\ns.length < 64/\∀ (l:Addr) (ns':List Int),H l=none->ns'.Perm ns->ns'.Pairwise (·<=·)->Q (.ref l) (upd H l (.lst (ns'.map V.int)))) sortedS:=by
 intro C w Γ σ H vs as s Q R o e k
 unfold sortedS at e
 split at e
 ·obtain⟨xs,e1,e⟩:=bind_some e
  obtain⟨ns,e2,e⟩:=bind_some e
  split at e
  ·rename_i hl
   cases e
   obtain⟨v,rfl,o1⟩:=soks1 o
   obtain⟨p,us,rfl,h1,i1⟩:=zHN R o1 e1
   have hu:us=ns.map V.int:=by rw[zDN e2]at i1; exact i1.of_atoms
   subst hu
   refine⟨p,ns,rfl,h1,hl,fun l ns' hl' hp hs=>?_⟩
   have:ns'=sortI ns:=zB2 (hp.trans (zB5 ns).symm) hs (zBb ns)
   subst this
   have hi:Ims K H ((sortI ns).map V.int) ((sortI ns).map fun n=>T.a (.int n)):=by
    have:=Ims.atoms (K:=K) (H:=H) ((sortI ns).map V.int)
    rwa [A7]at this
   exact k _ _ (R.new hl') (Evo.new hl') (R.newl hl' hi) ⟨l,rfl,hl'⟩
  ·cases e
 ·cases e
section
variable {ι:Type}{K:Fg}{X:ι->Cx}{mg:Str->Option AB}{k:Nat}
theorem zFk(M:Fm K mg k X):CalR K X (.builtin "sorted") sortedS:=⟨_,fun j=>by have:=zIQ (X:=X j); rw[M.K j]at this; exact this,zHH⟩
end
end D
namespace D
open PySem L2
noncomputable def ixL {α:Type} (l:List α) (i:Nat):Option α:=l[i]?
@[simp,simp ↓] theorem zTT{α:Type}{x:α}{r:List α}:ixL (x::r) 0=some x:=rfl
@[simp,simp ↓] theorem zTk{α:Type}{x:α}{r:List α}{n:Nat}:ixL (x::r) (n+1)=ixL r n:=rfl
class Kf (α β:Type) where
 k:α->Option β
class Kg (α β:Type) where
 k:α->β
noncomputable def bnd {α β:Type} (x:Option α) [f:Kf α β]:Option β:=x.bind f.k
@[simp,simp ↓] theorem zRA{α β:Type}{a:α}{f:α->Option β}:bnd (some a) (f:=⟨f⟩)=f a:=rfl
noncomputable def omp {α β:Type} (x:Option α) [f:Kg α β]:Option β:=x.map f.k
@[simp,simp ↓] theorem zTm{α β:Type}{a:α}{f:α->β}:omp (some a) (f:=⟨f⟩)=some (f a):=rfl
class Ka (α:Type) where
 v:α
noncomputable def ifB {α:Type} (b:Bool) [x:Ka α] [y:Ka α]:α:=if b=true then x.v else y.v
@[simp high,simp ↓ high] theorem zTl{α:Type}{x:α}{y:Ka α}:ifB true (x:=⟨x⟩) (y:=y)=x:=rfl
@[simp high,simp ↓ high] theorem zTN{α:Type}{x:Ka α}{y:α}:ifB false (x:=x) (y:=⟨y⟩)=y:=rfl
noncomputable def ifO {α:Type} (p:Option Nat) (k:Nat) (x y:α):α:=if p=some k then x else y
@[simp high,simp ↓ high] theorem zTY{α:Type}{k:Nat}{x y:α}:ifO none k x y=y:=rfl
noncomputable def ifN {α:Type} (m n:Nat) (x y:α):α:=if m=n then x else y
noncomputable def ifM {α:Type} (i:Nat) (l:List Nat) (x y:α):α:=if i∈l then x else y
@[simp high,simp ↓ high] theorem zTZ{α:Type}{i:Nat}{x y:α}:ifM i [] x y=y:=rfl
noncomputable def apE {α:Type} (l:List α):List α:=l++[]
@[simp,simp ↓] theorem zTj{α:Type}:apE ([]:List α)=[]:=rfl
@[simp,simp ↓] theorem zTP{α:Type}{x:α}{r:List α}:apE (x::r)=x::apE r:=rfl
@[simp high,simp ↓ high] theorem zSo{α:Type}{x y:α}:ifO (some 0) 0 x y=x:=rfl
@[simp high,simp ↓ high] theorem zTS{α:Type}{x y:α}:ifN 2 2 x y=x:=rfl
@[simp high,simp ↓ high] theorem zTe{α:Type}{x y:α}:ifN 3 3 x y=x:=rfl
@[simp high,simp ↓ high] theorem zTd{α:Type}{x y:α}:ifN 4 4 x y=x:=rfl
section
variable {f g:DS}{fa fb fc fi:DE}{da fr:DA}{ta tb:DT}{Γ:En}{i j k:Nat}{h h':En->S->S->Option S}
@[simp,simp ↓] theorem zJD:dSeq f g Γ=bnd (f Γ) (f:=⟨fun o=>match o with | .nx Γ'=>g Γ' | o=>some o⟩):=rfl
@[simp,simp ↓] theorem zRd:dNext Γ=some (.nx Γ):=rfl
@[simp,simp ↓] theorem zR1:dRet fa Γ=omp (fa Γ) (f:=⟨fun p=>.rt p.1 p.2⟩):=rfl
@[simp,simp ↓] theorem zRk:dDrop fa Γ=omp (fa Γ) (f:=⟨fun p=>.nx p.2⟩):=rfl
@[simp,simp ↓] theorem zTO:dIf ta f g Γ=bnd (ta Γ) (f:=⟨fun p=>ifB p.1 (x:=⟨(f p.2)⟩) (y:=⟨(g p.2)⟩)⟩):=rfl
theorem zLa:dIf ta f g Γ=(ta Γ).bind fun p=>if p.1=true then f p.2 else g p.2:=rfl
@[simp,simp ↓] theorem zSR:dSet i fa Γ=bnd (fa Γ) (f:=⟨fun p=>omp (setS i p.1 p.2) (f:=⟨.nx⟩)⟩):=rfl
@[simp,simp ↓] theorem zSj{t:T}:setS i (.v t) Γ=some (Γ.set i (some (.v t))):=rfl
@[simp,simp ↓] theorem zTJ{t:List T}:setS i (.l t) Γ=some (Γ.set i (some (.l t))):=rfl
@[simp,simp ↓] theorem zSQ:jV i Γ=match ixL Γ i with
 | some (some (.v t))=>some (.v t,Γ)
 | some (some (.l _))=>some (.s i,Γ)
 | some (some (.r _))=>some (.s i,Γ)
 | some (some (.k _))=>some (.s i,Γ)
 | some (some (.d _))=>some (.s i,Γ)
 | some (some (.e _))=>some (.s i,Γ)
 | _=>none:=rfl
@[simp,simp ↓] theorem zTh{v:V}:dC v Γ=some (.v (.a v),Γ):=rfl
@[simp,simp ↓] theorem zS5:dOp h fa fb Γ=bnd (fa Γ) (f:=⟨fun p=>bnd (fb p.2) (f:=⟨fun q=>omp (h q.2 p.1 q.1) (f:=⟨fun s=>(s,q.2)⟩)⟩)⟩):=rfl
@[simp,simp ↓] theorem zS3{h:En->S->Option S}:dUn h fa Γ=bnd (fa Γ) (f:=⟨fun p=>omp (h p.2 p.1) (f:=⟨fun s=>(s,p.2)⟩)⟩):=rfl
@[simp,simp ↓] theorem zTH{h:En->List S->Option S}:dCB h da Γ=bnd (da Γ) (f:=⟨fun p=>omp (h p.2 p.1) (f:=⟨fun s=>(s,p.2)⟩)⟩):=rfl
@[simp,simp ↓] theorem zSC:qQ Γ=some ([],Γ):=rfl
@[simp,simp ↓] theorem zRp:jW fa fr Γ=bnd (fa Γ) (f:=⟨fun p=>bnd (fr p.2) (f:=⟨fun q=>some (p.1::q.1,q.2)⟩)⟩):=rfl
@[simp,simp ↓] theorem zPy{t:T}:S.tree (.v t)=some t:=rfl
@[simp,simp ↓] theorem zRS:trees []=some []:=rfl
@[simp,simp ↓] theorem zRG{t:T}{r:List S}:trees (.v t::r)=omp (trees r) (f:=⟨fun ts=>t::ts⟩):=rfl
theorem zFE:AE=16777216:=BM
@[simp,simp ↓] theorem zSH:dTup da Γ=bnd (da Γ) (f:=⟨fun p=>bnd (trees p.1) (f:=⟨fun ts=>gd ts.length (.v (.t ts),p.2)⟩)⟩):=rfl
@[simp,simp ↓] theorem zSG:dLst da Γ=bnd (da Γ) (f:=⟨fun p=>bnd (trees p.1) (f:=⟨fun ts=>gd ts.length (.l ts,p.2)⟩)⟩):=rfl
@[simp,simp ↓] theorem zRf:dTest fa Γ=bnd (fa Γ) (f:=⟨fun p=>match p.1 with | .v (.a (.bl b))=>some (b,p.2) | _=>none⟩):=rfl
@[simp,simp ↓] theorem zS4:dAnd ta tb Γ=bnd (ta Γ) (f:=⟨fun p=>ifB p.1 (x:=⟨(tb p.2)⟩) (y:=⟨(some (false,p.2))⟩)⟩):=rfl
@[simp,simp ↓] theorem zTM:dOr ta tb Γ=bnd (ta Γ) (f:=⟨fun p=>ifB p.1 (x:=⟨(some (true,p.2))⟩) (y:=⟨(tb p.2)⟩)⟩):=rfl
@[simp,simp ↓] theorem zR4:dNot ta Γ=bnd (ta Γ) (f:=⟨fun p=>some (!p.1,p.2)⟩):=rfl
@[simp,simp ↓] theorem zSA:dAndV fa fb Γ=bnd (dTest fa Γ) (f:=⟨fun p=>ifB p.1 (x:=⟨(fb p.2)⟩) (y:=⟨(some (.v (.a (.bl false)),p.2))⟩)⟩):=rfl
@[simp,simp ↓] theorem zSf:dIfE ta fa fb Γ=bnd (ta Γ) (f:=⟨fun p=>ifB p.1 (x:=⟨(fa p.2)⟩) (y:=⟨(fb p.2)⟩)⟩):=rfl
@[simp,simp ↓] theorem zSw{h:En->List T->List S->Option (T×List T)}:dMut i h da Γ=ifB (isLs Γ i) (x:=⟨(bnd (da Γ) (f:=⟨fun p=>match ixL p.2 i with
 | some (some (.l xs))=>bnd (gd xs.length ()) (f:=⟨fun _=>omp (h p.2 xs p.1) (f:=⟨fun q=>(.v q.1,p.2.set i (some (.l q.2)))⟩)⟩)
 | _=>none⟩))⟩) (y:=⟨none⟩):=rfl
@[simp,simp ↓] theorem zSV:isLs Γ i=match ixL Γ i with | some (some (.l _))=>true | _=>false:=rfl
@[simp,simp ↓] theorem zRg:dSetIx i fa fi Γ=bnd (fa Γ) (f:=⟨fun p=>bnd p.1.tree (f:=⟨fun t=>ifB (isLs p.2 i) (x:=⟨(bnd (fi p.2) (f:=⟨fun q=>bnd (iS q.1) (f:=⟨fun k=>match ixL q.2 i with
  | some (some (.l xs))=>omp (ixN xs.length k) (f:=⟨fun j=>.nx (q.2.set i (some (.l (xs.set j t))))⟩)
  | _=>none⟩)⟩))⟩) (y:=⟨none⟩)⟩)⟩):=rfl
@[simp,simp ↓] theorem zTX{n:Int}:iS (.v (.a (.int n)))=some n:=rfl
@[simp,simp ↓] theorem zSB{m n:Int}:addS Γ (.v (.a (.int m))) (.v (.a (.int n)))=some (.v (.a (.int (m+n)))):=rfl
@[simp] theorem zR3{xs ys:List T}:addS Γ (.v (.t xs)) (.v (.t ys))=gd (xs.length+ys.length) (.v (.t (xs++ys))):=by
 show ((none:Option S).or ((addTup Γ (.v (.t xs)) (.v (.t ys))).or ((none:Option S).or none)))=_
 simp[addTup]
@[simp] theorem zTB{m:Nat}{b:S}:addS Γ (.s m) b=addLst Γ (.s m) b:=by
 show ((none:Option S).or ((none:Option S).or ((addLst Γ (.s m) b).or none)))=_
 simp
@[simp,simp ↓] theorem zRU{a b:S}:addLst Γ a b=bnd (lsOf Γ a) (f:=⟨fun xs=>bnd (lsOf Γ b) (f:=⟨fun ys=>gd (xs.length+ys.length) (.l (xs++ys))⟩)⟩):=rfl
@[simp,simp ↓] theorem zST{m n:Int}:subS Γ (.v (.a (.int m))) (.v (.a (.int n)))=some (.v (.a (.int (m - n)))):=rfl
@[simp] theorem zSX{m n:Int}:mulS Γ (.v (.a (.int m))) (.v (.a (.int n)))=if CMul m n then some (.v (.a (.int (m * n)))) else none:=by
 show ((if CMul m n then some _ else none).or (none:Option S))=_
 simp
@[simp] theorem zR6{m n:Int}:modS Γ (.v (.a (.int m))) (.v (.a (.int n)))=if 0 < n then some (.v (.a (.int (m % n)))) else none:=(rfl)
@[simp] theorem zRh{m n:Int}:fdivS Γ (.v (.a (.int m))) (.v (.a (.int n)))=if CDiv m n then some (.v (.a (.int (m / n)))) else none:=(rfl)
@[simp] theorem zSS{m n:Int}:powS Γ (.v (.a (.int m))) (.v (.a (.int n)))=if CPow m n then some (.v (.a (.int (m ^ n.toNat)))) else none:=(rfl)
@[simp,simp ↓] theorem zSx{m n:Int}:ltS Γ (.v (.a (.int m))) (.v (.a (.int n)))=some (.v (.a (.bl (decide (m < n))))):=rfl
@[simp,simp ↓] theorem zTC{m n:Int}:gtS Γ (.v (.a (.int m))) (.v (.a (.int n)))=some (.v (.a (.bl (decide (n < m))))):=rfl
@[simp,simp ↓] theorem zTA{m n:Int}:geS Γ (.v (.a (.int m))) (.v (.a (.int n)))=some (.v (.a (.bl (decide (n<=m))))):=rfl
@[simp,simp ↓] theorem zSg{m:Int}:negS Γ (.v (.a (.int m)))=some (.v (.a (.int (-m)))):=rfl
@[simp,simp ↓] theorem zTi{xs:List T}{n:Int}:ixS Γ (.v (.t xs)) (.v (.a (.int n)))=omp (atI xs n) (f:=⟨.v⟩):=rfl
@[simp,simp ↓] theorem zTb{xs:List T}{n:Int}:ixS Γ (.l xs) (.v (.a (.int n)))=omp (atI xs n) (f:=⟨.v⟩):=rfl
@[simp,simp ↓] theorem zTc{m:Nat}{n:Int}:ixS Γ (.s m) (.v (.a (.int n)))=bnd (sqlOf Γ (.s m)) (f:=⟨fun xs=>omp (atI xs n) (f:=⟨.v⟩)⟩):=rfl
@[simp,simp ↓] theorem zSU{m:Nat}:sqlOf Γ (.s m)=match ixL Γ m with
  | some (some (.l xs))=>some xs
  | some (some (.r xs))=>some xs
  | some (some (.k xs))=>some xs
  | _=>none:=rfl
@[simp,simp ↓] theorem zSN{xs:List T}:sqlOf Γ (.l xs)=some xs:=rfl
@[simp,simp ↓] theorem zTL{xs:List T}:lsOf Γ (.l xs)=some xs:=rfl
@[simp,simp ↓] theorem zS2{m:Nat}:lsOf Γ (.s m)=match ixL Γ m with
  | some (some (.l xs))=>some xs
  | some (some (.r xs))=>some xs
  | _=>none:=rfl
@[simp,simp ↓] theorem zTK{xs:List T}:lenS Γ [.v (.t xs)]=some (.v (.a (.int xs.length))):=rfl
@[simp,simp ↓] theorem zSn{xs:List T}:lenS Γ [.l xs]=some (.v (.a (.int xs.length))):=rfl
@[simp,simp ↓] theorem zS9{m:Nat}:lenS Γ [.s m]=omp (sqlOf Γ (.s m)) (f:=⟨fun xs=>.v (.a (.int xs.length))⟩):=rfl
@[simp,simp ↓] theorem zSW{xs:List T}:listS Γ [.v (.t xs)]=some (.l xs):=rfl
@[simp,simp ↓] theorem zRi{xs:List T}:tupleS Γ [.l xs]=some (.v (.t xs)):=rfl
@[simp,simp ↓] theorem zRq{m:Nat}:tupleS Γ [.s m]=omp (sqlOf Γ (.s m)) (f:=⟨fun xs=>.v (.t xs)⟩):=rfl
@[simp,simp ↓] theorem zRP:dNoPart Γ=some (none,Γ):=rfl
@[simp,simp ↓] theorem zRv:dPart fa Γ=bnd (fa Γ) (f:=⟨fun p=>omp (iS p.1) (f:=⟨fun i=>(some i,p.2)⟩)⟩):=rfl
@[simp,simp ↓] theorem zSt{lo hi:DO}:dSl fa lo hi Γ=bnd (fa Γ) (f:=⟨fun p=>bnd (lo p.2) (f:=⟨fun l=>bnd (hi l.2) (f:=⟨fun h=>omp (slS h.2 l.1 h.1 p.1) (f:=⟨fun s=>(s,h.2)⟩)⟩)⟩)⟩):=rfl
@[simp,simp ↓] theorem zTR{xs:List T}{lo hi:Option Int}:slS Γ lo hi (.v (.t xs))=some (.v (.t (cutT xs lo hi))):=rfl
@[simp,simp ↓] theorem zRW{xs:List T}{t:T}:hAppend Γ xs [.v t]=if xs.length < AE then some (.a .non,xs++[t]) else none:=rfl
@[simp,simp ↓] theorem zTF{xs:List T}:hPop Γ xs []=omp (xs[xs.length - 1]?) (f:=⟨fun t=>(t,xs.dropLast)⟩):=rfl
@[simp] theorem zRz{xs:List T}{n:Int}:hPopAt Γ xs [.v (.a (.int n))]=if inR 9223372036854775807 n=true then bnd (E8 n xs.length) (f:=⟨fun k=>omp (xs[k]?) (f:=⟨fun t=>(t,xs.eraseIdx k)⟩)⟩) else none:=rfl
@[simp,simp ↓] theorem zSl{b:Bool}:intS Γ [.v (.a (.bl b))]=some (.v (.a (.int (if b then 1 else 0)))):=rfl
@[simp,simp ↓] theorem zRc{m n:Int}:max2S Γ [.v (.a (.int m)),.v (.a (.int n))]=some (.v (.a (.int (if n > m then n else m)))):=rfl
@[simp,simp ↓] theorem zRj{m n:Int}:min2S Γ [.v (.a (.int m)),.v (.a (.int n))]=some (.v (.a (.int (if n < m then n else m)))):=rfl
@[simp] theorem zRX{fo:DE}:dIndex fo da Γ=bnd (fo Γ) (f:=⟨fun p=>bnd (da p.2) (f:=⟨fun q=>match p.1,q.1 with
 | .v (.t xs),[.v (.a y)]=>bnd (atomsOf xs) (f:=⟨fun vs=>if flatV y=true/\vs.all flatV=true then omp (vs.findIdx? fun z=>eqV z y) (f:=⟨fun j=>(mkI (j:Nat),q.2)⟩) else none⟩)
 | _,_=>none⟩)⟩):=rfl
@[simp,simp ↓] theorem zS0{n:Int}:mkI n=.v (.a (.int n)):=rfl
@[simp,simp ↓] theorem zSy{b:Bool}:mkB b=.v (.a (.bl b)):=rfl
@[simp] theorem zQP:dListRng da Γ=bnd (da Γ) (f:=⟨fun p=>omp (rngS p.1) (f:=⟨fun xs=>(.l xs,p.2)⟩)⟩):=rfl
@[simp] theorem zQ5:dTupRng da Γ=bnd (da Γ) (f:=⟨fun p=>omp (rngS p.1) (f:=⟨fun xs=>(.v (.t xs),p.2)⟩)⟩):=rfl
theorem zAm(n:Nat)(h:n<=100000):rngS [.v (.a (.int (n:Int)))]=some (rngT 0 n):=by
 unfold rngS
 dsimp only
 rw[zJA (by lia),Du,Bool.true_and,Nat.ble_eq_true_of_le (Al h (by decide)),if_pos rfl]
@[simp] theorem zRw:dRng1 da Γ=(da Γ).bind fun p=>if p.1.length=1 then (rngS p.1).map fun xs=>((xs,[]),p.2) else none:=by
 unfold dRng1
 congr 1
 funext p
 obtain⟨as,G⟩:=p
 match as with
 | []=>rfl
 | [a] =>
  match a with
  | .v (.a (.int j))=>simp only[rngS,DK,if_true]; split <;> rfl
  | .v (.a .non)=>rfl
  | .v (.a (.bl _))=>rfl
  | .v (.a (.str _))=>rfl
  | .v (.a (.byt _))=>rfl
  | .v (.a (.flt _))=>rfl
  | .v (.a (.ref _))=>rfl
  | .v (.a (.ty _))=>rfl
  | .v (.t _)=>rfl
  | .v (.l _)=>rfl
  | .v (.f _)=>rfl
  | .v (.x _ _)=>rfl
  | .l _=>rfl
  | .s _=>rfl
  | .d _=>rfl
 | a::b::r =>
  have:¬ (a::b::r).length=1:=by simp
  rw[if_neg this]
  dsimp only
  split
  ·rename_i h; simp at h
  ·rfl
@[simp,simp ↓] theorem zRr:dSeqI fa Γ=bnd (fa Γ) (f:=⟨fun p=>bnd (seqS p.2 p.1) (f:=⟨fun xs=>gd xs.length ((xs,srcS p.2 p.1),p.2)⟩)⟩):=rfl
@[simp,simp ↓] theorem zSa{xs:List T}:seqS Γ (.v (.t xs))=some xs:=rfl
@[simp,simp ↓] theorem zSZ{xs:List T}:seqS Γ (.l xs)=some xs:=rfl
@[simp,simp ↓] theorem zSm{m:Nat}:seqS Γ (.s m)=sqlOf Γ (.s m):=rfl
@[simp,simp ↓] theorem zSu{t:T}:srcS Γ (.v t)=[]:=rfl
@[simp,simp ↓] theorem zS7{t:List T}:srcS Γ (.l t)=[]:=rfl
@[simp,simp ↓] theorem zTD{m:Nat}:srcS Γ (.s m)=match ixL Γ m with | some (some (.l _))=>[m] | _=>[]:=rfl
@[simp,simp ↓] theorem zON:dYes Γ=some (true,Γ):=rfl
@[simp,simp ↓] theorem zSL:dTru fa Γ=bnd (fa Γ) (f:=⟨fun p=>omp (truS p.2 p.1) (f:=⟨fun b=>(b,p.2)⟩)⟩):=rfl
@[simp,simp ↓] theorem zSz{b:Bool}:truS Γ (.v (.a (.bl b)))=some b:=rfl
@[simp,simp ↓] theorem zSh{m:Nat}:truS Γ (.s m)=omp (sqlOf Γ (.s m)) (f:=⟨fun xs=>!xs.isEmpty⟩):=rfl
@[simp] theorem zRs:dPar3 i j k da Γ=bnd (da Γ) (f:=⟨fun p=>match p.1 with
  | [.v a,.v b,.v c]=>some (.nx (((p.2.set i (some (.v a))).set j (some (.v b))).set k (some (.v c))))
  | _=>none⟩):=rfl
@[simp,simp ↓] theorem zSE{tg:En->T->Option En}:dUnp tg fa Γ=bnd (fa Γ) (f:=⟨fun p=>bnd p.1.tree (f:=⟨fun t=>omp (tg p.2 t) (f:=⟨.nx⟩)⟩)⟩):=rfl
@[simp,simp ↓] theorem zKa{t:T}:gdName i Γ t=some (Γ.set i (some (.v t))):=rfl
@[simp,simp ↓] theorem zR0:gdNil Γ []=some Γ:=rfl
@[simp,simp ↓] theorem zRZ{p:En->T->Option En}{q:En->List T->Option En}{t:T}{r:List T}:gdCons p q Γ (t::r)=bnd (p Γ t) (f:=⟨fun Γ1=>q Γ1 r⟩):=rfl
@[simp,simp ↓] theorem zR8{q:En->List T->Option En}{ts:List T}:gdTup i q Γ (.t ts)=ifN ts.length i (q Γ ts) none:=rfl
@[simp,simp ↓] theorem zSJ{ip:Option Nat}{F:DF}:dCall ip F [] da Γ=bnd (da Γ) (f:=⟨fun p=>ifB (onceS ip p.1) (x:=⟨(bnd (argsG ip p.2 0 (apE p.1)) (f:=⟨fun gs=>omp (F gs) (f:=⟨fun q=>(toS q.1,backS ip p.2 p.1 q.2)⟩)⟩))⟩) (y:=⟨none⟩)⟩):=rfl
@[simp,simp ↓] theorem zRV{ip:Option Nat}:argsG ip Γ k []=some []:=rfl
@[simp high,simp ↓ high] theorem zRx{ip:Option Nat}{s:S}{r:List S}:argsG ip Γ 0 (s::r)=bnd (argG ip Γ 0 s) (f:=⟨fun g=>omp (argsG ip Γ 1 r) (f:=⟨fun gs=>g::gs⟩)⟩):=rfl
@[simp high,simp ↓ high] theorem zRb{ip:Option Nat}{s:S}{r:List S}:argsG ip Γ 1 (s::r)=bnd (argG ip Γ 1 s) (f:=⟨fun g=>omp (argsG ip Γ 2 r) (f:=⟨fun gs=>g::gs⟩)⟩):=rfl
@[simp high,simp ↓ high] theorem zRt{ip:Option Nat}{s:S}{r:List S}:argsG ip Γ 2 (s::r)=bnd (argG ip Γ 2 s) (f:=⟨fun g=>omp (argsG ip Γ 3 r) (f:=⟨fun gs=>g::gs⟩)⟩):=rfl
@[simp high,simp ↓ high] theorem zRe{ip:Option Nat}{s:S}{r:List S}:argsG ip Γ 3 (s::r)=bnd (argG ip Γ 3 s) (f:=⟨fun g=>omp (argsG ip Γ 4 r) (f:=⟨fun gs=>g::gs⟩)⟩):=rfl
@[simp,simp ↓] theorem zTI{ip:Option Nat}{t:T}:argG ip Γ k (.v t)=some (.v t):=rfl
@[simp,simp ↓] theorem zR9{ip:Option Nat}{xs:List T}:argG ip Γ k (.l xs)=some (ifO ip k (.l xs) (.r xs)):=rfl
@[simp,simp ↓] theorem zSb{ip:Option Nat}{m:Nat}:argG ip Γ k (.s m)=match ixL Γ m with
  | some (some (.l xs))=>some (ifO ip k (.l xs) (.r xs))
  | some (some (.r xs))=>ifO ip k none (some (.r xs))
  | some (some (.k xs))=>ifO ip k none (some (.k xs))
  | some (some (.d xs))=>ifO ip k none (some (.e xs))
  | some (some (.e xs))=>ifO ip k none (some (.e xs))
  | _=>none:=rfl
@[simp,simp ↓] theorem zS6{ip:Option Nat}{xs:Dk}:argG ip Γ k (.d xs)=if ip=some k then none else some (.e xs):=rfl
@[simp,simp ↓] theorem zSk{xs:Dk}:setS i (.d xs) Γ=some (Γ.set i (some (.d xs))):=rfl
@[simp,simp ↓] theorem zR2{ss:List S}:onceS none ss=true:=rfl
@[simp high,simp ↓ high] theorem zTV:(K8 ([]:List S) fun s=>!isSl i s)=true:=rfl
@[simp high,simp ↓ high] theorem zTW{t:T}{r:List S}:(K8 (.v t::r) fun s=>!isSl i s)=r.all fun s=>!isSl i s:=rfl
@[simp,simp ↓] theorem zSO{ss:List S}:onceS (some k) ss=match ixL ss k with
  | some (.s i)=>(ss.eraseIdx k).all fun s=>!isSl i s
  | some (.l _)=>(ss.eraseIdx k).all fun s=>!isTmp s
  | _=>false:=rfl
@[simp,simp ↓] theorem zSD{ss:List S}{ys:List T}:backS none Γ ss ys=Γ:=rfl
@[simp,simp ↓] theorem zSK{ss:List S}{ys:List T}:backS (some k) Γ ss ys=match ixL ss k with | some (.s i)=>Γ.set i (some (.l ys)) | _=>Γ:=rfl
@[simp,simp ↓] theorem zTU{t:T}:toS (.v t)=.v t:=rfl
@[simp,simp ↓] theorem zTf{t:List T}:toS (.l t)=.l t:=rfl
@[simp,simp ↓] theorem zSe:outl none Γ=[]:=rfl
@[simp,simp ↓] theorem zSq:outl (some k) Γ=match ixL Γ k with | some (some (.l xs))=>xs | _=>[]:=rfl
@[simp,simp ↓] theorem zTG{ip:Option Nat}{t:T}:resG ip Γ (.v t)=some (.v t):=rfl
@[simp,simp ↓] theorem zSi{ip:Option Nat}{t:List T}:resG ip Γ (.l t)=some (.l t):=rfl
@[simp,simp ↓] theorem zSc{ip:Option Nat}:resG ip Γ (.s i)=if ip=some i then none else match ixL Γ i with | some (some (.l xs))=>some (.l xs) | some (some (.d xs))=>some (.d xs) | _=>none:=rfl
@[simp,simp ↓] theorem zOL{t:T}:reprS Γ [.v t]=bnd (toD t) (f:=⟨fun d=>if d.showable=true/\d.hasDict=false/\d.depth<=100/\d.shown.length<=AE then some (.v (.a (.str d.shown))) else none⟩):=rfl
end
theorem zBW{m n:Int}(h:-(2 ^ 64) < m/\m < 2 ^ 64):CMul m n:=.inl h
theorem zCJ{α:Type}{xs:List α}{n:Nat}:atI xs (n:Int)=xs[n]?:=by
 unfold atI ixN
 rw[if_pos (Int.natCast_nonneg n)]
 by_cases h:n < xs.length
 ·rw[if_pos (by lia)]; simp
 ·rw[if_neg (by lia),Bz (by lia)]; rfl
@[simp] theorem zTa{α:Type}{xs:List α}:atI xs 0=xs[0]?:=zCJ (n:=0)
@[simp] theorem zTg{α:Type}{xs:List α}:atI xs 1=xs[1]?:=zCJ (n:=1)
@[simp] theorem zTQ{α:Type}{xs:List α}:atI xs 2=xs[2]?:=zCJ (n:=2)
theorem zL3{α:Type}{xs:List α}(h:xs≠[]):atI xs (-1)=xs[xs.length - 1]?:=by
 have:0 < xs.length:=HM.mpr h
 unfold atI ixN
 rw[if_neg (by lia),if_pos (by lia)]
 show xs[(-1+(xs.length:Int)).toNat]?=_
 congr 1
 lia
theorem zOI{n j:Nat}(h:j < n):ixN n (j:Int)=some j:=by
 unfold ixN; rw[if_pos (by lia),if_pos (by lia)]; simp
theorem zAG{n:Nat}(h:n<=100000):n<=AE:=Al h (by decide)
theorem zCA{n:Nat}(h:n<=100000):n < AE:=E4 h (by decide)
@[simp] noncomputable abbrev iT (n:Int):T:=.a (.int n)
@[simp] noncomputable abbrev bT (b:Bool):T:=.a (.bl b)
theorem zHY(ns:List Int){i:Int}(h0:0<=i)(h1:i < ns.length):∃ z,atI (intsT ns) i=some (iT z):=by
 obtain⟨j,rfl⟩:∃ j:Nat,i=j:=⟨i.toNat,by lia⟩
 exact⟨ns[j]'(by lia),by rw[zCJ,intsT,Af,AR (by lia)]; rfl⟩
theorem zDy{c:DT}{b:DS}{n:Nat}{Γ:En}:dWhile c b (n+1) Γ=(c Γ).bind fun p=>if p.1=true then (b p.2).bind fun o=>match o with
   | .nx Γ'=>dWhile c b n Γ'
   | .ct Γ'=>dWhile c b n Γ'
   | .bk Γ'=>some (.nx Γ')
   | .rt s Γ'=>some (.rt s Γ')
  else some (.nx p.2):=(rfl)
theorem zAn{tg:En->T->Option En}{b:DS}{Γ:En}:forD tg b [] Γ=some (.nx Γ):=(rfl)
theorem zDJ{tg:En->T->Option En}{b:DS}{t:T}{r:List T}{Γ:En}:forD tg b (t::r) Γ=(tg Γ t).bind fun Γ1=>(b Γ1).bind fun o=>match o with
  | .nx Γ'=>forD tg b r Γ'
  | .ct Γ'=>forD tg b r Γ'
  | .bk Γ'=>some (.nx Γ')
  | .rt s Γ'=>some (.rt s Γ'):=(rfl)
theorem zCs{tg:En->T->Option En}{dc:DT}{de:DE}{t:T}{r:List T}{Γ:En}:compD tg dc de (t::r) Γ=(tg Γ t).bind fun Γ1=>(dc Γ1).bind fun p=>if p.1=true then (de p.2).bind fun q=>q.1.tree.bind fun t'=>(compD tg dc de r q.2).map fun z=>(t'::z.1,z.2) else compD tg dc de r p.2:=(rfl)
@[simp,simp ↓] theorem zSM{ix:List (Option Nat)}{di:DI}{tg:En->T->Option En}{dc:DT}{de:DE}{Γ:En}:dComp none ix di tg dc de Γ=bnd (di Γ) (f:=⟨fun p=>omp (compD tg dc de p.1.1 (pick none ix p.2)) (f:=⟨fun z=>(.l z.1,p.2)⟩)⟩):=rfl
@[simp,simp ↓] theorem zRl{i j:Nat}{ix:List (Option Nat)}{di:DI}{tg:En->T->Option En}{dc:DT}{de:DE}{Γ:En}:dComp (some (j,i)) ix di tg dc de Γ=bnd (di Γ) (f:=⟨fun p=>ifM i p.1.2 none (match ixL p.2 i with
  | some (some (.l _))=>omp (compD tg dc de p.1.1 (pick (some i) ix p.2)) (f:=⟨fun z=>(.l z.1,cback (some (j,i)) p.2 z.2)⟩)
  | _=>none)⟩):=rfl
@[simp,simp ↓] theorem zTE{ip:Option Nat}{di:DI}{tg:En->T->Option En}{b:DS}{Γ:En}:dFor ip di tg b Γ=bnd (di Γ) (f:=⟨fun p=>ifB (p.1.2.all fun i=>decide (ip≠some i)) (x:=⟨(forD tg b p.1.1 (frz p.2 p.1.2))⟩) (y:=⟨none⟩)⟩):=rfl
@[simp,simp ↓] theorem zSF{Γ:En}:frz Γ []=Γ:=rfl
@[simp,simp ↓] theorem zRy{mu:Option Nat}{Γ:En}:pick mu [] Γ=[]:=rfl
@[simp,simp ↓] theorem zSr{mu:Option Nat}{ix:List (Option Nat)}{Γ:En}:pick mu (none::ix) Γ=none::pick mu ix Γ:=rfl
@[simp,simp ↓] theorem zSp{mu:Option Nat}{k:Nat}{ix:List (Option Nat)}{Γ:En}:pick mu (some k::ix) Γ=pick1 mu k (ixL Γ k).join::pick mu ix Γ:=rfl
@[simp,simp ↓] theorem zSP{mu:Option Nat}{k:Nat}{t:T}:pick1 mu k (some (.v t))=some (.v t):=rfl
@[simp,simp ↓] theorem zRn{mu:Option Nat}{k:Nat}{t:List T}:pick1 mu k (some (.l t))=ifO mu k (some (.l t)) (some (.r t)):=rfl
@[simp,simp ↓] theorem zSI{j i:Nat}{Γ Γo:En}:cback (some (j,i)) Γ Γo=match ixL Γo j with | some (some (.l xs))=>Γ.set i (some (.l xs)) | _=>Γ:=rfl
theorem zAq{α:Type}(f g:α->T){de:DE}{R:En}:∀ (is:List α),(∀ i∈is,de (some (.v (f i))::R)=some (.v (g i),some (.v (f i))::R))->∀ o,∃ o',compD (gdName 0) dYes de (is.map f) (o::R)=some (is.map g,o'::R)
 | [],_,o=>⟨o,rfl⟩
 | i::r,h,o=>by
  obtain⟨o',e⟩:=zAq f g r (fun j hj=>h j (AF _ hj)) (some (.v (f i)))
  refine⟨o',?_⟩
  rw[AJ,zCs]
  simp[h i AH,e]
theorem zBL{α:Type}(f g:α->T)(c:α->Bool){dc:DT}{de:DE}{R:En}:∀ (is:List α),(∀ i∈is,dc (some (.v (f i))::R)=some (c i,some (.v (f i))::R))->(∀ i∈is,c i=true->de (some (.v (f i))::R)=some (.v (g i),some (.v (f i))::R))->∀ o,∃ o',compD (gdName 0) dc de (is.map f) (o::R)=some ((is.filter c).map g,o'::R)
 | [],_,_,o=>⟨o,rfl⟩
 | i::r,h,h2,o=>by
  obtain⟨o',e⟩:=zBL f g c r (fun j hj=>h j (AF _ hj)) (fun j hj=>h2 j (AF _ hj)) (some (.v (f i)))
  refine⟨o',?_⟩
  rw[AJ,zCs]
  cases hc:c i with
  | true=>simp[h i AH,h2 i AH hc,hc,e]
  | false=>simp[h i AH,hc,e]
theorem zHZ{n m:Nat}(h:n < m):E8 (n:Int) m=some n:=(zE6 (zOI h)).1
theorem zBz{n:Int}:B0 (.int n)=true:=rfl
@[simp] theorem zSv{Γ:En}{m n:Int}:eqS Γ (.v (.a (.int m))) (.v (.a (.int n)))=some (.v (.a (.bl (decide (m=n))))):=by
 show ((some (mkB (decide (V.int m=V.int n)))).or _)=_
 simp
@[simp] theorem zS8{Γ:En}{m n:Int}:neS Γ (.v (.a (.int m))) (.v (.a (.int n)))=some (.v (.a (.bl (!decide (m=n))))):=by
 show ((some (mkB (!decide (V.int m=V.int n)))).or _)=_
 simp
@[simp] theorem zS1{Γ:En}{m n:Str}:eqS Γ (.v (.a (.str m))) (.v (.a (.str n)))=some (.v (.a (.bl (decide (m=n))))):=by
 show ((some (mkB (decide (V.str m=V.str n)))).or _)=_
 simp
@[simp] theorem zSd{Γ:En}{m n:Str}:neS Γ (.v (.a (.str m))) (.v (.a (.str n)))=some (.v (.a (.bl (!decide (m=n))))):=by
 show ((some (mkB (!decide (V.str m=V.str n)))).or _)=_
 simp
@[simp] noncomputable abbrev tvT (t:List Nat):List T:=t.map fun (k:Nat)=>iT (k:Int)
@[simp] noncomputable abbrev tuT (t:List Nat):T:=.t (tvT t)
structure IsT(n:Nat)(t:List Nat):Prop where
 len:t.length=n
 lt:∀ k∈t,k < n
 nd:t.Nodup
theorem IsT.get{n:Nat}{t:List Nat}(h:IsT n t){i:Nat}(hi:i < n):∃ k,t[i]?=some k/\k < n:=by
 have hl:=h.len
 refine⟨t[i]'(by lia),by simp,h.lt _ (DL _)⟩
theorem zLb:∀ (n:Nat) (t:List Nat),t.length=n->(∀ k∈t,k < n)->t.Nodup->∀ i,i < n->i∈t:=by
 intro n
 induction n with
 | zero=>intro t _ _ _ i hi; lia
 | succ n ih =>
  intro t hl hlt hnd i hi
  by_cases hn:n∈t
  ·have h1:(t.erase n).length=n:=by rw[List.length_erase_of_mem hn]; lia
   have h2:∀ k∈t.erase n,k < n:=fun k hk=>by
    have:=hlt k (Gw hk)
    have hne:k≠n:=fun e=>by subst e; exact (K9 hnd) hk
    lia
   have h3:(t.erase n).Nodup:=hnd.erase n
   by_cases e:i=n
   ·subst e; exact hn
   ·exact Gw (ih (t.erase n) h1 h2 h3 i (by lia))
  ·exfalso
   have h2:∀ k∈t,k < n:=fun k hk=>by
    have:=hlt k hk
    have hne:k≠n:=fun e=>by subst e; exact hn hk
    lia
   cases t with
   | nil=>simp at hl
   | cons x r =>
    have hx:=h2 x AH
    have hr:=ih r (by simpa using hl) (fun k hk=>h2 k (AF _ hk)) (BI.mp hnd).2 x hx
    exact (BI.mp hnd).1 hr
theorem IsT.mem{n:Nat}{t:List Nat}(h:IsT n t){i:Nat}(hi:i < n):i∈t:=zLb n t h.len h.lt h.nd i hi
theorem zDH{α β:Type}{f:α->β}{l:List α}(h:∀ x∈l,∀ y∈l,f x=f y->x=y)(nd:l.Nodup):(l.map f).Nodup:=by
 induction l with
 | nil=>exact Ih
 | cons a r ih =>
  obtain⟨h1,h2⟩:=BI.mp nd
  refine BI.mpr ⟨fun hm=>?_,ih (fun x hx y hy=>h x (AF _ hx) y (AF _ hy)) h2⟩
  obtain⟨y,hy,e⟩:=Ag.mp hm
  have:=h y (AF _ hy) a AH e
  subst this
  exact h1 hy
noncomputable def thenL (a b:List Nat):List Nat:=a.map fun k=>b.getD k 0
noncomputable def backL (t:List Nat):List Nat:=(AC t.length).map fun i=>t.idxOf i
theorem zDA{t:List Nat}{n:Nat}(h:IsT n t){i k:Nat}(e:t[i]?=some k):t.idxOf k=i:=by
 obtain⟨hi,e'⟩:=Aa.mp e
 rw[← e']
 exact h.nd.idxOf_getElem i hi
theorem zA6{a b:List Nat}{i k m:Nat}(h1:a[i]?=some k)(h2:b[k]?=some m):(thenL a b)[i]?=some m:=by simp[thenL,h1,h2]
theorem zH0{t:List Nat}{i:Nat}(h:i < t.length):(backL t)[i]?=some (t.idxOf i):=by simp[backL,h]
theorem zAv{n:Nat}{a b:List Nat}(ha:IsT n a)(hb:IsT n b):IsT n (thenL a b):=by
 refine⟨by simp[thenL,ha.len],fun k hk=>?_,?_⟩
 ·obtain⟨x,hx,rfl⟩:=Ag.mp hk
  obtain⟨m,hm,hmn⟩:=hb.get (ha.lt x hx)
  simpa [hm] using hmn
 ·unfold thenL
  refine zDH ?_ ha.nd
  intro x hx y hy e
  obtain⟨m,hm,_⟩:=hb.get (ha.lt x hx)
  obtain⟨m',hm',_⟩:=hb.get (ha.lt y hy)
  simp[hm,hm']at e
  subst e
  exact (zDA hb hm).symm.trans (zDA hb hm')
theorem zBQ{n:Nat}{t:List Nat}(h:IsT n t):IsT n (backL t):=by
 refine⟨by simp[backL,h.len],fun k hk=>?_,?_⟩
 ·obtain⟨x,hx,rfl⟩:=Ag.mp hk
  have hx':x < n:=by rw[← h.len]; simpa using hx
  have:=CL.mpr (h.mem hx')
  rw[h.len]at this; exact this
 ·unfold backL
  refine zDH ?_ Cm
  intro x hx y hy e
  have hx':x∈t:=h.mem (by rw[← h.len]; simpa using hx)
  have hy':y∈t:=h.mem (by rw[← h.len]; simpa using hy)
  have e1:=Hc (CL.mpr hx')
  have e2:=Hc (CL.mpr hy')
  rw[← e1,← e2]
  congr 1
theorem zIO{n:Nat}{t:List Nat}(h:t.Perm (AC n)):IsT n t :=
 ⟨by rw[h.length_eq]; simp,fun k hk=>by simpa using h.mem_iff.mp hk,h.nodup_iff.mpr Cm⟩
theorem zAi(n:Nat):IsT n (AC n):=⟨by simp,fun k hk=>by simpa using hk,Cm⟩
theorem zBO(n:Nat):rngT 0 n=tvT (AC n):=by simp[rngT]
theorem zJi{fs ls:List Nat}{k z:Nat}(hk:ls[k]?=some z):((fs++[z])++ls.eraseIdx k).Perm (fs++ls):=by
 rw[Bk]
 refine LP fs ?_
 obtain⟨hk1,hk2⟩:=Aa.mp hk
 rw[DH]
 have e:ls=ls.take k++z::ls.drop (k+1):=by
  rw[← hk2,List.getElem_cons_drop,Gx]
 conv=>rhs; rw[e]
 show (z::(ls.take k++ls.drop (k+1))).Perm _
 exact List.perm_middle.symm
theorem zKj{α β:Type}(f:α->β)(t:List α)(k:Nat):(t.map f).eraseIdx k=(t.eraseIdx k).map f:=by
 rw[DH,DH]; simp
theorem zA0:∀ t:List Nat,atomsOf (tvT t)=some (t.map fun (k:Nat)=>V.int (k:Int))
 | []=>rfl
 | k::r=>by simp only[tvT,AJ,atomsOf]; rw[show atomsOf (r.map fun (k:Nat)=>iT (k:Int))=_ from zA0 r]; rfl
theorem zI5(t:List Nat):(t.map fun (k:Nat)=>V.int (k:Int)).all flatV=true:=by simp[flatV]
theorem zHJ{t:List Nat}{i:Nat}(h:i∈t):((t.map fun (k:Nat)=>V.int (k:Int)).findIdx? fun z=>eqV z (V.int (i:Int)))=some (t.idxOf i):=by
 have hlt:t.idxOf i < t.length:=CL.mpr h
 refine E3.mpr ⟨by simpa using hlt,?_,fun j hj=>?_⟩
 ·simp[eqV]
 ·have hne:t[j]'(by lia)≠i:=fun e=>by
   have:=List.not_of_lt_findIdx (p:=(· == i)) (xs:=t) (show j < t.findIdx (· == i) from hj)
   simp[e]at this
  simp only[IH,eqV]
  simpa using fun e=>hne (by exact_mod_cast e)
theorem zEj{t:List Nat}{i k:Nat}(h:t[i]?=some k):atI (tvT t) (i:Int)=some (iT (k:Int)):=by
 rw[zCJ]; simp[h]
abbrev Stp:=Nat×List Nat×List Nat
@[simp] noncomputable abbrev stT (s:Stp):T:=.t [iT (s.1:Int),tuT s.2.1,tuT s.2.2]
def StOk (n qs:Nat) (st:List Stp):Prop:=∀ s∈st,s.1 < qs/\IsT n s.2.1/\IsT n s.2.2
structure AnsOk(qs:Nat)(as:List Nat):Prop where
 len:as.length=qs
 lt:∀ x∈as,x < 2
noncomputable def pickT (as:List Nat) (s:Stp):List Nat:=if as.getD s.1 0=1 then s.2.1 else s.2.2
theorem zAz{n qs:Nat}{as:List Nat}{s:Stp}(h:s.1 < qs/\IsT n s.2.1/\IsT n s.2.2):IsT n (pickT as s):=by
 unfold pickT; split
 ·exact h.2.1
 ·exact h.2.2
noncomputable def scanL (as:List Nat):List Nat->List Stp->List (List Nat)
 | _,[]=>[]
 | c,s::r=>thenL c (pickT as s)::scanL as (thenL c (pickT as s)) r
noncomputable def doneL (as:List Nat):List Nat->List Stp->List Nat
 | c,[]=>c
 | c,s::r=>doneL as (thenL c (pickT as s)) r
theorem zBN{n qs:Nat}{as:List Nat}:∀ {c:List Nat} {st:List Stp},IsT n c->StOk n qs st->IsT n (doneL as c st)
 | _,[],hc,_=>hc
 | c,s::r,hc,hs=>zBN (c:=thenL c (pickT as s)) (st:=r) (zAv hc (zAz (as:=as) (hs s AH))) fun x hx=>hs x (AF _ hx)
theorem zOT{qs:Nat}{as:List Nat}(h:AnsOk qs as){q:Nat}(hq:q < qs):as[q]?=some (as.getD q 0):=by
 have:=h.len
 rw[AK,AR (by lia)]; rfl
@[simp] noncomputable abbrev prT (p:T×T):T:=.t [p.1,p.2]
theorem maxmin{lo hi m:Nat}{len:Nat}(h:lo<=hi):∃ m:Nat,m<=hi/\(if (if (hi:Int) < (len:Int) then (hi:Int) else (len:Int)) > (lo:Int) then (if (hi:Int) < (len:Int) then (hi:Int) else (len:Int)) else (lo:Int))=(m:Int):=by
 by_cases c1:(hi:Int) < (len:Int)
 ·rw[if_pos c1]
  by_cases c2:(hi:Int) > (lo:Int)
  ·exact⟨hi,AL _,by rw[if_pos c2]⟩
  ·exact⟨lo,h,by rw[if_neg c2]⟩
 ·rw[if_neg c1]
  by_cases c2:(len:Int) > (lo:Int)
  ·exact⟨len,by lia,by rw[if_pos c2]⟩
  ·exact⟨lo,h,by rw[if_neg c2]⟩
noncomputable def intsD (t:List Nat):List CM:=t.map fun (k:Nat)=>Cv (k:Int)
theorem zCD:∀ t:List Nat,toDs (tvT t)=some (intsD t)
 | []=>by simp[toDs,intsD]
 | k::r=>by
  have:=zCD r
  simp only[tvT,iT,AJ]at this ⊢
  rw[toDs,this]
  simp[toD,toDa,intsD]
theorem zBF:∀ t:List Nat,Bj (intsD t)=true
 | []=>by simp[intsD,Bj]
 | k::r=>by
  have:=zBF r
  simp only[intsD,AJ]at this ⊢
  simp[Bj,B0,this]
theorem zBe:∀ t:List Nat,BS (intsD t)=0
 | []=>by simp[intsD,BS]
 | k::r=>by
  have:=zBe r
  simp only[intsD,AJ]at this ⊢
  simp[BS,CG,this]
theorem zDQ{as as':List Nat}{f:Stp->Stp}:∀ {st:List Stp},(∀ s∈st,pickT as (f s)=pickT as' s)->∀ c,doneL as c (st.map f)=doneL as' c st
 | [],_,_=>rfl
 | s::r,h,c=>by
  simp only[AJ,doneL]
  rw[h s AH]
  exact zDQ (fun x hx=>h x (AF _ hx)) _
end D
namespace D
open PySem L2
noncomputable def dK (t:T):DE:=fun Γ=>some (.v t,Γ)
def KV (K:Fg) (mg:Str->Option AB) (x:Str) (t:T):Prop:=∃ v u,mg x=some u/\RelV v u/\∀ H:Hp,Im K H v t
end D
namespace D
open PySem L2
open PySem.SeqAt
end D
namespace L2
open PySem PySem.Spec PyProof.Rows
section
variable {κ:Type} [DecidableEq κ]
noncomputable def valV (kvs:List (κ×V)) (k:κ):Option V:=(kvs.find? fun kv=>decide (kv.1=k)).map (·.2)
noncomputable def putK (kvs:List (κ×V)) (k:κ) (v:V):List (κ×V) :=
 if (kvs.any fun kv=>decide (kv.1=k))=true then kvs.map (fun kv=>if kv.1=k then (kv.1,v) else kv) else kvs++[(k,v)]
theorem zC5{p:κ×V}{r:List (κ×V)}{k:κ}(e:p.1=k):valV (p::r) k=some p.2:=by simp[valV,Bp,e]
theorem zCw{p:κ×V}{r:List (κ×V)}{k:κ}(e:¬ p.1=k):valV (p::r) k=valV r k:=by simp[valV,Bp,e]
theorem zHE(k:κ):∀ kvs:List (κ×V),(kvs.any fun kv=>decide (kv.1=k))=(valV kvs k).isSome
 | []=>rfl
 | p::r=>by
  rw[CW]
  by_cases e:p.1=k
  ·simp only[zC5 e,decide_eq_true e,Bool.true_or,G5]
  ·rw[zCw e,decide_eq_false e,Iy]; exact zHE k r
theorem zD7(kvs:List (κ×V))(k:κ)(v:V):(putK kvs k v).length<=kvs.length+1:=by
 unfold putK
 split
 ·rw[Ak]; lia
 ·rw[BQ,Be,DW]; lia
theorem RelO.isSome_eq{o:Option V}{u:Option AB}(r:RelO o u):o.isSome=u.isSome:=by
 cases o with
 | none=>cases u with
  | none=>rfl
  | some _=>exact (show False from r).elim
 | some _=>cases u with
  | none=>exact (show False from r).elim
  | some _=>rfl
theorem RelO.getD{o:Option V}{u:Option AB}{d:V}{d':AB}(r:RelO o u)(rd:RelV d d'):RelV (o.getD d) (u.getD d'):=by
 cases o with
 | none=>cases u with
  | none=>exact rd
  | some _=>exact (show False from r).elim
 | some _=>cases u with
  | none=>exact (show False from r).elim
  | some _=>exact r
theorem KV.val{kvs:List (κ×V)}{vs:List (κ×AB)}(r:KV kvs vs)(k:κ):RelO (valV kvs k) (Fu vs k):=by
 unfold KV at r
 induction r with
 | nil=>exact DM
 | @cons p q ps qs h t ih =>
  obtain⟨h1,h2⟩:=h
  by_cases e:p.1=k
  ·have e':q.1=k:=h1.symm.trans e
   have b:Fu (q::qs) k=some q.2:=by simp[Fu,Bp,e']
   rw[zC5 e,b]; exact h2
  ·have e':¬ q.1=k:=fun z=>e (h1.trans z)
   have b:Fu (q::qs) k=Fu qs k:=by simp[Fu,Bp,e']
   rw[zCw e,b]; exact ih
theorem KV.any{kvs:List (κ×V)}{vs:List (κ×AB)}(r:KV kvs vs)(k:κ):(kvs.any fun kv=>decide (kv.1=k))=vs.any fun kv=>decide (kv.1=k):=by
 unfold KV at r
 induction r with
 | nil=>rfl
 | cons h t ih=>rw[CW,CW,ih,h.1]
theorem KV.repl{kvs:List (κ×V)}{vs:List (κ×AB)}(r:KV kvs vs)(k:κ){y:V}{u:AB}(ry:RelV y u) :
  KV (kvs.map fun kv=>if kv.1=k then (kv.1,y) else kv) (vs.map fun kv=>if kv.1=k then (kv.1,u) else kv):=by
 unfold KV at r ⊢
 induction r with
 | nil=>exact .nil
 | @cons p q ps qs h t ih =>
  rw[AJ,AJ]
  refine .cons ?_ ih
  obtain⟨h1,h2⟩:=h
  by_cases e:p.1=k
  ·rw[if_pos e,if_pos (h1.symm.trans e)]; exact⟨h1,ry⟩
  ·rw[if_neg e,if_neg (fun z=>e (h1.trans z))]; exact⟨h1,h2⟩
theorem KV.put{kvs:List (κ×V)}{vs:List (κ×AB)}(r:KV kvs vs)(k:κ){y:V}{u:AB}(ry:RelV y u):KV (putK kvs k y) (stored vs k u):=by
 unfold putK stored
 rw[r.any k]
 by_cases e:(vs.any fun kv=>decide (kv.1=k))=true
 ·rw[if_pos e,if_pos e]; exact r.repl k ry
 ·rw[if_neg e,if_neg e]; exact Iz r ⟨rfl,ry⟩
theorem KV.length{kvs:List (κ×V)}{vs:List (κ×AB)}(r:KV kvs vs):kvs.length=vs.length:=Dq r
end
theorem zGU{P:Ah}{w:Aw}{k:Key}{u:AB}(r:RelV (kV k) u):(mixKind P w).is k u=true:=by
 cases k with
 | inl i=>obtain⟨t,e⟩:=(show ∃ t,u=DJ i t from r); subst e; exact zIA P w i t
 | inr x=>obtain⟨t,e⟩:=(show ∃ t,u=FC x t from r); subst e; exact zIF P w x t
theorem zFl{P:Ah}{w:Aw}:∀ {ks:List Key} {us:List AB},Vals (ks.map kV) us->ItemsAre (mixKind P w) ks us
 | [],_,r=>by rw[Ay]at r; cases r; exact .nil
 | k::ks,_,r=>by
  rw[AJ]at r
  cases r with
  | cons h t=>exact .cons (zGU h) (zFl t)
noncomputable abbrev KT (H:Hp):List (List Key×V)->List (List Key×Addr×AB)->Prop:=Cd fun p q=>p.1=q.1/\H q.2.1=some (.tup (p.1.map kV))/\RelV p.2 q.2.2
theorem KT.val{H:Hp}{kvs:List (List Key×V)}{xs:List (List Key×Addr×AB)}(r:KT H kvs xs)(k:List Key):RelO (valV kvs k) ((Gy xs k).map (·.2)):=by
 induction r with
 | nil=>exact DM
 | @cons p q ps qs h t ih =>
  obtain⟨h1,_,h2⟩:=h
  by_cases e:p.1=k
  ·have e':q.1=k:=h1.symm.trans e
   have b:Gy (q::qs) k=some q.2:=by simp[Gy,Bp,e']
   rw[zC5 e,b]; exact h2
  ·have e':¬ q.1=k:=fun z=>e (h1.trans z)
   have b:Gy (q::qs) k=Gy qs k:=by simp[Gy,Bp,e']
   rw[zCw e,b]; exact ih
theorem KT.repl{H:Hp}{kvs:List (List Key×V)}{xs:List (List Key×Addr×AB)}(r:KT H kvs xs)(k:List Key){y:V}{u:AB}(ry:RelV y u) :
  KT H (kvs.map fun kv=>if kv.1=k then (kv.1,y) else kv) (xs.map (putAt k u)):=by
 induction r with
 | nil=>exact .nil
 | @cons p q ps qs h t ih =>
  rw[AJ,AJ]
  refine .cons ?_ ih
  obtain⟨h1,h2,h3⟩:=h
  unfold putAt
  by_cases e:p.1=k
  ·rw[if_pos e,if_pos (h1.symm.trans e)]; exact⟨h1,h2,ry⟩
  ·rw[if_neg e,if_neg (fun z=>e (h1.trans z))]; exact⟨h1,h2,h3⟩
theorem KT.put{H:Hp}{kvs:List (List Key×V)}{xs:List (List Key×Addr×AB)}(r:KT H kvs xs)(k:List Key){b:Addr}{y:V}{u:AB}(hb:H b=some (.tup (k.map kV)))(ry:RelV y u) :
  KT H (putK kvs k y) (storedH xs k b u):=by
 have e:(kvs.any fun kv=>decide (kv.1=k))=(Gy xs k).isSome:=by
  rw[zHE,(r.val k).isSome_eq,Option.isSome_map]
 unfold putK storedH
 rw[e]
 by_cases q:(Gy xs k).isSome=true
 ·rw[if_pos q,if_pos q]; exact r.repl k ry
 ·rw[if_neg q,if_neg q]; exact Iz r ⟨rfl,hb,ry⟩
theorem KT.keeps{H H':Hp}{kvs:List (List Key×V)}{xs:List (List Key×Addr×AB)}(r:KT H kvs xs)(ht:∀ b ys,H b=some (.tup ys)->H' b=some (.tup ys)):KT H' kvs xs :=
 Paired.mapP r fun _ _ z=>⟨z.1,ht _ _ z.2.1,z.2.2⟩
section
variable {P:Ah}{w:Aw}{H:Hp}{h:Heap}{a:Addr}
theorem zNk{u:HO}(ok:HOk P w H h)(e:Rd H a u):ObjOk P w H h a u:=e.ok ok
theorem zEz{kvs:List (Key×V)}(ok:HOk P w H h)(e:Rd H a (.dK kvs)):kvs.length<=AE/\(a == CH)=false/\∃ vs,KV kvs vs/\h.DictOf (mixKind P w) a vs :=
 show ObjOk P w H h a (.dK kvs) from zNk ok e
theorem zQo{kvs:List (Key×V)}(ok:HOk P w H h)(e:H a=some (.dK kvs)):kvs.length<=AE/\(a == CH)=false/\∃ vs,KV kvs vs/\h.DictOf (mixKind P w) a vs:=zEz ok (.inl e)
theorem zEb{ks:List Key}(ok:HOk P w H h)(e:H a=some (.tup (ks.map kV))):(EN (mixKind P w)).is h ks a:=by
 obtain⟨_,its,r,o,h1,h2,⟨n,h3⟩,_⟩:=(show ObjOk P w H h a (.tup (ks.map kV)) from ok a _ e)
 exact⟨o,its.toArray,n,h1,h2,h3,by simpa using zFl r⟩
theorem zB1{kvs:List (List Key×V)}(ok:HOk P w H h)(e:Rd H a (.dT kvs)):kvs.length<=AE/\(a == CH)=false /\
  ∃ xs,KT H kvs xs/\h.DictOfH (EN (mixKind P w)) a xs:=by
 obtain⟨z,y,xs,r,o,es,ep,h1,h2,h3,h4,h5⟩:=(show ObjOk P w H h a (.dT kvs) from zNk ok e)
 refine⟨z,y,xs,r,o,es,ep,h1,h2,h3,h4,fun x hx=>?_,h5⟩
 have all:∀ {l:List (List Key×V)} {m:List (List Key×Addr×AB)},KT H l m->∀ x∈m,(EN (mixKind P w)).is h x.1 x.2.1:=by
  intro l m q
  induction q with
  | nil=>intro x hx; exact nomatch hx
  | @cons p q ps qs hq t ih =>
   intro x hx
   rcases AS.mp hx with e | hx
   ·subst e
    exact zEb ok (by rw[← hq.1]; exact hq.2.1)
   ·exact ih x hx
 exact all r x hx
theorem zQX{kvs:List (List Key×V)}(ok:HOk P w H h)(e:H a=some (.dT kvs)):kvs.length<=AE/\(a == CH)=false /\
  ∃ xs,KT H kvs xs/\h.DictOfH (EN (mixKind P w)) a xs:=zB1 ok (.inl e)
end
noncomputable def DGet (H:Hp) (a:Addr) (y:V) (r:Option V):Prop :=
 (∃ kvs k,Rd H a (.dK kvs)/\y=kV k/\r=valV kvs k)\/∃ kvs k b,Rd H a (.dT kvs)/\y=.ref b/\H b=some (.tup (k.map kV))/\r=valV kvs k
noncomputable def DPut (H:Hp) (a:Addr) (y v:V) (H':Hp):Prop :=
 (∃ kvs k,H a=some (.dK kvs)/\y=kV k/\kvs.length < AE/\H'=upd H a (.dK (putK kvs k v))) \/
 ∃ kvs k b,H a=some (.dT kvs)/\y=.ref b/\H b=some (.tup (k.map kV))/\kvs.length < AE/\H'=upd H a (.dT (putK kvs k v))
theorem DGet.k{H:Hp}{a:Addr}{kvs:List (Key×V)}{k:Key}(e:H a=some (.dK kvs)):DGet H a (kV k) (valV kvs k):=.inl ⟨kvs,k,.inl e,rfl,rfl⟩
theorem DGet.t{H:Hp}{a b:Addr}{kvs:List (List Key×V)}{k:List Key}(e:H a=some (.dT kvs))(eb:H b=some (.tup (k.map kV))):DGet H a (.ref b) (valV kvs k):=.inr ⟨kvs,k,b,.inl e,rfl,eb,rfl⟩
theorem DPut.k{H:Hp}{a:Addr}{kvs:List (Key×V)}{k:Key}{v:V}(e:H a=some (.dK kvs))(hl:kvs.length < AE):DPut H a (kV k) v (upd H a (.dK (putK kvs k v))):=.inl ⟨kvs,k,e,rfl,hl,rfl⟩
theorem DPut.t{H:Hp}{a b:Addr}{kvs:List (List Key×V)}{k:List Key}{v:V}(e:H a=some (.dT kvs))(eb:H b=some (.tup (k.map kV)))(hl:kvs.length < AE) :
  DPut H a (.ref b) v (upd H a (.dT (putK kvs k v))):=.inr ⟨kvs,k,b,e,rfl,eb,hl,rfl⟩
section
variable {X:Cx}{pins:List (Addr×Obj)}{σ:St}{H:Hp}{s:AG}{a:Addr}{y v:V}{u r:AB}{o:Option V}{A:A4}{E:AB->AG->Prop}
theorem Inv.big(I:Inv X pins σ H s):CH < s.heap.objs.size:=by
 have h:Av < s.heap.objs.size:=(I.mod.glob.keeps I.bk).lt
 exact Jl (by decide) h
theorem zLn{Q:AB->AG->Prop}(hu:A.units+1 < DV)(I:Inv X pins σ H s)(g:DGet H a y (some v))(ry:RelV y u)(h:∀ w' s',Inv X pins σ H s'->RelV v w'->Q w' s') :
  AV (model X.prog X.w) A (D8 (.ref a) u) Q E s:=by
 rcases g with ⟨kvs,k,e,ey,l⟩ | ⟨kvs,k,b,e,ey,eb,l⟩
 ·subst ey
  obtain⟨z,hd,vs,rel,dd⟩:=zEz I.hok e
  obtain⟨w',hw,rw'⟩:=RelO.some_of (v:=v) (o:=Fu vs k) (by rw[l]; exact rel.val k)
  exact wpAny_getItem_of (zGU ry) dd.mapOf hw (h w' _ (I.tok _) rw')
 ·subst ey
  cases (show u=BP b from ry)
  obtain⟨z,hd,xs,rel,dd⟩:=zB1 I.hok e
  obtain⟨w',hw,rw'⟩:=RelO.some_of (v:=v) (o:=(Gy xs k).map (·.2)) (by rw[l]; exact rel.val k)
  obtain⟨p,hp,hp2⟩:=Option.map_eq_some_iff.mp hw
  refine wpAny_getItem_heap (Fd hu) (zEb I.hok eb) dd hp ?_
  rw[hp2]
  exact h w' _ (I.tok _) rw'
theorem zIw{h':Heap}{t':Nat}{ob:HO}(I:Inv X pins σ H s)(mu:Mut (H a))(hs:C6 a s.heap h')(he:∃ q,h'.get? a=some q)(new:ObjOk X.prog X.w (upd H a ob) h' a ob) :
  Inv X pins σ (upd H a ob) { s with heap:=h',toks:=t' } :=
 I.write (x:=a) (e:=a) mu (.inl rfl) (fun b q hb z=>(hs.2 b hb).trans z) he new
theorem zQJ{P:Ah}{w:Aw}{H':Hp}{h':Heap}{kvs:List (Key×V)}{vs:List (Key×AB)}(z:kvs.length<=AE)(hd:(a == CH)=false)(rel:KV kvs vs)(dd:h'.DictOf (mixKind P w) a vs) :
  ObjOk P w H' h' a (.dK kvs):=⟨z,hd,vs,rel,dd⟩
theorem zK7{H':Hp}{Q:Unit->AG->Prop}(hu:A.units+1 < DV)(I:Inv X pins σ H s)(g:DPut H a y v H')(ry:RelV y u)(rv:RelV v r)(h:∀ s',Inv X pins σ H' s'->Q () s') :
  AV (model X.prog X.w) A (JH (.ref a) u r) Q E s:=by
 rcases g with ⟨kvs,k,e,ey,l,eH⟩ | ⟨kvs,k,b,e,ey,eb,l,eH⟩
 ·subst ey eH
  obtain⟨z,hd,vs,rel,dd⟩:=zQo I.hok e
  have hz:vs.length<=AE:=by rw[← rel.length]; exact z
  have hl:(putK kvs k v).length<=AE:=by have:=zD7 kvs k v; lia
  refine wpAny_setItem_pairs (hsz:=hz) (zGU ry) dd fun h' dd' hs=>h _ ?_
  have he:∃ q,h'.get? a=some q:=let ⟨q,_,_,hq,_⟩:=dd'; ⟨q,hq⟩
  exact zIw I (by rw[e]; exact DM) hs he (zQJ hl hd (rel.put k rv) dd')
 ·subst ey eH
  cases (show u=BP b from ry)
  obtain⟨z,hd,xs,rel,dd⟩:=zQX I.hok e
  have hz:xs.length<=AE:=by rw[← Dq rel]; exact z
  have hl:(putK kvs k v).length<=AE:=by have:=zD7 kvs k v; lia
  refine wpAny_setItem_heap (hsz:=hz) (Fd hu) (zEb I.hok eb) dd fun h' dd' hs=>h _ ?_
  obtain⟨q,es,ep,hq,h2,h3,h4,_,h5⟩:=dd'
  refine zIw I (by rw[e]; exact DM) hs ⟨q,hq⟩ ⟨hl,hd,_,(rel.put k eb rv).keeps fun c ys ec=>?_,q,es,ep,hq,h2,h3,h4,h5⟩
  rw[zAK (zQh ec e (fun z=>nomatch z))]
  exact ec
end
def NoSl (i:Expr):Prop:=∀ ov iv,subscripted i false ov iv=operate [ov,iv] (D8 ov iv)
theorem zN2{prog:Ah}{w:Aw}{A:A4}{E:AB->AG->Prop}{s:AG}{env:Env}{value slice:Expr}{pos:Pos}{T id:String}{Q:AB->AG->Prop}
  (hl:Iq (.type T) "__getitem__"=pure (some (.builtin id))) (hs:NoSl slice)
  (h:AV (model prog w) A (eval value env) (fun o s₁=>AV (model prog w) A (eval slice env) (fun i s₂=>s₂.TypeIs o T/\AV (model prog w) A (D8 o i) Q E s₂) E s₁) E s) :
  AV (model prog w) A (eval (.Subscript value slice pos) env) Q E s:=by
 refine Ir (BE h (fun o s₁ h₁=>BE h₁ (fun i s₂ h₂=>?_) fun _ _ x=>x) fun _ _ x=>x)
 obtain⟨hT,h₂⟩:=h₂
 unfold HI
 refine AD ?_
 rw[getitemInPython_of_ne hT.not_modules]
 refine AD (El hT hl ?_)
 have fin:AV (model prog w) A (subscripted slice false o i) (fun r s₃=>AV (model prog w) A (letTemporaryGo value o r >>= fun _=>pure r) Q E s₃) E s₂:=by
  rw[hs o i]
  exact wpAny_operating (BE h₂ (fun r s₃ h₃=>AD (wpAny_letTemporaryGo (AO h₃))) fun _ _ x=>x)
 first
  | exact AO (AD fin)
  | exact AD (AO (AD fin))
  | exact AD fin
theorem zIP{X:Cx}{pins:List (Addr×Obj)}{σ:St}{H:Hp}{s:AG}{a:Addr}{y:V}{o:Option V}(I:Inv X pins σ H s)(g:DGet H a y o):s.TypeIs (.ref a) "dict":=by
 rcases g with ⟨kvs,k,e,_,_⟩ | ⟨kvs,k,b,e,_,_,_⟩
 ·obtain⟨_,_,vs,_,dd⟩:=zEz I.hok e
  exact dd.typeIs
 ·obtain⟨_,_,xs,_,dd⟩:=zB1 I.hok e
  exact dd.typeIs
noncomputable def tDGet (td ty:TE):TE:=fun σ H Q=>td σ H fun x H1=>ty σ H1 fun y H2=>∃ a v,x=.ref a/\DGet H2 a y (some v)/\Q v H2
noncomputable def sDPut (td ty tv:TE):TS:=fun D σ H=>tv σ H fun v H1=>td σ H1 fun x H2=>ty σ H2 fun y H3=>∃ a H4,x=.ref a/\DPut H3 a y v H4/\D.nx σ H4
section
variable {X:Cx}{o i e value:Expr}{pos pos' tpos:Pos}{td ty tv:TE}
theorem zFO(hu:X.A.units+1 < DV)(ho:PE X o td)(hi:PE X i ty)(hs:NoSl i):PE X (.Subscript o i pos) (tDGet td ty):=by
 intro pins s σ H Q I h
 refine zN2 PySem.F.slot_dict_getitem.lookup hs (thn (ho pins s σ H _ I h) fun u s1 ⟨x,H1,I1,rx,q1⟩=>thn (hi pins s1 σ H1 _ I1 q1) fun iv s2 ⟨y,H2,I2,ry,a,v,ex,g,q2⟩=>?_)
 subst ex
 obtain rfl:u=BP a:=rx
 exact⟨zIP I2 g,zLn hu I2 g ry fun w' s3 I3 rw'=>⟨v,H2,I3,rw',q2⟩⟩
theorem zOu(hu:X.A.units+1 < DV)(ho:PE X o td)(hi:PE X i ty)(hv:PE X value tv)(hs:Ds value (some (.Subscript o i pos')) pos.line X.env=pure false) :
  PS X (.Assign [.Subscript o i pos'] value pos) (sDPut td ty tv):=by
 intro pins s σ H D I h
 refine wpAny_Assign_Subscript (thn (hv pins s σ H _ I h) fun r s1 ⟨v,H1,I1,rv,q1⟩=>thn (ho pins s1 σ H1 _ I1 q1) fun u s2 ⟨x,H2,I2,rx,q2⟩=>thn (hi pins s2 σ H2 _ I2 q2) fun iv s3 ⟨y,H3,I3,ry,a,H4,ex,g,q3⟩=>?_) hs
 subst ex
 obtain rfl:u=BP a:=rx
 exact zK7 hu I3 g ry rv fun s4 I4=>⟨σ,H4,I4,q3⟩
end
theorem zMi{P:Ah}{w:Aw}{H:Hp}(h:Heap)(hb:CH < h.objs.size):ObjOk P w H (h.push { cls:=.type "dict",data:=.dict #[] }) h.objs.size (.dT []) :=
 ⟨A9 _,beq_eq_false_iff_ne.mpr (BC (BA hb)),[],.nil,_,#[],0,AZ _ rfl,⟨rfl,rfl,rfl⟩,rfl,rfl,Ih⟩
noncomputable def tDNewT:TE:=fun _ H Q=>∀ p,H p=none->Q (.ref p) (upd H p (.dT []))
section
variable {X:Cx}{pos:Pos}
theorem zMY:PE X (.Dict [] [] pos) tDNewT:=fun pins s σ H Q I h =>
 wpAny_Dict_empty ⟨.ref s.heap.objs.size,_,I.laid (a:=s.heap.objs.size) (o:=.dT []) (t':=s.toks) (fun _ _ q=>AM _ q) (AL _) (zMi s.heap I.big),rfl,h _ (I.hok.fresh (AL _))⟩
end
structure M2(X:Cx)(o:Expr)(m:Str)(apos:Pos)(e f:Expr)(cpos:Pos):Prop where
 base:C4 o m X.env (eval o X.env)=eval o X.env
 few:((CT cpos (Ae [e,f] X.env)).all (fun x=>!x.1) && (Gq cpos (E1 [] X.env)).all (fun x=>x.1.isSome)
  && decide (([e,f]:List Expr).length+([]:List D9).length+(if ([]:List D9).isEmpty then 0 else 1) < 30))=true
 line:(apos.endLine == cpos.line)=true
 trees:CT cpos (Ae [e,f] X.env)=[(false,eval e X.env),(false,eval f X.env)]
def IsD (H:Hp) (a:Addr):Prop:=(∃ kvs,Rd H a (.dK kvs))\/∃ kvs,Rd H a (.dT kvs)
theorem zPx{X:Cx}{pins:List (Addr×Obj)}{σ:St}{H:Hp}{s:AG}{a:Addr}(I:Inv X pins σ H s)(d:IsD H a) :
  s.TypeIs (.ref a) "dict"/\(∀ b,BP a=.ref b->∃ ob,s.heap.get? b=some ob/\ob.dict=none)/\(a == CH)=false:=by
 rcases d with ⟨kvs,e⟩ | ⟨kvs,e⟩
 ·obtain⟨_,hd,vs,_,dd⟩:=zEz I.hok e
  refine⟨dd.typeIs,fun b q=>?_,hd⟩
  cases q
  obtain⟨ob,_,_,h1,h2,_⟩:=dd
  exact⟨ob,h1,h2.2.1⟩
 ·obtain⟨_,hd,xs,_,dd⟩:=zB1 I.hok e
  refine⟨dd.typeIs,fun b q=>?_,hd⟩
  cases q
  obtain⟨ob,_,_,h1,h2,_⟩:=dd
  exact⟨ob,h1,h2.2.1⟩
section
variable {X:Cx}{pins:List (Addr×Obj)}{σ:St}{H:Hp}{s:AG}{a:Addr}{y d:V}{u r:AB}{o:Option V}{A:A4}{E:AB->AG->Prop}
theorem zPI{Q:AB->AG->Prop}(hu:A.units+1 < DV)(I:Inv X pins σ H s)(g:DGet H a y o)(ry:RelV y u)(rd:RelV d r)(h:∀ w' s',Inv X pins σ H s'->RelV (o.getD d) w'->Q w' s') :
  AV (model X.prog X.w) A (call (.builtin "dict.get") [.ref a,u,r]) Q E s:=by
 rcases g with ⟨kvs,k,e,ey,l⟩ | ⟨kvs,k,b,e,ey,eb,l⟩
 ·subst ey
  obtain⟨z,hd,vs,rel,dd⟩:=zEz I.hok e
  refine LQ D7 dd.typeIs GJ (GA _ _ _) (meets_dict_get_default (mixKind X.prog X.w) a (zGU ry) hd r) ⟨_,dd.mapOf,h _ _ (I.tok _) ?_⟩
  rw[l]
  exact (rel.val k).getD rd
 ·subst ey
  cases (show u=BP b from ry)
  obtain⟨z,hd,xs,rel,dd⟩:=zB1 I.hok e
  refine LQ D7 dd.typeIs GJ (GA _ _ _) (meetsH_dict_get_default (EN (mixKind X.prog X.w)) a b hd r) ⟨Fd hu,k,xs,zEb I.hok eb,dd,h _ _ (I.tok _) ?_⟩
  rw[l]
  exact (rel.val k).getD rd
end
noncomputable def tDGet2 (td ty tx:TE):TE:=fun σ H Q=>td σ H fun x H1=>∃ a,x=.ref a/\IsD H1 a/\ty σ H1 fun y H2=>tx σ H2 fun z H3=>∃ o,DGet H3 a y o/\Q (o.getD z) H3
section
variable {X:Cx}{o e f:Expr}{apos cpos:Pos}{td ty tx:TE}
theorem zNC(hu:X.A.units+1 < DV)(ho:PE X o td)(he:PE X e ty)(hf:PE X f tx)(m:M2 X o "get" apos e f cpos):PE X (.Call (.Attribute o "get" apos) [e,f] [] cpos) (tDGet2 td ty tx):=by
 intro pins s σ H Q I h
 refine wpAny_Call_method m.base m.few m.line PySem.F.plainAttrs_dict D7 PySem.F.type_dict_get (thn (ho pins s σ H _ I h) fun u s1 ⟨x,H1,I1,rx,a,ex,d,q1⟩=>?_)
 subst ex
 obtain rfl:u=BP a:=rx
 obtain⟨t1,t2,_⟩:=zPx I1 d
 refine⟨t1,t2,?_⟩
 rw[m.trees]
 refine C5 rfl (EO (Es (thn (he pins s1 σ H1 _ I1 q1) fun iv s2 ⟨y,H2,I2,ry,q2⟩ =>
  Es (thn (hf pins s2 σ H2 _ I2 q2) fun fv s3 ⟨z,H3,I3,rz,ov,g,q3⟩=>HX ?_))))
 exact zPI hu I3 g ry rz fun w' s4 I4 rw'=>⟨_,H3,I4,rw',q3⟩
end
end L2
namespace D
open PySem L2
noncomputable def keyT:T->Option Key
 | .a (.int n)=>some (.inl n)
 | .a (.str x)=>some (.inr x)
 | _=>none
noncomputable def keyTs:List T->Option (List Key)
 | []=>some []
 | t::r=>(keyT t).bind fun k=>(keyTs r).map fun ks=>k::ks
theorem zE7{K:Fg}{H:Hp}{y:V}{t:T}{k:Key}(h:Im K H y t)(e:keyT t=some k):y=kV k:=by
 unfold keyT at e
 split at e
 ·cases e; exact h.inva
 ·cases e; exact h.inva
 ·cases e
theorem zHd{K:Fg}{H:Hp}:∀ {vs:List V} {ts:List T} {ks:List Key},Ims K H vs ts->keyTs ts=some ks->vs=ks.map kV
 | _,[],_,h,e=>by cases e; exact h.inv0
 | _,t::r,_,h,e=>by
  obtain⟨v,vs,rfl,h1,h2⟩:=h.inv
  obtain⟨k,e1,e⟩:=bind_some e
  obtain⟨ks,e2,e⟩:=map_some e
  subst e
  rw[zE7 h1 e1,zHd h2 e2]; rfl
def KC (K:Fg) (cs:List (List Key)):Prop:=∀ p ks,KT K p (ks.map kV)->ks∈cs
section
variable {κ:Type} [DecidableEq κ]
noncomputable def valT (kvs:List (κ×T)) (k:κ):Option T:=(kvs.find? fun kv=>decide (kv.1=k)).map (·.2)
noncomputable def putT (kvs:List (κ×T)) (k:κ) (t:T):List (κ×T) :=
 if (kvs.any fun kv=>decide (kv.1=k))=true then kvs.map (fun kv=>if kv.1=k then (kv.1,t) else kv) else kvs++[(k,t)]
def PR (K:Fg) (H:Hp) (l:List (κ×V)) (kvs:List (κ×T)):Prop:=Cd (fun a b=>a.1=b.1/\Im K H a.2 b.2) l kvs
variable {K:Fg}{H:Hp}
theorem PR.val{l:List (κ×V)}{kvs:List (κ×T)}(h:PR K H l kvs)(k:κ):(valV l k=none/\valT kvs k=none)\/∃ v t,valV l k=some v/\valT kvs k=some t/\Im K H v t:=by
 induction h with
 | nil=>exact .inl ⟨rfl,rfl⟩
 | @cons a b l kvs hab _ ih =>
  by_cases e:a.1=k
  ·refine .inr ⟨a.2,b.2,zC5 e,?_,hab.2⟩
   simp[valT,Bp,← hab.1,e]
  ·rw[zCw e]
   have:valT (b::kvs) k=valT kvs k:=by simp[valT,Bp,← hab.1,e]
   rw[this]; exact ih
theorem PR.any{l:List (κ×V)}{kvs:List (κ×T)}(h:PR K H l kvs)(k:κ):(l.any fun kv=>decide (kv.1=k))=kvs.any fun kv=>decide (kv.1=k):=by
 induction h with
 | nil=>rfl
 | @cons a b l kvs hab _ ih=>rw[CW,CW,ih,hab.1]
theorem PR.app{l m:List (κ×V)}{kvs mvs:List (κ×T)}(h:PR K H l kvs)(h':PR K H m mvs):PR K H (l++m) (kvs++mvs):=by
 induction h with
 | nil=>exact h'
 | @cons a b l kvs hab _ ih=>exact .cons hab ih
theorem PR.put{l:List (κ×V)}{kvs:List (κ×T)}(h:PR K H l kvs)(k:κ){v:V}{t:T}(hv:Im K H v t):PR K H (putK l k v) (putT kvs k t):=by
 unfold putK putT
 rw[h.any k]
 split
 ·rename_i hx; clear hx
  induction h with
  | nil=>exact .nil
  | @cons a b l kvs hab _ ih =>
   rw[AJ,AJ]
   refine .cons ?_ ih
   by_cases e:a.1=k
   ·rw[if_pos e,if_pos (hab.1 ▸ e)]; exact⟨hab.1,hv⟩
   ·rw[if_neg e,if_neg (hab.1 ▸ e)]; exact hab
 ·exact h.app (.cons ⟨rfl,hv⟩ .nil)
theorem PR.len{l:List (κ×V)}{kvs:List (κ×T)}(h:PR K H l kvs):l.length=kvs.length:=Dq h
end
noncomputable def dictOf (Γ:En):S->Option Dk
 | .d d=>some d
 | .s i=>match Γ[i]? with
  | some (some (.d d))=>some d
  | some (some (.e d))=>some d
  | _=>none
 | _=>none
noncomputable def getX (cs:List (List Key)) (d:Dk) (t:T):Option (Option T):=match d,t with
 | .inl kvs,t=>(keyT t).map fun k=>valT kvs k
 | .inr kvs,.t ts=>(keyTs ts).bind fun ks=>if (cs.any fun c=>decide (c=ks))=true then none else some (valT kvs ks)
 | _,_=>none
noncomputable def putX (cs:List (List Key)) (d:Dk) (t v:T):Option Dk:=match d,t with
 | .inl kvs,t=>(keyT t).bind fun k=>if kvs.length < AE then some (.inl (putT kvs k v)) else none
 | .inr kvs,.t ts=>(keyTs ts).bind fun ks=>if (cs.any fun c=>decide (c=ks))=true then none else if kvs.length < AE then some (.inr (putT kvs ks v)) else none
 | _,_=>none
section
variable {K:Fg}{C:Fr}{w:W}{Γ:En}{σ:St}{H:Hp}{cs:List (List Key)}
theorem zDi{x:V}{s:S}{d:Dk}(R:Rep K C w Γ σ H)(o:SOk K C w σ H x s)(e:dictOf Γ s=some d):∃ p ob,x=.ref p/\H p=some ob/\DOk K H ob d:=by
 cases s with
 | v t=>cases e
 | l _=>cases e
 | d d' =>
  cases e
  obtain⟨p,ob,rfl,_,_,_,h1,h2⟩:=o
  exact⟨p,ob,rfl,h1,h2⟩
 | s i =>
  unfold dictOf at e
  have o':σ[i]?=some (some x):=o
  dsimp only at e
  split at e
  ·rename_i d' hi
   cases e
   obtain⟨v,e1,p,ob,rfl,_,h1,h2⟩:=R.val i _ hi
   rw[o']at e1; cases e1
   exact⟨p,ob,rfl,h1,h2⟩
  ·rename_i d' hi
   cases e
   obtain⟨v,e1,p,ob,rfl,h2,h1,_⟩:=R.val i _ hi
   rw[o']at e1; cases e1
   exact⟨p,ob,rfl,h1,h2⟩
  ·cases e
theorem DOk.invK{ob:HO}{kvs:List (Key×T)}(h:DOk K H ob (.inl kvs)):∃ l,ob=.dK l/\PR K H l kvs:=by
 cases ob with
 | dK l=>exact⟨l,rfl,h⟩
 | _=>exact h.elim
theorem DOk.invT{ob:HO}{kvs:List (List Key×T)}(h:DOk K H ob (.inr kvs)):∃ l,ob=.dT l/\PR K H l kvs:=by
 cases ob with
 | dT l=>exact⟨l,rfl,h⟩
 | _=>exact h.elim
theorem DOk.isD{ob:HO}{p:Addr}{d:Dk}(h:DOk K H ob d)(hp:H p=some ob):IsD H p:=by
 cases d with
 | inl kvs=>obtain⟨l,rfl,_⟩:=h.invK; exact .inl ⟨l,.inl hp⟩
 | inr kvs=>obtain⟨l,rfl,_⟩:=h.invT; exact .inr ⟨l,.inl hp⟩
theorem zD9{ts:List T}{ks:List Key}{y:V}(hc:KC K cs)(h:Im K H y (.t ts))(e:keyTs ts=some ks)(n:¬ (cs.any fun c=>decide (c=ks))=true):∃ b,y=.ref b/\H b=some (.tup (ks.map kV)):=by
 obtain⟨b,vs,rfl,h1,h2⟩:=h.inv
 have:=zHd h2 e
 subst this
 rcases h1 with h1 | h1
 ·exact⟨b,rfl,h1⟩
 ·exact absurd (CO.mpr ⟨ks,hc b ks h1,decide_eq_true rfl⟩) n
theorem zL2{p:Addr}{ob:HO}{d:Dk}{y:V}{t:T}{r:Option T}(hc:KC K cs)(hp:H p=some ob)(hd:DOk K H ob d)(hy:Im K H y t)(e:getX cs d t=some r) :
  ∃ r',DGet H p y r'/\((r=none/\r'=none)\/∃ t' v',r=some t'/\r'=some v'/\Im K H v' t'):=by
 unfold getX at e
 split at e
 ·rename_i kvs t
  obtain⟨l,rfl,h1⟩:=hd.invK
  obtain⟨k,e1,e⟩:=map_some e
  subst e
  rw[zE7 hy e1]
  refine⟨_,DGet.k hp,?_⟩
  rcases h1.val k with ⟨a,b⟩ | ⟨v,t',a,b,c⟩
  ·exact .inl ⟨b,a⟩
  ·exact .inr ⟨t',v,b,a,c⟩
 ·rename_i kvs ts
  obtain⟨l,rfl,h1⟩:=hd.invT
  obtain⟨ks,e1,e⟩:=bind_some e
  split at e
  ·cases e
  ·rename_i n
   cases e
   obtain⟨b,rfl,h2⟩:=zD9 hc hy e1 n
   refine⟨_,DGet.t hp h2,?_⟩
   rcases h1.val ks with ⟨a,b⟩ | ⟨v,t',a,b,c⟩
   ·exact .inl ⟨b,a⟩
   ·exact .inr ⟨t',v,b,a,c⟩
 ·cases e
theorem zPa{p:Addr}{ob:HO}{d d':Dk}{y v:V}{t tv:T}(hc:KC K cs)(hp:H p=some ob)(hd:DOk K H ob d)(hy:Im K H y t)(hv:Im K H v tv)(e:putX cs d t tv=some d') :
  ∃ ob',DPut H p y v (upd H p ob')/\DOk K H ob' d':=by
 unfold putX at e
 split at e
 ·rename_i kvs t
  obtain⟨l,rfl,h1⟩:=hd.invK
  obtain⟨k,e1,e⟩:=bind_some e
  split at e
  ·rename_i hl
   cases e
   rw[zE7 hy e1]
   exact⟨_,DPut.k hp (by rw[h1.len]; exact hl),h1.put k hv⟩
  ·cases e
 ·rename_i kvs ts
  obtain⟨l,rfl,h1⟩:=hd.invT
  obtain⟨ks,e1,e⟩:=bind_some e
  split at e
  ·cases e
  ·rename_i n
   split at e
   ·rename_i hl
    cases e
    obtain⟨b,rfl,h2⟩:=zD9 hc hy e1 n
    exact⟨_,DPut.t hp h2 (by rw[h1.len]; exact hl),h1.put ks hv⟩
   ·cases e
 ·cases e
end
noncomputable def getS (cs:List (List Key)):En->S->S->Option S:=fun Γ a b=>(dictOf Γ a).bind fun d=>match b with
 | .v t=>(getX cs d t).bind fun r=>r.map .v
 | _=>none
noncomputable def rDGet:R2:=fun x y H Q=>∃ a v,x=.ref a/\DGet H a y (some v)/\Q v H
section
variable {K:Fg}{cs:List (List Key)}
theorem zJI(hc:KC K cs):SimR2 K rDGet (getS cs):=by
 intro C w Γ σ H x y a b s Q R ox oy e k
 obtain⟨d,e1,e⟩:=bind_some e
 split at e
 ·rename_i t
  obtain⟨r,e2,e⟩:=bind_some e
  obtain⟨p,ob,rfl,hp,hd⟩:=zDi R ox e1
  obtain⟨r',g,z⟩:=zL2 hc hp hd oy e2
  rcases z with ⟨z,_⟩ | ⟨t2,v2,z1,z2,z3⟩
  ·subst z; cases e
  ·subst z1 z2; cases e
   exact⟨p,v2,rfl,g,k _ H R .refl z3 trivial⟩
 ·cases e
noncomputable def dDGet2 (cs:List (List Key)) (fo fk fx:DE):DE:=fun Γ=>(fo Γ).bind fun p=>if (dictOf p.2 p.1).isSome=true then (fk p.2).bind fun q=>(fx q.2).bind fun z=>(dictOf z.2 p.1).bind fun d=>match q.1,z.1 with
 | .v t,.v u=>(getX cs d t).map fun r=>(.v (r.getD u),z.2)
 | _,_=>none
 else none
theorem zKZ(hc:KC K cs){td ty tx:TE}{fo fk fx:DE}(ho:SimE K td fo)(hk:SimE K ty fk)(hx:SimE K tx fx):SimE K (tDGet2 td ty tx) (dDGet2 cs fo fk fx):=by
 intro C w Γ σ H s Γ' Q R e k
 obtain⟨⟨a,G1⟩,e1,e⟩:=bind_some e
 dsimp only at e
 split at e
 rotate_left
 ·cases e
 rename_i hs0
 obtain⟨d0,hs0⟩:=Cs.mp hs0
 obtain⟨⟨b,G2⟩,e2,e⟩:=bind_some e
 obtain⟨⟨c,G3⟩,e5,e⟩:=bind_some e
 obtain⟨d,e3,e⟩:=bind_some e
 dsimp only at e
 split at e
 rotate_left
 ·cases e
 rename_i t u hb hu
 obtain⟨r,e4,e⟩:=map_some e
 cases e
 refine ho C w Γ σ H a G1 _ R e1 fun v H1 R1 ev1 o1 n1=>?_
 obtain⟨p,ob,rfl,hp,hd⟩:=zDi R1 o1 hs0
 refine⟨p,rfl,hd.isD hp,?_⟩
 refine hk C w G1 σ H1 _ _ _ R1 e2 fun y H2 R2 ev2 o2 n2=>?_
 refine hx C w G2 σ H2 _ _ _ R2 e5 fun z H3 R3 ev3 o3 n3=>?_
 obtain⟨p2,ob2,ep,hp2,hd2⟩:=zDi R3 ((o1.evo ev2 R1.lst).evo ev3 R2.lst) e3
 cases ep
 have o2':Im K H3 y t:=Im.evo ev3 R2.lst o2
 obtain⟨r',g,z⟩:=zL2 hc hp2 hd2 o2' e4
 refine⟨r',g,?_⟩
 rcases z with ⟨z1,z2⟩ | ⟨t2,v2,z1,z2,z3⟩
 ·subst z1 z2
  exact k _ H3 R3 ((ev1.trans ev2).trans ev3) o3 trivial
 ·subst z1 z2
  exact k _ H3 R3 ((ev1.trans ev2).trans ev3) z3 trivial
noncomputable def dDNew (b:Bool):DE:=fun Γ=>some (.d (if b then .inr [] else .inl []),Γ)
theorem zKu:SimE K tDNewT (dDNew true):=by
 intro C w Γ σ H s Γ' Q R e k
 cases e
 exact fun p hp=>k _ _ (R.new hp) (Evo.new hp) (R.newd (kvs:=.inr []) hp (show Cd _ [] [] from .nil)) ⟨p,rfl,hp⟩
noncomputable def isDs (Γ:En) (i:Nat):Bool:=match Γ[i]? with
 | some (some (.d _))=>true
 | _=>false
noncomputable def dDPut (cs:List (List Key)) (i:Nat) (fk fv:DE):DS:=fun Γ=>(fv Γ).bind fun p=>match p.1 with
 | .v tv=>if isDs p.2 i=true then (fk p.2).bind fun q=>match q.1,q.2[i]? with
  | .v tk,some (some (.d d))=>(putX cs d tk tv).map fun d'=>.nx (q.2.set i (some (.d d')))
  | _,_=>none
  else none
 | _=>none
theorem zLT(hc:KC K cs){ip:Option Nat}{i:Nat}{ty tv:TE}{fk fv:DE}(hk:SimE K ty fk)(hv:SimE K tv fv):SimS K ip (sDPut (tVar i) ty tv) (dDPut cs i fk fv):=by
 intro C w Γ σ H D o hpin R e k
 obtain⟨⟨a,G1⟩,e1,e⟩:=bind_some e
 dsimp only at e
 cases a with
 | l _=>cases e
 | s _=>cases e
 | d _=>cases e
 | v t1 =>
  dsimp only at e
  by_cases hl:isDs G1 i=true
  ·rw[if_pos hl]at e
   obtain⟨⟨b,G2⟩,e2,e⟩:=bind_some e
   dsimp only at e
   split at e
   rotate_left
   ·cases e
   rename_i tk d hi
   obtain⟨d',e3,e⟩:=map_some e
   subst e
   refine hv C w Γ σ H _ G1 _ R e1 fun v H1 R1 ev1 o1 n1=>?_
   obtain⟨d0,hd0⟩:∃ d0,G1[i]?=some (some (.d d0)):=by
    unfold isDs at hl
    split at hl
    ·rename_i d0 h0; exact⟨d0,h0⟩
    ·cases hl
   obtain⟨v0,s1,p,ob,rfl,m0,h0,q0⟩:=R1.val i _ hd0
   refine⟨.ref p,s1,?_⟩
   refine hk C w G1 σ H1 _ G2 _ R1 e2 fun y H2 R2 ev2 o2 n2=>?_
   obtain⟨v3,s3,p3,ob3,rfl,m3,h3,q3⟩:=R2.val i _ hi
   rw[s1]at s3; cases s3
   have o1':Im K H2 v t1:=Im.evo ev2 R1.lst o1
   obtain⟨ob',g,z⟩:=zPa hc h3 q3 o2 o1' e3
   exact⟨p,_,rfl,g,k w σ _ (R2.putD hi s1 z).1⟩
  ·rw[if_neg hl]at e; cases e
end
section
variable {ι:Type}{K:Fg}{mg:Str->Option AB}{k:Nat}{X:ι->Cx}{cs:List (List Key)}{o i e f:Expr}{fo fk fx:DE}{pos apos cpos:Pos}{ip:Option Nat}
theorem un1(M:Fm K mg k X)(j:ι):(X j).A.units+1 < DV:=by have:=(M.room j).un; lia
theorem zI6(M:Fm K mg k X)(hc:KC K cs)(ho:EX K X o fo)(hk:EX K X i fk)(hs:NoSl i:=by intro _ _; rfl):EX K X (.Subscript o i pos) (dOp (getS cs) fo fk) :=
 let ⟨_,p,s⟩:=ho; let ⟨_,q,u⟩:=hk; ⟨_,fun j=>zFO (un1 M j) (p j) (q j) hs,zDS (zJI hc) s u⟩
theorem zHq(M:Fm K mg k X)(hc:KC K cs)(ho:EX K X o fo)(hk:EX K X e fk)(hx:EX K X f fx)(m:∀ j,M2 (X j) o "get" apos e f cpos:=by intro _; exact⟨rfl,rfl,rfl,rfl⟩):EX K X (.Call (.Attribute o "get" apos) [e,f] [] cpos) (dDGet2 cs fo fk fx) :=
 let ⟨_,p,s⟩:=ho; let ⟨_,q,u⟩:=hk; let ⟨_,r,v⟩:=hx; ⟨_,fun j=>zNC (un1 M j) (p j) (q j) (r j) (m j),zKZ hc s u v⟩
theorem zHa:EX K X (.Dict [] [] pos) (dDNew true):=⟨_,fun _=>zMY,zKu⟩
theorem zIa(n:Nat)(M:Fm K mg k X)(hc:KC K cs){y:Str}{yp p2:Pos}(ho:∀ j,PE (X j) (.Name y yp) (tVar n))(hk:EX K X i fk)(hv:EX K X e fx)(hs:∀ j,Ds e (some (.Subscript (.Name y yp) i p2)) pos.line (X j).env=pure false:=by intro _; rfl) :
  SX K X ip (.Assign [.Subscript (.Name y yp) i p2] e pos) (dDPut cs n fk fx) :=
 let ⟨_,q,u⟩:=hk; let ⟨_,r,v⟩:=hv; ⟨_,fun j=>zOu (un1 M j) (ho j) (q j) (r j) (hs j),zLT hc u v⟩
end
section
variable {Γ:En}{cs:List (List Key)}{fo fk fx:DE}{i:Nat}
@[simp] theorem zRm:dictOf Γ (.s i)=match Γ[i]? with
  | some (some (.d d))=>some d
  | some (some (.e d))=>some d
  | _=>none:=(rfl)
@[simp] theorem zSs{a:S}{t:T}:getS cs Γ a (.v t)=(dictOf Γ a).bind fun d=>(getX cs d t).bind fun r=>r.map .v:=(rfl)
@[simp] theorem zRu{b:Bool}:dDNew b Γ=some (.d (if b then .inr [] else .inl []),Γ):=(rfl)
@[simp] theorem zR5:isDs Γ i=match Γ[i]? with
 | some (some (.d _))=>true
 | _=>false:=(rfl)
@[simp] theorem zRo{fv:DE}:dDPut cs i fk fv Γ=(fv Γ).bind fun p=>match p.1 with
 | .v tv=>if isDs p.2 i=true then (fk p.2).bind fun q=>match q.1,q.2[i]? with
  | .v tk,some (some (.d d))=>(putX cs d tk tv).map fun d'=>.nx (q.2.set i (some (.d d')))
  | _,_=>none
  else none
 | _=>none:=(rfl)
@[simp] theorem zRT:dDGet2 cs fo fk fx Γ=(fo Γ).bind fun p=>if (dictOf p.2 p.1).isSome=true then (fk p.2).bind fun q=>(fx q.2).bind fun z=>(dictOf z.2 p.1).bind fun d=>match q.1,z.1 with
 | .v t,.v u=>(getX cs d t).map fun r=>(.v (r.getD u),z.2)
 | _,_=>none
 else none:=(rfl)
end
end D
namespace D
open PySem L2
end D
namespace L2
open PySem PySem.W PyProof.Rows
noncomputable def runT {α:Type} (lt:Nat->Nat->Bool):KasT α->α
 | .ret a=>a
 | .ask i j k=>runT lt (k (lt i j))
noncomputable def OkT {α:Type} (P:Nat->Prop) (R:α->Prop):KasT α->Prop
 | .ret a=>R a
 | .ask i j k=>P i/\P j/\∀ b,OkT P R (k b)
theorem OkT.bind{α β:Type}{P:Nat->Prop}{R:α->Prop}{R':β->Prop}{f:α->KasT β}:∀ {t:KasT α},OkT P R t->(∀ a,R a->OkT P R' (f a))->OkT P R' (t.bind f)
 | .ret a,h,hf=>hf a h
 | .ask i j k,h,hf=>⟨h.1,h.2.1,fun b=>(h.2.2 b).bind hf⟩
theorem OkT.run{α:Type}{P:Nat->Prop}{R:α->Prop}(lt:Nat->Nat->Bool):∀ {t:KasT α},OkT P R t->R (runT lt t)
 | .ret a,h=>h
 | .ask i j k,h=>(h.2.2 (lt i j)).run lt
def Arr (n:Nat) (p:Array Nat):Prop:=p.toList.Perm (AC n)
theorem Arr.lt{n:Nat}{p:Array Nat}(h:Arr n p)(h0:0 < n)(i:Nat):p.getD i 0 < n:=by
 by_cases hi:i < p.size
 ·have e:p.getD i 0=p[i]:=by simp[HN,hi]
  rw[e]
  exact BU.mp (h.subset (by simp))
 ·have e:p.getD i 0=0:=by simp[HN,hi]
  rw[e]; exact h0
theorem Arr.rev{n:Nat}{p:Array Nat}(h:Arr n p)(i j:Nat):Arr n (kas_rev p i j):=((mirror_perm p i j _).toList).trans h
theorem Arr.bub{n:Nat}{p:Array Nat}(h:Arr n p)(i j:Nat):Arr n (bubble p i j):=((bubble_perm p i j).toList).trans h
section
variable {n:Nat}(h0:0 < n)
include h0
theorem zG4{p:Array Nat}(h:Arr n p):∀ (f m:Nat),OkT (· < n) (fun _=>True) (kas_asc p f m)
 | 0,m=>trivial
 | f+1,m=>⟨h.lt h0 _,h.lt h0 _,fun b=>by
   cases b with
   | true=>exact trivial
   | false=>exact zG4 h f (m+1)⟩
theorem zDe:∀ (f:Nat) {p:Array Nat},Arr n p->∀ (m q:Nat),OkT (· < n) (fun r:Array Nat×Nat×Nat=>Arr n r.1) (kas_desc f p m q)
 | 0,p,h,m,q=>h
 | f+1,p,h,m,q=>⟨h.lt h0 _,h.lt h0 _,fun b=>by
   cases b with
   | true =>
    show OkT _ _ (if q > 0 then _ else _)
    split
    ·exact zDe f (h.rev _ _) _ _
    ·exact zDe f h _ _
   | false =>
    exact⟨h.lt h0 _,h.lt h0 _,fun d=>by
     cases d with
     | true=>exact h
     | false=>exact zDe f h _ _⟩⟩
theorem zG7(m r:Nat){p:Array Nat}(h:Arr n p):OkT (· < n) (fun r:Nat×Array Nat=>Arr n r.2) (kas_tail3 m r p) :=
 (zG4 h0 (h.rev 0 m) _ _).bind fun _ _=>h.rev 0 m
theorem zDz(m r:Nat){p:Array Nat}(h:Arr n p):OkT (· < n) (fun r:Nat×Array Nat=>Arr n r.2) (kas_descPart m r p) :=
 (zDe h0 _ h _ _).bind fun a ha=>by
  split
  ·exact zG7 h0 _ _ (ha.rev _ _)
  ·exact zG7 h0 _ _ ha
theorem zNb(r:Nat){p:Array Nat}(h:Arr n p):OkT (· < n) (fun r:Nat×Array Nat=>Arr n r.2) (kas_count r p) :=
 (zG4 h0 h _ _).bind fun m _=>by
  split
  ·exact h
  ·split
   ·exact⟨h.lt h0 _,h.lt h0 _,fun b=>by
     cases b with
     | true=>exact h
     | false=>exact zDz h0 _ _ (h.rev _ _)⟩
   ·exact zDz h0 _ _ h
theorem zEH{p:Array Nat}(h:Arr n p)(k:Nat):∀ (f l r:Nat),OkT (· < n) (fun _=>True) (kas_place p k f l r)
 | 0,l,r=>trivial
 | f+1,l,r=>by
  unfold kas_place
  split
  ·exact trivial
  ·exact⟨h.lt h0 _,h.lt h0 _,fun b=>by
    cases b with
    | true=>exact zEH h k f _ _
    | false=>exact zEH h k f _ _⟩
theorem zLS:∀ (f:Nat) {p:Array Nat},Arr n p->∀ (k:Nat),OkT (· < n) (Arr n) (kas_bin f p k)
 | 0,p,h,k=>h
 | f+1,p,h,k=>(zEH h0 h k _ _ _).bind fun l _=>zLS f (h.bub _ _) _
theorem zBi:OkT (· < n) (Arr n) (kas_sort n) :=
 (zNb h0 n (p:=C7 (AC n)) (by show (C7 (AC n)).toList.Perm _; simp)).bind fun r hr=>by
  split
  ·exact zLS h0 _ hr _
  ·exact hr
end
open PySem PySem.W PyProof.Rows PySem.Calls
noncomputable def outL (lt:Nat->Nat->Bool) (vs:List AB):List AB:=(runT lt (kas_sort vs.length)).toList.map fun i=>vs.getD i CB
def Cn (n:Nat) (lt:Nat->Nat->Bool):Prop:=n < 1024/\(2<=n->∀ (prog:Ah) (w:Aw) (A:A4) (E:AB->AG->Prop) (s:AG) (κ:CC) (vs:List AB),vs.length=n ->
 (∀ i j,i < n->j < n->∀ (C:Bool->AG->Prop) tk,(∀ tk',C (lt i j) { s with toks:=tk' })->kas_ask prog w A κ vs i j C { s with toks:=tk }) ->
 AV (model prog w) A ((sortRuns').run (G9 κ (vs.toArray.zip vs.toArray) #[] 7 none)) (fun r s'=>∃ p:Array Nat,p.size=n/\E5 r.2=p.map (kas_item (vs.toArray.zip vs.toArray))/\ET r.2=none/\p=runT lt (kas_sort n)/\∃ tk,s'={ s with toks:=tk }) E s)
section
variable {prog:Ah}{w:Aw}{A:A4}{E:AB->AG->Prop}{s:AG}{a:Addr}{vs:List AB}{κ:CC}{lt:Nat->Nat->Bool}
theorem zGK{n:Nat}{P:KH->AG->Prop}(ho:s.heap.get? a=some (Bf "list" vs.toArray n))(h2:2<=vs.length)(hcn:Cn vs.length lt)
  (hk:∀ h',(∀ b o,b≠a->s.heap.get? b=some o->h'.get? b=some o)->∀ C:CC->AG->Prop,C κ { s with heap:=h' }->AV (model prog w) A (IR vs.toArray) C (fun _ _=>False) { s with heap:=h' })
  (hlt:∀ h',(∀ b o,b≠a->s.heap.get? b=some o->h'.get? b=some o)->∀ i j,i < vs.length->j < vs.length->∀ (C:Bool->AG->Prop) tk,(∀ tk',C (lt i j) { s with heap:=h',toks:=tk' })->kas_ask prog w A κ vs i j C { s with heap:=h',toks:=tk })
  (hP:∀ h'' tk c2,(∀ b o,b≠a->s.heap.get? b=some o->h''.get? b=some o)->h''.get? a=some (Bf "list" (outL lt vs).toArray c2)->P (.done (.ret .none)) { s with heap:=h'',toks:=tk }) :
  AV (model prog w) A (Builtin.«list.sort» ⟨[.ref a],[]⟩) P E s:=by
 have ha:a < s.heap.objs.size:=AY ho
 have h64:vs.length < 1024:=hcn.1
 have s1:=CF s.heap a (Bc fun _=>(#[]:Array AB))
 obtain⟨e1,ho1⟩:∃ e1,(s.heap.update a (Bc fun _=>(#[]:Array AB))).get? a=some (Bf "list" #[] e1):=⟨_,Em ho fun _=>#[]⟩
 have keep:∀ b o,b≠a->s.heap.get? b=some o->(((s.heap.update a (Bc fun _=>(#[]:Array AB))).push (Bf "tuple" vs.toArray 0)).push (Bf "list" #[] 0)).get? b=some o:=fun b o hb e =>
  AM _ (AM _ ((s1.2 b hb).trans e))
 rw[KI]
 refine AD (Ht ho rfl ?_)
 refine AD (FU ho rfl ?_ (by rw[AN,BM]; lia) (A9 _))
 refine AD (GS ho1 rfl ?_)
 refine AD (Kl ?_ (by show vs.length<=_; rw[BM]; lia))
 refine AD (FS ?_ (A9 _))
 refine CQ ?_
 show AV (model prog w) A _ P E { s with heap:=((s.heap.update a (Bc fun _=>(#[]:Array AB))).push (Bf "tuple" vs.toArray 0)).push (Bf "list" #[] 0) }
 dsimp only
 have hn2:¬ vs.toArray.size < 2:=by rw[AN]; lia
 rw[if_neg hn2,if_neg hn2]
 have ho3:=AM (o:=Bf "list" #[] 0) (AM (o:=Bf "tuple" vs.toArray 0) ho1)
 generalize hh3:((s.heap.update a (Bc fun _=>(#[]:Array AB))).push (Bf "tuple" vs.toArray 0)).push (Bf "list" #[] 0)=h3 at keep ho3 ⊢
 refine AD (BE (hk h3 keep (fun κ' s'=>κ'=κ/\s'={ s with heap:=h3 }) ⟨rfl,rfl⟩) (fun κ' s0 hq=>?_) fun _ _ x=>x.elim)
 obtain⟨rfl,rfl⟩:=hq
 refine AD (BE (hcn.2 h2 prog w A _ { s with heap:=h3 } κ' vs rfl fun i j hi hj C tk hC=>hlt h3 keep i j hi hj C tk hC) ?_ fun _ _ e=>e)
 rintro ⟨⟨⟩,st'⟩ s' ⟨p,hp,har,hf,rfl,tk,rfl⟩
 dsimp only
 have hout:=kat_snds rfl har
 have hsz:(outL lt vs).toArray.size=vs.length:=by rw[AN]; unfold outL; rw[Ak,As,hp]
 have hout':(E5 st').map (·.2)=(outL lt vs).toArray:=hout
 rw[hout']
 have s2:=CF h3 a (Bc fun _=>(outL lt vs).toArray)
 obtain⟨c2,hc2⟩:∃ c2,(h3.update a (Bc fun _=>(outL lt vs).toArray)).get? a=some (Bf "list" (outL lt vs).toArray c2):=⟨_,Em ho3 fun _=>(outL lt vs).toArray⟩
 refine AD (GS ho3 rfl ?_)
 refine AD (FU ho3 rfl ?_ (A9 _) (Al (Dl hsz) (by rw[BM]; lia)))
 rw[hf]
 simp only[bne_self_eq_false,Ar,if_false]
 exact AO (hP _ tk c2 (fun b o hb e=>(s2.2 b hb).trans (keep b o hb e)) hc2)
end
section
variable {prog:Ah}{w:Aw}{A:A4}{E:AB->AG->Prop}{s:AG}
theorem zF2{a b:Addr}{xs ys:Array AB}{ns ms:List Int}{Q:Bool->AG->Prop}(p1:s.heap.IsTuple a xs)(p2:s.heap.IsTuple b ys)(i1:By xs.toList ns)(i2:By ys.toList ms)(hu:A.units < DV)(h:Q (HT.lexLt ns ms) s) :
  AV (model prog w) A (oneLt' false (.ref a) (.ref b)) Q E s:=by
 rw[oneLt'_eq]
 simp only[Ar,if_false]
 refine AD ?_
 show AV _ _ (BY .Lt (.ref a) (.ref b)) _ _ _
 exact HT.lt_tupInts p1 p2 i1 i2 hu (Ci h)
end
open PySem PySem.W PyProof.Rows PySem.Calls PySem.SeqAt
noncomputable def ltP (a b:List Int×Int):Bool:=if a.1=b.1 then decide (a.2 < b.2) else HT.lexLt a.1 b.1
section
variable {prog:Ah}{w:Aw}{A:A4}{E:AB->AG->Prop}{s:AG}
theorem zNT{x y p q:Addr}{ox oy:Obj}{nx ny:Nat}{m m':Int}{t t':Tok}{xs ys:Array AB}{ns ms:List Int}{Q:Bool->AG->Prop}(hx:s.heap.get? x=some ox)(dx:ox.data=.seq #[.ref p,.int m t] nx)(hy:s.heap.get? y=some oy)(dy:oy.data=.seq #[.ref q,.int m' t'] ny)
  (p1:s.heap.IsTuple p xs) (p2:s.heap.IsTuple q ys) (i1:By xs.toList ns) (i2:By ys.toList ms) (he:EqAt A s (.ref p) (.ref q) (decide (ns=ms))) (hu:A.units < DV) (h:Q (ltP (ns,m) (ms,m')) s) :
  AV (model prog w) A (I0 (tuples' false) (.ref x) (.ref y)) Q E s:=by
 refine kat_lt hx dx hy dy ?_
 show KatLex _ _ _ _ _ _ [(BP p,BP q),(DJ m t,DJ m' t')] 0 s
 refine kat_cons (he _ _ _ _ ?_)
 unfold ltP at h
 by_cases hn:ns=ms
 ·rw[decide_eq_true hn]
  rw[if_pos hn]at h
  refine kat_yes (kat_cons ?_)
  refine GE ?_
  by_cases hm:m=m'
  ·subst hm
   have e:(m == m)=true:=by simp
   rw[e]
   refine kat_yes (kat_nil ?_)
   have e2:decide (m < m)=false:=decide_eq_false (by lia)
   rw[e2]at h
   exact h
  ·have e:(m == m')=false:=by simpa using hm
   rw[e]
   refine kat_no ?_
   rw[IY]
   exact kat_one _ _ (lt_int h)
 ·rw[decide_eq_false hn]
  rw[if_neg hn]at h
  exact kat_no (zF2 p1 p2 i1 i2 hu h)
end
section
variable {prog:Ah}{w:Aw}{A:A4}{E:AB->AG->Prop}{s:AG}{vs:List AB}{κ:CC}{lt:Nat->Nat->Bool}
theorem zE4{a:Addr}{n:Nat}{P:KH->AG->Prop}(ho:s.heap.get? a=some (Bf "list" vs.toArray n))(h2:vs.length < 2)
  (hP:∀ h'' tk c2,(∀ b o,b≠a->s.heap.get? b=some o->h''.get? b=some o)->h''.get? a=some (Bf "list" vs.toArray c2)->P (.done (.ret .none)) { s with heap:=h'',toks:=tk }) :
  AV (model prog w) A (Builtin.«list.sort» ⟨[.ref a],[]⟩) P E s:=by
 have s1:=CF s.heap a (Bc fun _=>(#[]:Array AB))
 obtain⟨e1,ho1⟩:∃ e1,(s.heap.update a (Bc fun _=>(#[]:Array AB))).get? a=some (Bf "list" #[] e1):=⟨_,Em ho fun _=>#[]⟩
 have keep:∀ b o,b≠a->s.heap.get? b=some o->(((s.heap.update a (Bc fun _=>(#[]:Array AB))).push (Bf "tuple" vs.toArray 0)).push (Bf "list" #[] 0)).get? b=some o:=fun b o hb e =>
  AM _ (AM _ ((s1.2 b hb).trans e))
 rw[KI]
 refine AD (Ht ho rfl ?_)
 refine AD (FU ho rfl ?_ (by rw[AN,BM]; lia) (A9 _))
 refine AD (GS ho1 rfl ?_)
 refine AD (Kl ?_ (by show vs.length<=_; rw[BM]; lia))
 refine AD (FS ?_ (A9 _))
 refine CQ ?_
 show AV (model prog w) A _ P E { s with heap:=((s.heap.update a (Bc fun _=>(#[]:Array AB))).push (Bf "tuple" vs.toArray 0)).push (Bf "list" #[] 0) }
 dsimp only
 have hn2:vs.toArray.size < 2:=by rw[AN]; lia
 rw[if_pos hn2,if_pos hn2]
 have ho3:=AM (o:=Bf "list" #[] 0) (AM (o:=Bf "tuple" vs.toArray 0) ho1)
 generalize hh3:((s.heap.update a (Bc fun _=>(#[]:Array AB))).push (Bf "tuple" vs.toArray 0)).push (Bf "list" #[] 0)=h3 at keep ho3 ⊢
 refine AD (AO ?_)
 refine AD (AO ?_)
 dsimp only
 have hout':(E5 (G9 general' (vs.toArray.zip vs.toArray) #[] 7 none)).map (·.2)=vs.toArray:=by
  show (vs.toArray.zip vs.toArray).map (·.2)=_
  apply Cf.mp
  rw[FJ,Array.toList_zip]
  exact List.map_snd_zip (AL _)
 rw[hout']
 have s2:=CF h3 a (Bc fun _=>vs.toArray)
 obtain⟨c2,hc2⟩:∃ c2,(h3.update a (Bc fun _=>vs.toArray)).get? a=some (Bf "list" vs.toArray c2):=⟨_,Em ho3 fun _=>vs.toArray⟩
 refine AD (GS ho3 rfl ?_)
 refine AD (FU ho3 rfl ?_ (A9 _) (by rw[AN,BM]; lia))
 simp only[bne_self_eq_false,Ar,if_false]
 exact AO (hP _ _ c2 (fun b o hb e=>(s2.2 b hb).trans (keep b o hb e)) hc2)
noncomputable def outS (lt:Nat->Nat->Bool) (vs:List AB):List AB:=if vs.length < 2 then vs else outL lt vs
theorem zEU{it:AB}{Q:AB->AG->Prop}(h64:Cn vs.length lt)
  (hcol:∀ (C:List AB->AG->Prop) (F:AB->AG->Prop),(∀ h1 tk,(∀ b o,s.heap.get? b=some o->h1.get? b=some o)->C vs { s with heap:=h1,toks:=tk })->AV (model prog w) A.in1 (collect it) C F s)
  (hk:2<=vs.length->∀ h' tk,(∀ b o,s.heap.get? b=some o->h'.get? b=some o)->∀ C:CC->AG->Prop,C κ { s with heap:=h',toks:=tk }->AV (model prog w) A.in1.in1 (IR vs.toArray) C (fun _ _=>False) { s with heap:=h',toks:=tk })
  (hlt:∀ h',(∀ b o,s.heap.get? b=some o->h'.get? b=some o)->∀ i j,i < vs.length->j < vs.length->∀ (C:Bool->AG->Prop) tk,(∀ tk',C (lt i j) { s with heap:=h',toks:=tk' })->kas_ask prog w A.in1.in1 κ vs i j C { s with heap:=h',toks:=tk })
  (hQ:∀ (h1 h'':Heap) (tk c2:Nat),(∀ b o,s.heap.get? b=some o->h1.get? b=some o)->(∀ b o,h1.get? b=some o->h''.get? b=some o)->h''.get? h1.objs.size=some (Bf "list" (outS lt vs).toArray c2)->Q (.ref h1.objs.size) { s with heap:=h'',toks:=tk }) :
  AV (model prog w) A (call (.builtin "sorted") [it]) Q E s:=by
 have h128:=h64.1
 refine Fy kind_sorted LJ LM (LN _) ?_; unfold Builtin.«sorted»; refine AD (m:=checkCount "sorted" 1 1 _) (AO ?_)
 refine AD (hcol _ _ fun h1 tk k1=>?_)
 refine AD (FS ?_ (by rw[BM]; lia))
 have hoL:(h1.push (Bf "list" vs.toArray 0)).get? h1.objs.size=some (Bf "list" vs.toArray 0):=AZ _ rfl
 have k2:∀ b o,h1.get? b=some o->(h1.push (Bf "list" vs.toArray 0)).get? b=some o:=fun b o q=>AM _ q
 have nb:∀ b o,h1.get? b=some o->b≠h1.objs.size:=fun b o q=>BA (AY q)
 show AV _ _ _ _ _ { s with heap:=h1.push (Bf "list" vs.toArray 0),toks:=tk }
 generalize hh2:h1.push (Bf "list" vs.toArray 0)=h2 at hoL k2
 refine AD (CQ (Bu KZ ⟨_,hoL,rfl⟩ KB ?body (Kb _)))
 case body =>
  by_cases hn:vs.length < 2
  ·refine zE4 (s:={ s with heap:=h2,toks:=tk }) hoL hn fun h'' tk' c2 hkp hc=>?_
   refine⟨_,rfl,AO ⟨_,rfl,hQ h1 h'' tk' c2 k1 (fun b o q=>hkp b o (nb b o q) (k2 b o q)) ?_⟩⟩
   unfold outS; rw[if_pos hn]; exact hc
  ·refine zGK (s:={ s with heap:=h2,toks:=tk }) (κ:=κ) (lt:=lt) hoL (by lia) h64 (fun h' hkp=>hk (by lia) h' tk fun b o q=>hkp b o (nb _ _ (k1 b o q)) (k2 _ _ (k1 b o q))) (fun h' hkp=>hlt h' fun b o q=>hkp b o (nb _ _ (k1 b o q)) (k2 _ _ (k1 b o q))) fun h'' tk' c2 hkp hc=>?_
   refine⟨_,rfl,AO ⟨_,rfl,hQ h1 h'' tk' c2 k1 (fun b o q=>hkp b o (nb b o q) (k2 b o q)) ?_⟩⟩
   unfold outS; rw[if_neg hn]; exact hc
end
def TuI (h:Heap) (u:AB) (ns:List Int):Prop:=∃ a xs,u=.ref a/\Ee h a xs/\By xs.toList ns
def TuQ (h:Heap) (u:AB) (p:List Int×Int):Prop:=∃ a q t,u=.ref a/\Ee h a #[q,.int p.2 t]/\TuI h q p.1
theorem zD3{h h':Heap}(k:∀ b o,h.get? b=some o->h'.get? b=some o){a:Addr}{xs:Array AB}(x:Ee h a xs):Ee h' a xs:=by
 obtain⟨o,e,c,d⟩:=x; exact⟨o,k _ _ e,c,d⟩
theorem TuI.keeps{h h':Heap}(k:∀ b o,h.get? b=some o->h'.get? b=some o){u:AB}{ns:List Int}(x:TuI h u ns):TuI h' u ns:=by
 obtain⟨a,xs,e,i,j⟩:=x; exact⟨a,xs,e,zD3 k i,j⟩
theorem TuQ.keeps{h h':Heap}(k:∀ b o,h.get? b=some o->h'.get? b=some o){u:AB}{p:List Int×Int}(x:TuQ h u p):TuQ h' u p:=by
 obtain⟨a,q,t,e,i,j⟩:=x; exact⟨a,q,t,e,zD3 k i,j.keeps k⟩
theorem zDO{h:Heap}:∀ {vs:List AB} {ns:List Int},By vs ns->ReadsAll h vs (ns.map Cv) []
 | _,_,.nil=>.nil
 | _,_,.cons n t r=>Hr (as:=[]) (bs:=[]) (.int n t) (zDO r)
theorem TuI.reads{h:Heap}{u:AB}{ns:List Int}(x:TuI h u ns):Reads h u (.tuple (ns.map Cv)) []:=by
 obtain⟨a,xs,rfl,⟨o,e,c,n,d⟩,j⟩:=x
 exact .tuple e c d (zDO j)
theorem zBz:∀ ns:List Int,Bj (ns.map Cv)=true
 | []=>by simp[Bj]
 | n::r=>by have:=zBz r; simp[Bj,B0,this]
theorem zFm:∀ ns:List Int,BS (ns.map Cv)=0
 | []=>by simp[BS]
 | n::r=>by have:=zFm r; simp[BS,CG,this]
theorem zEi:∀ ns ms:List Int,A8 (ns.map Cv) (ms.map Cv)=decide (ns=ms)
 | [],[]=>by simp[A8]
 | [],_::_=>by simp[A8]
 | _::_,[]=>by simp[A8]
 | n::r,m::s=>by
  have:=zEi r s
  simp only[AJ,A8,Bo,this]
  by_cases h:n=m
  ·subst h; simp
  ·simp[h]
theorem zOj(ns ms:List Int):Bo (.tuple (ns.map Cv)) (.tuple (ms.map Cv))=decide (ns=ms):=by
 simp only[Bo,zEi]
theorem TuI.eqAt{A:A4}{s:AG}{u v:AB}{ns ms:List Int}(x:TuI s.heap u ns)(y:TuI s.heap v ms)(hu:A.units+1 < DV):EqAt A s u v (decide (ns=ms)):=by
 have:=eqAt_reads _ _ A s u v [] [] x.reads y.reads (by simp only[B0,zBz]) (by simp only[B0,zBz]) (by simp only[CG,zFm]; lia)
 rw[zOj]at this
 exact this
section
variable {prog:Ah}{w:Aw}{A:A4}{E:AB->AG->Prop}{s:AG}
theorem zJX{a b:Addr}{xs ys:Array AB}{ns ms:List Int}{Q:Bool->AG->Prop}(p1:Ee s.heap a xs)(p2:Ee s.heap b ys)(i1:By xs.toList ns)(i2:By ys.toList ms)(hu:A.units < DV)(h:Q (HT.lexLt ns ms) s) :
  AV (model prog w) A (oneLt' true (.ref a) (.ref b)) Q E s:=by
 rw[oneLt'_eq]
 simp only[if_true]
 refine AD (wpAny_cRoomFor hu ?_)
 obtain⟨⟨cls,dd,data,sl⟩,ho,hc,n,hd⟩:=id p1
 obtain⟨⟨cls2,dd2,data2,sl2⟩,ho2,hc2,n2,hd2⟩:=id p2
 simp only at hc hd hc2 hd2
 subst hc hd hc2 hd2
 refine AD (wpAny_callSpecialIfBound?_slot (T:="tuple") ⟨_,ho,rfl⟩ D5 (DZ D5 ⟨_,ho,rfl⟩ GF (Fx _ _) (HT.tuple_lt_ints a b xs ys n n2 dd dd2 sl sl2 ns ms i1 i2) ⟨ho,ho2,?_⟩))
 exact Ci h
theorem zJr{x y:AB}{ns ms:List Int}{Q:Bool->AG->Prop}(p1:TuI s.heap x ns)(p2:TuI s.heap y ms)(hu:A.units < DV)(h:Q (HT.lexLt ns ms) s):AV (model prog w) A (I0 general' x y) Q E s:=by
 obtain⟨a,xs,rfl,q1,i1⟩:=p1
 obtain⟨b,ys,rfl,q2,i2⟩:=p2
 show AV (model prog w) A (oneLt' false (.ref a) (.ref b)) Q E s
 exact zF2 q1 q2 i1 i2 hu h
theorem zPX{x y:AB}{ns ms:List Int}{Q:Bool->AG->Prop}(p1:TuI s.heap x ns)(p2:TuI s.heap y ms)(hu:A.units < DV)(h:Q (HT.lexLt ns ms) s):AV (model prog w) A (I0 oneType' x y) Q E s:=by
 obtain⟨a,xs,rfl,q1,i1⟩:=p1
 obtain⟨b,ys,rfl,q2,i2⟩:=p2
 rw[keyLt'_oneType]
 exact zJX q1 q2 i1 i2 hu h
theorem zHP{Q:Bool->AG->Prop}{fin:Bool}:∀ {vs ws:List AB} {ns ms:List Int} (i:Nat),By vs ns->By ws ms->(∀ ns' ms':List Int,(ns'=[]\/ms'=[])->ns'.length+ms.length=ms'.length+ns.length->HT.lexLt ns' ms'=fin)->Q (HT.lexLt ns ms) s->KatLex prog w A true fin Q (vs.zip ws) i s
 | _,_,[],ms,i,.nil,iw,hf,h=>by
  rw[Hi]
  refine kat_nil ?_
  rw[← hf [] ms (.inl rfl) (by simp)]; exact h
 | _,_,ns,[],i,iv,.nil,hf,h=>by
  rw[Ha]
  refine kat_nil ?_
  rw[← hf ns [] (.inr rfl) (by simp)]; exact h
 | _,_,n::ns,m::ms,i,.cons _ t iv,.cons _ t' iw,hf,h=>by
  rw[Ex]
  refine kat_cons (GE ?_)
  rw[HT.lexLt_cons]at h
  by_cases e:n=m
  ·subst e
   rw[if_pos rfl]at h
   rw[show (n == n)=true from by simp]
   exact kat_yes (zHP (i+1) iv iw (fun ns' ms' c l=>hf ns' ms' c (by simp only[Be]; lia)) h)
  ·rw[if_neg e]at h
   rw[show (n == m)=false from by simpa using e]
   refine kat_no ?_
   by_cases hi:i=0
   ·subst hi
    exact oneLt_int h
   ·rw[show (true && i == 0)=false from by simpa using hi]
    exact kat_one _ _ (lt_int h)
theorem zKl{x y:AB}{ns ms:List Int}{Q:Bool->AG->Prop}(p1:TuI s.heap x ns)(p2:TuI s.heap y ms)(h:Q (HT.lexLt ns ms) s):AV (model prog w) A (I0 (tuples' true) x y) Q E s:=by
 obtain⟨a,xs,rfl,⟨o,e,c,n,d⟩,i1⟩:=p1
 obtain⟨b,ys,rfl,⟨o2,e2,c2,n2,d2⟩,i2⟩:=p2
 refine kat_lt e d e2 d2 (zHP 0 i1 i2 (fun ns' ms' c l=>?_) h)
 have z1:xs.size=ns.length:=by rw[← i1.length]; simp
 have z2:ys.size=ms.length:=by rw[← i2.length]; simp
 rcases c with rfl | rfl
 ·cases ms' with
  | nil=>rw[HT.lexLt_nil_nil]; exact (decide_eq_false (by simp at l; lia)).symm
  | cons y r=>rw[HT.lexLt_nil_cons]; exact (decide_eq_true (by simp at l; lia)).symm
 ·cases ns' with
  | nil=>rw[HT.lexLt_nil_nil]; exact (decide_eq_false (by simp at l; lia)).symm
  | cons y r=>rw[HT.lexLt_cons_nil]; exact (decide_eq_false (by simp at l; lia)).symm
theorem zM7{x y:AB}{p q:List Int×Int}{Q:Bool->AG->Prop}(p1:TuQ s.heap x p)(p2:TuQ s.heap y q)(hu:A.units+1 < DV)(h:Q (ltP p q) s):AV (model prog w) A (I0 (tuples' false) x y) Q E s:=by
 obtain⟨a,u,t,rfl,⟨o,e,c,n,d⟩,i1⟩:=p1
 obtain⟨b,v,t',rfl,⟨o2,e2,c2,n2,d2⟩,i2⟩:=p2
 have he:=i1.eqAt i2 hu
 obtain⟨a',xs,rfl,q1,j1⟩:=i1
 obtain⟨b',ys,rfl,q2,j2⟩:=i2
 exact zNT e d e2 d2 q1 q2 j1 j2 he (by lia) h
end
inductive TuIs (h:Heap):List AB->List (List Int)->Prop
 | nil:TuIs h [] []
 | cons {v:AB} {ns:List Int} {vs:List AB} {nss:List (List Int)}:TuI h v ns->TuIs h vs nss->TuIs h (v::vs) (ns::nss)
inductive TuQs (h:Heap):List AB->List (List Int×Int)->Prop
 | nil:TuQs h [] []
 | cons {v:AB} {p:List Int×Int} {vs:List AB} {ps:List (List Int×Int)}:TuQ h v p->TuQs h vs ps->TuQs h (v::vs) (p::ps)
theorem TuIs.keeps{h h':Heap}(k:∀ b o,h.get? b=some o->h'.get? b=some o):∀ {vs:List AB} {nss:List (List Int)},TuIs h vs nss->TuIs h' vs nss
 | _,_,.nil=>.nil
 | _,_,.cons a r=>.cons (a.keeps k) (r.keeps k)
theorem TuQs.keeps{h h':Heap}(k:∀ b o,h.get? b=some o->h'.get? b=some o):∀ {vs:List AB} {nss:List (List Int×Int)},TuQs h vs nss->TuQs h' vs nss
 | _,_,.nil=>.nil
 | _,_,.cons a r=>.cons (a.keeps k) (r.keeps k)
theorem TuIs.at{h:Heap}:∀ {vs:List AB} {nss:List (List Int)},TuIs h vs nss->∀ i,i < vs.length->TuI h (vs.getD i CB) (nss.getD i [])
 | _,_,.nil,i,hi=>absurd hi (Fv _)
 | _,_,.cons a r,0,_=>a
 | _,_,.cons a r,i+1,hi=>by simpa using r.at i (by simpa using hi)
theorem TuQs.at{h:Heap}:∀ {vs:List AB} {nss:List (List Int×Int)},TuQs h vs nss->∀ i,i < vs.length->TuQ h (vs.getD i CB) (nss.getD i ([],0))
 | _,_,.nil,i,hi=>absurd hi (Fv _)
 | _,_,.cons a r,0,_=>a
 | _,_,.cons a r,i+1,hi=>by simpa using r.at i (by simpa using hi)
theorem TuIs.tups{h:Heap}:∀ {vs:List AB} {nss:List (List Int)},TuIs h vs nss->(∀ ns∈nss,ns≠[])->∃ fs,KatTups h vs fs/\fs.length=vs.length/\∀ v∈fs,∃ n t,v=DJ n t
 | _,_,.nil,_=>⟨[],trivial,rfl,fun _ hv=>nomatch hv⟩
 | _,_,.cons (ns:=ns) hq r,hn=>by
  obtain⟨a,xs,rfl,⟨o,e,c,n,d⟩,j⟩:=hq
  obtain⟨fs,k,l,f⟩:=r.tups fun x hx=>hn x (AF _ hx)
  obtain⟨xs⟩:=xs
  cases j with
  | nil=>exact absurd rfl (hn [] AH)
  | cons m t j'=>exact⟨.int m t::fs,⟨⟨a,o,_,n,rfl,e,c,d,by simp_all⟩,k⟩,by simp[l],fun v hv=>by
    rcases AS.mp hv with z | z
    ·exact⟨m,t,z⟩
    ·exact f v z⟩
theorem TuQs.tups{h:Heap}:∀ {vs:List AB} {nss:List (List Int×Int)},TuQs h vs nss->∃ fs,KatTups h vs fs/\fs.length=vs.length/\∀ v∈fs,∃ a o,v=BP a/\h.get? a=some o/\o.cls=.type "tuple"
 | _,_,.nil=>⟨[],trivial,rfl,fun _ hv=>nomatch hv⟩
 | _,_,.cons hq r=>by
  obtain⟨a,q,t,rfl,⟨o,e,c,n,d⟩,a',xs,eq,⟨o',e',c',_⟩,_⟩:=hq
  subst eq
  obtain⟨fs,k,l,f⟩:=r.tups
  exact⟨.ref a'::fs,⟨⟨a,o,_,n,rfl,e,c,d,by simp⟩,k⟩,by simp[l],fun v hv=>by
   rcases AS.mp hv with z | z
   ·exact⟨a',o',z,e',c'⟩
   ·exact f v z⟩
noncomputable def kindI (nss:List (List Int)):CC:=if (nss.all fun ns=>!ns.isEmpty)=true then tuples' true else if (nss.headD []).isEmpty=true then oneType' else general'
section
variable {M:JF}{A:A4}{E:AB->AG->Prop}{s:AG}
theorem zEM{a:Addr}{o:Obj}(e:s.heap.get? a=some o)(c:o.cls=.type "tuple"):Looks M s.heap (Gp (.ref a)) (.type "tuple"):=by
 rw[← c]
 exact (Looks.ld e).andThen .now
theorem zJZ{vs:List AB}{ps:List (List Int×Int)}{Q:CC->AG->Prop}(t:TuQs s.heap vs ps)(h2:2<=vs.length)(h:Q (tuples' false) s):AV M A (IR vs.toArray) Q E s:=by
 obtain⟨fs,k,l,f⟩:=t.tups
 refine kat_kind (T:=.type "tuple") k (by lia) (fun v hv=>?_) rfl h
 obtain⟨a,o,rfl,e,c⟩:=f v hv
 exact zEM e c
noncomputable def Fst:List (Option AB)->List (List Int)->Prop
 | [],[]=>True
 | f::fs,ns::nss=>(f.isSome=!ns.isEmpty)/\Fst fs nss
 | _,_=>False
theorem zF4:∀ {vs:List AB} {nss:List (List Int)},TuIs s.heap vs nss->∃ fs,Fst fs nss/\∀ (Q:List (Option AB)->AG->Prop),Q fs s->AV M A (vs.mapM firstOfTuple') Q E s
 | _,_,.nil=>⟨[],trivial,fun Q h=>by rw[List.mapM_nil]; exact AO h⟩
 | _,_,.cons (ns:=ns) hq r=>by
  obtain⟨a,xs,rfl,⟨o,e,c,n,d⟩,j⟩:=hq
  obtain⟨fs,k,f⟩:=zF4 r
  refine⟨xs[0]?::fs,⟨?_,k⟩,fun Q h=>?_⟩
  ·obtain⟨xs⟩:=xs
   cases j with
   | nil=>simp_all
   | cons m t j'=>simp_all
  ·rw[List.mapM_cons]
   refine AD ?_
   rw[kas_first_eq]
   refine AD ((zEM e c).here ?_)
   rw[if_neg (by decide)]
   exact AD (Ht e d (AO (AD (f _ (AO h)))))
theorem zIt:∀ {fs:List (Option AB)} {nss:List (List Int)},Fst fs nss->(fs.all fun x=>x.isSome)=nss.all fun ns=>!ns.isEmpty
 | [],[],_=>rfl
 | _::_,_::_,h=>by rw[DQ,DQ,h.1,zIt h.2]
 | [],_::_,h=>h.elim
 | _::_,[],h=>h.elim
theorem zKk{vs:List AB}{nss:List (List Int)}{Q:CC->AG->Prop}(t:TuIs s.heap vs nss)(h2:2<=vs.length)(h:Q (kindI nss) s):AV M A (IR vs.toArray) Q E s:=by
 unfold kindI at h
 split at h
 ·rename_i hall
  obtain⟨fs,k,l,f⟩:=t.tups fun ns hn e=>by have:=BK.mp hall ns hn; rw[e]at this; cases this
  refine kat_kind (T:=.type "int") k (by lia) (fun v hv=>?_) rfl h
  obtain⟨n,t,rfl⟩:=f v hv
  exact Looks.of_pure rfl
 ·rename_i hall
  rw[kat_kind_eq,Hu,map_eq_pure_bind]
  obtain⟨fs,k,f⟩:=zF4 (M:=M) (A:=A) (E:=E) t
  refine AD (AD (f _ (AO ?_)))
  have e1:¬ ((fs.toArray.all fun x=>x.isSome)=true):=by rw[II,zIt k]; exact hall
  rw[if_neg e1]
  cases t with
  | nil=>exact absurd h2 (by decide)
  | @cons v1 n1 vs1 nss1 t1 t2 =>
   cases fs with
   | nil=>exact k.elim
   | cons f0 fs =>
    have hf:=k.1
    rw[List.headD_cons]at h
    split at h
    ·rename_i he
     rw[he]at hf
     have e2:¬ (((f0::fs).toArray[0]?.bind id).isSome=true):=by simp; simpa using hf
     rw[if_neg e2]
     have each:∀ v∈v1::vs1,Looks M s.heap (Gp v) (.type "tuple"):=fun v hv=>by
      obtain⟨i,hi,rfl⟩:=HP hv
      obtain⟨a,xs,e,⟨o,e',c,_⟩,_⟩:=(TuIs.cons t1 t2).at i hi
      rw[AK,AR hi,BV]at e
      rw[e]
      exact zEM e' c
     rw[oneTypeOnly'_eq,Hu,map_eq_pure_bind]
     refine AD (AD (AD (kas_mapM (r:=.type "tuple") _ (fun v hv Q' hq=>(each v hv).here hq) (AO ?_))))
     simp only[AJ,EK,List.getElem?_cons_zero]
     refine AO (AO ?_)
     have e3:(((Dh "tuple"::List.map (fun _=>Dh "tuple") vs1).toArray.all fun x=>x == Dh "tuple"))=true:=by
      simp only[II,DQ,JR,Ax,BK]
      exact⟨rfl,fun _ _=>rfl⟩
     rw[e3]
     exact h
    ·rename_i he
     have e2:((f0::fs).toArray[0]?.bind id).isSome=true:=by simp; rw[hf]; simpa using he
     rw[if_pos e2]
     exact AO h
end
end L2
namespace D
open PySem L2 PyProof.Rows
noncomputable def tI (ns:List Int):T:=.t ((ns.map V.int).map T.a)
noncomputable def tQ (p:List Int×Int):T:=.t [tI p.1,.a (.int p.2)]
noncomputable def ltI (nss:List (List Int)) (i j:Nat):Bool:=HT.lexLt (nss.getD i []) (nss.getD j [])
noncomputable def ltQ (ps:List (List Int×Int)) (i j:Nat):Bool:=ltP (ps.getD i ([],0)) (ps.getD j ([],0))
noncomputable def sortBy {α:Type} (lt:Nat->Nat->Bool) (d:α) (xs:List α):List α:=if xs.length < 2 then xs else (runT lt (Cc xs.length)).toList.map fun i=>xs.getD i d
theorem zPF(lt:Nat->Nat->Bool)(vs:List AB):outS lt vs=sortBy lt CB vs:=rfl
theorem zKK{α:Type}(lt:Nat->Nat->Bool)(d:α)(xs:List α):(sortBy lt d xs).length=xs.length:=by
 unfold sortBy
 split
 ·rfl
 ·rename_i h
  have:=(zBi (n:=xs.length) (by lia)).run lt
  rw[Ak,GT this,Hv]
theorem zJW{α:Type}(lt:Nat->Nat->Bool)(d:α)(xs:List α):∃ is:List Nat,is.Perm (AC xs.length)/\sortBy lt d xs=is.map fun i=>xs.getD i d:=by
 unfold sortBy
 split
 ·refine⟨AC xs.length,.refl _,FV (by simp) fun i h1 h2=>?_⟩
  simp[AK,h1]
 ·rename_i h
  exact⟨_,(zBi (n:=xs.length) (by lia)).run lt,rfl⟩
theorem zFK{α:Type}(d:α)(xs:List α):((AC xs.length).map fun i=>xs.getD i d)=xs:=by
 refine FV (by simp) fun i h1 h2=>?_
 simp[AK,h2]
theorem zD2{α:Type}(lt:Nat->Nat->Bool)(d:α)(xs:List α):(sortBy lt d xs).Perm xs:=by
 obtain⟨is,p,e⟩:=zJW lt d xs
 rw[e]
 have:=p.map fun i=>xs.getD i d
 rw[zFK]at this
 exact this
section
variable {X:Cx}{pins:List (Addr×Obj)}{σ:L2.St}{H:Hp}{s:AG}
theorem zKf(I:Inv X pins σ H s){v:V}{u:AB}{ns:List Int}(h:Im X.K H v (tI ns))(r:RelV v u):TuI s.heap u ns:=by
 obtain⟨p,vs,rfl,h1,h2⟩:=h.inv
 cases (show u=BP p from r)
 have:=h2.of_atoms
 subst this
 obtain⟨its,rv,pl,_⟩:=I.tuple h1.sq
 exact⟨p,its.toArray,rfl,pl,zET rv⟩
theorem zI3(I:Inv X pins σ H s):∀ {vs:List V} {us:List AB} (nss:List (List Int)),Ims X.K H vs (nss.map tI)->Vals vs us->TuIs s.heap us nss
 | vs,us,[],h,r=>by have:=h.inv0; subst this; cases r; exact .nil
 | vs,us,ns::nss,h,r=>by
  obtain⟨v,r',rfl,h1,h2⟩:=h.inv
  cases r with
  | cons r1 r2=>exact .cons (zKf I h1 r1) (zI3 I nss h2 r2)
theorem zPZ(I:Inv X pins σ H s){v:V}{u:AB}{p:List Int×Int}(h:Im X.K H v (tQ p))(r:RelV v u):TuQ s.heap u p:=by
 obtain⟨a,vs,rfl,h1,h2⟩:=h.inv
 cases (show u=BP a from r)
 obtain⟨v1,r1,rfl,i1,h3⟩:=h2.inv
 obtain⟨v2,r2,rfl,i2,h4⟩:=h3.inv
 have:=h4.inv0
 subst this
 have:=i2.inva
 subst this
 obtain⟨its,rv,pl,_⟩:=I.tuple h1.sq
 obtain⟨w1,w2,rfl,q1,q2⟩:=vals2 rv
 obtain⟨t,rfl⟩:=(show ∃ t,w2=DJ p.2 t from q2)
 exact⟨a,w1,t,rfl,pl,zKf I i1 q1⟩
theorem zIj(I:Inv X pins σ H s):∀ {vs:List V} {us:List AB} (ps:List (List Int×Int)),Ims X.K H vs (ps.map tQ)->Vals vs us->TuQs s.heap us ps
 | vs,us,[],h,r=>by have:=h.inv0; subst this; cases r; exact .nil
 | vs,us,p::ps,h,r=>by
  obtain⟨v,r',rfl,h1,h2⟩:=h.inv
  cases r with
  | cons r1 r2=>exact .cons (zPZ I h1 r1) (zIj I ps h2 r2)
theorem zH7{vs:List V}{us:List AB}(r:Vals vs us):∀ (is:List Nat),(∀ i∈is,i < vs.length)->Vals (is.map fun i=>vs.getD i .non) (is.map fun i=>us.getD i CB)
 | [],_=>.nil
 | i::is,h=>by
  have hi:=h i AH
  obtain⟨u,e,q⟩:=r.get (i:=i) (x:=vs[i]) (by simp[hi])
  refine .cons ?_ (zH7 r is fun j hj=>h j (AF _ hj))
  show RelV (vs.getD i .non) (us.getD i CB)
  rw[AK,AR hi,AK,e]
  exact q
theorem zKg{vs:List V}{us:List AB}(r:Vals vs us)(lt:Nat->Nat->Bool):Vals (sortBy lt .non vs) (sortBy lt CB us):=by
 have hl:=r.length
 unfold sortBy
 rw[← hl]
 split
 ·exact r
 ·rename_i h
  refine zH7 r _ fun i hi=>?_
  have:=((zBi (n:=vs.length) (by lia)).run lt).subset hi
  exact BU.mp this
theorem zIv{K:Fg}{H:Hp}{vs:List V}{ts:List T}(r:Ims K H vs ts):∀ (is:List Nat),(∀ i∈is,i < vs.length)->Ims K H (is.map fun i=>vs.getD i .non) (is.map fun i=>ts.getD i (.a .non))
 | [],_=>.nil
 | i::is,h=>by
  have hi:=h i AH
  have hi':i < ts.length:=by rw[← r.len]; exact hi
  obtain⟨u,e,q⟩:=r.get (i:=i) (t:=ts[i]) (by simp[hi'])
  refine .cons ?_ (zIv r is fun j hj=>h j (AF _ hj))
  show Im K H (vs.getD i .non) (ts.getD i (.a .non))
  rw[AK,e,AK,AR hi']
  exact q
theorem zH9{K:Fg}{H:Hp}{vs:List V}{ts:List T}(r:Ims K H vs ts)(lt:Nat->Nat->Bool):Ims K H (sortBy lt .non vs) (sortBy lt (.a .non) ts):=by
 have hl:=r.len
 unfold sortBy
 rw[← hl]
 split
 ·exact r
 ·rename_i h
  refine zIv r _ fun i hi=>?_
  have:=((zBi (n:=vs.length) (by lia)).run lt).subset hi
  exact BU.mp this
end
def Srt (ts:List T) (lt:Nat->Nat->Bool):Prop:=(∃ nss,ts=nss.map tI/\lt=ltI nss)\/∃ ps,ts=ps.map tQ/\lt=ltQ ps
noncomputable def rSortT (K:Fg):List V->Hp->VK->Prop:=fun xs H Q=>∃ p us ts lt,xs=[.ref p]/\SqL K H p us/\Ims K H us ts/\Srt ts lt/\Cn ts.length lt/\∀ l,H l=none->Q (.ref l) (upd H l (.lst (sortBy lt .non us)))
theorem zG3{X:Cx}{k:Nat}(hr:Room k X.A){pins:List (Addr×Obj)}{σ:L2.St}{H:Hp}{s:AG}{it:AB}{ws:List V}{its:List AB}{ts:List T}{lt:Nat->Nat->Bool}{Q:VK}(I:Inv X pins σ H s)(rv:Vals ws its)(hi:Ims X.K H ws ts)(hs:Srt ts lt)(hl:Cn ts.length lt)
  (hcol:∀ (C:List AB->AG->Prop) (F:AB->AG->Prop),(∀ h1 tk,(∀ b o,s.heap.get? b=some o->h1.get? b=some o)->C its { s with heap:=h1,toks:=tk })->AV (model X.prog X.w) X.A.in1 (collect it) C F s)
  (q:∀ l,H l=none->Q (.ref l) (upd H l (.lst (sortBy lt .non ws)))):AV (model X.prog X.w) X.A (call (.builtin "sorted") [it]) (EP X pins σ Q) X.xe s:=by
 have l1:=rv.length
 have l2:=hi.len
 have un:=hr.un
 have hlc:=hl.1
 rw[← l2,l1]at hl
 have fin:∀ (h1 h'':Heap) (tk c2:Nat),(∀ b o,s.heap.get? b=some o->h1.get? b=some o)->(∀ b o,h1.get? b=some o->h''.get? b=some o)->h''.get? h1.objs.size=some (Bf "list" (outS lt its).toArray c2)->EP X pins σ Q (.ref h1.objs.size) { s with heap:=h'',toks:=tk }:=fun h1 h'' tk c2 k1 k2 e=>by
  have I1:Inv X pins σ H { s with heap:=h1 }:=I.kept (t':=s.toks) k1
  exact⟨.ref h1.objs.size,_,I1.laid (t':=tk) k2 (AL _) (show ObjOk X.prog X.w _ h'' _ (.lst (sortBy lt .non ws)) from ⟨by rw[zKK,BM]; lia,sortBy lt CB its,c2,zKg rv lt,by rw[zPF]at e; simpa [Bf] using e⟩),rfl,q _ (I1.hok.fresh (AL _))⟩
 rcases hs with ⟨nss,rfl,rfl⟩ | ⟨ps,rfl,rfl⟩
 ·have t:=zI3 I nss hi rv
  refine zEU (κ:=kindI nss) (lt:=ltI nss) hl hcol (fun h2 h' tk kp C hC=>zKk (s:={ s with heap:=h',toks:=tk }) (t.keeps kp) h2 hC) (fun h' kp i j hi hj C tk hC=>?_) fin
  have a:=(t.keeps kp).at i hi
  have b:=(t.keeps kp).at j hj
  have hu:X.A.in1.in1.units < DV:=by show X.A.units+1+1 < DV; lia
  unfold PySem.W.kas_ask kindI
  split
  ·exact zKl (s:={ s with heap:=h',toks:=tk }) a b (hC tk)
  ·split
   ·exact zPX (s:={ s with heap:=h',toks:=tk }) a b hu (hC tk)
   ·exact zJr (s:={ s with heap:=h',toks:=tk }) a b hu (hC tk)
 ·have t:=zIj I ps hi rv
  refine zEU (κ:=tuples' false) (lt:=ltQ ps) hl hcol (fun h2 h' tk kp C hC=>zJZ (s:={ s with heap:=h',toks:=tk }) (t.keeps kp) h2 hC) (fun h' kp i j hi hj C tk hC=>?_) fin
  have a:=(t.keeps kp).at i hi
  have b:=(t.keeps kp).at j hj
  exact zM7 (s:={ s with heap:=h',toks:=tk }) a b (by show X.A.units+1+1+1 < DV; lia) (hC tk)
theorem zJe{X:Cx}{k:Nat}(hr:Room k X.A):CallR X (.builtin "sorted") (rSortT X.K):=by
 intro pins s σ H xs us Q I r h
 obtain⟨p,ws,ts,lt,rfl,hq,hi,hs,hl,q⟩:=h
 obtain⟨u,rfl,rx⟩:=vals1 r
 cases rx
 obtain⟨its,rv,pl,_⟩:=I.list hq
 obtain⟨o,ho,hc,n,hd⟩:=pl.isList
 have l1:=rv.length
 have l2:=hi.len
 have hlc:=hl.1
 exact zG3 hr I rv hi hs hl (fun C F hC=>JP p (.inl rfl) ho hc hd (fun h1 k1=>hC h1 s.toks k1) (by rw[AN,BM]; lia)) q
noncomputable def asTI:T->Option (List Int)
 | .t xs=>intsOf xs
 | _=>none
noncomputable def asTIs:List T->Option (List (List Int))
 | []=>some []
 | t::r=>(asTI t).bind fun ns=>(asTIs r).map fun nss=>ns::nss
noncomputable def asTQ:T->Option (List Int×Int)
 | .t [a,.a (.int n)]=>(asTI a).map fun ns=>(ns,n)
 | _=>none
noncomputable def asTQs:List T->Option (List (List Int×Int))
 | []=>some []
 | t::r=>(asTQ t).bind fun p=>(asTQs r).map fun ps=>p::ps
theorem zIn{t:T}{ns:List Int}(h:asTI t=some ns):t=tI ns:=by
 cases t with
 | a v=>cases h
 | l v=>cases h
 | f v=>cases h
 | x u v=>cases h
 | t xs=>exact congrArg T.t (zDN h)
theorem zGh:∀ {ts:List T} {nss:List (List Int)},asTIs ts=some nss->ts=nss.map tI
 | [],_,h=>by cases h; rfl
 | t::r,_,h=>by
  obtain⟨ns,e1,h⟩:=bind_some h
  obtain⟨nss,e2,rfl⟩:=map_some h
  rw[zIn e1,zGh e2]; rfl
theorem zOK{t:T}{p:List Int×Int}(h:asTQ t=some p):t=tQ p:=by
 unfold asTQ at h
 split at h
 ·obtain⟨ns,e,rfl⟩:=map_some h
  rw[zIn e]; rfl
 ·cases h
theorem zHG:∀ {ts:List T} {nss:List (List Int×Int)},asTQs ts=some nss->ts=nss.map tQ
 | [],_,h=>by cases h; rfl
 | t::r,_,h=>by
  obtain⟨ns,e1,h⟩:=bind_some h
  obtain⟨nss,e2,rfl⟩:=map_some h
  rw[zOK e1,zHG e2]; rfl
end D
namespace L2
open PySem PySem.Spec PyProof.Rows
section
variable {prog:Ah}{w:Aw}{A:A4}{E:AB->AG->Prop}
theorem zGH{h:Heap}{g:Array IK}{dr:Drawn}{tk:Nat}{os:OsState}{it d:Addr}{i ep:Nat}{es:Array Da}{od:Obj}{Q:Option AB->AG->Prop}
  (hit:h.get? it=some { cls:=.type "dict_keyiterator",data:=.fields #[.ref d,.int i 0,.int es.size 0,.int ep 0] }) (hod:h.get? d=some od) (hdd:od.data=.dict es ep) (hi:i < es.size)
  (hQ:∀ h',h'.get? it=some { cls:=.type "dict_keyiterator",data:=.fields #[.ref d,.int ((i+1:Nat):Int) 0,.int es.size 0,.int ep 0] }->C6 it h h'->Q (some es[i].key) ⟨h',g,dr,tk,os⟩) :
  AV (model prog w) A (Ec (.ref it)) Q E ⟨h,g,dr,tk,os⟩:=by
 obtain⟨oc,odct,odat,osl⟩:=od
 simp only at hdd
 subst hdd
 have hT:(⟨h,g,dr,tk,os⟩:AG).TypeIs (.ref it) "dict_keyiterator":=⟨_,hit,rfl⟩
 unfold Ec
 refine AD (Dg (B5 (name:=Di "__next__") hT Bn (Bu Bn hT EZ ?_ (EU _))))
 repeat (any_goals (first | assumption | wp_step))
 have e0:(if (i:Int) < 0 then none else es[(i:Int).toNat]?)=some es[i]:=by rw[if_neg (by lia),Du,An hi]
 rw[e0]
 repeat (any_goals (first | assumption | wp_step))
 refine⟨_,rfl,AO (hQ _ ((Gn _ hit rfl).trans (by kernel_rfl)) (CF ..))⟩
theorem zHj{h:Heap}{g:Array IK}{dr:Drawn}{tk:Nat}{os:OsState}{it d:Addr}{ep:Nat}{es:Array Da}{od:Obj}{Q:Option AB->AG->Prop}(hh:A.handled=none)
  (hit:h.get? it=some { cls:=.type "dict_keyiterator",data:=.fields #[.ref d,.int es.size 0,.int es.size 0,.int ep 0] }) (hod:h.get? d=some od) (hdd:od.data=.dict es ep)
  (hQ:∀ h',G8 it h h'->Q none ⟨h',g,dr,tk,os⟩) :
  AV (model prog w) A (Ec (.ref it)) Q E ⟨h,g,dr,tk,os⟩:=by
 obtain⟨oc,odct,odat,osl⟩:=od
 simp only at hdd
 subst hdd
 have hT:(⟨h,g,dr,tk,os⟩:AG).TypeIs (.ref it) "dict_keyiterator":=⟨_,hit,rfl⟩
 unfold Ec
 refine AD (Dg (B5 (name:=Di "__next__") hT Bn (Bu Bn hT EZ ?_ (EU _))))
 repeat (any_goals (first | assumption | wp_step))
 have e0:(if (es.size:Int) < 0 then none else es[(es.size:Int).toNat]?)=none:=by rw[if_neg (by lia),Du]; simp
 rw[e0]
 repeat (any_goals (first | assumption | wp_step))
 unfold raiseNew
 refine AD (K7 ?_)
 rw[show A.in1.handled=none from hh]
 refine AD (AO (wpAny_throw ?_))
 refine AD (GI (T:="StopIteration") (b:=true) ⟨_,AZ _ rfl,rfl⟩ Kk (AO ?_))
 exact hQ _ (((CF ..).extBut.push _).push _)
end
open PySem PySem.Spec PyProof.Rows PySem.W
def RawD (h:Heap) (d:Addr) (es:Array Da) (ep:Nat):Prop:=∃ o,h.get? d=some o/\o.ExactDict/\o.data=.dict es ep
theorem RawD.lt{h:Heap}{d:Addr}{es:Array Da}{ep:Nat}(x:RawD h d es ep):d < h.objs.size:=let ⟨_,e,_⟩:=x; AY e
theorem RawD.typeIs{s:AG}{d:Addr}{es:Array Da}{ep:Nat}(x:RawD s.heap d es ep):s.TypeIs (.ref d) "dict":=let ⟨o,e,c,_⟩:=x; ⟨o,e,c.1⟩
theorem RawD.keep{h h':Heap}{d:Addr}{es:Array Da}{ep:Nat}(x:RawD h d es ep)(k:∀ o,h.get? d=some o->h'.get? d=some o):RawD h' d es ep:=let ⟨o,e,c⟩:=x; ⟨o,k o e,c⟩
noncomputable abbrev keyIt (d:Addr) (i n ep:Nat):Obj:={ cls:=.type "dict_keyiterator",data:=.fields #[.ref d,.int i 0,.int n 0,.int ep 0] }
section
variable {prog:Ah}{w:Aw}{A:A4}{E:AB->AG->Prop}{s:AG}{d:Addr}{es:Array Da}{ep:Nat}
theorem zE3{Q:AB->AG->Prop}(hd:(d == CH)=false)(hm:RawD s.heap d es ep)(hQ:Q (.ref s.heap.objs.size) { s with heap:=s.heap.push (keyIt d 0 es.size ep) }):AV (model prog w) A (Io (.ref d)) Q E s:=by
 have hT:=hm.typeIs
 obtain⟨o,ho,hc,hdat⟩:=hm
 refine JQ hT GK (Bu GK hT PySem.F.entry_dict_iter ?_ (PySem.F.args_dict_iter_1 _)); unfold Builtin.«dict.__iter__»
 refine AD ?_; unfold KJ; refine AD (wpAny_notOrdered_dict hT ?_)
 show AV _ _ (pure (BP d)) _ _ s
 refine AO ?_; show AV _ _ (Fe d >>= _) _ _ s
 unfold Fe; rw[if_neg (by rw[hd]; exact AQ)]
 refine AD (AO ?_); refine AD (wpAny_dictEntries ho hdat (AD (wpAny_dictEpoch ho hdat ?_)))
 refine AD (BR (AO ⟨_,rfl,"dict_keyiterator",_,⟨_,AZ _ rfl,rfl⟩,Bn.lookup,?_⟩))
 exact hQ
theorem zID(hh:A.handled=none)(it:Addr)(hne:d≠it):Walks prog w A it [it,d] [it] es.size (fun i v=>∃ e,es[i]?=some e/\v=e.key) (fun i h=>h.get? it=some (keyIt d i es.size ep)/\RawD h d es ep) where
 sub:=fun b hb=>AS.mpr (.inl (AI.mp hb))
 frame:=fun i h h' st k=>⟨k it AH _ st.1,st.2.keep fun o e=>k d (AF _ AH) o e⟩
 item:=fun i s Q E hi st hQ=>by
  obtain⟨h,g,dr,tk,os⟩:=s
  obtain⟨o,ho,hc,hdat⟩:=st.2
  refine zGH (d:=d) (ep:=ep) (es:=es) st.1 ho hdat hi fun h' e1 e2=>?_
  refine hQ _ h' tk ⟨es[i],by simp[hi],rfl⟩ ⟨e1,⟨o,(e2.2 d hne).trans ho,hc,hdat⟩⟩ fun b o' hb e=>(e2.2 b (fun z=>hb (AI.mpr z))).trans e
 done:=fun s Q E st hQ=>by
  obtain⟨h,g,dr,tk,os⟩:=s
  obtain⟨o,ho,hc,hdat⟩:=st.2
  exact zHj (d:=d) (ep:=ep) (es:=es) hh st.1 ho hdat fun h' e=>hQ h' tk fun b o' hb e'=>e b o' (fun z=>hb (AI.mpr z)) e'
 self:=fun i s Q E st hQ=>IS ⟨_,st.1,rfl,rfl⟩ hQ
theorem zMA(lo:(d == CH)=false):KdlSrc prog w "dict" d d es.size (fun i v=>∃ e,es[i]?=some e/\v=e.key) (fun h=>RawD h d es ep) where
 type:=fun _ hm=>hm.typeIs
 there:=fun _ hm=>⟨hm.lt,hm.lt⟩
 keep:=fun _ _ hm hk=>hm.keep fun o e=>hk d (.inl rfl) o e
 notList:=by decide
 notTuple:=by decide
 hint:=fun _ _ _ _ hm hq=>kdl_hint_dict hm.typeIs hq
 iter:=fun A s hh hm=>⟨_,_,(fun _ _ hq=>zE3 lo hm hq),zID hh _ (BA hm.lt),⟨AZ _ rfl,hm.keep fun o e=>AM _ e⟩⟩
end
def PairsAt (H:Hp) (us:List V) (kvs:List (List Key×V)):Prop:=Cd (fun (u:V) (kv:List Key×V)=>∃ a b,u=.ref a/\H a=some (.tup [.ref b,kv.2])/\H b=some (.tup (kv.1.map kV))) us kvs
theorem zF1{α β:Type}{R:α->β->Prop}:∀ {xs:List α} {ys:List β},Cd R xs ys->∀ (j:Nat) x,xs[j]?=some x->∃ y,ys[j]?=some y/\R x y
 | _,_,.nil,j,x,e=>by simp at e
 | _,_,.cons h t,0,x,e=>by simp at e; subst e; exact⟨_,rfl,h⟩
 | _,_,.cons h t,j+1,x,e=>by simpa using zF1 t j x (by simpa using e)
theorem zBd{α β:Type}{R:α->β->Prop}:∀ {xs:List α} {ys:List β},Cd R xs ys->xs.length=ys.length
 | _,_,.nil=>rfl
 | _,_,.cons _ t=>by simp[zBd t]
end L2
namespace D
open PySem L2
noncomputable def keyTup (k:List Key):T:=.t ((k.map kV).map T.a)
noncomputable def itemsT (kvs:List (List Key×T)):List T:=kvs.map fun kv=>.t [keyTup kv.1,kv.2]
theorem zLO{K:Fg}{H:Hp}{b:Addr}{k:List Key}(h:H b=some (.tup (k.map kV))):Im K H (.ref b) (keyTup k):=Im.tup h (Ims.atoms _)
theorem zGA{K:Fg}{H:Hp}:∀ {us:List V} {l:List (List Key×V)} {kvs:List (List Key×T)},PairsAt H us l->Cd (fun (a:List Key×V) (b:List Key×T)=>a.1=b.1/\Im K H a.2 b.2) l kvs->Ims K H us (itemsT kvs)
 | _,_,_,.nil,.nil=>.nil
 | _,_,_,.cons ⟨a,b,e,h1,h2⟩ t,.cons ⟨e1,h3⟩ t'=>by
  subst e
  refine .cons (Im.tup h1 (.cons ?_ (.one h3))) (zGA t t')
  rw[← e1]; exact zLO h2
noncomputable def keysT (kvs:List (List Key×T)):List T:=kvs.map fun kv=>keyTup kv.1
noncomputable def rSortD (K:Fg):List V->Hp->VK->Prop:=fun xs H Q=>∃ p kvs lt,xs=[.ref p]/\Rd H p (.dT kvs)/\Srt (kvs.map fun kv=>keyTup kv.1) lt/\Cn kvs.length lt/\∀ l us,H l=none->Ims K H us (kvs.map fun kv=>keyTup kv.1)->Q (.ref l) (upd H l (.lst (sortBy lt .non us)))
theorem zJ3{X:Cx}{k:Nat}(hr:Room k X.A):CallR X (.builtin "sorted") (rSortD X.K):=by
 intro pins s σ H xs us Q I r h
 obtain⟨p,kvs,lt,rfl,hq,hs,hl,q⟩:=h
 obtain⟨u,rfl,rx⟩:=vals1 r
 cases rx
 obtain⟨hz,hsm,xs,hk,o',es,ep,e1,e2,e3,e4,_,_⟩:=zB1 I.hok hq
 have hm:RawD s.heap p es ep:=⟨o',e1,e2,e3⟩
 have rv:∀ xs:List (List Key×Addr×AB),Vals (xs.map fun x=>V.ref x.2.1) (xs.map fun x=>BP x.2.1):=fun xs=>by
  induction xs with
  | nil=>exact .nil
  | cons a r ih=>exact .cons rfl ih
 have hi:∀ {kvs:List (List Key×V)} {xs:List (List Key×Addr×AB)},L2.KT H kvs xs->Ims X.K H (xs.map fun x=>V.ref x.2.1) (kvs.map fun kv=>keyTup kv.1):=by
  intro kvs xs h
  induction h with
  | nil=>exact .nil
  | @cons a b l m h t ih=>exact .cons (zLO h.2.1) ih
 have hn:es.size=xs.length:=by rw[← As,e4,Ak]
 have hx:xs.length=kvs.length:=(zBd hk).symm
 refine zG3 hr I (rv xs) (hi hk) hs (by rw[Ak]; exact hl) (fun C F hC=>?_) fun l hl'=>q l _ hl' (hi hk)
 refine PySem.W.kdu_collect (zMA (es:=es) (ep:=ep) hsm) (by exact hr.hd) hm (by lia) fun h' tk acc kp ha=>?_
 have:acc.toList=xs.map fun x=>BP x.2.1:=by
  refine FV (by rw[As,ha.1,hn,Ak]) fun j h1 h2=>?_
  have hj:j < acc.size:=by simpa using h1
  obtain⟨e,he,hv⟩:=ha.2 j acc[j] (by simp[hj])
  rw[← Bl,e4,Af]at he
  have hjx:j < xs.length:=by simpa using h2
  rw[AR hjx]at he
  cases he
  simp only[Array.getElem_toList,IH]
  exact hv
 rw[this]
 exact hC h' tk kp
theorem zNz{K:Fg}{H:Hp}{l:List (List Key×V)}{kvs:List (List Key×T)}(h:Cd (fun (a:List Key×V) (b:List Key×T)=>a.1=b.1/\Im K H a.2 b.2) l kvs):(l.map fun kv=>keyTup kv.1)=keysT kvs:=by
 induction h with
 | nil=>rfl
 | @cons a b l m h t ih=>simp only[AJ,keysT]at ih ⊢; rw[h.1,ih]
end D
namespace L2
open PySem PySem.W PyProof.Rows
noncomputable def atA (p:Array Nat) (i:Nat):Nat:=p.getD i 0
theorem zAX(p:Array Nat)(i:Nat):atA p i=(p[i]?).getD 0:=by unfold atA; rw[Dc]
theorem zBV{α β:Type}(lt:Nat->Nat->Bool){f:α->KasT β}:∀ t:KasT α,runT lt (t.bind f)=runT lt (f (runT lt t))
 | .ret a=>rfl
 | .ask i j k=>zBV lt (k (lt i j))
structure Tot(n:Nat)(lt:Nat->Nat->Bool):Prop where
 tot:∀ i j,i < n->j < n->i≠j->lt i j=false->lt j i=true
 asy:∀ i j,i < n->j < n->lt i j=true->lt j i=false
 tr:∀ i j k,i < n->j < n->k < n->lt i j=true->lt j k=true->lt i k=true
theorem Arr.size{n:Nat}{p:Array Nat}(h:Arr n p):p.size=n:=by
 have:=GT h
 simpa using this
theorem Arr.inj{n:Nat}{p:Array Nat}(h:Arr n p){i j:Nat}(hi:i < n)(hj:j < n)(e:atA p i=atA p j):i=j:=by
 have nd:p.toList.Nodup:=(GU h).mpr Cm
 have hs:=h.size
 rw[zAX,zAX,An (by lia),An (by lia),BV,BV]at e
 have pw:=Au.mp nd
 have hi':i < p.toList.length:=by rw[As]; lia
 have hj':j < p.toList.length:=by rw[As]; lia
 have e':p.toList[i]=p.toList[j]:=e
 rcases FK i j with z | z | z
 ·exact absurd e' (pw i j hi' hj' z)
 ·exact z
 ·exact absurd e'.symm (pw j i hj' hi' z)
theorem Arr.atlt{n:Nat}{p:Array Nat}(h:Arr n p)(h0:0 < n)(i:Nat):atA p i < n:=h.lt h0 i
theorem zBr{p:Array Nat}{k l:Nat}(hk:k < p.size)(hl:l<=k)(i:Nat):atA (bubble p k (k - l)) i=if i=l then atA p k else if l < i/\i<=k then atA p (i - 1) else atA p i:=by
 have e:=getElem?_bubble hk (k - l) (by lia) i
 rw[show k - (k - l)=l from by lia]at e
 rw[zAX,e]
 split
 ·rw[zAX]
 ·split
  ·rw[zAX]
  ·rw[zAX]
theorem zKp{p:Array Nat}{m:Nat}(hm:m<=p.size)(i:Nat):atA (kas_rev p 0 m) i=if i < m then atA p (m - 1 - i) else atA p i:=by
 have e:=Ii (xs:=p) (i:=0) hm i
 unfold kas_rev
 rw[zAX,e]
 by_cases h:i < m
 ·rw[if_pos ⟨A9 _,h⟩,if_pos h,Dm,zAX]
 ·rw[if_neg (fun z=>h z.2),if_neg h,zAX]
section
variable {n:Nat}{lt:Nat->Nat->Bool}
def Asc (lt:Nat->Nat->Bool) (p:Array Nat) (k:Nat):Prop:=∀ i j,i < j->j < k->lt (atA p i) (atA p j)=true
def Dsc (lt:Nat->Nat->Bool) (p:Array Nat) (k:Nat):Prop:=∀ i j,i < j->j < k->lt (atA p j) (atA p i)=true
theorem Asc.more(T:Tot n lt){p:Array Nat}(h:Arr n p){m:Nat}(a:Asc lt p m)(hm:1<=m)(hmn:m < n)(hc:lt (atA p (m - 1)) (atA p m)=true):Asc lt p (m+1):=fun i j hij hj=>by
 by_cases e:j=m
 ·subst e
  by_cases e2:i=j - 1
  ·subst e2; exact hc
  ·exact T.tr _ _ _ (h.atlt (by lia) _) (h.atlt (by lia) _) (h.atlt (by lia) _) (a i (j - 1) (by lia) (by lia)) hc
 ·exact a i j hij (by lia)
theorem Dsc.more(T:Tot n lt){p:Array Nat}(h:Arr n p){m:Nat}(a:Dsc lt p m)(hm:1<=m)(hmn:m < n)(hc:lt (atA p m) (atA p (m - 1))=true):Dsc lt p (m+1):=fun i j hij hj=>by
 by_cases e:j=m
 ·subst e
  by_cases e2:i=j - 1
  ·subst e2; exact hc
  ·exact T.tr _ _ _ (h.atlt (by lia) _) (h.atlt (by lia) _) (h.atlt (by lia) _) hc (a i (j - 1) (by lia) (by lia))
 ·exact a i j hij (by lia)
theorem zFT(T:Tot n lt){p:Array Nat}(h:Arr n p):∀ (f m:Nat),1<=m->m+f<=n->Asc lt p m->m<=runT lt (kas_asc p f m)/\runT lt (kas_asc p f m)<=m+f/\Asc lt p (runT lt (kas_asc p f m))/\(runT lt (kas_asc p f m) < m+f->lt (atA p (runT lt (kas_asc p f m))) (atA p (runT lt (kas_asc p f m) - 1))=true)
 | 0,m,_,_,a=>⟨AL _,AL _,a,fun z=>absurd z (Az _)⟩
 | f+1,m,h1,h2,a=>by
  have e:runT lt (kas_asc p (f+1) m)=runT lt (if lt (atA p m) (atA p (m - 1))=true then .ret m else kas_asc p f (m+1)):=rfl
  rw[e]
  by_cases hc:lt (atA p m) (atA p (m - 1))=true
  ·rw[if_pos hc]
   exact⟨AL _,IT _ _,a,fun _=>hc⟩
  ·rw[if_neg hc]
   have hne:atA p m≠atA p (m - 1):=fun z=>by have:=h.inj (by lia) (by lia) z; lia
   have:=T.tot _ _ (h.atlt (by lia) _) (h.atlt (by lia) _) hne (by simpa using hc)
   obtain⟨b1,b2,b3,b4⟩:=zFT T h f (m+1) (by lia) (by lia) (a.more T h h1 (by lia) this)
   exact⟨by lia,by lia,b3,fun z=>b4 (by lia)⟩
theorem zHD(T:Tot n lt){p:Array Nat}(h:Arr n p):∀ (f m:Nat),1<=m->m+f<=n->Dsc lt p m->∃ m',m<=m'/\m'<=m+f/\Dsc lt p m'/\runT lt (kas_desc f p m 0)=(p,m',0)
 | 0,m,_,_,a=>⟨m,AL _,AL _,a,rfl⟩
 | f+1,m,h1,h2,a=>by
  have e:runT lt (kas_desc (f+1) p m 0)=runT lt (if lt (atA p m) (atA p (m - 1))=true then (if 0 > 0 then kas_desc f (kas_rev p (m - (0+1)) m) (m+1) 0 else kas_desc f p (m+1) 0) else .ask (atA p (m - 1)) (atA p m) fun d=>if d=true then .ret (p,m,0) else kas_desc f p (m+1) (0+1)):=rfl
  rw[e]
  by_cases hc:lt (atA p m) (atA p (m - 1))=true
  ·rw[if_pos hc,if_neg (Az _)]
   obtain⟨m',b1,b2,b3,b4⟩:=zHD T h f (m+1) (by lia) (by lia) (a.more T h h1 (by lia) hc)
   exact⟨m',by lia,by lia,b3,b4⟩
  ·rw[if_neg hc]
   have hne:atA p m≠atA p (m - 1):=fun z=>by have:=h.inj (by lia) (by lia) z; lia
   have:=T.tot _ _ (h.atlt (by lia) _) (h.atlt (by lia) _) hne (by simpa using hc)
   refine⟨m,AL _,IT _ _,a,?_⟩
   show runT lt (if lt (atA p (m - 1)) (atA p m)=true then _ else _)=_
   rw[if_pos this]; rfl
theorem zKi(T:Tot n lt){p:Array Nat}(h:Arr n p){m:Nat}(h1:1<=m)(h2:m<=n)(a:Dsc lt p m):∃ m' p',runT lt (kas_tail3 m n p)=(m',p')/\1<=m'/\m'<=n/\Asc lt p' m'/\Arr n p':=by
 have hs:=h.size
 have ha:Asc lt (kas_rev p 0 m) m:=fun i j hij hj=>by
  rw[zKp (by lia),zKp (by lia),if_pos (by lia),if_pos hj]
  exact a _ _ (by lia) (by lia)
 obtain⟨b1,b2,b3,_⟩:=zFT T (h.rev 0 m) (n - m) m h1 (by lia) ha
 refine⟨_,kas_rev p 0 m,?_,by lia,by lia,b3,h.rev 0 m⟩
 unfold kas_tail3
 rw[zBV]; rfl
theorem zLK(T:Tot n lt){p:Array Nat}(h:Arr n p)(hn:1<=n):∃ m' p',runT lt (kas_count n p)=(m',p')/\1<=m'/\m'<=n/\Asc lt p' m'/\Arr n p':=by
 obtain⟨b1,b2,b3,b4⟩:=zFT T h (n - 1) 1 (AL _) (by lia) (fun i j hij hj=>by lia)
 unfold kas_count
 rw[zBV]
 generalize runT lt (kas_asc p (n - 1) 1)=m at *
 by_cases e:m=n
 ·rw[if_pos (by simpa using e)]
  exact⟨m,p,rfl,b1,by lia,b3,h⟩
 ·rw[if_neg (by simpa using e)]
  by_cases e1:m > 1
  ·rw[if_pos e1]
   have:=b3 0 (m - 1) (by lia) (by lia)
   refine⟨m,p,?_,b1,by lia,b3,h⟩
   show runT lt (if lt (atA p 0) (atA p (m - 1))=true then _ else _)=_
   rw[if_pos this]; rfl
  ·rw[if_neg e1]
   have em:m=1:=by lia
   subst em
   have hc:=b4 (by lia)
   unfold kas_descPart
   rw[zBV]
   obtain⟨m',c1,c2,c3,c4⟩:=zHD T h (n - 2) 2 (by lia) (by lia) (fun i j hij hj=>by
    have:i=0/\j=1:=by lia
    rw[this.1,this.2]; exact hc)
   rw[show n - (1+1)=n - 2 from rfl,show (1+1:Nat)=2 from rfl,c4,if_neg (by simp)]
   dsimp only
   exact zKi T h (by lia) (by lia) c3
theorem zDC(T:Tot n lt){p:Array Nat}(h:Arr n p){k:Nat}(hk:k < n)(a:Asc lt p k):∀ (f l r:Nat),r<=k->l<=r->r - l<=f->(∀ i,i < l->lt (atA p i) (atA p k)=true)->(∀ i,r<=i->i < k->lt (atA p k) (atA p i)=true) ->
  runT lt (kas_place p k f l r)<=k/\(∀ i,i < runT lt (kas_place p k f l r)->lt (atA p i) (atA p k)=true)/\∀ i,runT lt (kas_place p k f l r)<=i->i < k->lt (atA p k) (atA p i)=true
 | 0,l,r,h1,h2,h3,h4,h5=>⟨by show l<=k; lia,h4,fun i hi hik=>h5 i (by have:l<=i:=hi; lia) hik⟩
 | f+1,l,r,h1,h2,h3,h4,h5=>by
  unfold kas_place
  by_cases hlr:l ≥ r
  ·rw[if_pos hlr]
   exact⟨by show l<=k; lia,h4,fun i hi hik=>h5 i (by have:l<=i:=hi; lia) hik⟩
  ·rw[if_neg hlr]
   have e:runT lt (.ask (p.getD k 0) (p.getD ((l+r) / 2) 0) fun c=>if c=true then kas_place p k f l ((l+r) / 2) else kas_place p k f ((l+r) / 2+1) r)=runT lt (if lt (atA p k) (atA p ((l+r) / 2))=true then kas_place p k f l ((l+r) / 2) else kas_place p k f ((l+r) / 2+1) r):=rfl
   rw[e]
   have lts:=fun i=>h.atlt (show 0 < n by lia) i
   by_cases hc:lt (atA p k) (atA p ((l+r) / 2))=true
   ·rw[if_pos hc]
    refine zDC T h hk a f l ((l+r) / 2) (by lia) (by lia) (by lia) h4 fun i hi hik=>?_
    by_cases ei:i=(l+r) / 2
    ·subst ei; exact hc
    ·exact T.tr _ _ _ (lts _) (lts _) (lts _) hc (a _ _ (by lia) hik)
   ·rw[if_neg hc]
    have hne:atA p k≠atA p ((l+r) / 2):=fun z=>by have:=h.inj hk (by lia) z; lia
    have hc':=T.tot _ _ (lts _) (lts _) hne (by simpa using hc)
    refine zDC T h hk a f ((l+r) / 2+1) r h1 (by lia) (by lia) (fun i hi=>?_) h5
    by_cases ei:i=(l+r) / 2
    ·subst ei; exact hc'
    ·exact T.tr _ _ _ (lts _) (lts _) (lts _) (a _ _ (by lia) (by lia)) hc'
theorem zIz(T:Tot n lt):∀ (f k:Nat) {p:Array Nat},Arr n p->Asc lt p k->k+f=n->Asc lt (runT lt (kas_bin f p k)) n
 | 0,k,p,h,a,e=>by
  rw[EI]at e; subst e; exact a
 | f+1,k,p,h,a,e=>by
  unfold kas_bin
  rw[zBV]
  have hk:k < n:=by lia
  obtain⟨c1,c2,c3⟩:=zDC T h hk a k 0 k (AL _) (A9 _) (by lia) (fun i hi=>absurd hi (Fv _)) (fun i hi hik=>absurd hik (KU.mpr hi))
  generalize runT lt (kas_place p k k 0 k)=l at *
  refine zIz T f (k+1) (h.bub k (k - l)) (fun i j hij hj=>?_) (by lia)
  have hs:=h.size
  rw[zBr (by lia) c1,zBr (by lia) c1]
  by_cases ei:i=l
  ·rw[if_pos ei,if_neg (by lia),if_pos (by lia)]
   exact c3 _ (by lia) (by lia)
  ·rw[if_neg ei]
   by_cases ej:j=l
   ·rw[if_pos ej,if_neg (by lia)]
    exact c2 _ (by lia)
   ·rw[if_neg ej]
    by_cases hi2:l < i/\i<=k
    ·rw[if_pos hi2,if_pos (by lia)]
     exact a _ _ (by lia) (by lia)
    ·rw[if_neg hi2]
     by_cases hj2:l < j/\j<=k
     ·rw[if_pos hj2]
      exact a _ _ (by lia) (by lia)
     ·rw[if_neg hj2]
      exact a _ _ hij (by lia)
theorem zH5(T:Tot n lt)(hn:1<=n):Asc lt (runT lt (kas_sort n)) n:=by
 have h0:Arr n (C7 (AC n)):=by show (C7 (AC n)).toList.Perm _; simp
 obtain⟨m,p,e,h1,h2,a,h⟩:=zLK T h0 hn
 unfold kas_sort
 rw[zBV,e]
 dsimp only
 split
 ·rename_i hlt
  rw[show max m 1=m from by lia]
  exact zIz T _ _ h a (by lia)
 ·rename_i hge
  have:m=n:=by lia
  subst this; exact a
end
end L2
namespace D
open PySem L2
theorem zC6{α:Type}{lt:Nat->Nat->Bool}{d:α}{xs:List α}(T:Tot xs.length lt)(R:α->α->Prop)(hR:∀ i j,i < xs.length->j < xs.length->lt i j=true->R (xs.getD i d) (xs.getD j d)):(sortBy lt d xs).Pairwise R:=by
 unfold sortBy
 split
 ·rename_i h
  match xs,h with
  | [],_=>exact .nil
  | [a],_=>exact Ga _ _
  | _::_::_,h=>simp at h; lia
 ·rename_i h
  have hA:=zH5 T (by lia)
  have hp:Arr xs.length (runT lt (Cc xs.length)):=(zBi (n:=xs.length) (by lia)).run lt
  have hs:=hp.size
  refine BN.mpr (Au.mpr fun i j hi hj hij=>?_)
  have hi':i < xs.length:=by rw[As,hs]at hi; exact hi
  have hj':j < xs.length:=by rw[As,hs]at hj; exact hj
  have ei:(runT lt (Cc xs.length)).toList[i]=atA (runT lt (Cc xs.length)) i:=by
   rw[zAX,An (by lia)]; simp
  have ej:(runT lt (Cc xs.length)).toList[j]=atA (runT lt (Cc xs.length)) j:=by
   rw[zAX,An (by lia)]; simp
  rw[ei,ej]
  exact hR _ _ (hp.atlt (by lia) _) (hp.atlt (by lia) _) (hA i j hij hj')
noncomputable def keyI:List AB->Option (List Key)
 | []=>some []
 | .int i _::r=>(keyI r).map fun ks=>.inl i::ks
 | _=>none
theorem zFv:∀ {ks:List Key} {us:List AB},Vals (ks.map kV) us->∀ {js:List Key},keyI us=some js->js=ks
 | [],_,.nil,js,e=>by cases e; rfl
 | .inl m::r,_,.cons r1 r2,js,e=>by
  obtain⟨t,rfl⟩:=r1
  obtain⟨js',e1,rfl⟩:=map_some (show (keyI _).map (fun ks=>Ed m::ks)=some js from e)
  rw[zFv r2 e1]
 | .inr x::r,_,.cons r1 r2,js,e=>by
  obtain⟨t,rfl⟩:=r1
  cases e
noncomputable def kcC (cs:List (List Key)) (o:Obj):Bool:=match o.cls with
 | .type n=>if n="tuple" then (match o.data with
  | .seq its _=>match its.toList with
   | .int i t::r=>match keyI (.int i t::r) with
    | some ks=>cs.any fun c=>decide (c=ks)
    | none=>false
   | [.str x _]=>!(decide (x="yes") || decide (x="no")) || cs.any fun c=>decide (c=[.inr x])
   | _=>true
  | _=>true) else true
 | _=>true
theorem zPj{K:Fg}{cs:List (List Key)}(h:(K.all fun q=>kcC cs q.2)=true):KC K cs:=by
 intro p ks hk
 obtain⟨o,its,n,h1,h2,h3,h4,h5,h6,h7⟩:=hk
 have hm:∀ {l:Fg},l.lookup p=some o->(p,o)∈l:=by
  intro l
  induction l with
  | nil=>intro e; cases e
  | cons x r ih =>
   intro e
   obtain⟨a,b⟩:=x
   rw[B9]at e
   split at e
   ·rename_i hb
    cases e
    rw[eq_of_beq hb]; exact AH
   ·exact AF _ (ih e)
 have hz:=BK.mp h _ (hm h1)
 simp only[kcC,h2,h4,if_true]at hz
 cases ks with
 | nil=>cases h7
 | cons k r =>
  cases k with
  | inr x =>
   cases r with
   | cons _ _=>cases h7
   | nil =>
    generalize its.toList=L at h6 hz
    cases h6 with
    | cons r1 r2 =>
     obtain⟨t,rfl⟩:=r1
     cases r2
     have h8:(decide (x="yes") || decide (x="no"))=true:=h7
     dsimp only at hz
     rw[h8]at hz
     obtain⟨c,hc,e2⟩:=CO.mp hz
     rw[← of_decide_eq_true e2]; exact hc
  | inl m =>
   generalize its.toList=L at h6 hz
   cases h6 with
   | cons r1 r2 =>
    obtain⟨t,rfl⟩:=r1
    dsimp only at hz
    split at hz
    ·rename_i ks' e
     obtain⟨c,hc,e2⟩:=CO.mp hz
     have e3:=of_decide_eq_true e2
     have:=zFv (ks:=.inl m::r) (.cons ⟨t,rfl⟩ r2) e
     rw[← this,← e3]; exact hc
    ·cases hz
end D
namespace D
open PySem L2
example (P:Ah) (w:Aw):(mixKind P w).hash (.inl 1)=1/\(mixKind P w).hash (.inl 2)=2:=⟨by rfl,by rfl⟩
end D
namespace D
open PySem L2
end D
namespace D
open PySem L2
@[simp high,simp ↓ high] theorem zSY{α:Type}{x y:α}:ifO (some 3) 3 x y=x:=rfl
abbrev Tb:=List (Str×Nat×DF)
noncomputable def fuelX:Nat:=100000
theorem zMk:fuelX=100000:=rfl
end D
namespace D
open PySem L2
end D
namespace D
open PySem L2
variable {K:Fg}
end D
namespace D
open PySem L2
open PySem.SeqAt
end D
namespace D
open PySem L2
end D
namespace D
open PySem L2
end D
namespace D
open PySem L2
end D
namespace L2
open PySem PySem.Spec PyProof.Rows
section
variable {X:Cx}{pins:List (Addr×Obj)}{σ:St}{H:Hp}{s:AG}{p:Addr}{kvs:List (List Key×V)}
theorem Inv.swap{u u':HO}(I:Inv X pins σ H s)(e:H p=some u)(h1:∀ c xs,u=.tup xs->c≠p)(h2:∀ o v,u=.frz o v->∀ o' v',X.H₀ p≠some (.frz o' v'))(h3:∀ ps,u≠.tbl ps)(h4:∀ a,u≠.own a)
  (ht:∀ c v,u=v->H c=some v->c=p->∀ xs,v≠.tup xs) (new:ObjOk X.prog X.w (upd H p u') s.heap p u')
  (stay:∀ b v,b≠p->H b=some v->ObjOk X.prog X.w (upd H p u') s.heap b v):Inv X pins σ (upd H p u') s:=by
 have ne:∀ {b:Addr},H b=none->b≠p:=fun {b} h z=>by rw[z,e]at h; cases h
 refine⟨I.ok,I.os,I.bare,?_,I.loc,I.cell,by rw[zAK (ne I.free)]; exact I.free,fun x c q=>by rw[zAK (ne (I.freeC x c q))]; exact I.freeC x c q,fun q hq=>?_,fun b v q=>?_,I.len⟩
 ·exact {
   keep:=I.base.keep
   slot:=I.base.slot
   free:=fun b ob q n hx=>by have:=I.base.free b ob q n hx; rw[zAK (ne this)]; exact this
   there:=I.base.there
   tups:=fun b xs q=>by
    have:=I.base.tups b xs q
    rw[zAK (fun z=>by
     rw[z,e]at this
     have e':=Ab this
     exact h1 p xs e' rfl)]; exact this
   frzs:=fun b ob v q=>by
    have:=I.base.frzs b ob v q
    rw[zAK (fun z=>by
     rw[z,e]at this
     rw[z]at q
     exact h2 _ _ (Ab this) _ _ q)]; exact this
   tbls:=fun b ps q=>by
    obtain⟨m,e'⟩:=I.base.tbls b ps q
    exact⟨m,by rw[zAK (fun z=>by rw[z,e]at e'; exact h3 _ (Ab e'))]; exact e'⟩ }
 ·obtain⟨p1,p2,p3,p4,p5⟩:=I.pin q hq
  exact⟨p1,by rw[zAK (ne p2)]; exact p2,p3,p4,p5⟩
 ·by_cases z:b=p
  ·subst z
   rw[zAT]at q; cases q
   exact new
  ·rw[zAK z]at q
   exact stay b v z q
theorem Inv.freezeD(I:Inv X pins σ H s)(e:H p=some (.dT kvs)):∃ o,Inv X pins σ (upd H p (.frz o (.dT kvs))) s:=by
 have ok0:=(show ObjOk X.prog X.w H s.heap p (.dT kvs) from I.hok p _ e)
 have ok1:=ok0
 obtain⟨_,_,xs,hk,o,es,ep,ho,_⟩:=ok1
 have tup:∀ {c:Addr} {v:HO},H c=some v->(∀ l,v≠.dT l)->(upd H p (.frz o (.dT kvs))) c=some v:=fun {c v} ec n=>by
  rw[zAK (fun z=>by rw[z,e]at ec; exact n _ (Ab ec).symm)]; exact ec
 have st:∀ b v,H b=some v->ObjOk X.prog X.w (upd H p (.frz o (.dT kvs))) s.heap b v:=fun b v q =>
  (I.hok b v q).stay (fun c w _ ec=>ec) (fun c ec=>tup ec fun l z=>by cases z) (fun c xs ec=>tup ec fun l z=>by cases xs <;> cases z)
 exact⟨o,I.swap e (fun _ _ z=>by cases z) (fun _ _ z=>by cases z) (fun _ z=>by cases z) (fun _ z=>by cases z) (fun _ _ z _ _ _ z'=>by subst z; cases z') ⟨ho,st p _ e⟩ fun b v _ q=>st b v q⟩
theorem Inv.thawD{o:Obj}(I:Inv X pins σ H s)(e:H p=some (.frz o (.dT kvs)))(h0:∀ o' v',X.H₀ p≠some (.frz o' v')):Inv X pins σ (upd H p (.dT kvs)) s:=by
 have tup:∀ {c:Addr} {v:HO},H c=some v->(∀ o l,v≠.frz o (.dT l))->(upd H p (.dT kvs)) c=some v:=fun {c v} ec n=>by
  rw[zAK (fun z=>by rw[z,e]at ec; exact n _ _ (Ab ec).symm)]; exact ec
 have ok0:=(show ObjOk X.prog X.w H s.heap p (.frz o (.dT kvs)) from I.hok p _ e)
 exact I.swap e (fun _ _ z=>by cases z) (fun _ _ _=>h0) (fun _ z=>by cases z) (fun _ z=>by cases z) (fun _ _ z _ _ _ z'=>by subst z; cases z')
  ((show ObjOk X.prog X.w H s.heap p (.dT kvs) from ok0.2).stay (fun c w _ ec=>ec) (fun c ec=>tup ec fun _ l z=>by cases z) (fun c xs ec=>by
   by_cases hc:c=p
   ·subst hc
    rw[e]at ec
    exact absurd (Ab ec) (by cases xs <;> intro z <;> cases z)
   ·rw[zAK hc]; exact ec)) fun b v hb q =>
  (I.hok b v q).stay (fun c w _ ec=>ec) (fun c ec=>tup ec fun _ l z=>by cases z) (fun c xs ec=>by
   by_cases hc:c=p
   ·subst hc
    rw[e]at ec
    exact absurd (Ab ec) (by cases xs <;> intro z <;> cases z)
   ·rw[zAK hc]; exact ec)
end
noncomputable def Itd (p:Addr) (o:Obj) (kvs:List (List Key×V)):It where
 go:=fun i H=>H p=some (.frz o (.dT kvs))/\i < kvs.length
 yld:=fun i H x H'=>H'=H/\∃ b kv,kvs[i]?=some kv/\x=.ref b/\H b=some (.tup (kv.1.map kV))
 stop:=fun i H=>H p=some (.frz o (.dT kvs))/\i=kvs.length
theorem zKc{P:Ah}{w:Aw}{K:AU}{tg:Expr}(p it:Addr)(o:Obj)(kvs:List (List Key×V))(es:Array Da)(ep:Nat)(hne:p≠it)(hd:o.data=.dict es ep):Turn P w K tg (Itd p o kvs) [it] it (fun i h=>h.get? it=some (keyIt p i es.size ep)) where
 mem:=by simp
 obj:=fun i h st b hb=>by
  have e:b=it:=by simpa using hb
  subst e
  exact⟨_,st,fun v z=>by cases z⟩
 keep:=fun i h h' st k=>k it (by simp) _ st
 item:=by
  intro X hP hw hK hc i pins s σ H E I hf st hg
  subst hP hw hK
  obtain⟨e,hi⟩:=hg
  obtain⟨hz,hsm,xs,hk,o',es',ep',e1,e2,e3,e4,_,_⟩:=zB1 I.hok (.inr ⟨o,e⟩)
  have ho:s.heap.get? p=some o:=(show ObjOk X.prog X.w H s.heap p (.frz o (.dT kvs)) from I.hok p _ e).1
  have z:=e1.symm.trans ho; cases z
  have z:=e3.symm.trans hd; cases z
  have hlen:es.size=kvs.length:=by rw[← As,e4,Ak,← zBd hk]
  obtain⟨f0,f1,f2,f3,f4,f5⟩:=hf it (by simp)
  obtain⟨h,g,dr,tk,os⟩:=s
  refine zGH (d:=p) (ep:=ep) (es:=es) st ho hd (by lia) fun h' st' sb=>?_
  have I1:Inv X pins σ H ⟨h',g,dr,tk,os⟩:=I.turned (t':=tk) (fun b o hb e=>(sb.2 b hb).trans e) f0 f1 f3 f4 f5
  obtain⟨kv,hkv⟩:∃ kv,kvs[i]?=some kv:=⟨kvs[i],by simp[hi]⟩
  obtain⟨x,hx,r1,r2,r3⟩:=zF1 hk i kv hkv
  have ek:es[i].key=.ref x.2.1:=by
   have:es.toList[i]?=some (entryOfKey (EN (mixKind X.prog X.w)) x):=by rw[e4,Af,hx]; rfl
   have hi':i < es.size:=by lia
   rw[Bl,An hi']at this
   rw[Ab this]; rfl
  rw[ek]
  exact⟨_,rfl,zEv (s:=⟨h',g,dr,tk,os⟩) st' rfl rfl (by decide) ⟨.ref x.2.1,H,I1,rfl,⟨rfl,x.2.1,kv,hkv,rfl,r2⟩,st',fun b hb=>(hf b hb).1⟩⟩
 done:=by
  intro X hP hw hK hc i pins s σ H E I hf st hg
  subst hP hw hK
  obtain⟨e,hi⟩:=hg
  subst hi
  obtain⟨hz,hsm,xs,hk,o',es',ep',e1,e2,e3,e4,_,_⟩:=zB1 I.hok (.inr ⟨o,e⟩)
  have ho:s.heap.get? p=some o:=(show ObjOk X.prog X.w H s.heap p (.frz o (.dT kvs)) from I.hok p _ e).1
  have z:=e1.symm.trans ho; cases z
  have z:=e3.symm.trans hd; cases z
  have hlen:es.size=kvs.length:=by rw[← As,e4,Ak,← zBd hk]
  obtain⟨f0,f1,f2,f3,f4,f5⟩:=hf it (by simp)
  obtain⟨h,g,dr,tk,os⟩:=s
  rw[← hlen]at st
  exact zHj (d:=p) (ep:=ep) (es:=es) (I.ok.hd hc) st ho hd fun h' eb=>⟨rfl,I.turned (t':=tk) (fun b o hb e=>eb b o hb e) f0 f1 f3 f4 f5⟩
 self:=fun _ _ _ _ _ st h=>IS ⟨_,st,rfl,rfl⟩ h
section
variable {X:Cx}{tg l:Expr}
noncomputable def iDict (i:Nat):TI:=fun σ H R=>∃ p kvs,σ[i]?=some (some (.ref p))/\H p=some (.dT kvs)/\∀ o,R (Itd p o kvs) (upd H p (.frz o (.dT kvs)))
theorem zNu{i:Nat}(hl:PE X l (tVar i)):PI X tg l (iDict i):=by
 intro pins s σ H R I h
 obtain⟨p,kvs,es,ep,q⟩:=h
 refine thn (hl pins s σ H (fun v H'=>v=.ref p/\H'=H) I ⟨.ref p,es,rfl,rfl⟩) fun u s1 ⟨x,H1,I1,rx,e,e'⟩=>?_
 subst e e'
 cases rx
 obtain⟨hz,hsm,xs,hk,o',es',ep',e1,e2,e3,e4,_,_⟩:=zB1 I1.hok (.inl ep)
 refine zE3 hsm ⟨o',e1,e2,e3⟩ ?_
 have I2:Inv X pins σ H1 { s1 with heap:=s1.heap.push (keyIt p 0 es'.size ep') }:=I1.kept (t':=s1.toks) fun b o e=>AM _ e
 obtain⟨o,I3⟩:=I2.freezeD ep
 have ho:(s1.heap.push (keyIt p 0 es'.size ep')).get? p=some o:=(show ObjOk X.prog X.w _ _ p (.frz o (.dT kvs)) from I3.hok p _ zAT).1
 have z:=(AM (keyIt p 0 es'.size ep') e1).symm.trans ho; cases z
 have hne:p≠s1.heap.objs.size:=BA (AY e1)
 exact⟨_,_,_,_,_,rfl,I3,zKc p s1.heap.objs.size o' kvs es' ep' hne e3,AZ _ rfl,fun b hb=>by
  rw[AI.mp hb]
  exact I1.fpOk (AL _) (by rw[zAK (BC hne)]; exact I1.hok.fresh (AL _)),q o'⟩
end
noncomputable def posV:V->Bool
 | .int n=>decide (0 < n)
 | _=>false
noncomputable def tPos (i:Nat):TE:=fun σ H Q=>∃ p kvs,σ[i]?=some (some (.ref p))/\H p=some (.dT kvs)/\kvs.length<=AE/\(kvs.map (·.1)).Nodup/\(∀ kv∈kvs,∃ n,kv.2=V.int n) /\
 ∀ l H2 us,(∀ b o,H b=some o->H2 b=some o)->H l=none->H2 l=some (.lst us)->PairsAt H2 us (kvs.filter fun kv=>posV kv.2)->Q (.ref l) H2
theorem zEt{α β:Type}{F:α->β->Prop}:∀ {a c:List α} {b d:List β},Cd F a b->Cd F c d->Cd F (a++c) (b++d)
 | _,_,_,_,.nil,h=>h
 | _,_,_,_,.cons x t,h=>.cons x (zEt t h)
theorem zNE{kvs:List (List Key×V)}(hn:(kvs.map (·.1)).Nodup):∀ {i:Nat} {kv:List Key×V},kvs[i]?=some kv->valV kvs kv.1=some kv.2:=by
 induction kvs with
 | nil=>intro i kv e; simp at e
 | cons x r ih =>
  intro i kv e
  rw[AJ,BI]at hn
  cases i with
  | zero=>simp at e; subst e; simp[valV]
  | succ i =>
   have e':r[i]?=some kv:=by simpa using e
   have hm:kv∈r:=Br e'
   have hne:¬ x.1=kv.1:=fun z=>hn.1 (by rw[z]; exact List.mem_map_of_mem hm)
   have:=ih hn.2 e'
   simpa [valV,hne] using this
noncomputable abbrev posC (d k:Str) (c j:Nat) (scope:Cg) (a1 a2 a3 a4 a5 b1 b2 b3 b4 b5 i1 t1 pos:Pos):Expr:=.ListComp (.Tuple [.Name k a1,.Subscript (.Name d a2) (.Name k a3) a4] c a5) [⟨.Name k t1,.Name d i1,[.Compare (.Subscript (.Name d b1) (.Name k b2) b3) [.Gt] [.Constant (.int 0) j b4] b5],0⟩] scope pos
noncomputable abbrev dkE (d k:Str) (a b c:Pos):Expr:=.Subscript (.Name d a) (.Name k b) c
theorem zMb{p:Addr}{o:Obj}{kvs:List (List Key×V)}{ix:List (Option Nat)}{jd jk:Nat}{σ:St}{H:Hp}{Q:VK}(hjk:jd≠jk)(hjl:jk < ix.length)(hl:kvs.length<=AE)(hn:(kvs.map (·.1)).Nodup)(hI:∀ kv∈kvs,∃ n,kv.2=V.int n)
  (hjd:(frm ix σ)[jd]?=some (some (.ref p))) (e:H p=some (.dT kvs))
  (q:∀ l H2 us,(∀ b o,H b=some o->H2 b=some o)->H l=none->H2 l=some (.lst us)->PairsAt H2 us (kvs.filter fun kv=>posV kv.2)->Q (.ref l) H2) :
  CompW (Itd p o kvs) ix (gName jk) (tB (tGt (tDGet (tVar jd) (tVar jk)) (tC (.int 0)))) (tTup (tCons (tVar jk) (tCons (tDGet (tVar jd) (tVar jk)) tNil))) σ (upd H p (.frz o (.dT kvs))) fun v H'=>H' p=some (.frz o (.dT kvs))/\Q v (upd H' p (.dT kvs)):=by
 refine⟨fun i m ys σ' H'=>m=kvs.length - i/\i<=kvs.length/\ys.length<=i/\σ'.length=ix.length/\σ'[jd]?=some (some (.ref p))/\(∀ b u,(upd H p (.frz o (.dT kvs))) b=some u->H' b=some u)/\PairsAt H' ys ((kvs.take i).filter fun kv=>posV kv.2),
  ⟨_,rfl,A9 _,AL _,by simp[frm],hjd,fun _ _ z=>z,.nil⟩,?_⟩
 rintro i m ys σ' H' ⟨rfl,hi,hy,hsl,hs,hs',hp⟩
 have hf:H' p=some (.frz o (.dT kvs)):=hs' _ _ zAT
 by_cases hlt:i < kvs.length
 ·refine .inr ⟨⟨hf,hlt⟩,Ad (E4 hy hlt) hl,fun ys' σ2 H2=>ys'.length<=i+1/\σ2.length=ix.length/\σ2[jd]?=some (some (.ref p))/\(∀ b u,(upd H p (.frz o (.dT kvs))) b=some u->H2 b=some u)/\PairsAt H2 ys' ((kvs.take (i+1)).filter fun kv=>posV kv.2),fun ys' σ2 H2 ⟨a,b⟩=>⟨_,by lia,rfl,hlt,a,b⟩,fun x H2 hx=>?_⟩
  obtain⟨rfl,b,kv,hkv,rfl,hb⟩:=hx
  have s1:(σ'.set jk (some (V.ref b)))[jd]?=some (some (.ref p)):=by rw[AW (BC hjk)]; exact hs
  have s2:(σ'.set jk (some (V.ref b)))[jk]?=some (some (.ref b)):=by rw[Am (by lia)]
  have hv:valV kvs kv.1=some kv.2:=zNE hn hkv
  have hg:DGet H2 p (.ref b) (some kv.2):=.inr ⟨kvs,kv.1,b,.inr ⟨o,hf⟩,rfl,hb,hv.symm⟩
  have ht:kvs.take (i+1)=kvs.take i++[kv]:=by
   obtain⟨h1,h2⟩:=Aa.mp hkv
   rw[GB,hkv]; rfl
  obtain⟨n,hn'⟩:=hI kv (Br hkv)
  have hl2:(σ'.set jk (some (V.ref b))).length=ix.length:=by simpa using hsl
  refine⟨.ref p,s1,.ref b,s2,p,kv.2,rfl,hg,?_⟩
  rw[hn']
  refine⟨n,0,rfl,rfl,_,rfl,?_⟩
  dsimp only
  by_cases hpos:0 < n
  ·rw[if_pos (by simpa using hpos)]
   refine⟨.ref b,s2,.ref p,s1,.ref b,s2,p,kv.2,rfl,hg,by simp only[Be,DW]; decide,fun a ha=>?_⟩
   have up:∀ c u,H2 c=some u->(upd H2 a (.tup [.ref b,kv.2])) c=some u:=fun c u z=>by rw[zAK (fun y=>by rw[y,ha]at z; cases z)]; exact z
   refine⟨by simp; lia,hl2,s1,fun c u z=>up c u (hs' c u z),?_⟩
   rw[ht,Cw]
   have ef:([kv].filter fun kv=>posV kv.2)=[kv]:=by simp[posV,hn',hpos]
   rw[ef]
   refine zEt (Paired.mapP hp fun u kv ⟨a',b',e1,e2,e3⟩=>⟨a',b',e1,up _ _ e2,up _ _ e3⟩) (.cons ⟨a,b,rfl,zAT,up _ _ hb⟩ .nil)
  ·rw[if_neg (by simpa using hpos)]
   refine⟨by lia,hl2,s1,hs',?_⟩
   rw[ht,Cw]
   have ef:([kv].filter fun kv=>posV kv.2)=[]:=by simp[posV,hn',hpos]
   rw[ef,CJ]
   exact hp
 ·have hie:i=kvs.length:=by lia
  subst hie
  rw[List.take_length]at hp
  refine .inl ⟨⟨hf,rfl⟩,Al hy hl,fun D hD=>?_⟩
  have nD:D≠p:=fun z=>by rw[z,hf]at hD; cases hD
  have up:∀ c u,H' c=some u->c≠p->(upd (upd H' D (.lst ys)) p (.dT kvs)) c=some u:=fun c u z n=>by
   rw[zAK n,zAK (fun y=>by rw[y,hD]at z; cases z)]; exact z
  refine⟨by rw[zAK (BC nD)]; exact hf,q D _ ys (fun c u z=>?_) ?_ (by rw[zAK nD,zAT]) (Paired.mapP hp fun u kv ⟨a',b',e1,e2,e3⟩=>⟨a',b',e1,up _ _ e2 (fun y=>by rw[y,hf]at e2; cases e2),up _ _ e3 (fun y=>by rw[y,hf]at e3; cases e3)⟩)⟩
  ·by_cases hc:c=p
   ·subst hc; rw[e]at z; cases z; exact zAT
   ·exact up c u (hs' c u (by rw[zAK hc]; exact z)) hc
  ·cases z:H D with
   | none=>rfl
   | some u =>
    have:=hs' D u (by rw[zAK nD]; exact z)
    rw[hD]at this; cases this
theorem CompW.mono{J:It}{ix:List (Option Nat)}{g:TG}{tc:TT}{te:TE}{σ:St}{H1:Hp}{Q Q':VK}(h:CompW J ix g tc te σ H1 Q)(k:∀ v H,Q v H->Q' v H):CompW J ix g tc te σ H1 Q':=by
 obtain⟨W,w0,st⟩:=h
 exact⟨W,w0,fun i m ys σ' H' z=>(st i m ys σ' H' z).imp (fun ⟨a,b,c⟩=>⟨a,b,fun D hD=>k _ _ (c D hD)⟩) id⟩
end L2
namespace D
open PySem L2
noncomputable def intT:T->Bool
 | .a (.int _)=>true
 | _=>false
noncomputable def posT:T->Bool
 | .a (.int n)=>decide (0 < n)
 | _=>false
noncomputable def dPos (i:Nat):DE:=fun Γ=>match Γ[i]? with
 | some (some (.d (.inr kvs)))=>if kvs.length<=100000/\(kvs.map (·.1)).Nodup/\(kvs.all fun kv=>intT kv.2)=true then some (.l (itemsT (kvs.filter fun kv=>posT kv.2)),Γ) else none
 | _=>none
theorem zL8{K:Fg}{H:Hp}{l:List (List Key×V)}{kvs:List (List Key×T)}(h:Cd (fun (a:List Key×V) (b:List Key×T)=>a.1=b.1/\Im K H a.2 b.2) l kvs)(hi:(kvs.all fun kv=>intT kv.2)=true) :
  l.map (·.1)=kvs.map (·.1)/\(∀ kv∈l,∃ n,kv.2=V.int n)/\Cd (fun (a:List Key×V) (b:List Key×T)=>a.1=b.1/\Im K H a.2 b.2) (l.filter fun kv=>posV kv.2) (kvs.filter fun kv=>posT kv.2):=by
 induction h with
 | nil=>exact⟨rfl,(fun _ z=>nomatch z),.nil⟩
 | @cons a b l kvs h t ih =>
  rw[DQ,Ax]at hi
  obtain⟨i1,i2,i3⟩:=ih hi.2
  obtain⟨bk,bt⟩:=b
  cases bt with
  | a v =>
   cases v with
   | int n =>
    have ea:a.2=.int n:=h.2.inva
    refine⟨by rw[AJ,AJ,i1,h.1],fun kv hk=>?_,?_⟩
    ·rcases AS.mp hk with z | z
     ·exact⟨n,by rw[z]; exact ea⟩
     ·exact i2 kv z
    ·by_cases hp:0 < n
     ·rw[C2 (by simpa [posV,ea] using hp),C2 (by simpa [posT] using hp)]
      exact .cons h i3
     ·rw[C3 (by simpa [posV,ea] using hp),C3 (by simpa [posT] using hp)]
      exact i3
   | _=>cases hi.1
  | _=>cases hi.1
theorem zOd{K:Fg}{i:Nat}:SimE K (tPos i) (dPos i):=by
 intro C w Γ σ H s Γ' Q R e k
 unfold dPos at e
 split at e
 ·rename_i kvs hi
  split at e
  ·rename_i hc
   cases e
   obtain⟨v,e1,p,ob,rfl,hp,h1,hd⟩:=R.val i _ hi
   obtain⟨l,rfl,h2⟩:=hd.invT
   obtain⟨p1,p2,p3⟩:=zL8 h2 hc.2.2
   have hlen:l.length=kvs.length:=zBd h2
   refine⟨p,l,e1,h1,by rw[hlen]; exact Al hc.1 (by decide),by rw[p1]; exact hc.2.1,p2,fun l' H2 us sub hl hl2 hpr=>?_⟩
   obtain⟨f1,f2,f3⟩:=R.fresh hl
   have ev2:Evo w.L H H2:=fun b o h _=>sub b o h
   exact k _ H2 (R.evo0 sub) ev2 ⟨l',us,rfl,f1,f2,f3,hl2,zGA hpr (Paired.mapP p3 fun _ _ z=>⟨z.1,z.2.evo ev2 R.lst⟩)⟩ ⟨l',rfl,hl⟩
  ·cases e
 ·cases e
section
variable {ι:Type}{K:Fg}{mg:Str->Option AB}{kk:Nat}{X:ι->Cx}{ip:Option Nat}{N':List Str}{ix:List (Option Nat)}{sc:Cg}{d k x:Str}{c jj:Nat}{a1 a2 a3 a4 a5 b1 b2 b3 b4 b5 i1 t1 pos pos' spos:Pos}{Γ:En}
@[simp] theorem zOR{i:Nat}{kvs:List (List Key×T)}(h:Γ[i]?=some (some (.d (.inr kvs))))(h1:kvs.length<=100000)(h2:(kvs.map (·.1)).Nodup)(h3:(kvs.all fun kv=>intT kv.2)=true):dPos i Γ=some (.l (itemsT (kvs.filter fun kv=>posT kv.2)),Γ):=by
 unfold dPos; rw[h]; exact if_pos ⟨h1,h2,h3⟩
end
end D
namespace L2
open PySem PyProof.Rows
section
variable {X:Cx}{N':List Str}{ix:List (Option Nat)}{scope:Cg}{d k:Str}{c jj:Nat}{a1 a2 a3 a4 a5 b1 b2 b3 b4 b5 i1 t1 pos:Pos}{i0 jd jk:Nat}
theorem zQF(S:CompOk X N' ix scope)(hc:X.calm=true)(hu:X.A.units+1 < DV)
  (hd0:PE X (.Name d i1) (tVar i0)) (hg:∀ C cs s H ex,PG (cxC X N' scope C cs s H ex) (.Name k t1) (gName jk))
  (hdj:∀ q C cs s H ex,PE (cxC X N' scope C cs s H ex) (.Name d q) (tVar jd)) (hkj:∀ q C cs s H ex,PE (cxC X N' scope C cs s H ex) (.Name k q) (tVar jk))
  (hjk:jd≠jk) (hjl:jk < ix.length) (hix:ix[jd]?=some (some i0))
  (hs1:∀ C cs s H ex,Ae [.Name k a1,dkE d k a2 a3 a4] (cxC X N' scope C cs s H ex).env=(false,eval (.Name k a1) (cxC X N' scope C cs s H ex).env)::Ae [dkE d k a2 a3 a4] (cxC X N' scope C cs s H ex).env)
  (hs2:∀ C cs s H ex,Ae [dkE d k a2 a3 a4] (cxC X N' scope C cs s H ex).env=(false,eval (dkE d k a2 a3 a4) (cxC X N' scope C cs s H ex).env)::Ae [] (cxC X N' scope C cs s H ex).env)
  (hs:∀ x,Bx (.Name d i1) X.env x=pure x):PE X (posC d k c jj scope a1 a2 a3 a4 a5 b1 b2 b3 b4 b5 i1 t1 pos) (tPos i0):=by
 intro pins s σ H Q I h
 obtain⟨p,kvs,e0,e,hl,hn,hI,q⟩:=h
 have h0:∀ o' v',X.H₀ p≠some (.frz o' v'):=fun o' v' z=>by have:=I.base.frzs p o' v' z; rw[e]at this; cases this
 have hjd:(frm ix σ)[jd]?=some (some (.ref p)):=by
  unfold frm
  rw[Af,hix]
  show some ((σ[i0]?).join)=_
  rw[e0]; rfl
 refine thn (zIc (wi:=iDict i0) (ix:=ix) (g:=gName jk) (tc:=tB (tGt (tDGet (tVar jd) (tVar jk)) (tC (.int 0)))) (te:=tTup (tCons (tVar jk) (tCons (tDGet (tVar jd) (tVar jk)) tNil))) S hc (zNu hd0) hg
  (fun C cs s H ex=>zIV (zPr (zQm (zFO hu (hdj _ C cs s H ex) (hkj _ C cs s H ex) (fun _ _=>rfl)) zLr)))
  (fun C cs s H ex=>zK5 (zCa (hkj _ C cs s H ex) (zCa (zFO hu (hdj _ C cs s H ex) (hkj _ C cs s H ex) (fun _ _=>rfl)) zEO (hs2 C cs s H ex)) (hs1 C cs s H ex))) hs pins s σ H
  (fun v H'=>∃ o,H' p=some (.frz o (.dT kvs))/\Q v (upd H' p (.dT kvs))) I ⟨p,kvs,e0,e,fun o=>?_⟩) fun u s1 z=>?_
 ·exact (zMb hjk hjl hl hn hI hjd e q).mono fun v H' ⟨z1,z2⟩=>⟨o,z1,z2⟩
 ·obtain⟨v,H',I',r,o,e',q'⟩:=z
  exact⟨v,_,I'.thawD e' h0,r,q'⟩
end
end L2
namespace D
open PySem L2
section
variable {ι:Type}{K:Fg}{mg:Str->Option AB}{kk:Nat}{X:ι->Cx}{N':List Str}{ix:List (Option Nat)}{sc:Cg}{d k:Str}{c jj:Nat}{a1 a2 a3 a4 a5 b1 b2 b3 b4 b5 i1 t1 pos:Pos}{Γ:En}
theorem zPu(i0 jd jk:Nat)(M:Fm K mg kk X)(S:∀ j,CompOk (X j) N' ix sc)
  (h0:∀ j,(X j).N[i0]?=some d:=by intro _; rfl) (v0:∀ j,Vis (X j).env.scope d:=by intro _; first | exact Df rfl | exact Ck (Df rfl) | exact Ck (Ck rfl))
  (h1:∀ j,(cxF X N' sc j).N[jd]?=some d:=by intro _; rfl) (v1:∀ j,Vis (cxF X N' sc j).env.scope d:=by intro _; first | exact Df rfl | exact Ck (Df rfl) | exact Ck (Ck rfl))
  (h2:∀ j,(cxF X N' sc j).N[jk]?=some k:=by intro _; rfl) (v2:∀ j,Vis (cxF X N' sc j).env.scope k:=by intro _; first | exact Df rfl | exact Ck (Df rfl) | exact Ck (Ck rfl))
  (hN2:N'.Nodup:=by decide +kernel) (l2:∀ j,Loc (cxF X N' sc j).env.scope k:=by intro _; first | exact Df rfl | exact Ck rfl)
  (f2:∀ j,(cxF X N' sc j).fn k=true\/(cxF X N' sc j).env.scope.names.lookup k=some .local:=by intro _; first | exact .inl rfl | exact .inr rfl)
  (hd:(d == ("__debug__":Str))=false:=by decide) (hd':(d == ("__classdict__":Str))=false:=by decide) (hk:(k == ("__debug__":Str))=false:=by decide) (hk':(k == ("__classdict__":Str))=false:=by decide)
  (hjk:jd≠jk:=by decide) (hjl:jk < ix.length:=by decide) (hix:ix[jd]?=some (some i0):=by rfl)
  (hs1:∀ j,Ae [.Name k a1,dkE d k a2 a3 a4] (cxF X N' sc j).env=(false,eval (.Name k a1) (cxF X N' sc j).env)::Ae [dkE d k a2 a3 a4] (cxF X N' sc j).env:=by intro _; rfl)
  (hs2:∀ j,Ae [dkE d k a2 a3 a4] (cxF X N' sc j).env=(false,eval (dkE d k a2 a3 a4) (cxF X N' sc j).env)::Ae [] (cxF X N' sc j).env:=by intro _; rfl)
  (hs:∀ j x,Bx (.Name d i1) (X j).env x=pure x:=by intro _ _; rfl) :
  EX K X (posC d k c jj sc a1 a2 a3 a4 a5 b1 b2 b3 b4 b5 i1 t1 pos) (dPos i0) :=
 ⟨_,fun j=>zQF (S j) (M.calm j) (by have:=(M.room j).un; lia) (zDI (h0 j) (v0 j) hd hd') (fun C cs s H ex=>zFI hN2 (h2 (j,C,cs,s,H,ex)) (l2 (j,C,cs,s,H,ex)) (f2 (j,C,cs,s,H,ex)))
  (fun q C cs s H ex=>zDI (h1 (j,C,cs,s,H,ex)) (v1 (j,C,cs,s,H,ex)) hd hd') (fun q C cs s H ex=>zDI (h2 (j,C,cs,s,H,ex)) (v2 (j,C,cs,s,H,ex)) hk hk') hjk hjl hix (fun C cs s H ex=>hs1 (j,C,cs,s,H,ex)) (fun C cs s H ex=>hs2 (j,C,cs,s,H,ex)) (hs j),zOd⟩
end
end D
namespace L2
open PySem PySem.W PyProof.Rows
noncomputable def gallopP:Bool->B6->Array B6->Nat->Nat->Nat->StateT Ao Sem (Option Nat):=sortPriv% PySem.Builtin.gallop
section
variable {prog:Ah}{w:Aw}{A:A4}{E:AB->AG->Prop}{s0:AG}{κ:CC}{it:Array B6}{lt:Nat->Nat->Bool}{α β:Type}{st:Ao}
noncomputable def wq (prog:Ah) (w:Aw) (A:A4) (E:AB->AG->Prop) (s0:AG) {α:Type} (m:StateT Ao Sem α) (Q:α->Ao->Prop) (st:Ao):Prop :=
 ∀ tk,kasC (model prog w) A E m (fun a st' s'=>(∃ tk',s'={ s0 with toks:=tk' })/\Q a st') st { s0 with toks:=tk }
theorem zAD{a:α}{Q:α->Ao->Prop}(h:Q a st):wq prog w A E s0 (pure a) Q st:=fun tk=>kasC_pure ⟨⟨tk,rfl⟩,h⟩
theorem zAA{m:StateT Ao Sem α}{f:α->StateT Ao Sem β}{Q:β->Ao->Prop}(h:wq prog w A E s0 m (fun a st'=>wq prog w A E s0 (f a) Q st') st):wq prog w A E s0 (m >>= f) Q st:=fun tk=>by
 refine kasC_bind (BE (h tk) (fun r s' h'=>?_) fun _ _ e=>e)
 obtain⟨⟨tk',rfl⟩,hq⟩:=h'
 exact hq tk'
theorem zAa{m:StateT Ao Sem α}{Q Q':α->Ao->Prop}(h:wq prog w A E s0 m Q st)(hq:∀ a st',Q a st'->Q' a st'):wq prog w A E s0 m Q' st:=fun tk=>by
 refine BE (h tk) (fun r s' h'=>⟨h'.1,hq _ _ h'.2⟩) fun _ _ e=>e
theorem zBG{Q:Ao->Ao->Prop}(h:Q st st):wq prog w A E s0 (get:StateT Ao Sem Ao) Q st:=fun tk=>kasC_get ⟨⟨tk,rfl⟩,h⟩
theorem zAl{f:Ao->Ao}{Q:PUnit->Ao->Prop}(h:Q ⟨⟩ (f st)):wq prog w A E s0 (modify f:StateT Ao Sem PUnit) Q st:=fun tk=>kasC_modify ⟨⟨tk,rfl⟩,h⟩
theorem zCC{x:String}{Q:Unit->Ao->Prop}(h:Q () st):wq prog w A E s0 (liftM (rule x:Sem Unit):StateT Ao Sem Unit) Q st:=fun tk=>kasC_lift (Gr ⟨⟨tk,rfl⟩,h⟩)
theorem zJF{f:Nat->β->StateT Ao Sem (ForInStep β)}(I:List Nat->β->Ao->Prop)(Q:β->Ao->Prop)
  (hs:∀ x rest b st,I (x::rest) b st->wq prog w A E s0 (f x b) (fun r st'=>match r with | .done b'=>Q b' st' | .yield b'=>I rest b' st') st)
  (he:∀ b st,I [] b st->Q b st):∀ (l:List Nat) (b:β) (st:Ao),I l b st->wq prog w A E s0 (forIn l b f) Q st
 | [],b,st,h=>fun tk=>kasC_nil ⟨⟨tk,rfl⟩,he _ _ h⟩
 | x::rest,b,st,h=>fun tk=>by
  refine kasC_cons (BE (hs x rest b st h tk) (fun r s' h'=>?_) fun _ _ e=>e)
  obtain⟨⟨tk',rfl⟩,hq⟩:=h'
  obtain⟨r,st'⟩:=r
  cases r with
  | done b'=>exact⟨⟨tk',rfl⟩,hq⟩
  | yield b'=>exact zJF I Q hs he rest b' st' hq tk'
theorem zAW{a b:Nat}{f:Nat->β->StateT Ao Sem (ForInStep β)}(I:Nat->β->Ao->Prop){Q:β->Ao->Prop}
  (hs:∀ i c st,a<=i->i < b->I i c st->wq prog w A E s0 (f i c) (fun r st'=>match r with | .done c'=>Q c' st' | .yield c'=>I (i+1) c' st') st)
  (he:∀ c st,I (max a b) c st->Q c st) {c:β} (h:I a c st):wq prog w A E s0 (forIn [a:b] c f) Q st:=fun tk=>by
 refine kasC_range (zJF (fun l c st=>∃ i,a<=i/\i<=max a b/\l=G6 i (max a b - i) 1/\I i c st) Q ?_ ?_ _ c st ⟨a,AL _,by lia,by congr 1; lia,h⟩ tk)
 ·rintro x rest c st ⟨i,hai,hib,hl,hI⟩
  have hlt:i < max a b:=by
   rcases B8 i (max a b) with h' | h'
   ·exact h'
   ·rw[show max a b - i=0 by lia]at hl; simp at hl
  obtain⟨n,hn⟩:∃ n,max a b - i=n+1:=⟨max a b - i - 1,by lia⟩
  rw[hn,FQ]at hl
  obtain⟨rfl,rfl⟩:=Hd hl
  refine zAa (hs x c st hai (by lia) hI) fun r st' h'=>?_
  cases r with
  | done c'=>exact h'
  | yield c'=>exact⟨x+1,by lia,by lia,by congr 1; lia,h'⟩
 ·rintro c st ⟨i,hai,hib,hl,hI⟩
  have:max a b - i=0:=by
   have:=congrArg DR hl
   simp at this
   lia
  have e:i=max a b:=by lia
  exact he c st (e ▸ hI)
noncomputable def Ans (prog:Ah) (w:Aw) (A:A4) (s0:AG) (κ:CC) (it:Array B6) (lt:Nat->Nat->Bool):Prop :=
 ∀ i j,i < it.size->j < it.size->∀ (C:Bool->AG->Prop) tk,(∀ tk',C (lt i j) { s0 with toks:=tk' })->kas_cmp prog w A κ it i j C { s0 with toks:=tk }
theorem zEk{i j:Nat}{Q:Option Bool->Ao->Prop}(hA:Ans prog w A s0 κ it lt)(hi:i < it.size)(hj:j < it.size)(hk:Cy st=κ)(h:Q (some (lt i j)) st):wq prog w A E s0 (lt' (kas_item it i) (kas_item it j)) Q st:=fun tk=>by
 rw[lt'_eq]
 refine kasC_bind (kasC_get ?_)
 subst hk
 refine kasC_bind (kasC_lift (Dg (BE (hA i j hi hj (fun c s'=>c=lt i j/\∃ tk',s'={ s0 with toks:=tk' }) tk fun tk'=>⟨rfl,tk',rfl⟩) (fun c s' hc=>?_) fun _ _ hF=>hF.elim)))
 obtain⟨rfl,tk',rfl⟩:=hc
 exact kasC_pure ⟨⟨tk',rfl⟩,h⟩
theorem zAR{p:Array Nat}{i:Nat}{Q:B6->Ao->Prop}(hi:i < p.size)(h:Q (kas_item it (p.getD i 0)) st):wq prog w A E s0 (elem' (p.map (kas_item it)) i) Q st:=by
 rw[elem'_eq]
 have e:p.getD i 0=p[i]:=by simp[HN,hi]
 have e2:(p.map (kas_item it))[i]?=some (kas_item it (p.getD i 0)):=by rw[e]; simp[hi]
 rw[e2]
 exact zAD h
end
section
variable {prog:Ah}{w:Aw}{A:A4}{E:AB->AG->Prop}{s0:AG}{κ:CC}{it:Array B6}{lt:Nat->Nat->Bool}{st:Ao}
noncomputable def past (lt:Nat->Nat->Bool) (left:Bool) (key x:Nat):Bool:=if left=true then lt x key else !lt key x
theorem zNt{left:Bool}{key base i:Nat}{p:Array Nat}{Q:Option Bool->Ao->Prop}(hA:Ans prog w A s0 κ it lt)(hk:Cy st=κ)(hkey:key < it.size)(hp:∀ i,i < p.size->p.getD i 0 < it.size)(hi:base+i < p.size)
  (h:Q (some (past lt left key (p.getD (base+i) 0))) st) :
  wq prog w A E s0 ((elem' (p.map (kas_item it)) (base+i)) >>= fun x=>if left=true then lt' x (kas_item it key) else (lt' (kas_item it key) x) >>= fun r=>pure (JS (fun b=>!b) r)) Q st:=by
 refine zAA (zAR hi ?_)
 unfold past at h
 cases left with
 | true =>
  simp only[if_true]at h ⊢
  exact zEk hA (hp _ hi) hkey hk h
 | false =>
  simp only[Ar,if_false]at h ⊢
  exact zAA (zEk hA hkey (hp _ hi) hk (zAD h))
theorem zBT{left:Bool}{key base n hint:Nat}{p:Array Nat}{Q:Option Nat->Ao->Prop}(hA:Ans prog w A s0 κ it lt)(hk:Cy st=κ)(hkey:key < it.size)(hp:∀ i,i < p.size->p.getD i 0 < it.size)(hb:base+n<=p.size)(hh:hint < n)
  (t:Nat->Bool) (ht:∀ i,i < n->past lt left key (p.getD (base+i) 0)=t i) (mono:∀ i j,i<=j->j < n->t j=true->t i=true)
  (h:∀ k,k<=n->(∀ i,i < k->t i=true)->(∀ i,k<=i->i < n->t i=false)->Q (some k) st) :
  wq prog w A E s0 (gallopP left (kas_item it key) (p.map (kas_item it)) base n hint) Q st:=by
 have ask:∀ (i:Nat) (Q:Option Bool->Ao->Prop),i < n->Q (some (t i)) st->wq prog w A E s0 ((elem' (p.map (kas_item it)) (base+i)) >>= fun x=>if left=true then lt' x (kas_item it key) else (lt' (kas_item it key) x) >>= fun r=>pure (JS (fun b=>!b) r)) Q st:=fun i Q hi hq=>zNt hA hk hkey hp (by omega) (by rw[ht i hi]; exact hq)
 have up:∀ m,m < n->t m=true->∀ i,i < m+1->t i=true:=fun m hm h1 i hi=>mono i m (by omega) hm h1
 have dn:∀ m,t m=false->∀ i,m<=i->i < n->t i=false:=fun m h1 i hi hn=>by
  cases h2:t i with
  | false=>rfl
  | true=>rw[mono m i hi hn h2]at h1; cases h1
 unfold gallopP
 refine zAA (ask hint _ hh ?_)
 dsimp only
 cases hr:t hint with
 | true =>
  simp only[if_true]
  refine zAA (zAa (zAW (I:=fun x c st'=>st=st'/\∃ l o:Nat,c=(none,l,o)/\l < o/\x+1<=o/\hint+l < n/\t (hint+l)=true)
   (Q:=fun c st'=>st=st'/\∃ l o:Nat,c=(none,l,o)/\l < o/\hint+l < n/\t (hint+l)=true/\(n - hint<=o\/t (hint+o)=false)) ?_ ?_ ⟨rfl,0,1,rfl,by omega,by omega,by omega,hr⟩) ?_)
  ·rintro x c st' _ hx ⟨rfl,l,o,rfl,h1,h2,h3,h4⟩
   dsimp only
   by_cases ho:o ≥ n - hint
   ·rw[if_pos ho]
    exact zAD ⟨rfl,l,o,rfl,h1,h3,h4,.inl ho⟩
   ·rw[if_neg ho]
    refine zAA (ask (hint+o) _ (by omega) ?_)
    dsimp only
    cases h5:t (hint+o) with
    | true =>
     simp only[Ew,Ar,if_false]
     exact zAD ⟨rfl,o,2 * o+1,rfl,by omega,by omega,by omega,h5⟩
    | false =>
     simp only[Ea,if_true]
     exact zAD ⟨rfl,l,o,rfl,h1,h3,h4,.inr h5⟩
  ·rintro c st' ⟨rfl,l,o,rfl,h1,h2,h3,h4⟩
   exact⟨rfl,l,o,rfl,h1,h3,h4,.inl (by omega)⟩
  ·rintro c st' ⟨rfl,l,o,rfl,h1,h3,h4,h5⟩
   dsimp only
   refine zAA (zAa (zAW (I:=fun x c st'=>st=st'/\∃ lo hi:Nat,c=(none,lo,hi)/\lo<=hi/\hi<=n/\hi - lo<=n - x/\(∀ i,i < lo->t i=true)/\(∀ i,hi<=i->i < n->t i=false))
    (Q:=fun c st'=>st=st'/\∃ hi:Nat,c=(none,hi,hi)/\hi<=n/\(∀ i,i < hi->t i=true)/\(∀ i,hi<=i->i < n->t i=false)) ?_ ?_ ⟨rfl,hint+l+1,hint+min o (n - hint),rfl,by omega,by omega,by omega,up _ h3 h4,(fun i hi hn=>by
    rcases h5 with h5 | h5
    ·omega
    ·exact dn _ h5 i (by omega) hn)⟩) ?_)
   ·rintro x c st' _ hx ⟨rfl,lo,hi,rfl,h1,h2,h3,h4,h5⟩
    dsimp only
    by_cases ho:lo ≥ hi
    ·rw[if_pos ho]
     obtain rfl:lo=hi:=by omega
     exact zAD ⟨rfl,lo,rfl,h2,h4,h5⟩
    ·rw[if_neg ho]
     refine zAA (ask (lo+(hi - lo) / 2) _ (by omega) ?_)
     dsimp only
     cases hm:t (lo+(hi - lo) / 2) with
     | true =>
      simp only[if_true]
      exact zAD ⟨rfl,_,hi,rfl,by omega,h2,by omega,up _ (by omega) hm,h5⟩
     | false =>
      simp only[Ar,if_false]
      exact zAD ⟨rfl,lo,_,rfl,by omega,by omega,by omega,h4,dn _ hm⟩
   ·rintro c st' ⟨rfl,lo,hi,rfl,h1,h2,h3,h4,h5⟩
    obtain rfl:lo=hi:=by omega
    exact⟨rfl,lo,rfl,h2,h4,h5⟩
   ·rintro c st' ⟨rfl,hi,rfl,h2,h4,h5⟩
    exact zAD (h hi h2 h4 h5)
 | false =>
  simp only[Ar,if_false]
  refine zAA (zAa (zAW (I:=fun x c st'=>st=st'/\∃ l o:Nat,c=(none,l,o)/\l < o/\x+1<=o/\l<=hint/\t (hint - l)=false)
   (Q:=fun c st'=>st=st'/\∃ l o:Nat,c=(none,l,o)/\l < o/\l<=hint/\t (hint - l)=false/\(hint+1<=o\/(o<=hint/\t (hint - o)=true))) ?_ ?_ ⟨rfl,0,1,rfl,by omega,by omega,by omega,hr⟩) ?_)
  ·rintro x c st' _ hx ⟨rfl,l,o,rfl,h1,h2,h3,h4⟩
   dsimp only
   by_cases ho:o ≥ hint+1
   ·rw[if_pos ho]
    exact zAD ⟨rfl,l,o,rfl,h1,h3,h4,.inl ho⟩
   ·rw[if_neg ho]
    refine zAA (ask (hint - o) _ (by omega) ?_)
    dsimp only
    cases h5:t (hint - o) with
    | true =>
     simp only[if_true]
     exact zAD ⟨rfl,l,o,rfl,h1,h3,h4,.inr ⟨by omega,h5⟩⟩
    | false =>
     simp only[Ar,if_false]
     exact zAD ⟨rfl,o,2 * o+1,rfl,by omega,by omega,by omega,h5⟩
  ·rintro c st' ⟨rfl,l,o,rfl,h1,h2,h3,h4⟩
   exact⟨rfl,l,o,rfl,h1,h3,h4,.inl (by omega)⟩
  ·rintro c st' ⟨rfl,l,o,rfl,h1,h3,h4,h5⟩
   dsimp only
   refine zAA (zAa (zAW (I:=fun x c st'=>st=st'/\∃ lo hi:Nat,c=(none,lo,hi)/\lo<=hi/\hi<=n/\hi - lo<=n - x/\(∀ i,i < lo->t i=true)/\(∀ i,hi<=i->i < n->t i=false))
    (Q:=fun c st'=>st=st'/\∃ hi:Nat,c=(none,hi,hi)/\hi<=n/\(∀ i,i < hi->t i=true)/\(∀ i,hi<=i->i < n->t i=false)) ?_ ?_ ⟨rfl,hint+1 - min o (hint+1),hint - l,rfl,by omega,by omega,by omega,(fun i hi=>by
    rcases h5 with h5 | ⟨h6,h5⟩
    ·omega
    ·exact up _ (by omega) h5 i (by omega)),dn _ h4⟩) ?_)
   ·rintro x c st' _ hx ⟨rfl,lo,hi,rfl,h1,h2,h3,h4,h5⟩
    dsimp only
    by_cases ho:lo ≥ hi
    ·rw[if_pos ho]
     obtain rfl:lo=hi:=by omega
     exact zAD ⟨rfl,lo,rfl,h2,h4,h5⟩
    ·rw[if_neg ho]
     refine zAA (ask (lo+(hi - lo) / 2) _ (by omega) ?_)
     dsimp only
     cases hm:t (lo+(hi - lo) / 2) with
     | true =>
      simp only[if_true]
      exact zAD ⟨rfl,_,hi,rfl,by omega,h2,by omega,up _ (by omega) hm,h5⟩
     | false =>
      simp only[Ar,if_false]
      exact zAD ⟨rfl,lo,_,rfl,by omega,by omega,by omega,h4,dn _ hm⟩
   ·rintro c st' ⟨rfl,lo,hi,rfl,h1,h2,h3,h4,h5⟩
    obtain rfl:lo=hi:=by omega
    exact⟨rfl,lo,rfl,h2,h4,h5⟩
   ·rintro c st' ⟨rfl,hi,rfl,h2,h4,h5⟩
    exact zAD (h hi h2 h4 h5)
end
structure Mi(lt:Nat->Nat->Bool)(la lb po:List Nat)(ia ib:Nat):Prop where
 ha:ia<=la.length
 hb:ib<=lb.length
 pm:po.Perm (la.take ia++lb.take ib)
 so:po.Pairwise fun x y=>lt x y=true
 ba:∀ x∈po,∀ y∈la.drop ia,lt x y=true
 bb:∀ x∈po,∀ y∈lb.drop ib,lt x y=true
section
variable {lt:Nat->Nat->Bool}{la lb po:List Nat}{ia ib:Nat}
theorem zB7{l:List Nat}{i:Nat}(h:i < l.length):l.drop i=l.getD i 0::l.drop (i+1):=by
 rw[Co h]
 simp[Gb,h]
theorem zI4{l:List Nat}{i:Nat}(h:i < l.length):l.take (i+1)=l.take i++[l.getD i 0]:=by
 rw[GB]
 simp[Gb,h]
theorem zIk{x:Nat}(h:po.Pairwise fun x y=>lt x y=true)(hx:∀ y∈po,lt y x=true):(po++[x]).Pairwise fun x y=>lt x y=true:=by
 rw[List.pairwise_append]
 exact⟨h,Ga _ _,fun a ha b hb=>by rw[AI.mp hb]; exact hx a ha⟩
theorem Mi.pushA(h:Mi lt la lb po ia ib)(sa:la.Pairwise fun x y=>lt x y=true)(hi:ia < la.length)(hx:∀ y∈lb.drop ib,lt (la.getD ia 0) y=true):Mi lt la lb (po++[la.getD ia 0]) (ia+1) ib:=by
 have hd:=zB7 hi
 have sd:(la.drop ia).Pairwise fun x y=>lt x y=true:=sa.sublist (E9 _ _)
 rw[hd,Bb]at sd
 refine⟨by lia,h.hb,?_,zIk h.so fun y hy=>h.ba y hy _ (by rw[hd]; exact AH),fun x hx' y hy=>?_,fun x hx' y hy=>?_⟩
 ·rw[zI4 hi]
  refine (h.pm.append_right _).trans ?_
  rw[Bk,Bk]
  exact (List.perm_append_comm).append_left _
 ·rcases Ap.mp hx' with z | z
  ·exact h.ba x z y (by rw[hd]; exact AF _ hy)
  ·rw[AI.mp z]; exact sd.1 y hy
 ·rcases Ap.mp hx' with z | z
  ·exact h.bb x z y hy
  ·rw[AI.mp z]; exact hx y hy
theorem Mi.pushB(h:Mi lt la lb po ia ib)(sb:lb.Pairwise fun x y=>lt x y=true)(hi:ib < lb.length)(hx:∀ y∈la.drop ia,lt (lb.getD ib 0) y=true):Mi lt la lb (po++[lb.getD ib 0]) ia (ib+1):=by
 have hd:=zB7 hi
 have sd:(lb.drop ib).Pairwise fun x y=>lt x y=true:=sb.sublist (E9 _ _)
 rw[hd,Bb]at sd
 refine⟨h.ha,by lia,?_,zIk h.so fun y hy=>h.bb y hy _ (by rw[hd]; exact AH),fun x hx' y hy=>?_,fun x hx' y hy=>?_⟩
 ·rw[zI4 hi,← Bk]
  exact h.pm.append_right _
 ·rcases Ap.mp hx' with z | z
  ·exact h.ba x z y hy
  ·rw[AI.mp z]; exact hx y hy
 ·rcases Ap.mp hx' with z | z
  ·exact h.bb x z y (by rw[hd]; exact AF _ hy)
  ·rw[AI.mp z]; exact sd.1 y hy
theorem Mi.moveA(sa:la.Pairwise fun x y=>lt x y=true):∀ (k:Nat) {po:List Nat} {ia:Nat},Mi lt la lb po ia ib->ia+k<=la.length->(∀ i,i < k->∀ y∈lb.drop ib,lt (la.getD (ia+i) 0) y=true)->Mi lt la lb (po++(la.drop ia).take k) (ia+k) ib
 | 0,po,ia,h,_,_=>by simpa using h
 | k+1,po,ia,h,hl,hx=>by
  have h1:=h.pushA sa (by lia) (hx 0 (by lia))
  have h2:=Mi.moveA sa k h1 (by lia) fun i hi y hy=>by rw[show ia+1+i=ia+(i+1) by lia]; exact hx (i+1) (by lia) y hy
  rw[zB7 (show ia < la.length by lia),HQ,show ia+(k+1)=ia+1+k by lia]
  simpa using h2
theorem Mi.moveB(sb:lb.Pairwise fun x y=>lt x y=true):∀ (k:Nat) {po:List Nat} {ib:Nat},Mi lt la lb po ia ib->ib+k<=lb.length->(∀ i,i < k->∀ y∈la.drop ia,lt (lb.getD (ib+i) 0) y=true)->Mi lt la lb (po++(lb.drop ib).take k) ia (ib+k)
 | 0,po,ib,h,_,_=>by simpa using h
 | k+1,po,ib,h,hl,hx=>by
  have h1:=h.pushB sb (by lia) (hx 0 (by lia))
  have h2:=Mi.moveB sb k h1 (by lia) fun i hi y hy=>by rw[show ib+1+i=ib+(i+1) by lia]; exact hx (i+1) (by lia) y hy
  rw[zB7 (show ib < lb.length by lia),HQ,show ib+(k+1)=ib+1+k by lia]
  simpa using h2
def Both (lt:Nat->Nat->Bool) (la lb r:List Nat):Prop:=r.Perm (la++lb)/\r.Pairwise fun x y=>lt x y=true
theorem Mi.fin(h:Mi lt la lb po la.length lb.length):Both lt la lb po:=⟨by simpa using h.pm,h.so⟩
theorem Mi.finA(h:Mi lt la lb po ia ib)(sa:la.Pairwise fun x y=>lt x y=true)(hb:ib=lb.length):Both lt la lb (po++la.drop ia):=by
 have h1:=Mi.moveA sa (la.length - ia) h (by have:=h.ha; lia) (by subst hb; simp)
 rw[CS (by simp)]at h1
 have e:ia+(la.length - ia)=la.length:=by have:=h.ha; lia
 rw[e,hb]at h1
 exact h1.fin
theorem Mi.finB(h:Mi lt la lb po ia ib)(sb:lb.Pairwise fun x y=>lt x y=true)(ha:ia=la.length):Both lt la lb (po++lb.drop ib):=by
 have h1:=Mi.moveB sb (lb.length - ib) h (by have:=h.hb; lia) (by subst ha; simp)
 rw[CS (by simp)]at h1
 have e:ib+(lb.length - ib)=lb.length:=by have:=h.hb; lia
 rw[e,ha]at h1
 exact h1.fin
end
structure Apart(lt:Nat->Nat->Bool)(la lb:List Nat):Prop where
 tr:∀ {x y z},lt x y=true->lt y z=true->lt x z=true
 no:∀ {x y},lt x y=true->lt y x=false
 ab:∀ x∈la,∀ y∈lb,lt x y=false->lt y x=true
 ba:∀ x∈lb,∀ y∈la,lt x y=false->lt y x=true
 sa:la.Pairwise fun x y=>lt x y=true
 sb:lb.Pairwise fun x y=>lt x y=true
section
variable {lt:Nat->Nat->Bool}{la lb po l:List Nat}{ia ib:Nat}
theorem zCH{i:Nat}(h:i < l.length):l.getD i 0∈l:=by
 simp only[Gb,AR h,BV]
 exact DL h
theorem zBy(tr:∀ {x y z},lt x y=true->lt y z=true->lt x z=true)(sl:l.Pairwise fun x y=>lt x y=true){x i:Nat}(hi:i < l.length)(h:lt x (l.getD i 0)=true):∀ y∈l.drop i,lt x y=true:=fun y hy=>by
 have sd:(l.drop i).Pairwise fun x y=>lt x y=true:=sl.sublist (E9 _ _)
 rw[zB7 hi,Bb]at sd
 rw[zB7 hi]at hy
 rcases AS.mp hy with e | e
 ·rw[e]; exact h
 ·exact tr h (sd.1 y e)
theorem zQs(sl:l.Pairwise fun x y=>lt x y=true){i j:Nat}(hij:i < j)(hj:j < l.length):lt (l.getD i 0) (l.getD j 0)=true:=by
 have:=Au.mp sl i j (by lia) hj hij
 simpa [Gb,AR (show i < l.length by lia),AR hj] using this
theorem Mi.wonB(h:Mi lt la lb po ia ib)(A:Apart lt la lb)(ha:ia < la.length)(hb:ib < lb.length)(c:lt (lb.getD ib 0) (la.getD ia 0)=true):Mi lt la lb (po++[lb.getD ib 0]) ia (ib+1) :=
 h.pushB A.sb hb (zBy (lt:=lt) A.tr A.sa ha c)
theorem Mi.wonA(h:Mi lt la lb po ia ib)(A:Apart lt la lb)(ha:ia < la.length)(hb:ib < lb.length)(c:lt (lb.getD ib 0) (la.getD ia 0)=false):Mi lt la lb (po++[la.getD ia 0]) (ia+1) ib :=
 h.pushA A.sa ha (zBy (lt:=lt) A.tr A.sb hb (A.ba _ (zCH hb) _ (zCH ha) c))
theorem Mi.galA(h:Mi lt la lb po ia ib)(A:Apart lt la lb)(hb:ib < lb.length){k:Nat}(hk:ia+k<=la.length)(c:∀ i,i < k->lt (lb.getD ib 0) (la.getD (ia+i) 0)=false):Mi lt la lb (po++(la.drop ia).take k) (ia+k) ib :=
 Mi.moveA A.sa k h hk fun i hi=>zBy (lt:=lt) A.tr A.sb hb (A.ba _ (zCH hb) _ (zCH (by lia)) (c i hi))
theorem Mi.galB(h:Mi lt la lb po ia ib)(A:Apart lt la lb)(ha:ia < la.length){k:Nat}(hk:ib+k<=lb.length)(c:∀ i,i < k->lt (lb.getD (ib+i) 0) (la.getD ia 0)=true):Mi lt la lb (po++(lb.drop ib).take k) ia (ib+k) :=
 Mi.moveB A.sb k h hk fun i hi=>zBy (lt:=lt) A.tr A.sa ha (c i hi)
theorem Mi.finL(h:Mi lt la lb po ia ib)(A:Apart lt la lb)(ha:ia+1=la.length)(hl:∀ y∈lb,lt y (la.getD ia 0)=true):Both lt la lb (po++lb.drop ib++la.drop ia):=by
 have hb:=h.hb
 have h1:=Mi.galB h A (by lia) (k:=lb.length - ib) (by lia) fun i hi=>hl _ (zCH (by lia))
 rw[CS (by simp)]at h1
 have e:ib+(lb.length - ib)=lb.length:=by lia
 rw[e]at h1
 exact h1.finA A.sa rfl
end
def SA (κ:CC) (it:Array B6) (p:Array Nat) (pd:Array (Nat×Nat×Nat)) (st:Ao):Prop:=Cy st=κ/\E5 st=p.map (kas_item it)/\ET st=none/\Dd st=pd
def AscS (lt:Nat->Nat->Bool) (p:Array Nat) (a b:Nat):Prop:=∀ i j,a<=i->i < j->j < b->lt (atA p i) (atA p j)=true
def DscS (lt:Nat->Nat->Bool) (p:Array Nat) (a b:Nat):Prop:=∀ i j,a<=i->i < j->j < b->lt (atA p j) (atA p i)=true
section
variable {prog:Ah}{w:Aw}{A:A4}{E:AB->AG->Prop}{s0:AG}{κ:CC}{it:Array B6}{lt:Nat->Nat->Bool}{st:Ao}{p:Array Nat}{pd:Array (Nat×Nat×Nat)}
theorem zCE{i j:Nat}{Q:Option Bool->Ao->Prop}(hA:Ans prog w A s0 κ it lt)(h:SA κ it p pd st)(hp:Arr it.size p)(hi:i < it.size)(hj:j < it.size)(hq:Q (some (lt (atA p i) (atA p j))) st):wq prog w A E s0 (ltAt' i j) Q st:=by
 rw[ltAt'_eq]
 refine zAA (zBG ?_)
 show wq _ _ _ _ _ (do let x ← elem' (E5 st) i; let y ← elem' (E5 st) j; lt' x y) Q st
 rw[h.2.1]
 refine zAA (zAR (by rw[hp.size]; exact hi) (zAA (zAR (by rw[hp.size]; exact hj) ?_)))
 exact zEk hA (hp.lt (by lia) _) (hp.lt (by lia) _) h.1 hq
theorem zKP{i j:Nat}{Q:Unit->Ao->Prop}(h:SA κ it p pd st)(hq:∀ st',SA κ it (kas_rev p i j) pd st'->Q () st'):wq prog w A E s0 (reverseSlice' i j) Q st:=by
 rw[reverseSlice'_eq]
 refine zAl (hq _ ⟨h.1,?_,h.2.2.1,h.2.2.2⟩)
 show mirror (E5 st) i j _=_
 rw[h.2.1]
 exact kas_swaps_map (kas_item it) (fun k=>i+k) (fun k=>j - 1 - k) _ p
theorem zOe{k l:Nat}{Q:Unit->Ao->Prop}(h:SA κ it p pd st)(hq:∀ st',SA κ it (bubble p k (k - l)) pd st'->Q () st'):wq prog w A E s0 (moveDown' k l) Q st:=by
 rw[moveDown'_eq]
 refine zAl (hq _ ⟨h.1,?_,h.2.2.1,h.2.2.2⟩)
 show bubble (E5 st) k _=_
 rw[h.2.1]
 exact kas_swaps_map (kas_item it) (fun i=>k - i) (fun i=>k - i - 1) _ p
theorem zFY{p:Array Nat}{a m:Nat}(hm:m<=p.size)(i:Nat):atA (kas_rev p a m) i=if a<=i/\i < m then atA p (a+m - 1 - i) else atA p i:=by
 have e:=Ii (xs:=p) (i:=a) hm i
 unfold kas_rev
 rw[zAX,e]
 split
 ·rw[zAX]
 ·rw[zAX]
theorem AscS.more(T:Tot it.size lt)(h:Arr it.size p){a m:Nat}(s:AscS lt p a m)(hm:a < m)(hmn:m < it.size)(hc:lt (atA p (m - 1)) (atA p m)=true):AscS lt p a (m+1):=fun i j hai hij hj=>by
 by_cases e:j=m
 ·subst e
  by_cases e2:i=j - 1
  ·subst e2; exact hc
  ·exact T.tr _ _ _ (h.atlt (by lia) _) (h.atlt (by lia) _) (h.atlt (by lia) _) (s i (j - 1) hai (by lia) (by lia)) hc
 ·exact s i j hai hij (by lia)
theorem DscS.more(T:Tot it.size lt)(h:Arr it.size p){a m:Nat}(s:DscS lt p a m)(hm:a < m)(hmn:m < it.size)(hc:lt (atA p m) (atA p (m - 1))=true):DscS lt p a (m+1):=fun i j hai hij hj=>by
 by_cases e:j=m
 ·subst e
  by_cases e2:i=j - 1
  ·subst e2; exact hc
  ·exact T.tr _ _ _ (h.atlt (by lia) _) (h.atlt (by lia) _) (h.atlt (by lia) _) hc (s i (j - 1) hai (by lia) (by lia))
 ·exact s i j hai hij (by lia)
theorem Tot.flip(T:Tot it.size lt)(h:Arr it.size p){i j:Nat}(hi:i < it.size)(hj:j < it.size)(hij:i≠j)(hc:lt (atA p i) (atA p j)=false):lt (atA p j) (atA p i)=true :=
 T.tot _ _ (h.atlt (by lia) _) (h.atlt (by lia) _) (fun z=>hij (h.inj hi hj z)) hc
theorem zMW{lo nrem:Nat}{Q:Option Nat->Ao->Prop}(hA:Ans prog w A s0 κ it lt)(T:Tot it.size lt)(h:SA κ it p pd st)(hp:Arr it.size p)(hn:lo+nrem=it.size)(h1:1<=nrem)
  (hq:∀ m p' st',SA κ it p' pd st'->Arr it.size p'->1<=m->m<=nrem->AscS lt p' lo (lo+m)->(∀ i,i < lo->atA p' i=atA p i)->Q (some m) st'):wq prog w A E s0 (countRun' lo nrem) Q st:=by
 rw[countRun'_eq]
 refine zAA (zAa (zAW (I:=fun x c st'=>st=st'/\c=(none,x)/\AscS lt p lo (lo+x)) (Q:=fun c st'=>st=st'/\∃ m,c=(none,m)/\1<=m/\m<=nrem/\AscS lt p lo (lo+m)/\(m=nrem\/lt (atA p (lo+m)) (atA p (lo+m - 1))=true)) ?_ ?_ ⟨rfl,rfl,fun i j _ _ _=>by lia⟩) ?_)
 ·rintro x c st' h1x hx ⟨rfl,rfl,ha⟩
  dsimp only
  refine zAA (zCE hA h hp (by lia) (by lia) ?_)
  dsimp only
  cases hc:lt (atA p (lo+x)) (atA p (lo+x - 1)) with
  | true =>
   simp only[if_true]
   exact zAD ⟨rfl,x,rfl,h1x,by lia,ha,.inr hc⟩
  | false =>
   simp only[Ar,if_false]
   exact zAD ⟨rfl,rfl,ha.more T hp (by lia) (by lia) (T.flip hp (by lia) (by lia) (by lia) hc)⟩
 ·rintro c st' ⟨rfl,rfl,ha⟩
  rw[show max 1 nrem=nrem by lia]at ha ⊢
  exact⟨rfl,nrem,rfl,h1,AL _,ha,.inl rfl⟩
 rintro c st' ⟨rfl,m,rfl,hm1,hm2,ha,hend⟩
 dsimp only
 by_cases e:m=nrem
 ·rw[if_pos (by simpa using e)]
  exact zAD (hq m p st h hp hm1 hm2 ha fun _ _=>rfl)
 rw[if_neg (by simpa using e)]
 have hend':=hend.resolve_left e
 by_cases e1:m > 1
 ·rw[if_pos e1]
  refine zAA (zCE hA h hp (by lia) (by lia) ?_)
  rw[ha lo (lo+m - 1) (AL _) (by lia) (by lia)]
  dsimp only
  rw[if_pos rfl]
  exact zAD (hq m p st h hp hm1 hm2 ha fun _ _=>rfl)
 rw[if_neg e1]
 obtain rfl:m=1:=by lia
 refine zAA (zCC ?_)
 refine zAA (zAa (zAW (I:=fun x c st'=>st=st'/\c=(none,x,0)/\DscS lt p lo (lo+x)) (Q:=fun c st'=>st=st'/\∃ m,c=(none,m,0)/\2<=m/\m<=nrem/\DscS lt p lo (lo+m)) ?_ ?_ ⟨rfl,rfl,fun i j h1 h2 h3=>?_⟩) ?_)
 ·rintro x c st' h1x hx ⟨rfl,rfl,ha⟩
  dsimp only
  refine zAA (zCE hA h hp (by lia) (by lia) ?_)
  dsimp only
  cases hc:lt (atA p (lo+x)) (atA p (lo+x - 1)) with
  | true =>
   simp only[if_true,Az,if_false,gt_iff_lt]
   exact zAD ⟨rfl,rfl,ha.more T hp (by lia) (by lia) hc⟩
  | false =>
   simp only[Ar,if_false]
   refine zAA (zCE hA h hp (by lia) (by lia) ?_)
   rw[T.flip hp (by lia) (by lia) (by lia) hc]
   dsimp only
   rw[if_pos rfl]
   exact zAD ⟨rfl,x,rfl,by lia,by lia,ha⟩
 ·rintro c st' ⟨rfl,rfl,ha⟩
  rw[show max (1+1) nrem=nrem by lia]at ha ⊢
  exact⟨rfl,nrem,rfl,by lia,AL _,ha⟩
 ·obtain rfl:i=lo:=by lia
  obtain rfl:j=i+1:=by lia
  exact hend'
 rintro c st' ⟨rfl,m,rfl,hm1,hm2,hd⟩
 dsimp only
 rw[if_neg (Az _)]
 refine zAA (zKP h fun st2 h2=>?_)
 have hp2:Arr it.size (kas_rev p lo (lo+m)):=hp.rev _ _
 have hsz:lo+m<=p.size:=by rw[hp.size]; lia
 have hb:∀ i,i < lo->atA (kas_rev p lo (lo+m)) i=atA p i:=fun i hi=>by rw[zFY hsz,if_neg (by lia)]
 have ha2:AscS lt (kas_rev p lo (lo+m)) lo (lo+m):=fun i j h1 h2 h3=>by
  rw[zFY hsz,zFY hsz,if_pos (by lia),if_pos (by lia)]
  exact hd _ _ (by lia) (by lia) (by lia)
 generalize kas_rev p lo (lo+m)=p2 at *
 refine zAA (zAa (zAW (I:=fun x c st'=>st2=st'/\c=(none,x)/\AscS lt p2 lo (lo+x)) (Q:=fun c st'=>st2=st'/\∃ m,c=(none,m)/\1<=m/\m<=nrem/\AscS lt p2 lo (lo+m)) ?_ ?_ ⟨rfl,rfl,ha2⟩) ?_)
 ·rintro x c st' h1x hx ⟨rfl,rfl,ha⟩
  dsimp only
  refine zAA (zCE hA h2 hp2 (by lia) (by lia) ?_)
  dsimp only
  cases hc:lt (atA p2 (lo+x)) (atA p2 (lo+x - 1)) with
  | true =>
   simp only[if_true]
   exact zAD ⟨rfl,x,rfl,by lia,by lia,ha⟩
  | false =>
   simp only[Ar,if_false]
   exact zAD ⟨rfl,rfl,ha.more T hp2 (by lia) (by lia) (T.flip hp2 (by lia) (by lia) (by lia) hc)⟩
 ·rintro c st' ⟨rfl,rfl,ha⟩
  rw[show max m nrem=nrem by lia]at ha ⊢
  exact⟨rfl,nrem,rfl,h1,AL _,ha⟩
 rintro c st' ⟨rfl,m',rfl,hm1',hm2',ha⟩
 exact zAD (hq m' p2 st2 h2 hp2 hm1' hm2' ha hb)
theorem zLw{lo n ok:Nat}{Q:Bool->Ao->Prop}(hA:Ans prog w A s0 κ it lt)(T:Tot it.size lt)(h:SA κ it p pd st)(hp:Arr it.size p)(hn:lo+n<=it.size)(h1:1<=ok)(hok:ok<=n)(ha:AscS lt p lo (lo+ok))
  (hq:∀ p' st',SA κ it p' pd st'->Arr it.size p'->AscS lt p' lo (lo+n)->(∀ i,i < lo->atA p' i=atA p i)->Q true st'):wq prog w A E s0 (binarySort' lo n ok) Q st:=by
 rw[binarySort'_eq]
 refine zAA (zAa (zAW (I:=fun k c st'=>c=(none,())/\∃ p',SA κ it p' pd st'/\Arr it.size p'/\AscS lt p' lo (lo+k)/\(∀ i,i < lo->atA p' i=atA p i))
  (Q:=fun c st'=>c=(none,())/\∃ p',SA κ it p' pd st'/\Arr it.size p'/\AscS lt p' lo (lo+n)/\(∀ i,i < lo->atA p' i=atA p i)) ?_ ?_ ⟨rfl,p,h,hp,by rw[show max ok 1=ok by lia]; exact ha,fun _ _=>rfl⟩) ?_)
 ·rintro k c st' hak hkn ⟨rfl,p',h',hp',ha',hb'⟩
  have lts:=fun i=>hp'.atlt (show 0 < it.size by lia) i
  refine zAA (zAa (zAW (I:=fun x c st''=>st'=st''/\∃ l r,c=(none,l,r)/\l<=r/\r<=k/\r - l<=k - x /\
    (∀ i,i < l->lt (atA p' (lo+i)) (atA p' (lo+k))=true)/\(∀ i,r<=i->i < k->lt (atA p' (lo+k)) (atA p' (lo+i))=true))
   (Q:=fun c st''=>st'=st''/\∃ l r,c=(none,l,r)/\l<=k /\
    (∀ i,i < l->lt (atA p' (lo+i)) (atA p' (lo+k))=true)/\(∀ i,l<=i->i < k->lt (atA p' (lo+k)) (atA p' (lo+i))=true)) ?_ ?_ ⟨rfl,0,k,rfl,by lia,by lia,by lia,fun i hi=>by lia,fun i h1 h2=>by lia⟩) ?_)
  ·rintro x c st'' _ hxk ⟨rfl,l,r,rfl,hlr,hrk,hm,hlo,hhi⟩
   dsimp only
   by_cases hge:l ≥ r
   ·rw[if_pos hge]
    obtain rfl:l=r:=by lia
    exact zAD ⟨rfl,l,l,rfl,hrk,hlo,hhi⟩
   ·rw[if_neg hge]
    refine zAA (zCE hA h' hp' (by lia) (by lia) ?_)
    dsimp only
    cases hc:lt (atA p' (lo+k)) (atA p' (lo+(l+r) / 2)) with
    | true =>
     simp only[if_true]
     refine zAD ⟨rfl,l,(l+r) / 2,rfl,by lia,by lia,by lia,hlo,fun i h1 h2=>?_⟩
     by_cases ei:i=(l+r) / 2
     ·subst ei; exact hc
     ·exact T.tr _ _ _ (lts _) (lts _) (lts _) hc (ha' _ _ (by lia) (by lia) (by lia))
    | false =>
     simp only[Ar,if_false]
     have hc':=T.flip hp' (by lia) (by lia) (by lia) hc
     refine zAD ⟨rfl,(l+r) / 2+1,r,rfl,by lia,by lia,by lia,fun i h1=>?_,hhi⟩
     by_cases ei:i=(l+r) / 2
     ·subst ei; exact hc'
     ·exact T.tr _ _ _ (lts _) (lts _) (lts _) (ha' _ _ (by lia) (by lia) (by lia)) hc'
  ·rintro c st'' ⟨rfl,l,r,rfl,hlr,hrk,hm,hlo,hhi⟩
   obtain rfl:l=r:=by lia
   exact⟨rfl,l,l,rfl,hrk,hlo,hhi⟩
  rintro c st'' ⟨rfl,l,r,rfl,hlk,hlo,hhi⟩
  dsimp only
  refine zAA (zOe h' fun st2 h2=>zAD ⟨rfl,_,h2,hp'.bub _ _,?_,fun i hi=>?_⟩)
  ·have hks:lo+k < p'.size:=by rw[hp'.size]; lia
   intro i j hai hij hj
   rw[zBr hks (by lia),zBr hks (by lia)]
   have e1:∀ x,lo<=x->x < lo+l->lt (atA p' x) (atA p' (lo+k))=true:=fun x h1 h2=>by have:=hlo (x - lo) (by lia); rwa [show lo+(x - lo)=x by lia]at this
   have e2:∀ x,lo+l<=x->x < lo+k->lt (atA p' (lo+k)) (atA p' x)=true:=fun x h1 h2=>by have:=hhi (x - lo) (by lia) (by lia); rwa [show lo+(x - lo)=x by lia]at this
   repeat' split
   all_goals first
    | (exfalso; lia)
    | exact e1 _ (by lia) (by lia)
    | exact e2 _ (by lia) (by lia)
    | exact ha' _ _ (by lia) (by lia) (by lia)
  ·have hks:lo+k < p'.size:=by rw[hp'.size]; lia
   rw[zBr hks (by lia),if_neg (by lia),if_neg (by lia)]
   exact hb' i hi
 ·rintro c st' ⟨hc,p',h',hp',ha',hb'⟩
  rw[show max (max ok 1) n=n by lia]at ha'
  exact⟨hc,p',h',hp',ha',hb'⟩
 rintro c st' ⟨rfl,p',h',hp',ha',hb'⟩
 exact zAD (hq p' st' h' hp' ha' hb')
end
noncomputable def mergeLoP:Array B6->Array B6->StateT Ao Sem (Array B6):=sortPriv% PySem.Builtin.mergeLo
noncomputable def mergeHiP:Array B6->Array B6->StateT Ao Sem (Array B6):=sortPriv% PySem.Builtin.mergeHi
def Good (it:Array B6) (lt:Nat->Nat->Bool) (la lb:List Nat) (r:Array B6):Prop:=∃ q:Array Nat,r=q.map (kas_item it)/\Both lt la lb q.toList
section
variable {it:Array B6}{lt:Nat->Nat->Bool}{pa pb po:Array Nat}{ia ib:Nat}
theorem zAr(f:Nat->B6)(p:Array Nat)(i j:Nat):(p.map f).extract i j=(p.extract i j).map f:=by
 apply Cf.mp
 simp[Gz,GL,JA,JB]
theorem zBJ(p:Array Nat)(i j:Nat):(p.extract i j).toList=(p.toList.drop i).take (j - i):=by
 simp[Gz,GL]
theorem zDl(p:Array Nat)(i:Nat):(p.extract i p.size).toList=p.toList.drop i:=by
 rw[zBJ,CS (by simp)]
theorem zBv(h:Mi lt pa.toList pb.toList po.toList ia ib)(A:Apart lt pa.toList pb.toList)(he:ib=pb.size\/ia=pa.size) :
  Good it lt pa.toList pb.toList (po.map (kas_item it)++(pa.map (kas_item it)).extract ia (pa.map (kas_item it)).size++(pb.map (kas_item it)).extract ib (pb.map (kas_item it)).size):=by
 refine⟨po++pa.extract ia pa.size++pb.extract ib pb.size,?_,?_⟩
 ·rw[zAr,zAr]; simp
 ·rw[BF,BF,zDl,zDl]
  rcases he with rfl | rfl
  ·rw[C8 (l:=pb.toList) (by simp),CJ]
   exact h.finA A.sa (by simp)
  ·rw[C8 (l:=pa.toList) (by simp),CJ]
   exact h.finB A.sb (by simp)
theorem zCQ(h:Mi lt pa.toList pb.toList po.toList ia ib)(A:Apart lt pa.toList pb.toList)(he:ia+1=pa.size)(hl:∀ y∈pb.toList,lt y (pa.toList.getD (pa.size - 1) 0)=true) :
  Good it lt pa.toList pb.toList (po.map (kas_item it)++(pb.map (kas_item it)).extract ib (pb.map (kas_item it)).size++(pa.map (kas_item it)).extract ia (pa.map (kas_item it)).size):=by
 refine⟨po++pb.extract ib pb.size++pa.extract ia pa.size,?_,?_⟩
 ·rw[zAr,zAr]; simp
 ·rw[BF,BF,zDl,zDl]
  exact h.finL A (by simpa using he) fun y hy=>by rw[show ia=pa.size - 1 by lia]; exact hl y hy
end
section
variable {prog:Ah}{w:Aw}{A:A4}{E:AB->AG->Prop}{s0:AG}{κ:CC}{it:Array B6}{lt:Nat->Nat->Bool}{st:Ao}{p:Array Nat}{pd:Array (Nat×Nat×Nat)}{pa pb:Array Nat}
theorem zAM(p:Array Nat)(i:Nat):p.getD i 0=p.toList.getD i 0:=by
 rw[Dc,AK,Bl]
noncomputable def Run (it:Array B6) (lt:Nat->Nat->Bool) (pa pb:Array Nat) (m:Nat) (out:Array B6) (ia ib:Nat):Option (Array B6)->Prop
 | some r=>Good it lt pa.toList pb.toList r
 | none=>∃ po:Array Nat,out=po.map (kas_item it)/\Mi lt pa.toList pb.toList po.toList ia ib/\ia+1 < pa.size/\ib < pb.size/\m<=ia+ib
theorem zAQ{α:Type}{c:Prop} [Decidable c] {m1 m2:StateT Ao Sem α} {Q:α->Ao->Prop} (h1:c->wq prog w A E s0 m1 Q st) (h2:¬ c->wq prog w A E s0 m2 Q st):wq prog w A E s0 (if c then m1 else m2) Q st:=by
 by_cases h:c
 ·rw[if_pos h]; exact h1 h
 ·rw[if_neg h]; exact h2 h
theorem zJE{f:Ao->Ao}{Q:PUnit->Ao->Prop}(h:SA κ it p pd st)(hq:∀ st',SA κ it p pd st'->Q ⟨⟩ st')(hf:∀ s,SA κ it p pd s->SA κ it p pd (f s)):wq prog w A E s0 (modify f:StateT Ao Sem PUnit) Q st:=zAl (hq _ (hf _ h))
theorem zGQ{l:List Nat}(sl:l.Pairwise fun x y=>lt x y=true){i j:Nat}(hij:i<=j)(hj:j < l.length):i=j\/lt (l.getD i 0) (l.getD j 0)=true:=by
 rcases B8 i j with z | z
 ·exact .inr (zQs sl z hj)
 ·exact .inl (by lia)
theorem zA7(po:Array Nat)(x:Nat):(po.map (kas_item it)).push (kas_item it x)=(po.push x).map (kas_item it):=by simp
theorem zGc(po pa:Array Nat)(i j:Nat):po.map (kas_item it)++(pa.map (kas_item it)).extract i j=(po++pa.extract i j).map (kas_item it):=by rw[zAr]; simp
theorem zNe{pa:Array Nat}{i k:Nat}:(pa.extract i (i+k)).toList=(pa.toList.drop i).take k:=by rw[zBJ]; congr 1; lia
theorem zJ9{Q:Array B6->Ao->Prop}(hA:Ans prog w A s0 κ it lt)(h:SA κ it p pd st)(ha:∀ i,i < pa.size->pa.getD i 0 < it.size)(hb:∀ i,i < pb.size->pb.getD i 0 < it.size)(AP:Apart lt pa.toList pb.toList)
  (h1:1<=pa.size) (h2:1<=pb.size) (hf:lt (pb.toList.getD 0 0) (pa.toList.getD 0 0)=true) (hl:∀ y∈pb.toList,lt y (pa.toList.getD (pa.size - 1) 0)=true)
  (hq:∀ r st',SA κ it p pd st'->Good it lt pa.toList pb.toList r->Q r st'):wq prog w A E s0 (mergeLoP (pa.map (kas_item it)) (pb.map (kas_item it))) Q st:=by
 unfold mergeLoP
 refine zAA (zCC ?_)
 refine zAA (zAR (by lia) ?_)
 have hM0:Mi lt pa.toList pb.toList [] 0 0:=⟨A9 _,A9 _,by simp,.nil,(fun _ z=>nomatch z),(fun _ z=>nomatch z)⟩
 have hM1:Mi lt pa.toList pb.toList (#[pb.getD 0 0]:Array Nat).toList 0 1:=by
  have:=hM0.wonB AP (by simp; lia) (by simp; lia) hf
  rw[zAM]
  simpa using this
 have eo:(#[kas_item it (pb.getD 0 0)]:Array B6)=(#[pb.getD 0 0]:Array Nat).map (kas_item it):=by simp
 rw[eo]
 dsimp only
 by_cases e1:1=pb.size
 ·rw[if_pos (by simpa using e1)]
  exact zAD (hq _ _ h (zBv hM1 AP (.inl e1)))
 rw[if_neg (by simpa using e1)]
 by_cases e2:0+1=pa.size
 ·rw[if_pos (by simpa using e2)]
  exact zAD (hq _ _ h (zCQ hM1 AP e2 hl))
 rw[if_neg (by simpa using e2)]
 refine zAA (zBG ?_)
 have sza:(pa.map (kas_item it)).size=pa.size:=by simp
 have szb:(pb.map (kas_item it)).size=pb.size:=by simp
 have eqA:∀ {x:Nat},(x == (pa.map (kas_item it)).size)=true ↔ x=pa.size:=by intro x; simp
 have eqB:∀ {x:Nat},(x == (pb.map (kas_item it)).size)=true ↔ x=pb.size:=by intro x; simp
 refine zAA (zAa (zAW (I:=fun x c st'=>SA κ it p pd st'/\c.1=none/\Run it lt pa pb (x+1) c.2.1 c.2.2.1 c.2.2.2.1 none)
  (Q:=fun c st'=>SA κ it p pd st'/\∃ r,c.1=some r/\Good it lt pa.toList pb.toList r) ?_ ?_ ⟨h,rfl,_,rfl,hM1,by dsimp only; lia,by dsimp only; lia,AL _⟩) ?_)
 ·rintro x ⟨o,out,ia,ib,mg⟩ st1 _ hx ⟨hs1,ho,hr⟩
  dsimp only at ho hr ⊢
  subst ho
  refine zAA (zAa (zAW (I:=fun y c st'=>SA κ it p pd st'/\c.1=none/\Run it lt pa pb (x+1+y) c.2.1 c.2.2.1 c.2.2.2.1 none)
   (Q:=fun c st'=>SA κ it p pd st'/\Run it lt pa pb (x+2) c.2.1 c.2.2.1 c.2.2.2.1 c.1) ?_ ?_ ⟨hs1,rfl,hr⟩) ?_)
  ·rintro y ⟨o,out,ia,ib,ac,bc⟩ st2 _ hy ⟨hs2,ho,hr⟩
   dsimp only at ho hr ⊢
   subst ho
   obtain⟨po,rfl,hm,hia,hib,hsz⟩:=hr
   refine zAA (zAR hib (zAA (zAR (by lia) ?_)))
   refine zAA (zEk hA (hb _ hib) (ha _ (by lia)) hs2.1 ?_)
   dsimp only
   rw[zAM pb,zAM pa]
   cases hc:lt (pb.toList.getD ib 0) (pa.toList.getD ia 0) with
   | true =>
    rw[if_pos rfl]
    refine zAA (zAR hib ?_)
    have hm':Mi lt pa.toList pb.toList (po.push (pb.getD ib 0)).toList ia (ib+1):=by
     rw[BW,zAM]; exact hm.wonB AP (by simp; lia) (by simpa using hib) hc
    rw[zA7]
    by_cases e:ib+1=pb.size
    ·rw[if_pos (eqB.mpr e)]
     exact zAD ⟨hs2,zBv hm' AP (.inl e)⟩
    rw[if_neg (fun z=>e (eqB.mp z))]
    by_cases e':bc+1 ≥ mg
    ·rw[if_pos e']
     exact zAD ⟨hs2,_,rfl,hm',hia,by dsimp only; lia,by dsimp only; lia⟩
    ·rw[if_neg e']
     exact zAD ⟨hs2,rfl,_,rfl,hm',hia,by dsimp only; lia,by dsimp only; lia⟩
   | false =>
    rw[if_neg AQ]
    refine zAA (zAR (by lia) ?_)
    have hm':Mi lt pa.toList pb.toList (po.push (pa.getD ia 0)).toList (ia+1) ib:=by
     rw[BW,zAM]; exact hm.wonA AP (by simp; lia) (by simpa using hib) hc
    rw[zA7]
    by_cases e:ia+1+1=pa.size
    ·rw[if_pos (eqA.mpr e)]
     exact zAD ⟨hs2,zCQ hm' AP e hl⟩
    rw[if_neg (fun z=>e (eqA.mp z))]
    by_cases e':ac+1 ≥ mg
    ·rw[if_pos e']
     exact zAD ⟨hs2,_,rfl,hm',by dsimp only; lia,hib,by dsimp only; lia⟩
    ·rw[if_neg e']
     exact zAD ⟨hs2,rfl,_,rfl,hm',by dsimp only; lia,hib,by dsimp only; lia⟩
  ·rintro ⟨o,out,ia,ib,ac,bc⟩ st2 ⟨hs2,ho,po,_,hm,hia,hib,hsz⟩
   dsimp only at hia hib hsz
   rw[sza,szb]at hsz
   lia
  ·rintro ⟨o,out,ia,ib,ac,bc⟩ st2 ⟨hs2,hr⟩
   dsimp only at hr ⊢
   cases o with
   | some r=>exact zAD ⟨hs2,r,rfl,hr⟩
   | none =>
    dsimp only
    refine zAA (zCC ?_)
    refine zAA (zAa (zAW (I:=fun y c st'=>SA κ it p pd st'/\c.1=none/\Run it lt pa pb (x+2+y) c.2.1 c.2.2.1 c.2.2.2.1 none)
     (Q:=fun c st'=>SA κ it p pd st'/\Run it lt pa pb (x+2) c.2.1 c.2.2.1 c.2.2.2.1 c.1) ?_ ?_ ⟨hs2,rfl,hr⟩) ?_)
    ·rintro y ⟨o,out,ia,ib,mg2,ac,bc⟩ st3 _ hy ⟨hs3,ho,hr⟩
     dsimp only at ho hr ⊢
     subst ho
     obtain⟨po,rfl,hm,hia,hib,hsz⟩:=hr
     have moA:∀ i j,i<=j->j < pa.size - ia->(!lt (pb.toList.getD ib 0) (pa.toList.getD (ia+j) 0))=true->(!lt (pb.toList.getD ib 0) (pa.toList.getD (ia+i) 0))=true:=fun i j hij hj hc=>by
      rcases zGQ AP.sa (show ia+i<=ia+j by lia) (by simp; lia) with e | e
      ·rw[e]; exact hc
      ·cases hd:lt (pb.toList.getD ib 0) (pa.toList.getD (ia+i) 0) with
       | false=>rfl
       | true=>rw[AP.tr hd e]at hc; exact hc
     refine zAQ (fun _=>?_) (fun _=>?_)
     all_goals
      refine zAA (zJE hs3 ?_ fun s z=>⟨z.1,z.2.1,z.2.2.1,z.2.2.2⟩)
      intro st4 hs4
      refine zAA (zAR hib ?_)
      rw[sza,szb]
      refine zAA (zBT hA hs4.1 (hb _ hib) ha (by lia) (by lia) (fun i=>!lt (pb.toList.getD ib 0) (pa.toList.getD (ia+i) 0)) (fun i hi=>by rw[zAM pb,zAM pa]; rfl) moA ?_)
      intro k hk hk1 hk2
      have hm1:=hm.galA AP (by simpa using hib) (k:=k) (by simp; lia) fun i hi=>by simpa using hk1 i hi
      rw[← zNe,← BF]at hm1
      have hcb:ia+k < pa.size->lt (pb.toList.getD ib 0) (pa.toList.getD (ia+k) 0)=true:=fun z=>by simpa using hk2 k (AL _) (by lia)
      have hge:ia<=ia+k:=by lia
      dsimp only
      refine zAQ (fun hk0=>?_) (fun hk0=>?_)
      rw[zGc]
      refine zAQ (fun e=>zAD ⟨hs4,?_⟩) (fun e=>?_)
      ·rw[← sza,← szb]; exact zCQ hm1 AP (beq_iff_eq.mp e) hl
      refine zAQ (fun e3=>zAD ⟨hs4,?_⟩) (fun e3=>?_)
      ·rw[← sza,← szb]; exact zBv hm1 AP (.inr (beq_iff_eq.mp e3))
      have e4:ia+k+1≠pa.size:=fun z=>e (beq_iff_eq.mpr z)
      have e5:ia+k≠pa.size:=fun z=>e3 (beq_iff_eq.mpr z)
      have hia2:ia+k+1 < pa.size:=by lia
      generalize po++pa.extract ia (ia+k)=po' at hm1 ⊢
      generalize ia+k=ia' at *
      rotate_left
      obtain rfl:k=0:=by lia
      rw[EI]at hcb hge
      have hia2:ia+1 < pa.size:=by lia
      replace hm1:Mi lt pa.toList pb.toList po.toList ia ib:=hm
      generalize po=po' at hm1 ⊢
      generalize ia=ia' at *
      all_goals
       have hcb:=hcb (by lia)
       refine zAA (zAR hib ?_)
       have hm2:Mi lt pa.toList pb.toList (po'.push (pb.getD ib 0)).toList ia' (ib+1):=by
        rw[BW,zAM]; exact hm1.wonB AP (by simp; lia) (by simpa using hib) hcb
       rw[zA7]
       refine zAQ (fun e=>zAD ⟨hs4,?_⟩) (fun e=>?_)
       ·rw[← sza,← szb]; exact zBv hm2 AP (.inl (beq_iff_eq.mp e))
       have hib2:ib+1 < pb.size:=by
        have:ib+1≠pb.size:=fun z=>e (beq_iff_eq.mpr z)
        lia
       refine zAA (zAR (by lia) ?_)
       refine zAA (zBT hA hs4.1 (ha _ (by lia)) hb (by lia) (by lia) (fun i=>lt (pb.toList.getD (ib+1+i) 0) (pa.toList.getD ia' 0)) (fun i hi=>by rw[zAM pb,zAM pa]; rfl) (fun i j hij hj hc=>by
        rcases zGQ AP.sb (show ib+1+i<=ib+1+j by lia) (by simp; lia) with z | z
        ·rw[z]; exact hc
        ·exact AP.tr z hc) ?_)
       intro k2 hk2 hk21 hk22
       have hm3:=hm2.galB AP (by simp; lia) (k:=k2) (by simp; lia) hk21
       rw[← zNe,← BF]at hm3
       have hca:ib+1+k2 < pb.size->lt (pb.toList.getD (ib+1+k2) 0) (pa.toList.getD ia' 0)=false:=fun z=>hk22 k2 (AL _) (by lia)
       have hge2:ib+1<=ib+1+k2:=by lia
       dsimp only
       refine zAQ (fun hk0=>?_) (fun hk0=>?_)
       rw[zGc]
       refine zAQ (fun e=>zAD ⟨hs4,?_⟩) (fun e=>?_)
       ·rw[← sza,← szb]; exact zBv hm3 AP (.inl (beq_iff_eq.mp e))
       have e5:ib+1+k2≠pb.size:=fun z=>e (beq_iff_eq.mpr z)
       have hib3:ib+1+k2 < pb.size:=by lia
       generalize po'.push (pb.getD ib 0)++pb.extract (ib+1) (ib+1+k2)=po2 at hm3 ⊢
       generalize ib+1+k2=ib' at *
       rotate_left
       obtain rfl:k2=0:=by lia
       rw[EI]at hca hge2
       have hib3:ib+1 < pb.size:=hib2
       replace hm3:=hm2
       generalize po'.push (pb.getD ib 0)=po2 at hm3 ⊢
       generalize hibe:ib+1=ib' at hm3 hca hge2 hib3 ⊢
       all_goals
        refine zAA (zAR (by lia) ?_)
        have hm4:Mi lt pa.toList pb.toList (po2.push (pa.getD ia' 0)).toList (ia'+1) ib':=by
         rw[BW,zAM]; exact hm3.wonA AP (by simp; lia) (by simpa using hib3) (hca hib3)
        rw[zA7]
        refine zAQ (fun e=>zAD ⟨hs4,?_⟩) (fun e=>?_)
        ·rw[← sza,← szb]; exact zCQ hm4 AP (beq_iff_eq.mp e) hl
        have e6:ia'+1+1≠pa.size:=fun z=>e (beq_iff_eq.mpr z)
        refine zAQ (fun _=>zAD ⟨hs4,_,rfl,hm4,by dsimp only; lia,hib3,by dsimp only; lia⟩) (fun _=>zAD ⟨hs4,rfl,_,rfl,hm4,by dsimp only; lia,hib3,by dsimp only; lia⟩)
    ·rintro ⟨o,out,ia,ib,mg2,ac,bc⟩ st3 ⟨hs3,ho,po,_,hm,hia,hib,hsz⟩
     dsimp only at hia hib hsz
     rw[sza,szb]at hsz
     lia
    ·rintro ⟨o,out,ia,ib,mg2,ac,bc⟩ st3 ⟨hs3,hr⟩
     dsimp only at hr ⊢
     cases o with
     | some r=>exact zAD ⟨hs3,r,rfl,hr⟩
     | none =>
      dsimp only
      refine zAA (zAl ?_)
      exact zAD ⟨⟨hs3.1,hs3.2.1,hs3.2.2.1,hs3.2.2.2⟩,rfl,hr⟩
 ·rintro ⟨o,out,ia,ib,mg⟩ st1 ⟨hs1,ho,po,_,hm,hia,hib,hsz⟩
  dsimp only at hia hib hsz
  rw[sza,szb]at hsz
  lia
 ·rintro ⟨o,out,ia,ib,mg⟩ st1 ⟨hs1,r,ho,hr⟩
  dsimp only at ho ⊢
  subst ho
  exact zAD (hq r st1 hs1 hr)
end
noncomputable def ltR (lt:Nat->Nat->Bool) (x y:Nat):Bool:=lt y x
section
variable {it:Array B6}{lt:Nat->Nat->Bool}{pa pb po:Array Nat}{ja jb na nb:Nat}
theorem Apart.rev{la lb:List Nat}(A:Apart lt la lb):Apart (ltR lt) lb.reverse la.reverse where
 tr:=fun h1 h2=>A.tr h2 h1
 no:=fun h=>A.no h
 ab:=fun x hx y hy h=>A.ab y (CA.mp hy) x (CA.mp hx) h
 ba:=fun x hx y hy h=>A.ba y (CA.mp hy) x (CA.mp hx) h
 sa:=EL.mpr A.sb
 sb:=EL.mpr A.sa
theorem Both.rev{la lb r:List Nat}(h:Both (ltR lt) lb.reverse la.reverse r.reverse):Both lt la lb r:=by
 refine⟨?_,EL.mp h.2⟩
 have h1:=h.1
 rw[← Ct]at h1
 exact (Hw _).symm.trans (h1.trans (Hw _))
theorem zEB{l:List Nat}{i j:Nat}(h:i+j+1=l.length):l.reverse.getD i 0=l.getD j 0:=by
 rw[AK,AK,Gv (by lia)]
 congr 2
 lia
theorem zDf{p:Array Nat}{i j:Nat}(h:i+j=p.size):(p.extract 0 i).toList.reverse=p.toList.reverse.drop j:=by
 rw[zBJ,Ig,Hx,Jn]
 congr 2
 simp; lia
theorem zMd{p:Array Nat}{i j k:Nat}(h:i+j=p.size)(hk:k<=i):(p.extract k i).toList.reverse=(p.toList.reverse.drop j).take (i - k):=by
 rw[zBJ,Hx,List.take_reverse,show p.toList.length - j=i by simp; lia,List.drop_take,D3,show min i p.toList.length - (i - k)=k by rw[As]; lia]
theorem zFn{p:Array Nat}{i j k:Nat}(h:i+j=p.size)(hk:k<=i)(po:Array Nat):(po++(p.extract k i).reverse).toList=po.toList++(p.toList.reverse.drop j).take (i - k):=by
 rw[BF,EV,zMd h hk]
theorem zBc(h:Mi (ltR lt) pb.toList.reverse pa.toList.reverse po.toList ja jb)(A:Apart lt pa.toList pb.toList)(ea:na+jb=pa.size)(eb:nb+ja=pb.size)(he:na=0\/nb=0) :
  Good it lt pa.toList pb.toList ((pa.map (kas_item it)).extract 0 na++(pb.map (kas_item it)).extract 0 nb++(po.map (kas_item it)).reverse):=by
 refine⟨pa.extract 0 na++pb.extract 0 nb++po.reverse,?_,Both.rev ?_⟩
 ·rw[zAr,zAr]; simp
 ·rw[BF,BF,Ct,Ct,EV,HA,zDf ea,zDf eb,← Bk]
  rcases he with rfl | rfl
  ·rw[C8 (l:=pa.toList.reverse) (by simp; lia),CJ]
   exact h.finA A.rev.sa (by simp; lia)
  ·rw[C8 (l:=pb.toList.reverse) (by simp; lia),CJ]
   exact h.finB A.rev.sb (by simp; lia)
theorem zBm(h:Mi (ltR lt) pb.toList.reverse pa.toList.reverse po.toList ja jb)(A:Apart lt pa.toList pb.toList)(ea:na+jb=pa.size)(eb:nb+ja=pb.size)(he:nb=1)(hf:∀ y∈pa.toList,lt (pb.toList.getD 0 0) y=true) :
  Good it lt pa.toList pb.toList ((pb.map (kas_item it)).extract 0 nb++(pa.map (kas_item it)).extract 0 na++(po.map (kas_item it)).reverse):=by
 refine⟨pb.extract 0 nb++pa.extract 0 na++po.reverse,?_,Both.rev ?_⟩
 ·rw[zAr,zAr]; simp
 ·rw[BF,BF,Ct,Ct,EV,HA,zDf ea,zDf eb,← Bk]
  refine h.finL A.rev (by simp; lia) fun y hy=>?_
  rw[zEB (j:=0) (by simp; lia)]
  exact hf y (CA.mp hy)
noncomputable def RunR (it:Array B6) (lt:Nat->Nat->Bool) (pa pb:Array Nat) (m:Nat) (out:Array B6) (na nb:Nat):Option (Array B6)->Prop
 | some r=>Good it lt pa.toList pb.toList r
 | none=>∃ (po:Array Nat) (ja jb:Nat),out=po.map (kas_item it)/\Mi (ltR lt) pb.toList.reverse pa.toList.reverse po.toList ja jb/\na+jb=pa.size/\nb+ja=pb.size/\0 < na/\1 < nb/\m<=ja+jb
end
section
variable {prog:Ah}{w:Aw}{A:A4}{E:AB->AG->Prop}{s0:AG}{κ:CC}{it:Array B6}{lt:Nat->Nat->Bool}{st:Ao}{p:Array Nat}{pd:Array (Nat×Nat×Nat)}{pa pb:Array Nat}
theorem zF6(po pa:Array Nat)(i j:Nat):po.map (kas_item it)++((pa.map (kas_item it)).extract i j).reverse=(po++(pa.extract i j).reverse).map (kas_item it):=by rw[zAr]; simp
theorem zJK{Q:Array B6->Ao->Prop}(hA:Ans prog w A s0 κ it lt)(h:SA κ it p pd st)(ha:∀ i,i < pa.size->pa.getD i 0 < it.size)(hb:∀ i,i < pb.size->pb.getD i 0 < it.size)(AP:Apart lt pa.toList pb.toList)
  (h1:1<=pa.size) (h2:1<=pb.size) (hf:∀ y∈pa.toList,lt (pb.toList.getD 0 0) y=true) (hl:lt (pb.toList.getD (pb.size - 1) 0) (pa.toList.getD (pa.size - 1) 0)=true)
  (hq:∀ r st',SA κ it p pd st'->Good it lt pa.toList pb.toList r->Q r st'):wq prog w A E s0 (mergeHiP (pa.map (kas_item it)) (pb.map (kas_item it))) Q st:=by
 unfold mergeHiP
 have sza:(pa.map (kas_item it)).size=pa.size:=by simp
 have szb:(pb.map (kas_item it)).size=pb.size:=by simp
 refine zAA (zCC ?_)
 dsimp only
 rw[sza,szb]
 refine zAA (zAR (by lia) ?_)
 have hM0:Mi (ltR lt) pb.toList.reverse pa.toList.reverse [] 0 0:=⟨A9 _,A9 _,by simp,.nil,(fun _ z=>nomatch z),(fun _ z=>nomatch z)⟩
 have gA:∀ {na jb:Nat},na+1+jb=pa.size->pa.toList.reverse.getD jb 0=pa.toList.getD na 0:=fun e=>zEB (by simp; lia)
 have gB:∀ {nb ja:Nat},nb+1+ja=pb.size->pb.toList.reverse.getD ja 0=pb.toList.getD nb 0:=fun e=>zEB (by simp; lia)
 have hM1:Mi (ltR lt) pb.toList.reverse pa.toList.reverse (#[pa.getD (pa.size - 1) 0]:Array Nat).toList 0 1:=by
  have:=hM0.wonB AP.rev (by simp; lia) (by simp; lia) (by rw[gA (na:=pa.size - 1) (by lia),gB (nb:=pb.size - 1) (by lia)]; exact hl)
  rw[gA (na:=pa.size - 1) (by lia)]at this
  rw[zAM]
  simpa using this
 have eo:(#[kas_item it (pa.getD (pa.size - 1) 0)]:Array B6)=(#[pa.getD (pa.size - 1) 0]:Array Nat).map (kas_item it):=by simp
 rw[eo]
 refine zAQ (fun e=>zAD (hq _ _ h (zBc hM1 AP (by lia) (by lia) (.inl (beq_iff_eq.mp e))))) (fun e=>?_)
 refine zAQ (fun e2=>zAD (hq _ _ h (zBm hM1 AP (by lia) (by lia) (beq_iff_eq.mp e2) hf))) (fun e2=>?_)
 have e':pa.size - 1≠0:=fun z=>e (beq_iff_eq.mpr z)
 have e2':pb.size≠1:=fun z=>e2 (beq_iff_eq.mpr z)
 refine zAA (zBG ?_)
 refine zAA (zAa (zAW (I:=fun x c st'=>SA κ it p pd st'/\c.1=none/\RunR it lt pa pb (x+1) c.2.2.2.1 c.2.1 c.2.2.1 none)
  (Q:=fun c st'=>SA κ it p pd st'/\∃ r,c.1=some r/\Good it lt pa.toList pb.toList r) ?_ ?_ ⟨h,rfl,_,_,_,rfl,hM1,by dsimp only; lia,by dsimp only; lia,by dsimp only; lia,by dsimp only; lia,AL _⟩) ?_)
 ·rintro x ⟨o,na,nb,out,mg⟩ st1 _ hx ⟨hs1,ho,hr⟩
  dsimp only at ho hr ⊢
  subst ho
  refine zAA (zAa (zAW (I:=fun y c st'=>SA κ it p pd st'/\c.1=none/\RunR it lt pa pb (x+1+y) c.2.2.2.1 c.2.1 c.2.2.1 none)
   (Q:=fun c st'=>SA κ it p pd st'/\RunR it lt pa pb (x+2) c.2.2.2.1 c.2.1 c.2.2.1 c.1) ?_ ?_ ⟨hs1,rfl,hr⟩) ?_)
  ·rintro y ⟨o,na,nb,out,ac,bc⟩ st2 _ hy ⟨hs2,ho,hr⟩
   dsimp only at ho hr ⊢
   subst ho
   obtain⟨po,ja,jb,rfl,hm,hea,heb,hna,hnb,hsz⟩:=hr
   refine zAA (zAR (by lia) (zAA (zAR (by lia) ?_)))
   refine zAA (zEk hA (hb _ (by lia)) (ha _ (by lia)) hs2.1 ?_)
   dsimp only
   rw[zAM pb,zAM pa]
   have gb:=gB (nb:=nb - 1) (ja:=ja) (by lia)
   have ga:=gA (na:=na - 1) (jb:=jb) (by lia)
   cases hc:lt (pb.toList.getD (nb - 1) 0) (pa.toList.getD (na - 1) 0) with
   | true =>
    rw[if_pos rfl]
    refine zAA (zAR (by lia) ?_)
    have hm':Mi (ltR lt) pb.toList.reverse pa.toList.reverse (po.push (pa.getD (na - 1) 0)).toList ja (jb+1):=by
     rw[BW,zAM,← ga]; exact hm.wonB AP.rev (by simp; lia) (by simp; lia) (by rw[ga,gb]; exact hc)
    rw[zA7]
    refine zAQ (fun e=>zAD ⟨hs2,zBc hm' AP (by lia) heb (.inl (beq_iff_eq.mp e))⟩) (fun e=>?_)
    have e':na - 1≠0:=fun z=>e (beq_iff_eq.mpr z)
    exact zAQ (fun _=>zAD ⟨hs2,_,_,_,rfl,hm',by dsimp only; lia,heb,by dsimp only; lia,hnb,by lia⟩) (fun _=>zAD ⟨hs2,rfl,_,_,_,rfl,hm',by dsimp only; lia,heb,by dsimp only; lia,hnb,by lia⟩)
   | false =>
    rw[if_neg AQ]
    refine zAA (zAR (by lia) ?_)
    have hm':Mi (ltR lt) pb.toList.reverse pa.toList.reverse (po.push (pb.getD (nb - 1) 0)).toList (ja+1) jb:=by
     rw[BW,zAM,← gb]; exact hm.wonA AP.rev (by simp; lia) (by simp; lia) (by rw[ga,gb]; exact hc)
    rw[zA7]
    refine zAQ (fun e=>zAD ⟨hs2,zBm hm' AP hea (by lia) (beq_iff_eq.mp e) hf⟩) (fun e=>?_)
    have e':nb - 1≠1:=fun z=>e (beq_iff_eq.mpr z)
    exact zAQ (fun _=>zAD ⟨hs2,_,_,_,rfl,hm',hea,by dsimp only; lia,hna,by dsimp only; lia,by lia⟩) (fun _=>zAD ⟨hs2,rfl,_,_,_,rfl,hm',hea,by dsimp only; lia,hna,by dsimp only; lia,by lia⟩)
  ·rintro ⟨o,na,nb,out,ac,bc⟩ st2 ⟨hs2,ho,po,ja,jb,_,hm,hea,heb,hna,hnb,hsz⟩
   dsimp only at hea heb hna hnb hsz
   lia
  ·rintro ⟨o,na,nb,out,ac,bc⟩ st2 ⟨hs2,hr⟩
   dsimp only at hr ⊢
   cases o with
   | some r=>exact zAD ⟨hs2,r,rfl,hr⟩
   | none =>
    dsimp only
    refine zAA (zCC ?_)
    refine zAA (zAa (zAW (I:=fun y c st'=>SA κ it p pd st'/\c.1=none/\RunR it lt pa pb (x+2+y) c.2.2.2.1 c.2.1 c.2.2.1 none)
     (Q:=fun c st'=>SA κ it p pd st'/\RunR it lt pa pb (x+2) c.2.2.2.1 c.2.1 c.2.2.1 c.1) ?_ ?_ ⟨hs2,rfl,hr⟩) ?_)
    ·rintro y ⟨o,na,nb,out,mg2,ac,bc⟩ st3 _ hy ⟨hs3,ho,hr⟩
     dsimp only at ho hr ⊢
     subst ho
     obtain⟨po,ja,jb,rfl,hm,hea,heb,hna,hnb,hsz⟩:=hr
     have moA:∀ i j,i<=j->j < na->(!lt (pb.toList.getD (nb - 1) 0) (pa.toList.getD (0+j) 0))=true->(!lt (pb.toList.getD (nb - 1) 0) (pa.toList.getD (0+i) 0))=true:=fun i j hij hj hc=>by
      rcases zGQ AP.sa (show 0+i<=0+j by lia) (by simp; lia) with e | e
      ·rw[e]; exact hc
      ·cases hd:lt (pb.toList.getD (nb - 1) 0) (pa.toList.getD (0+i) 0) with
       | false=>rfl
       | true=>rw[AP.tr hd e]at hc; exact hc
     refine zAQ (fun _=>?_) (fun _=>?_)
     all_goals
      refine zAA (zJE hs3 ?_ fun s z=>⟨z.1,z.2.1,z.2.2.1,z.2.2.2⟩)
      intro st4 hs4
      refine zAA (zAR (by lia) ?_)
      refine zAA (zBT hA hs4.1 (hb _ (by lia)) ha (by lia) (by lia) (fun i=>!lt (pb.toList.getD (nb - 1) 0) (pa.toList.getD (0+i) 0)) (fun i hi=>by rw[zAM pb,zAM pa]; rfl) moA ?_)
      intro k hk hk1 hk2
      have hm1:=hm.galB AP.rev (by simp; lia) (k:=na - k) (by simp; lia) fun i hi=>by
       rw[gA (na:=na - 1 - i) (by lia),gB (nb:=nb - 1) (by lia)]
       have:=hk2 (na - 1 - i) (by lia) (by lia)
       rw[Dm]at this
       show lt _ _=true
       simpa using this
      rw[← zFn hea hk]at hm1
      have hcb:0 < k->lt (pb.toList.getD (nb - 1) 0) (pa.toList.getD (k - 1) 0)=false:=fun z=>by simpa using hk1 (k - 1) (by lia)
      dsimp only
      refine zAQ (fun hk0=>?_) (fun hk0=>?_)
      rw[zF6]
      refine zAQ (fun e=>zAD ⟨hs4,zBc hm1 AP (by lia) heb (.inl (beq_iff_eq.mp e))⟩) (fun e=>?_)
      have hk3:0 < k:=by
       have:k≠0:=fun z=>e (beq_iff_eq.mpr z)
       lia
      have hea2:k+(jb+(na - k))=pa.size:=by lia
      generalize po++(pa.extract k na).reverse=po' at hm1 ⊢
      generalize hjb:jb+(na - k)=jb' at hm1 hea2
      have hjj:jb<=jb':=by lia
      rotate_left
      obtain rfl:k=na:=by lia
      have hk3:0 < k:=hna
      have hea2:k+jb=pa.size:=hea
      replace hm1:=hm
      generalize po=po' at hm1 ⊢
      obtain⟨jb',hjb⟩:∃ z,z=jb:=⟨_,rfl⟩
      have hjj:jb<=jb':=by lia
      rw[← hjb]at hm1 hea2
      all_goals
       have hcb:=hcb hk3
       refine zAA (zAR (by lia) ?_)
       have hm2:Mi (ltR lt) pb.toList.reverse pa.toList.reverse (po'.push (pb.getD (nb - 1) 0)).toList (ja+1) jb':=by
        rw[BW,zAM,← gB (nb:=nb - 1) (ja:=ja) (by lia)]
        exact hm1.wonA AP.rev (by simp; lia) (by simp; lia) (by rw[gA (na:=k - 1) (by lia),gB (nb:=nb - 1) (by lia)]; exact hcb)
       rw[zA7]
       refine zAQ (fun e=>zAD ⟨hs4,zBm hm2 AP hea2 (by lia) (beq_iff_eq.mp e) hf⟩) (fun e=>?_)
       have hnb2:1 < nb - 1:=by
        have:nb - 1≠1:=fun z=>e (beq_iff_eq.mpr z)
        lia
       have heb2:nb - 1+(ja+1)=pb.size:=by lia
       generalize nb - 1=nb2 at hnb2 heb2 hm2 ⊢
       refine zAA (zAR (by lia) ?_)
       refine zAA (zBT hA hs4.1 (ha _ (by lia)) hb (by lia) (by lia) (fun i=>lt (pb.toList.getD (0+i) 0) (pa.toList.getD (k - 1) 0)) (fun i hi=>by rw[zAM pb,zAM pa]; rfl) (fun i j hij hj hc=>by
        rcases zGQ AP.sb (show 0+i<=0+j by lia) (by simp; lia) with z | z
        ·rw[z]; exact hc
        ·exact AP.tr z hc) ?_)
       intro k2 hk2 hk21 hk22
       have hm3:=hm2.galA AP.rev (by simp; lia) (k:=nb2 - k2) (by simp; lia) fun i hi=>by
        rw[gA (na:=k - 1) (by lia),gB (nb:=nb2 - 1 - i) (by lia)]
        have:=hk22 (nb2 - 1 - i) (by lia) (by lia)
        rw[Dm]at this
        exact this
       rw[← zFn heb2 hk2]at hm3
       have hca:0 < k2->lt (pb.toList.getD (k2 - 1) 0) (pa.toList.getD (k - 1) 0)=true:=fun z=>by simpa using hk21 (k2 - 1) (by lia)
       dsimp only
       refine zAQ (fun hk0=>?_) (fun hk0=>?_)
       rw[zF6]
       refine zAQ (fun e=>zAD ⟨hs4,zBm hm3 AP hea2 (by lia) (beq_iff_eq.mp e) hf⟩) (fun e=>?_)
       refine zAQ (fun e3=>zAD ⟨hs4,zBc hm3 AP hea2 (by lia) (.inr (beq_iff_eq.mp e3))⟩) (fun e3=>?_)
       have hk4:1 < k2:=by
        have z1:k2≠1:=fun z=>e (beq_iff_eq.mpr z)
        have z2:k2≠0:=fun z=>e3 (beq_iff_eq.mpr z)
        lia
       have heb3:k2+(ja+1+(nb2 - k2))=pb.size:=by lia
       generalize (po'.push _++(pb.extract k2 nb2).reverse)=po2 at hm3 ⊢
       generalize hjb2:ja+1+(nb2 - k2)=ja2 at hm3 heb3
       have hj2:ja+1<=ja2:=by lia
       rotate_left
       obtain rfl:k2=nb2:=by lia
       have hk4:1 < k2:=hnb2
       have heb3:k2+(ja+1)=pb.size:=heb2
       replace hm3:=hm2
       generalize (po'.push _)=po2 at hm3 ⊢
       generalize hjb2:ja+1=ja2 at hm3 heb3
       have hj2:ja+1<=ja2:=by lia
       all_goals
        refine zAA (zAR (by lia) ?_)
        have hm4:Mi (ltR lt) pb.toList.reverse pa.toList.reverse (po2.push (pa.getD (k - 1) 0)).toList ja2 (jb'+1):=by
         rw[BW,zAM,← gA (na:=k - 1) (jb:=jb') (by lia)]
         exact hm3.wonB AP.rev (by simp; lia) (by simp; lia) (by rw[gA (na:=k - 1) (by lia),gB (nb:=k2 - 1) (by lia)]; exact hca (by lia))
        rw[zA7]
        refine zAQ (fun e=>zAD ⟨hs4,zBc hm4 AP (by lia) heb3 (.inl (beq_iff_eq.mp e))⟩) (fun e=>?_)
        have e6:k - 1≠0:=fun z=>e (beq_iff_eq.mpr z)
        refine zAQ (fun _=>zAD ⟨hs4,_,_,_,rfl,hm4,by dsimp only; lia,heb3,by dsimp only; lia,hk4,by lia⟩) (fun _=>zAD ⟨hs4,rfl,_,_,_,rfl,hm4,by dsimp only; lia,heb3,by dsimp only; lia,hk4,by lia⟩)
    ·rintro ⟨o,na,nb,out,mg2,ac,bc⟩ st3 ⟨hs3,ho,po,ja,jb,_,hm,hea,heb,hna,hnb,hsz⟩
     dsimp only at hea heb hna hnb hsz
     lia
    ·rintro ⟨o,na,nb,out,mg2,ac,bc⟩ st3 ⟨hs3,hr⟩
     dsimp only at hr ⊢
     cases o with
     | some r=>exact zAD ⟨hs3,r,rfl,hr⟩
     | none =>
      dsimp only
      refine zAA (zAl ?_)
      exact zAD ⟨⟨hs3.1,hs3.2.1,hs3.2.2.1,hs3.2.2.2⟩,rfl,hr⟩
 ·rintro ⟨o,na,nb,out,mg⟩ st1 ⟨hs1,ho,po,ja,jb,_,hm,hea,heb,hna,hnb,hsz⟩
  dsimp only at hea heb hna hnb hsz
  lia
 ·rintro ⟨o,na,nb,out,mg⟩ st1 ⟨hs1,r,ho,hr⟩
  dsimp only at ho ⊢
  subst ho
  exact zAD (hq r st1 hs1 hr)
end
section
variable {α β:Type}
theorem zHn(f:β->α)(sa:Nat):∀ (xs:List β) (k:Nat) (arr:Array α),sa+k+xs.length<=arr.size ->
  ((xs.map f).zipIdx k).foldl (fun a (q:α×Nat)=>a.setIfInBounds (sa+q.2) q.1) arr=(arr.toList.take (sa+k)++xs.map f++arr.toList.drop (sa+k+xs.length)).toArray
 | [],k,arr,h=>by
  apply Cf.mp
  simp
 | x::xs,k,arr,h=>by
  simp only[Be]at h
  rw[AJ,List.zipIdx_cons,EH,zHn f sa xs (k+1) _ (by simp; lia)]
  apply Cf.mp
  simp only[Fw,Be]
  have hl:sa+k < arr.toList.length:=by simp; lia
  rw[List.drop_set_of_lt (by lia),show sa+(k+1)=sa+k+1 by lia,GB]
  rw[List.take_set_of_le (AL _)]
  have:(arr.toList.set (sa+k) (f x))[sa+k]?=some (f x):=by rw[Am hl]
  rw[this]
  simp[Gc,Ji,Nat.add_left_comm]
end
section
variable {prog:Ah}{w:Aw}{A:A4}{E:AB->AG->Prop}{s0:AG}{κ:CC}{it:Array B6}{lt:Nat->Nat->Bool}{st:Ao}{p:Array Nat}{pd:Array (Nat×Nat×Nat)}
theorem zPc{st':Ao}{Q:PUnit->Ao->Prop}(h:Q ⟨⟩ st'):wq prog w A E s0 (set st':StateT Ao Sem PUnit) Q st:=zAl (f:=fun _=>st') h
theorem zHt{p:Array Nat}(h:AscS lt p a b)(hb:b<=p.size):((p.extract a b).toList).Pairwise fun x y=>lt x y=true:=by
 refine Au.mpr fun i j hi hj hij=>?_
 have hs:(p.extract a b).toList.length<=b - a:=by simp; lia
 have e:∀ k,k < (p.extract a b).toList.length->(p.extract a b).toList[k]?=some (atA p (a+k)):=fun k hk=>by
  have:a+k < p.size:=by simp at hk; lia
  rw[zBJ,Cu (by lia),Ey,zAX,Bl,An this]; rfl
 have ei:=e i hi
 have ej:=e j hj
 rw[AR hi,Hy]at ei
 rw[AR hj,Hy]at ej
 rw[ei,ej]
 exact h _ _ (by lia) (by lia) (by lia)
theorem zBS{p:Array Nat}{a b x:Nat}(h:x∈(p.extract a b).toList):∃ i,a<=i/\i < b/\i < p.size/\x=atA p i:=by
 obtain⟨k,hk,rfl⟩:=HP h
 have h1:k < min (b - a) (p.size - a):=by simpa using hk
 refine⟨a+k,by lia,by lia,by lia,?_⟩
 rw[zAX]
 simp[An (show a+k < p.size by lia)]
theorem zBs{p:Array Nat}{a b k:Nat}(h:a+k < b)(hb:b<=p.size):(p.extract a b).toList.getD k 0=atA p (a+k):=by
 rw[← zAM,zAX,Dc,Array.getElem?_extract_of_lt (by lia),An (show a+k < p.size by lia)]
theorem zN1{st':Ao}{Q:PUnit->Ao->Prop}(h:SA κ it p pd st')(hq:∀ st2,SA κ it p pd st2->Q ⟨⟩ st2):wq prog w A E s0 (set st':StateT Ao Sem PUnit) Q st:=zPc (hq _ h)
theorem zJC{f:Ao->Ao}{p':Array Nat}{Q:PUnit->Ao->Prop}(h:SA κ it p' pd (f st))(hq:∀ st2,SA κ it p' pd st2->Q ⟨⟩ st2):wq prog w A E s0 (modify f:StateT Ao Sem PUnit) Q st:=zAl (hq _ h)
theorem zJS{i a n1 n2 pw pw2 b c:Nat}{Q:Bool->Ao->Prop}(hA:Ans prog w A s0 κ it lt)(T:Tot it.size lt)(TR:∀ {x y z},lt x y=true->lt y z=true->lt x z=true)(NO:∀ {x y},lt x y=true->lt y x=false)(h:SA κ it p pd st)(hp:Arr it.size p)(e0:pd[i]?=some (a,n1,pw))(e1:pd[i+1]?=some (b,n2,pw2))(hb:a+n1=b)(hc:b+n2=c)(hz:c<=it.size)(h1:1<=n1)(h2:1<=n2)(s1:AscS lt p a b)(s2:AscS lt p b c)
  (hq:∀ p' st',SA κ it p' ((pd.setIfInBounds i (a,n1+n2,pw)).eraseIdxIfInBounds (i+1)) st'->Arr it.size p'->AscS lt p' a c->(∀ j,j < a\/c<=j->atA p' j=atA p j)->Q true st'):wq prog w A E s0 (Km i) Q st:=by
 have lts:=fun i=>hp.atlt (show 0 < it.size by lia) i
 have hsz:=hp.size
 have s1':∀ i j,a<=i->i<=j->j < b->i=j\/lt (atA p i) (atA p j)=true:=fun i j h0 h1 h2=>by
  rcases B8 i j with z | z
  ·exact .inr (s1 i j h0 z h2)
  ·exact .inl (by lia)
 have s2':∀ i j,b<=i->i<=j->j < c->i=j\/lt (atA p i) (atA p j)=true:=fun i j h0 h1 h2=>by
  rcases B8 i j with z | z
  ·exact .inr (s2 i j h0 z h2)
  ·exact .inl (by lia)
 unfold Km
 obtain⟨k0,arr0,pd0,g0,f0⟩:=st
 obtain rfl:k0=κ:=h.1
 obtain rfl:arr0=p.map (kas_item it):=h.2.1
 obtain rfl:f0=none:=h.2.2.1
 obtain rfl:pd0=pd:=h.2.2.2
 refine zAA (zBG ?_)
 dsimp only
 rw[e0,e1]
 dsimp only
 generalize hpd:(pd0.setIfInBounds i (a,n1+n2,pw)).eraseIdxIfInBounds (i+1)=pd2 at hq ⊢
 refine zAA (zN1 (pd:=pd2) (p:=p) ⟨rfl,rfl,rfl,rfl⟩ fun st2 (hs2:SA k0 it p pd2 st2)=>?_)
 refine zAA (zAR (by lia) ?_)
 refine zAA (zBT hA hs2.1 (lts b) (fun i _=>lts i) (by lia) (by lia) (fun i=>!lt (atA p b) (atA p (a+i))) (fun i hi=>rfl) (fun i j hij hj hc=>by
  rcases s1' (a+i) (a+j) (by lia) (by lia) (by lia) with e | e
  ·rw[e]; exact hc
  ·cases hd:lt (atA p b) (atA p (a+i)) with
   | false=>rfl
   | true=>rw[TR hd e]at hc; exact hc) ?_)
 intro k hk hk1 hk2
 dsimp only
 have F1:∀ i,a<=i->i < a+k->∀ j,b<=j->j < c->lt (atA p i) (atA p j)=true:=fun i h0 hi j hj hj2=>by
  have:=hk1 (i - a) (by lia)
  rw[show a+(i - a)=i by lia]at this
  have c:=T.flip hp (show b < it.size by lia) (show i < it.size by lia) (by lia) (by simpa using this)
  rcases s2' b j (AL _) hj hj2 with e | e
  ·rw[← e]; exact c
  ·exact TR c e
 have all:k=n1->AscS lt p a c:=fun e i j h0 hij hj=>by
  by_cases hi:i < b
  ·by_cases hj1:j < b
   ·exact s1 i j h0 hij hj1
   ·exact F1 i h0 (by lia) j (by lia) hj
  ·exact s2 i j (by lia) hij hj
 refine zAQ (fun e=>zAD (hq p st2 hs2 hp (all (by have:=beq_iff_eq.mp e; lia)) fun _ _=>rfl)) (fun e=>?_)
 have hkn:k < n1:=by
  have:n1 - k≠0:=fun z=>e (beq_iff_eq.mpr z)
  lia
 obtain⟨m,hm⟩:∃ m,m=a+k:=⟨_,rfl⟩
 rw[← hm,show m+(n1 - k) - 1=b - 1 by lia]
 rw[← hm]at F1
 refine zAA (zAR (by lia) ?_)
 refine zAA (zBT hA hs2.1 (lts (b - 1)) (fun i _=>lts i) (by lia) (by lia) (fun i=>lt (atA p (b+i)) (atA p (b - 1))) (fun i hi=>rfl) (fun i j hij hj hc=>by
  rcases s2' (b+i) (b+j) (by lia) (by lia) (by lia) with e | e
  ·rw[e]; exact hc
  ·exact TR e hc) ?_)
 intro k2 hk' hk3 hk4
 dsimp only
 have cb:lt (atA p b) (atA p m)=true:=by
  have:=hk2 k (AL _) hkn
  rw[← hm]at this
  simpa using this
 have F3:∀ j,m<=j->j < b->lt (atA p b) (atA p j)=true:=fun j h1 h2=>by
  rcases s1' m j (by lia) h1 h2 with z | z
  ·rw[← z]; exact cb
  ·exact TR cb z
 refine zAQ (fun e=>?_) (fun e=>?_)
 ·exfalso
  have:=hk4 0 (by have:=beq_iff_eq.mp e; lia) (by lia)
  rw[EI,F3 (b - 1) (by lia) (by lia)]at this
  cases this
 have hk20:0 < k2:=by
  have:k2≠0:=fun z=>e (beq_iff_eq.mpr z)
  lia
 have F2:∀ i,a<=i->i < b->∀ j,b+k2<=j->j < c->lt (atA p i) (atA p j)=true:=fun i h0 hi j hj hj2=>by
  have:=hk4 (j - b) (by lia) (by lia)
  rw[show b+(j - b)=j by lia]at this
  have c:=T.flip hp (show j < it.size by lia) (show b - 1 < it.size by lia) (by lia) this
  rcases s1' i (b - 1) h0 (by lia) (by lia) with z | z
  ·rw[z]; exact c
  ·exact TR z c
 have F4:∀ i,i < k2->lt (atA p (b+i)) (atA p (b - 1))=true:=hk3
 rw[zAr,zAr]
 have za:(p.extract m b).size=b - m:=by simp; lia
 have zb:(p.extract b (b+k2)).size=k2:=by simp; lia
 have AP:Apart lt (p.extract m b).toList (p.extract b (b+k2)).toList:={
  tr:=TR
  no:=NO
  ab:=fun x hx y hy hc=>by
   obtain⟨i,a1,a2,a3,rfl⟩:=zBS hx
   obtain⟨j,b1,b2,b3,rfl⟩:=zBS hy
   exact T.flip hp (by lia) (by lia) (by lia) hc
  ba:=fun x hx y hy hc=>by
   obtain⟨i,a1,a2,a3,rfl⟩:=zBS hx
   obtain⟨j,b1,b2,b3,rfl⟩:=zBS hy
   exact T.flip hp (by lia) (by lia) (by lia) hc
  sa:=zHt (fun i j h0 hij hj=>s1 i j (by lia) hij hj) (by lia)
  sb:=zHt (fun i j h0 hij hj=>s2 i j h0 hij (by lia)) (by lia) }
 have la:∀ i,i < (p.extract m b).size->(p.extract m b).getD i 0 < it.size:=fun i hi=>by rw[zAM,zBs (by lia) (by lia)]; exact lts _
 have lb:∀ i,i < (p.extract b (b+k2)).size->(p.extract b (b+k2)).getD i 0 < it.size:=fun i hi=>by rw[zAM,zBs (by lia) (by lia)]; exact lts _
 have fin:∀ r,Good it lt (p.extract m b).toList (p.extract b (b+k2)).toList r->∃ p':Array Nat,Arr it.size p'/\AscS lt p' a c/\(∀ j,j < a\/c<=j->atA p' j=atA p j) /\
   EA (fun (a:Array B6) (q:B6×Nat)=>a.setIfInBounds (m+q.2) q.1) (p.map (kas_item it)) r.toList.zipIdx=p'.map (kas_item it):=fun r hr=>by
  obtain⟨q,rfl,hpm,hso⟩:=hr
  have hql:q.toList.length=b - m+k2:=by rw[hpm.length_eq,BQ,As,As,za,zb]
  have e3:m+q.toList.length=b+k2:=by lia
  have hw:p.toList=p.toList.take m++((p.extract m b).toList++(p.extract b (b+k2)).toList)++p.toList.drop (b+k2):=by
   rw[zBJ,zBJ,show b+k2 - b=k2 by lia]
   have c1:(p.toList.drop m).take (b - m)++(p.toList.drop b).take k2=(p.toList.drop m).take (b - m+k2):=by
    rw[JC,List.drop_drop,show m+(b - m)=b by lia]
   rw[c1]
   have c2:p.toList.take m++(p.toList.drop m).take (b - m+k2)=p.toList.take (b+k2):=by
    rw[show b+k2=m+(b - m+k2) by lia]; exact (JC ..).symm
   rw[c2,Gx]
  have lt1:(p.toList.take m).length=m:=by simp; lia
  have o1:∀ j,j < m\/b+k2<=j->atA (p.toList.take m++q.toList++p.toList.drop (b+k2)).toArray j=atA p j:=fun j hj=>by
   rw[zAX,zAX]
   congr 1
   rw[EK,← Bl]
   rcases hj with hj | hj
   ·rw[Bk,Aq (by lia),Cu hj]
   ·rw[BJ (by rw[BQ]; lia),Ey,BQ,lt1,e3,show b+k2+(j - (b+k2))=j by lia]
  have o2:∀ j,m<=j->j < b+k2->∃ h:j - m < q.toList.length,atA (p.toList.take m++q.toList++p.toList.drop (b+k2)).toArray j=q.toList[j - m]:=fun j h1 h2=>by
   refine⟨by lia,?_⟩
   rw[zAX,EK,Bk,BJ (by lia),Aq (by lia),lt1,AR (by lia)]; rfl
  have m2:∀ x∈q.toList,∃ i,m<=i/\i < b+k2/\x=atA p i:=fun x hx=>by
   rcases Ap.mp (hpm.mem_iff.mp hx) with hx | hx
   ·obtain⟨i,a1,a2,a3,rfl⟩:=zBS hx
    exact⟨i,a1,by lia,rfl⟩
   ·obtain⟨i,a1,a2,a3,rfl⟩:=zBS hx
    exact⟨i,by lia,a2,rfl⟩
  refine⟨(p.toList.take m++q.toList++p.toList.drop (b+k2)).toArray,?_,fun i j h0 hij hj=>?_,fun j hj=>o1 j (by lia),?_⟩
  ·show (_:List Nat).Perm _
   refine HB ?_ hp
   rw[HR]
   conv=>rhs; rw[hw]
   exact (hpm.append_left _).append_right _
  ·by_cases i1:i < m
   ·rw[o1 i (.inl i1)]
    by_cases j1:j < m
    ·rw[o1 j (.inl j1)]; exact s1 i j h0 hij (by lia)
    ·by_cases j2:j < b+k2
     ·obtain⟨hl,e⟩:=o2 j (by lia) j2
      obtain⟨j',b1,b2,e'⟩:=m2 _ (DL hl)
      rw[e,e']
      by_cases hj':j' < b
      ·exact s1 i j' h0 (by lia) hj'
      ·exact F1 i h0 i1 j' (by lia) (by lia)
     ·rw[o1 j (.inr (by lia))]; exact F1 i h0 i1 j (by lia) hj
   ·by_cases i2:i < b+k2
    ·obtain⟨hl,e⟩:=o2 i (by lia) i2
     rw[e]
     by_cases j2:j < b+k2
     ·obtain⟨hl',e'⟩:=o2 j (by lia) j2
      rw[e']
      exact Au.mp hso _ _ hl hl' (by lia)
     ·rw[o1 j (.inr (by lia))]
      obtain⟨i',b1,b2,e'⟩:=m2 _ (DL hl)
      rw[e']
      by_cases hi':i' < b
      ·exact F2 i' (by lia) hi' j (by lia) hj
      ·exact s2 i' j (by lia) (by lia) hj
    ·rw[o1 i (.inr (by lia)),o1 j (.inr (by lia))]; exact s2 i j (by lia) hij hj
  ·have:=zHn (kas_item it) m q.toList 0 (p.map (kas_item it)) (by rw[IU]; lia)
   rw[FJ]
   rw[this]
   apply Cf.mp
   simp only[FJ,HR,A6,EI,JB,JA,e3]
 refine zAQ (fun _=>?_) (fun _=>?_)
 ·refine zAA (zJ9 hA hs2 la lb AP (by lia) (by lia) ?_ ?_ ?_)
  ·rw[zBs (by lia) (by lia),zBs (by lia) (by lia)]; exact cb
  ·intro y hy
   obtain⟨j,b1,b2,b3,rfl⟩:=zBS hy
   rw[za,zBs (by lia) (by lia),show m+(b - m - 1)=b - 1 by lia]
   have:=F4 (j - b) (by lia)
   rwa [show b+(j - b)=j by lia]at this
  ·intro r st3 hs3 hr
   obtain⟨p',g1,g2,g4,g3⟩:=fin r hr
   refine zAA (zJC (it:=it) (κ:=k0) (p':=p') (pd:=pd2) ⟨hs3.1,?_,hs3.2.2.1,hs3.2.2.2⟩ fun st4 hs4=>?_)
   ·rw[← g3]
    show EA _ (E5 st3) _=_
    rw[hs3.2.1]
   ·refine zAA (zBG ?_)
    have e:(ET st4).isNone=true:=by rw[hs4.2.2.1]; rfl
    show wq _ _ _ _ _ (pure (ET st4).isNone) _ _
    rw[e]
    exact zAD (hq p' st4 hs4 g1 g2 g4)
 ·refine zAA (zJK hA hs2 la lb AP (by lia) (by lia) ?_ ?_ ?_)
  ·intro y hy
   obtain⟨j,b1,b2,b3,rfl⟩:=zBS hy
   rw[zBs (by lia) (by lia)]
   exact F3 j b1 b2
  ·rw[za,zb,zBs (by lia) (by lia),zBs (by lia) (by lia),show m+(b - m - 1)=b - 1 by lia]
   exact F4 (k2 - 1) (by lia)
  ·intro r st3 hs3 hr
   obtain⟨p',g1,g2,g4,g3⟩:=fin r hr
   refine zAA (zJC (it:=it) (κ:=k0) (p':=p') (pd:=pd2) ⟨hs3.1,?_,hs3.2.2.1,hs3.2.2.2⟩ fun st4 hs4=>?_)
   ·rw[← g3]
    show EA _ (E5 st3) _=_
    rw[hs3.2.1]
   ·refine zAA (zBG ?_)
    have e:(ET st4).isNone=true:=by rw[hs4.2.2.1]; rfl
    show wq _ _ _ _ _ (pure (ET st4).isNone) _ _
    rw[e]
    exact zAD (hq p' st4 hs4 g1 g2 g4)
end
section
variable {prog:Ah}{w:Aw}{A:A4}{E:AB->AG->Prop}{s0:AG}{κ:CC}{it:Array B6}{lt:Nat->Nat->Bool}{st:Ao}{p p':Array Nat}{pd:Array (Nat×Nat×Nat)}
theorem AscS.cong{a b:Nat}(h:AscS lt p a b)(e:∀ i,a<=i->i < b->atA p' i=atA p i):AscS lt p' a b:=fun i j h0 hij hj=>by rw[e i h0 (by lia),e j (by lia) hj]; exact h i j h0 hij hj
noncomputable def Stk (lt:Nat->Nat->Bool) (p:Array Nat):Nat->List (Nat×Nat×Nat)->Nat->Prop
 | a,[],c=>a=c
 | a,x::r,c=>x.1=a/\1<=x.2.1/\AscS lt p a (a+x.2.1)/\Stk lt p (a+x.2.1) r c
theorem Stk.le:∀ {l:List (Nat×Nat×Nat)} {a c:Nat},Stk lt p a l c->a+l.length<=c
 | [],_,_,h=>Dl h
 | x::r,_,_,⟨_,h1,_,h2⟩=>by have:=Stk.le h2; rw[Be]; lia
theorem Stk.cong:∀ {l:List (Nat×Nat×Nat)} {a c:Nat},Stk lt p a l c->(∀ i,a<=i->i < c->atA p' i=atA p i)->Stk lt p' a l c
 | [],_,_,h,_=>h
 | x::r,a,c,⟨h0,h1,h2,h3⟩,e=>⟨h0,h1,h2.cong fun i hi hj=>e i hi (by have:=Stk.le h3; lia),Stk.cong h3 fun i hi hj=>e i (by lia) hj⟩
theorem Stk.push{n pw:Nat}:∀ {l:List (Nat×Nat×Nat)} {a c:Nat},Stk lt p a l c->1<=n->AscS lt p c (c+n)->Stk lt p a (l++[(c,n,pw)]) (c+n)
 | [],a,c,h,h1,h2=>by cases (show a=c from h); exact⟨rfl,h1,h2,rfl⟩
 | x::r,_,_,⟨a0,a1,a2,a3⟩,h1,h2=>⟨a0,a1,a2,Stk.push a3 h1 h2⟩
theorem Stk.mod{g:Nat×Nat×Nat->Nat×Nat×Nat}(hg:∀ x,(g x).1=x.1/\(g x).2.1=x.2.1):∀ {l:List (Nat×Nat×Nat)} {k a c:Nat},Stk lt p a l c->Stk lt p a (l.modify k g) c
 | [],0,_,_,h=>by simpa using h
 | [],_+1,_,_,h=>by simpa using h
 | x::r,0,_,_,⟨a0,a1,a2,a3⟩=>by
  rw[List.modify_zero_cons]
  refine⟨(hg x).1.trans a0,?_⟩
  rw[(hg x).2]; exact⟨a1,a2,a3⟩
 | x::r,k+1,_,_,⟨a0,a1,a2,a3⟩=>by rw[List.modify_succ_cons]; exact⟨a0,a1,a2,Stk.mod hg a3⟩
theorem Stk.two:∀ {i:Nat} {l:List (Nat×Nat×Nat)} {s c:Nat},Stk lt p s l c->i+1 < l.length->∃ a n1 pw n2 pw2,l[i]?=some (a,n1,pw)/\l[i+1]?=some (a+n1,n2,pw2)/\s<=a/\1<=n1/\1<=n2/\AscS lt p a (a+n1)/\AscS lt p (a+n1) (a+n1+n2)/\a+n1+n2<=c /\
   ∀ p',AscS lt p' a (a+n1+n2)->(∀ j,j < a\/a+n1+n2<=j->atA p' j=atA p j)->Stk lt p' s ((l.set i (a,n1+n2,pw)).eraseIdx (i+1)) c
 | 0,(a,n1,pw)::(b,n2,pw2)::r,s,c,⟨h0,h1,h2,h3,h4,h5,h6⟩,hl=>by
  dsimp only at h0 h1 h2 h3 h4 h5 h6
  subst h0 h3
  exact⟨a,n1,pw,n2,pw2,rfl,rfl,AL _,h1,h4,h2,h5,by have:=Stk.le h6; lia,fun p' hp he=>⟨rfl,by dsimp only; lia,by dsimp only; rw[← Gc]; exact hp,by
   dsimp only
   rw[← Gc]
   exact Stk.cong h6 fun i hi _=>he i (.inr hi)⟩⟩
 | 0,[],_,_,_,hl=>absurd hl (by simp)
 | 0,[x],_,_,_,hl=>absurd hl (by simp)
 | i+1,[],_,_,_,hl=>absurd hl (by simp)
 | i+1,x::r,s,c,⟨h0,h1,h2,h3⟩,hl=>by
  obtain⟨a,n1,pw,n2,pw2,a1,a2,a3,a4,a5,a6,a7,a8,a9⟩:=Stk.two (i:=i) h3 (by simpa using hl)
  exact⟨a,n1,pw,n2,pw2,a1,a2,by lia,a4,a5,a6,a7,a8,fun p' hp he=>⟨h0,h1,h2.cong fun j _ hj=>he j (.inl (by lia)),a9 p' hp he⟩⟩
def Rws (κ:CC) (it:Array B6) (lt:Nat->Nat->Bool) (c:Nat) (p:Array Nat) (pd:Array (Nat×Nat×Nat)) (st:Ao):Prop:=SA κ it p pd st/\Arr it.size p/\Stk lt p 0 pd.toList c
theorem zF3{i c:Nat}{Q:Bool->Ao->Prop}(hA:Ans prog w A s0 κ it lt)(T:Tot it.size lt)(TR:∀ {x y z},lt x y=true->lt y z=true->lt x z=true)(NO:∀ {x y},lt x y=true->lt y x=false)(h:Rws κ it lt c p pd st)(hc:c<=it.size)(hi:i+1 < pd.size)
  (hq:∀ p' pd' st',Rws κ it lt c p' pd' st'->pd'.size+1=pd.size->(∀ j,c<=j->atA p' j=atA p j)->Q true st'):wq prog w A E s0 (Km i) Q st:=by
 obtain⟨hs,hp,hk⟩:=h
 obtain⟨a,n1,pw,n2,pw2,e0,e1,_,h1,h2,s1,s2,hz,nx⟩:=hk.two (i:=i) (by simpa using hi)
 rw[Bl]at e0 e1
 refine zJS hA T TR NO hs hp e0 e1 rfl rfl (by lia) h1 h2 s1 s2 fun p' st' g1 g2 g3 g4=>hq p' _ st' ⟨g1,g2,?_⟩ ?_ fun j hj=>g4 j (.inr (by lia))
 ·have:=nx p' g3 g4
  simpa [Fw] using this
 ·simp[Array.eraseIdxIfInBounds,hi]
  lia
theorem zIH{Q:Unit->Ao->Prop}(hA:Ans prog w A s0 κ it lt)(T:Tot it.size lt)(TR:∀ {x y z},lt x y=true->lt y z=true->lt x z=true)(NO:∀ {x y},lt x y=true->lt y x=false)(h:SA κ it p #[] st)(hp:Arr it.size p)(h1:1<=it.size)
  (hq:∀ p' (st':Ao),E5 st'=p'.map (kas_item it)->ET st'=none->Arr it.size p'->AscS lt p' 0 it.size->Q () st'):wq prog w A E s0 sortRuns' Q st:=by
 rw[sortRuns'_eq]
 refine zAA (zBG ?_)
 dsimp only
 have hsz:(E5 st).size=it.size:=by rw[h.2.1,IU,hp.size]
 rw[hsz]
 generalize minRun' it.size it.size 0=mr
 refine zAA (zAa (zAW (I:=fun x c st'=>c.1=none/\c.2<=it.size/\(x<=c.2\/c.2=it.size)/\∃ p' pd',Rws κ it lt c.2 p' pd' st') (Q:=fun c st'=>c.1=none/\∃ p' pd',Rws κ it lt it.size p' pd' st') ?step ?fin ⟨rfl,A9 _,.inl (AL _),p,#[],h,hp,show Stk lt p 0 [] 0 from rfl⟩) ?post)
 case fin =>
  rintro ⟨o,c⟩ st' ⟨ho,hc1,hc2,hD⟩
  dsimp only at ho hc1 hc2 hD
  have:c=it.size:=by lia
  rw[this]at hD
  exact⟨ho,hD⟩
 case step =>
  rintro x ⟨o,c⟩ st' _ hx ⟨ho,hc1,hc2,p1,pd1,hs,hp1,hk⟩
  dsimp only at ho hc1 hc2 hs hk ⊢
  subst ho
  by_cases hce:it.size<=c
  ·rw[if_pos hce]
   have:c=it.size:=by lia
   subst this
   exact zAD ⟨rfl,p1,pd1,hs,hp1,hk⟩
  rw[if_neg hce]
  refine zAA (zMW hA T hs hp1 (by lia) (by lia) ?_)
  intro m p2 st2 hs2 hp2 hm1 hm2 ha2 hb2
  dsimp only
  have hk2:Stk lt p2 0 pd1.toList c:=hk.cong fun i _ hi=>hb2 i hi
  by_cases hlt:m < mr
  case' pos =>
   rw[if_pos hlt]
   refine zAA (zCC ?_)
   generalize hn:min (it.size - c) mr=n
   refine zAA (zLw hA T hs2 hp2 (by lia) hm1 (by lia) ha2 ?_)
   intro p3 st3 hs3 hp3 ha3 hb3
   simp only[Ew,Ar,if_false]
   have hn1:1<=n:=by lia
   have hn2:c+n<=it.size:=by lia
   have hk3:Stk lt p3 0 pd1.toList c:=hk2.cong fun i _ hi=>hb3 i hi
  case' neg =>
   rw[if_neg hlt]
   obtain⟨n,hn⟩:∃ n,n=m:=⟨_,rfl⟩
   rw[← hn]at ha2 hm1 hm2 ⊢
   have hn2:c+n<=it.size:=by lia
   have hn1:=hm1
   have hk3:=hk2
   have hs3:=hs2
   have hp3:=hp2
   have ha3:=ha2
   clear hm1 hm2
  all_goals
   refine zAA (zBG ?_)
   rw[show Dd _=pd1 from hs3.2.2.2]
   rcases hbk:pd1.back? with _ | ⟨s1,n1,pw0⟩
   ·dsimp only
    refine zAA (zAl (zAD ⟨rfl,hn2,.inl (by dsimp only; lia),_,pd1.push (c,n,0),⟨hs3.1,hs3.2.1,hs3.2.2.1,?_⟩,hp3,?_⟩))
    ·show (Dd _).push _=_
     rw[show Dd _=pd1 from hs3.2.2.2]
    ·rw[BW]; exact hk3.push hn1 ha3
   ·dsimp only
    generalize power' it.size _ _ it.size=pw
    refine zAA (zAa (zAW (I:=fun x e st''=>e=(none,())/\∃ p4 pd4,Rws κ it lt c p4 pd4 st''/\AscS lt p4 c (c+n)) (Q:=fun e st''=>e=(none,())/\∃ p4 pd4,Rws κ it lt c p4 pd4 st''/\AscS lt p4 c (c+n)) ?_ (fun _ _ z=>z) ⟨rfl,_,pd1,⟨hs3,hp3,hk3⟩,ha3⟩) ?_)
    ·rintro x e st'' _ _ ⟨rfl,p4,pd4,hr4,ha4⟩
     refine zAA (zBG ?_)
     rw[show Dd _=pd4 from hr4.1.2.2.2]
     by_cases hz:pd4.size > 1
     ·rw[if_pos hz]
      rcases he:pd4[pd4.size - 2]? with _ | ⟨y1,y2,y3⟩
      ·exact zAD ⟨rfl,p4,pd4,hr4,ha4⟩
      ·dsimp only
       refine zAQ (fun _=>zAD ⟨rfl,p4,pd4,hr4,ha4⟩) fun _=>?_
       refine zAA (zF3 hA T TR NO hr4 (by lia) (by lia) fun p5 pd5 st5 hr5 _ g5=>?_)
       exact zAD ⟨rfl,p5,pd5,hr5,ha4.cong fun i hi _=>g5 i hi⟩
     ·rw[if_neg hz]
      exact zAD ⟨rfl,p4,pd4,hr4,ha4⟩
    ·rintro e st'' ⟨rfl,p4,pd4,⟨hs4,hp4,hk4⟩,ha4⟩
     dsimp only
     refine zAA (zAl (zAA (zAl (zAD ⟨rfl,hn2,.inl (by dsimp only; lia),p4,(pd4.modify (pd4.size - 1) fun x=>(x.1,x.2.1,pw)).push (c,n,0),⟨hs4.1,hs4.2.1,hs4.2.2.1,?_⟩,hp4,?_⟩))))
     ·show ((Dd st'').modify ((Dd st'').size - 1) fun x=>(x.fst,x.2.fst,pw)).push _=_
      rw[show Dd _=pd4 from hs4.2.2.2]
     ·rw[BW,Array.toList_modify]
      exact (hk4.mod (g:=fun x=>(x.1,x.2.1,pw)) fun x=>⟨rfl,rfl⟩).push hn1 ha4
 case post =>
  rintro ⟨o,c⟩ st' ⟨ho,p1,pd1,hr⟩
  dsimp only at ho ⊢
  subst ho
  dsimp only
  refine zAA (zAa (zAW (I:=fun x c st''=>c=(none,())/\∃ p' pd',Rws κ it lt it.size p' pd' st''/\pd'.size+x<=it.size)
   (Q:=fun c st''=>c=(none,())/\∃ p' pd',Rws κ it lt it.size p' pd' st''/\pd'.size<=1) ?_ ?_ ⟨rfl,p1,pd1,hr,?_⟩) ?_)
  ·rintro x c st'' _ hx ⟨rfl,p2,pd2,hr2,hl2⟩
   refine zAA (zBG ?_)
   rw[show Dd _=pd2 from hr2.1.2.2.2]
   refine zAQ (fun hz=>zAD ⟨rfl,p2,pd2,hr2,hz⟩) fun hz=>?_
   refine zAA (zF3 hA T TR NO hr2 (AL _) (by split <;> split <;> lia) fun p3 pd3 st3 hr3 hl3 _=>?_)
   exact zAD ⟨rfl,p3,pd3,hr3,by lia⟩
  ·rintro c st'' ⟨rfl,p2,pd2,hr2,hl2⟩
   exact⟨rfl,p2,pd2,hr2,by lia⟩
  ·have:=hr.2.2.le
   simp at this ⊢
   lia
  ·rintro c st'' ⟨rfl,p2,pd2,⟨hs2,hp2,hk2⟩,hl2⟩
   refine zAD (hq p2 _ hs2.2.1 hs2.2.2.1 hp2 ?_)
   have hl3:pd2.toList.length<=1:=by simpa using hl2
   match hpd:pd2.toList,hl3 with
   | [],_=>rw[hpd]at hk2; have:0=it.size:=hk2; lia
   | [x],_ =>
    rw[hpd]at hk2
    obtain⟨a0,a1,a2,a3⟩:=hk2
    have e:0+x.2.1=it.size:=a3
    rw[e]at a2; exact a2
end
theorem zOG{n:Nat}{lt:Nat->Nat->Bool}(T:Tot n lt){p q:Array Nat}(hp:Arr n p)(hq:Arr n q)(ap:AscS lt p 0 n)(aq:Asc lt q n):p=q:=by
 apply Cf.mp
 have lp:=hp.size
 have lq:=hq.size
 have pp:p.toList.Pairwise fun x y=>lt x y=true:=by
  refine Au.mpr fun i j hi hj hij=>?_
  have:=ap i j (A9 _) hij (by simpa [lp] using hj)
  rw[zAX,zAX,An (by simpa using hi),An (by simpa using hj)]at this
  simpa using this
 have pq:q.toList.Pairwise fun x y=>lt x y=true:=by
  refine Au.mpr fun i j hi hj hij=>?_
  have:=aq i j hij (by simpa [lq] using hj)
  rw[zAX,zAX,An (by simpa using hi),An (by simpa using hj)]at this
  simpa using this
 refine LR (le:=fun x y=>lt x y=true) (fun a b ha hb h1 h2=>?_) pp pq (HB hp (LS hq))
 have la:a < n:=BU.mp (hp.subset ha)
 have lb:b < n:=BU.mp (hq.subset hb)
 rw[T.asy a b la lb h1]at h2
 cases h2
theorem zKo{n:Nat}{lt:Nat->Nat->Bool}(h2:n < 1000)(T:Tot n lt)(TR:∀ {x y z},lt x y=true->lt y z=true->lt x z=true)(NO:∀ {x y},lt x y=true->lt y x=false):Cn n lt:=⟨by lia,fun h1 prog w A E s κ vs hl hlt=>by
 have hz:(vs.toArray.zip vs.toArray).size=n:=by simp[hl]
 have hA:Ans prog w A s κ (vs.toArray.zip vs.toArray) lt:=fun i j hi hj C tk hC=>by
  have:=hlt i j (by lia) (by lia) C tk hC
  rwa [kat_ask_eq (vs:=vs) rfl]at this
 have h0:Arr n (C7 (AC n)):=by show (C7 (AC n)).toList.Perm _; simp
 have hst:SA κ (vs.toArray.zip vs.toArray) (C7 (AC n)) #[] (G9 κ (vs.toArray.zip vs.toArray) #[] 7 none):=⟨rfl,by
  show vs.toArray.zip vs.toArray=_
  rw[← hz]; exact (kas_range _).symm,rfl,rfl⟩
 rw[← hz]at h0 T h1 h2
 have run:=zIH (E:=E) (Q:=fun _ st'=>∃ p:Array Nat,p.size=n/\E5 st'=p.map (kas_item (vs.toArray.zip vs.toArray))/\ET st'=none/\p=runT lt (kas_sort n)) hA T TR NO (by rw[hz]; exact hst) h0 (by lia) (fun p' st' e1 e2 hp ha=>by
  have hr:Arr (vs.toArray.zip vs.toArray).size (runT lt (kas_sort (vs.toArray.zip vs.toArray).size)):=(zBi (n:=(vs.toArray.zip vs.toArray).size) (by lia)).run lt
  refine⟨p',by rw[hp.size,hz],e1,e2,?_⟩
  rw[← hz]
  exact zOG T hp hr ha (zH5 T (by lia))) s.toks
 refine BE run (fun r s' h=>?_) fun _ _ e=>e
 obtain⟨⟨tk,rfl⟩,p,a1,a2,a3,a4⟩:=h
 exact⟨p,a1,a2,a3,a4,tk,rfl⟩⟩
end L2
namespace D
open PySem L2 PyProof.Rows
theorem zFZ:∀ l:List Int,HT.lexLt l l=false
 | []=>HT.lexLt_nil_nil
 | x::l=>by rw[HT.lexLt_cons,if_pos rfl]; exact zFZ l
theorem zDK:∀ {a b c:List Int},HT.lexLt a b=true->HT.lexLt b c=true->HT.lexLt a c=true
 | [],[],_,h,_=>by rw[HT.lexLt_nil_nil]at h; cases h
 | [],_::_,[],_,h=>by rw[HT.lexLt_cons_nil]at h; cases h
 | [],_::_,_::_,_,_=>HT.lexLt_nil_cons ..
 | _::_,[],_,h,_=>by rw[HT.lexLt_cons_nil]at h; cases h
 | _::_,_::_,[],_,h=>by rw[HT.lexLt_cons_nil]at h; cases h
 | x::a,y::b,z::c,h1,h2=>by
  rw[HT.lexLt_cons]at h1 h2 ⊢
  split at h1
  ·rename_i e; subst e
   split at h2
   ·rename_i e; subst e
    rw[if_pos rfl]; exact zDK h1 h2
   ·rename_i e; rw[if_neg e]; exact h2
  ·rename_i e1
   have l1:x < y:=of_decide_eq_true h1
   split at h2
   ·rename_i e; subst e
    rw[if_neg e1]; exact h1
   ·have l2:y < z:=of_decide_eq_true h2
    rw[if_neg (by lia)]
    exact decide_eq_true (by lia)
theorem zHI{a b:List Int}(h:HT.lexLt a b=true):HT.lexLt b a=false:=by
 cases e:HT.lexLt b a with
 | false=>rfl
 | true=>have:=zDK h e; rw[zFZ]at this; cases this
theorem zE9:∀ {a b:List Int},a≠b->HT.lexLt a b=false->HT.lexLt b a=true
 | [],[],h,_=>absurd rfl h
 | [],_::_,_,h=>by rw[HT.lexLt_nil_cons]at h; cases h
 | _::_,[],_,_=>HT.lexLt_nil_cons ..
 | x::a,y::b,h,h1=>by
  rw[HT.lexLt_cons]at h1 ⊢
  split at h1
  ·rename_i e; subst e
   rw[if_pos rfl]
   exact zE9 (fun z=>h (by rw[z])) h1
  ·rename_i e
   have:¬ x < y:=of_decide_eq_false h1
   rw[if_neg (fun z=>e z.symm)]
   exact decide_eq_true (by lia)
theorem zOw{nss:List (List Int)}(h:nss.Nodup):Tot nss.length (ltI nss) where
 tot:=fun i j hi hj hij e=>by
  refine zE9 (fun z=>?_) e
  simp only[AK,AR hi,AR hj,BV]at z
  have pw:=Au.mp h
  rcases Hz hij with q | q
  ·exact pw i j hi hj q z
  ·exact pw j i hj hi q z.symm
 asy:=fun i j _ _ e=>zHI e
 tr:=fun i j k _ _ _ e1 e2=>zDK e1 e2
theorem zLz{a b:List Int×Int}(h:ltP a b=true):ltP b a=false:=by
 unfold ltP at h ⊢
 split at h
 ·rename_i e
  rw[if_pos e.symm]
  have:a.2 < b.2:=of_decide_eq_true h
  exact decide_eq_false (by lia)
 ·rename_i e
  rw[if_neg fun z=>e z.symm]
  exact zHI h
theorem zKd{a b c:List Int×Int}(h1:ltP a b=true)(h2:ltP b c=true):ltP a c=true:=by
 unfold ltP at h1 h2 ⊢
 split at h1
 ·rename_i e
  rw[e]
  split at h2
  ·rename_i e2
   have:a.2 < b.2:=of_decide_eq_true h1
   have:b.2 < c.2:=of_decide_eq_true h2
   rw[if_pos e2]
   exact decide_eq_true (by lia)
  ·rename_i e2
   rw[if_neg e2]
   exact h2
 ·rename_i e
  split at h2
  ·rename_i e2
   rw[← e2,if_neg e]; exact h1
  ·have h3:=zDK h1 h2
   rw[if_neg fun z=>by rw[z,zFZ]at h3; cases h3]
   exact h3
theorem zOz{ps:List (List Int×Int)}(h:ps.Nodup):Tot ps.length (ltQ ps) where
 tot:=fun i j hi hj hij e=>by
  have ne:ps.getD i ([],0)≠ps.getD j ([],0):=fun z=>by
   simp only[AK,AR hi,AR hj,BV]at z
   have pw:=Au.mp h
   rcases Hz hij with q | q
   ·exact pw i j hi hj q z
   ·exact pw j i hj hi q z.symm
  unfold ltQ ltP at e ⊢
  split at e
  ·rename_i q
   rw[if_pos q.symm]
   have:¬ (ps.getD i ([],0)).2 < (ps.getD j ([],0)).2:=of_decide_eq_false e
   have:(ps.getD i ([],0)).2≠(ps.getD j ([],0)).2:=fun z=>ne (E7 q z)
   exact decide_eq_true (by lia)
  ·rename_i q
   rw[if_neg fun z=>q z.symm]
   exact zE9 q e
 asy:=fun i j _ _ e=>zLz e
 tr:=fun i j k _ _ _ e1 e2=>zKd e1 e2
noncomputable def srtV (ts:List T):Option (List T):=match asTIs ts with
 | some nss=>if nss.length < 1000/\nss.Nodup then some (sortBy (ltI nss) (.a .non) ts) else none
 | none=>match asTQs ts with
  | some ps=>if ps.length < 1000/\ps.Nodup then some (sortBy (ltQ ps) (.a .non) ts) else none
  | none=>none
theorem zIU{ts ys:List T}(h:srtV ts=some ys):∃ lt,Srt ts lt/\Cn ts.length lt/\ys=sortBy lt (.a .non) ts:=by
 unfold srtV at h
 split at h
 ·rename_i nss e
  split at h
  ·rename_i hl
   cases h
   have:=zGh e
   refine⟨_,.inl ⟨nss,this,rfl⟩,?_,rfl⟩
   rw[this,Ak]
   exact zKo hl.1 (zOw hl.2) zDK zHI
  ·cases h
 ·split at h
  ·rename_i ps e
   split at h
   ·rename_i hl
    cases h
    have:=zHG e
    refine⟨_,.inr ⟨ps,this,rfl⟩,?_,rfl⟩
    rw[this,Ak]
    exact zKo hl.1 (zOz hl.2) zKd zLz
   ·cases h
  ·cases h
noncomputable def sortTV:En->List S->Option S:=fun Γ as=>match as with
 | [a]=>(sqlOf Γ a).bind fun ts=>(srtV ts).map .l
 | _=>none
theorem zHu{K:Fg}:SimRs K (rSortT K) sortTV:=by
 intro C w Γ σ H vs as s Q R o e k
 unfold sortTV at e
 split at e
 ·obtain⟨ts,e1,e⟩:=bind_some e
  obtain⟨ys,e2,rfl⟩:=map_some e
  obtain⟨v,rfl,o1⟩:=soks1 o
  obtain⟨p,us,rfl,h1,i1⟩:=zBH R o1 e1
  obtain⟨lt,hs,hl,rfl⟩:=zIU e2
  exact⟨p,us,ts,lt,rfl,h1,i1,hs,hl,fun l hl'=>k _ _ (R.new hl') (Evo.new hl') (R.newl hl' (zH9 i1 lt)) ⟨l,rfl,hl'⟩⟩
 ·cases e
noncomputable def sortDV:En->List S->Option S:=fun Γ as=>match as with
 | [a]=>(dictOf Γ a).bind fun d=>match d with
  | .inr kvs=>(srtV (keysT kvs)).map .l
  | .inl _=>none
 | _=>none
theorem zGu{K:Fg}:SimRs K (rSortD K) sortDV:=by
 intro C w Γ σ H vs as s Q R o e k
 unfold sortDV at e
 split at e
 ·obtain⟨d,e1,e⟩:=bind_some e
  split at e
  ·rename_i kvs
   obtain⟨ys,e2,rfl⟩:=map_some e
   obtain⟨v,rfl,o1⟩:=soks1 o
   obtain⟨p,ob,rfl,hp,hd⟩:=zDi R o1 e1
   obtain⟨l,rfl,h1⟩:=hd.invT
   obtain⟨lt,hs,hl,rfl⟩:=zIU e2
   have hkk:=zNz h1
   refine⟨p,l,lt,rfl,.inl hp,by rw[hkk]; exact hs,?_,fun l' us hl' hu=>?_⟩
   ·have:=congrArg DR hkk
    rw[Ak]at this
    rw[this]; exact hl
   ·rw[hkk]at hu
    exact k _ _ (R.new hl') (Evo.new hl') (R.newl hl' (zH9 hu lt)) ⟨l',rfl,hl'⟩
  ·cases e
 ·cases e
section
variable {ι:Type}{K:Fg}{X:ι->Cx}{mg:Str->Option AB}{k:Nat}{Γ:En}
theorem zLN(M:Fm K mg k X):CalR K X (.builtin "sorted") sortTV:=⟨_,fun j=>by have:=zJe (X:=X j) (M.room j); rw[M.K j]at this; exact this,zHu⟩
theorem zL4(M:Fm K mg k X):CalR K X (.builtin "sorted") sortDV:=⟨_,fun j=>by have:=zJ3 (X:=X j) (M.room j); rw[M.K j]at this; exact this,zGu⟩
@[simp] theorem zRa{a:S}:sortDV Γ [a]=(dictOf Γ a).bind fun d=>match d with
  | .inr kvs=>(srtV (keysT kvs)).map .l
  | .inl _=>none:=(rfl)
@[simp] theorem zRY{a:S}:sortTV Γ [a]=(sqlOf Γ a).bind fun ts=>(srtV ts).map .l:=(rfl)
end
end D
namespace Lw
open PySem.W (mg_of mg_none_of nsIn fnOf)
open PyProof.Rows (boot_isinstance boot_list boot_max boot_min boot_repr boot_sorted boot_tuple)
open PySem L2 D
def top (i:Nat):Stmt:=PySem.Challenge.pw_fivecups_k68_whole_sums_of_changed_dance.main.body.getD i (.Pass ⟨0,0,0,0⟩)
section
variable {P:Ah}{wd:Aw}{K:AU}{mg:Str->Option AB}{base:Heap}
local macro_rules | `(tactic| walk_at "s") => `(tactic| exact ⟨rfl,rfl,rfl,by decide +kernel,rfl,by decide +kernel,by decide +kernel⟩)
abbrev st_0:Stmt:=top 28
theorem sc_0:FnScope ["_law_script","_law_k","_law_cell","_law_seed"] ["_law_script","_law_k"] (defScope st_0):=by walk_at "s"
noncomputable def d_0:DS:=dSeq (dSet 2 (dOp addS (dOp mulS (dC (.int 7919)) (jV 1)) (dC (.int 11))))
 (dSeq (dIf (dTest (dOp ltS (jV 1) (dCB lenS (jW (jV 0) qQ)))) (dSet 2 (dOp ixS (jV 0) (jV 1))) (dIf (dTest (dOp gtS (dCB lenS (jW (jV 0) qQ)) (dC (.int 0)))) (dSet 2 (dOp addS (jV 2) (dOp mulS (dOp modS (dOp ixS (jV 0) (dOp modS (jV 1) (dCB lenS (jW (jV 0) qQ)))) (dC (.int 2147483629))) (dC (.int 69623))))) dNext))
 (dSeq (dSet 3 (dOp addS (dOp modS (dOp addS (dOp mulS (dOp modS (jV 2) (dC (.int 2147483629))) (dC (.int 48271))) (dOp mulS (dC (.int 40692)) (jV 1))) (dC (.int 2147483629))) (dC (.int 1))))
 (dRet (dLst (jW (dOp ixS (dLst (jW (dC (.int 0)) (jW (jV 2) qQ))) (dCB intS (jW (dOp geS (jV 2) (dOp powS (dC (.int 10)) (dC (.int 18)))) qQ))) (jW (jV 3) qQ))))))
noncomputable def F_0:DF:=fnD none 2 4 d_0
theorem ok_0{f:Addr}{fd:Ai}(Fn:Fun K "_law_box" "_law_box" st_0 f fd)(hm:mg "_law_box"=some (.ref f))(hb:Binds K fd ["_law_script","_law_k"] [])(z_int:mg "int"=none)(z_len:mg "len"=none):FD P wd K mg base (1) "_law_box" none 2 F_0 :=
 zAO (k:=0) Fn sc_0 hm hb fun cdv A outer s H E M B=>zAB (zAI 2 (zAY M (zAk jJ (jZ 1)) jJ) (hN:=fun _=>sc_0.nd))
 (zAB (zAb (tx_c zKD (jZ 1) (zAf M (zA2 M) z_len Bm (jQ (jZ 0) jY))) (zAF (zAI 2 (zAC M (jZ 0) (jZ 1)) (hN:=fun _=>sc_0.nd))) (zAF (zAb (tx_c zDV (zAf M (zA2 M) z_len Bm (jQ (jZ 0) jY)) jJ) (zAF (zAI 2 (zAY M (jZ 2) (zAk (zAx (zAC M (jZ 0) (zAx (jZ 1) (zAf M (zA2 M) z_len Bm (jQ (jZ 0) jY)))) jJ) jJ)) (hN:=fun _=>sc_0.nd))) zAU)))
 (zAB (zAI 3 (zAY M (zAx (zAY M (zAk (zAx (jZ 2) jJ) jJ) (zAk jJ (jZ 1))) jJ) jJ) (hN:=fun _=>sc_0.nd))
 (zAF (zAJ (zA3 (jQ (zAC M (zA3 (jQ jJ (jQ (jZ 2) jY))) (zAg M (zG9) z_int (by decide +kernel) (jQ (ex_c zQp (jZ 2) (zPT jJ jJ)) jY))) (jQ (jZ 3) jY)))))))
abbrev st_1:Stmt:=top 29
theorem sc_1:FnScope ["_law_box_here","_law_wide","_law_digit","_law_one"] ["_law_box_here","_law_wide"] (defScope st_1):=by walk_at "s"
noncomputable def d_1:DS:=dSeq (dIf (dTest (dOp gtS (dOp ixS (jV 0) (dC (.int 0))) (dC (.int 0)))) (dSeq (dSet 2 (dOp modS (dOp ixS (jV 0) (dC (.int 0))) (jV 1)))
 (dSeq (dSetIx 0 (dOp fdivS (dOp ixS (jV 0) (dC (.int 0))) (jV 1)) (dC (.int 0)))
 (dRet (jV 2)))) dNext)
 (dSeq (dSet 3 (dOp modS (dOp mulS (dOp ixS (jV 0) (dC (.int 1))) (dC (.int 69623))) (dC (.int 2147483647))))
 (dSeq (dSetIx 0 (dOp addS (dOp modS (dOp addS (dOp mulS (jV 3) (dC (.int 48271))) (dC (.int 30103))) (dC (.int 2147483629))) (dC (.int 1))) (dC (.int 1)))
 (dRet (dOp modS (dOp fdivS (dOp addS (dOp mulS (jV 3) (dC (.int 2147483647))) (dOp ixS (jV 0) (dC (.int 1)))) (dC (.int 8191))) (jV 1)))))
noncomputable def F_1:DF:=fnD (some 0) 2 4 d_1
theorem ok_1{f:Addr}{fd:Ai}(Fn:Fun K "_law_take" "_law_take" st_1 f fd)(hm:mg "_law_take"=some (.ref f))(hb:Binds K fd ["_law_box_here","_law_wide"] []) :FD P wd K mg base (1) "_law_take" (some 0) 2 F_1 :=
 zAO (k:=0) Fn sc_1 hm hb fun cdv A outer s H E M B=>zAB (zAb (tx_c zDV (zAC M (jZ 0) jJ) jJ) (zAB (zAI 2 (zAx (zAC M (jZ 0) jJ) (jZ 1)) (hN:=fun _=>sc_1.nd))
 (zAB (zHC 0 (zIe (zAC M (jZ 0) jJ) (jZ 1)) (pv' 0) jJ)
 (zAF (zAJ (jZ 2))))) zAU)
 (zAB (zAI 3 (zAx (zAk (zAC M (jZ 0) jJ) jJ) jJ) (hN:=fun _=>sc_1.nd))
 (zAB (zHC 0 (zAY M (zAx (zAY M (zAk (jZ 3) jJ) jJ) jJ) jJ) (pv' 0) jJ)
 (zAF (zAJ (zAx (zIe (zAY M (zAk (jZ 3) jJ) (zAC M (jZ 0) jJ)) jJ) (jZ 1))))))
noncomputable def zEl:DT:=dTest (dOp gtS (dCB lenS (jW (jV 2) qQ)) (dC (.int 0)))
noncomputable def zHf:DS:=dSet 3 (dOp addS (jV 3) (dTup (jW (dMut 2 hPopAt (jW (dCall (some 0) F_1 [] (jW (jV 0) (jW (dCB lenS (jW (jV 2) qQ)) qQ))) qQ)) qQ)))
abbrev st_2:Stmt:=top 30
theorem sc_2:FnScope ["_law_box_here","_law_cups","_law_left","_law_found"] ["_law_box_here","_law_cups"] (defScope st_2):=by walk_at "s"
noncomputable def d_2:DS:=dSeq (dSet 2 (dListRng (jW (jV 1) qQ)))
 (dSeq (dSet 3 (dTup qQ))
 (dSeq (dWhile (zEl) (zHf) fuelX)
 (dRet (jV 3))))
noncomputable def F_2:DF:=fnD (some 0) 2 4 d_2
theorem ok_2{f:Addr}{fd:Ai}(Fn:Fun K "_law_turning" "_law_turning" st_2 f fd)(hm:mg "_law_turning"=some (.ref f))(hb:Binds K fd ["_law_box_here","_law_cups"] [])(z_len:mg "len"=none)(z_list:mg "list"=none)(z_range:mg "range"=none)(D_1:FD P wd K mg base (1) "_law_take" (some 0) 2 F_1):FD P wd K mg base (2) "_law_turning" (some 0) 2 F_2 :=
 zAO (k:=1) Fn sc_2 hm hb fun cdv A outer s H E M B=>zAB (zAI 2 (zJc M z_list z_range (jQ (jZ 1) jY)) (hN:=fun _=>sc_2.nd))
 (zAB (zAI 3 (zAL jY) (hN:=fun _=>sc_2.nd))
 (zAB (zM8 fuelX (fun _=>BZ) (tx_c zDV (zAf M (zA2 M) z_len Bm (jQ (jZ 2) jY)) jJ) (zAF (zAI 3 (zAY M (jZ 3) (zAL (jQ (zCj M GV GW (fun _=>zMT) zL6 (pv' 2) (jQ (zAE M B D_1 (jQ (jZ 0) (jQ (zAf M (zA2 M) z_len Bm (jQ (jZ 2) jY)) jY))) jY)) jY))) (hN:=fun _=>sc_2.nd))))
 (zAF (zAJ (jZ 3)))))
abbrev st_3:Stmt:=top 33
theorem sc_3:FnScope ["_law_box_here","_law_cups","_law_questions","_law_form","_law_q","_law_yes","_law_no"] ["_law_box_here","_law_cups","_law_questions"] (defScope st_3):=by walk_at "s"
noncomputable def d_3:DS:=dSeq (dSet 3 (dCall (some 0) F_1 [] (jW (jV 0) (jW (dC (.int 8)) qQ))))
 (dSeq (dPar3 4 5 6 (jW (dCall (some 0) F_1 [] (jW (jV 0) (jW (jV 2) qQ))) (jW (dCall (some 0) F_2 [] (jW (jV 0) (jW (jV 1) qQ))) (jW (dCall (some 0) F_2 [] (jW (jV 0) (jW (jV 1) qQ))) qQ))))
 (dSeq (dIf (dTest (dOp ltS (jV 3) (dC (.int 2)))) (dSet 6 (jV 5)) dNext)
 (dSeq (dIf (dTest (dOp eqS (jV 3) (dC (.int 2)))) (dSet 6 (dTupRng (jW (jV 1) qQ))) dNext)
 (dSeq (dIf (dTest (dOp eqS (jV 3) (dC (.int 3)))) (dSet 5 (dTupRng (jW (jV 1) qQ))) dNext)
 (dRet (dTup (jW (jV 4) (jW (jV 5) (jW (jV 6) qQ)))))))))
noncomputable def F_3:DF:=fnD (some 0) 3 7 d_3
theorem ok_3{f:Addr}{fd:Ai}(Fn:Fun K "_law_step" "_law_step" st_3 f fd)(hm:mg "_law_step"=some (.ref f))(hb:Binds K fd ["_law_box_here","_law_cups","_law_questions"] [])(z_range:mg "range"=none)(z_tuple:mg "tuple"=none)(D_1:FD P wd K mg base (1) "_law_take" (some 0) 2 F_1)(D_2:FD P wd K mg base (2) "_law_turning" (some 0) 2 F_2):FD P wd K mg base (3) "_law_step" (some 0) 3 F_3 :=
 zAO (k:=2) Fn sc_3 hm hb fun cdv A outer s H E M B=>zAB (zAI 3 (zAE M B D_1 (jQ (jZ 0) (jQ jJ jY))) (hN:=fun _=>sc_3.nd))
 (zAB (zO0 4 5 6 M (jQ (zAE M B D_1 (jQ (jZ 0) (jQ (jZ 2) jY))) (jQ (zAE M B D_2 (jQ (jZ 0) (jQ (jZ 1) jY))) (jQ (zAE M B D_2 (jQ (jZ 0) (jQ (jZ 1) jY))) jY))) (hN:=fun _=>sc_3.nd))
 (zAB (zAb (tx_c zKD (jZ 3) jJ) (zAF (zAI 6 (jZ 5) (hN:=fun _=>sc_3.nd))) zAU)
 (zAB (zAb (tx_c (zA1 M) (jZ 3) jJ) (zAF (zAI 6 (zCR M z_tuple z_range (jQ (jZ 1) jY)) (hN:=fun _=>sc_3.nd))) zAU)
 (zAB (zAb (tx_c (zA1 M) (jZ 3) jJ) (zAF (zAI 5 (zCR M z_tuple z_range (jQ (jZ 1) jY)) (hN:=fun _=>sc_3.nd))) zAU)
 (zAF (zAJ (zAL (jQ (jZ 4) (jQ (jZ 5) (jQ (jZ 6) jY))))))))))
noncomputable def zHv:DE:=dIndex (jV 1) (jW (jV 0) qQ)
abbrev st_4:Stmt:=top 32
theorem sc_4:FnScope ["_law_turning_here"] ["_law_turning_here"] (defScope st_4):=by walk_at "s"
noncomputable def d_4:DS:=dRet (dCB tupleS (jW (dComp none [none,some 0] (dRng1 (jW (dCB lenS (jW (jV 0) qQ)) qQ)) (gdName 0) dYes (zHv)) qQ))
noncomputable def F_4:DF:=fnD none 1 1 d_4
theorem ok_4{f:Addr}{fd:Ai}(Fn:Fun K "_law_back" "_law_back" st_4 f fd)(hm:mg "_law_back"=some (.ref f))(hb:Binds K fd ["_law_turning_here"] [])(z_len:mg "len"=none)(z_range:mg "range"=none)(z_tuple:mg "tuple"=none):FD P wd K mg base (1) "_law_back" none 1 F_4 :=
 zAO (k:=0) Fn sc_4 hm hb fun cdv A outer s H E M B=>zAF (zAJ (zAg M (zAV M) z_tuple Bg (jQ (zAy none (N':=["_law_place","_law_turning_here"]) (ix:=[none,some 0]) M (fun _=>⟨rfl,by kernel_rfl⟩) (zBj M z_range (jQ (zAf M (zA2 M) z_len Bm (jQ (jZ 0) jY)) jY)) (zAH 0 (hN:=fun _=>(by show (["_law_place","_law_turning_here"]:List Str).Nodup; decide +kernel))) zAs (zHg M.comp (jZ 1) (jQ (jZ 0) jY)) (hix:=hix0)) jY)))
noncomputable def zBu:DS:=dSeq (dSet 6 (dCall (some 0) F_3 [] (jW (jV 0) (jW (jV 1) (jW (jV 2) qQ)))))
 (dSeq (dSet 7 (dCall (some 0) F_1 [] (jW (jV 0) (jW (dC (.int 6)) qQ))))
 (dSeq (dIf (dAnd (dTest (dOp ltS (jV 7) (dC (.int 2)))) (dTest (dOp gtS (dCB lenS (jW (jV 4) qQ)) (dC (.int 0))))) (dSet 6 (dOp addS (dTup (jW (dOp ixS (dOp ixS (jV 4) (dUn negS (dC (.int 1)))) (dC (.int 0))) qQ)) (dSl (jV 6) (dPart (dC (.int 1))) dNoPart))) dNext)
 (dSeq (dIf (dAnd (dTest (dOp eqS (jV 7) (dC (.int 2)))) (dTest (dOp gtS (dCB lenS (jW (jV 4) qQ)) (dC (.int 0))))) (dSeq (dUnp (gdTup 3 (gdCons (gdName 8) (gdCons (gdName 9) (gdCons (gdName 10) gdNil)))) (dOp ixS (jV 4) (dUn negS (dC (.int 1)))))
 (dSet 6 (dTup (jW (jV 8) (jW (dCall none F_4 [] (jW (jV 9) qQ)) (jW (dCall none F_4 [] (jW (jV 10) qQ)) qQ)))))) dNext)
 (dDrop (dMut 4 hAppend (jW (jV 6) qQ))))))
abbrev st_5:Stmt:=top 34
theorem sc_5:FnScope ["_law_box_here","_law_cups","_law_questions","_law_most","_law_steps","_law_k","_law_step_here","_law_form","_law_q","_law_yes","_law_no"] ["_law_box_here","_law_cups","_law_questions","_law_most"] (defScope st_5):=by walk_at "s"
noncomputable def d_5:DS:=dSeq (dSet 4 (dLst qQ))
 (dSeq (dFor (some 0) (dRng1 (jW (dCall (some 0) F_1 [] (jW (jV 0) (jW (dOp addS (jV 3) (dC (.int 1))) qQ))) qQ)) (gdName 5) (zBu))
 (dRet (dTup (jW (jV 1) (jW (jV 2) (jW (dCB tupleS (jW (jV 4) qQ)) qQ))))))
noncomputable def F_5:DF:=fnD (some 0) 4 11 d_5
theorem ok_5{f:Addr}{fd:Ai}(Fn:Fun K "_law_dance" "_law_dance" st_5 f fd)(hm:mg "_law_dance"=some (.ref f))(hb:Binds K fd ["_law_box_here","_law_cups","_law_questions","_law_most"] [])(z_len:mg "len"=none)(z_range:mg "range"=none)(z_tuple:mg "tuple"=none)(D_1:FD P wd K mg base (1) "_law_take" (some 0) 2 F_1)(D_3:FD P wd K mg base (3) "_law_step" (some 0) 3 F_3)(D_4:FD P wd K mg base (1) "_law_back" none 1 F_4):FD P wd K mg base (4) "_law_dance" (some 0) 4 F_5 :=
 zAO (k:=3) Fn sc_5 hm hb fun cdv A outer s H E M B=>zAB (zAI 4 (zA3 jY) (hN:=fun _=>sc_5.nd))
 (zAB (zA8 M (fun _=>BZ) (zBj M z_range (jQ (zAE M B D_1 (jQ (jZ 0) (jQ (zAY M (jZ 3) jJ) jY))) jY)) (zAH 5 (hN:=fun _=>sc_5.nd)) (zAB (zAI 6 (zAE M B D_3 (jQ (jZ 0) (jQ (jZ 1) (jQ (jZ 2) jY)))) (hN:=fun _=>sc_5.nd))
 (zAB (zAI 7 (zAE M B D_1 (jQ (jZ 0) (jQ jJ jY))) (hN:=fun _=>sc_5.nd))
 (zAB (zAb (tx_w (zEg (tx_c zKD (jZ 7) jJ) (zDd (tx_c zDV (zAf M (zA2 M) z_len Bm (jQ (jZ 4) jY)) jJ)))) (zAF (zAI 6 (zAY M (zAL (jQ (zAC M (zAC M (jZ 4) (zHL jJ)) jJ) jY)) (zGV M (jZ 6) (zDa jJ) zDo)) (hN:=fun _=>sc_5.nd))) zAU)
 (zAB (zAb (tx_w (zEg (tx_c (zA1 M) (jZ 7) jJ) (zDd (tx_c zDV (zAf M (zA2 M) z_len Bm (jQ (jZ 4) jY)) jJ)))) (zAB (zGx (zAC M (jZ 4) (zHL jJ)) (zBa 3 M (zAP (zAH 8 (hN:=fun _=>sc_5.nd)) (zAP (zAH 9 (hN:=fun _=>sc_5.nd)) (zAP (zAH 10 (hN:=fun _=>sc_5.nd)) zBD)))))
 (zAF (zAI 6 (zAL (jQ (jZ 8) (jQ (zAE M B D_4 (jQ (jZ 9) jY)) (jQ (zAE M B D_4 (jQ (jZ 10) jY)) jY)))) (hN:=fun _=>sc_5.nd)))) zAU)
 (zAF (zCX (zCj M Cp Cq (fun _=>zCN) zB6 (pv' 4) (jQ (jZ 6) jY)))))))))
 (zAF (zAJ (zAL (jQ (jZ 1) (jQ (jZ 2) (jQ (zAg M (zAV M) z_tuple Bg (jQ (jZ 4) jY)) jY)))))))
noncomputable def zEX:DE:=dTup (jW (jV 0) (jW (dOp (getS []) (jV 1) (jV 0)) qQ))
noncomputable def zEm:DT:=dTest (dOp neS (dOp (getS []) (jV 1) (jV 0)) (dC (.int 0)))
noncomputable def zDF:DS:=dDPut [] 1 (dOp ixS (jV 2) (dC (.int 0))) (dOp modS (dOp addS (dDGet2 [] (jV 1) (dOp ixS (jV 2) (dC (.int 0))) (dC (.int 0))) (dOp ixS (jV 2) (dC (.int 1)))) (dC (.int 3)))
abbrev st_6:Stmt:=top 2
theorem sc_6:FnScope ["pairs","numbers","pair"] ["pairs"] (defScope st_6):=by walk_at "s"
noncomputable def d_6:DS:=dSeq (dSet 1 (dDNew true))
 (dSeq (dFor none (dSeqI (jV 0)) (gdName 2) (zDF))
 (dRet (dCB tupleS (jW (dComp none [none,some 1] (dSeqI (dCB sortDV (jW (jV 1) qQ))) (gdName 0) (zEm) (zEX)) qQ))))
noncomputable def F_6:DF:=fnD none 1 3 d_6
theorem ok_6{f:Addr}{fd:Ai}(Fn:Fun K "marks_of" "marks_of" st_6 f fd)(hm:mg "marks_of"=some (.ref f))(hb:Binds K fd ["pairs"] [])(z_KC:KC K [])(z_sorted:mg "sorted"=none)(z_tuple:mg "tuple"=none):FD P wd K mg base (1) "marks_of" none 1 F_6 :=
 zAO (k:=0) Fn sc_6 hm hb fun cdv A outer s H E M B=>zAB (zAI 1 (zHa) (hN:=fun _=>sc_6.nd))
 (zAB (zA8 M (fun _=>BZ) (zAS M (jZ 0)) (zAH 2 (hN:=fun _=>sc_6.nd)) (zAF (zIa 1 M z_KC (pv' 1) (zAC M (jZ 2) jJ) (zAx (zAY M (zHq M z_KC (jZ 1) (zAC M (jZ 2) jJ) jJ) (zAC M (jZ 2) jJ)) jJ))))
 (zAF (zAJ (zAg M (zAV M) z_tuple Bg (jQ (zAy none (N':=["asked","numbers"]) (ix:=[none,some 1]) M (fun _=>⟨rfl,by kernel_rfl⟩) (zAS M (zAf M (zL4 M) z_sorted GY (jQ (jZ 1) jY))) (zAH 0 (hN:=fun _=>(by show (["asked","numbers"]:List Str).Nodup; decide +kernel))) (zCf (tx_c (zA5 M.comp) (zI6 M.comp z_KC (jZ 1) (jZ 0)) jJ)) (zAL (jQ (jZ 0) (jQ (zI6 M.comp z_KC (jZ 1) (jZ 0)) jY))) (hix:=hix0)) jY)))))
noncomputable def zG6:DE:=jV 0
noncomputable def zHz:DT:=dTest (dOp neS (jV 0) (jV 1))
abbrev st_7:Stmt:=top 1
theorem sc_7:FnScope ["asked","q"] ["asked","q"] (defScope st_7):=by walk_at "s"
noncomputable def d_7:DS:=dSeq (dIf (dTest (dOp (inS false) (jV 1) (jV 0))) (dRet (dCB tupleS (jW (dComp none [none,some 1] (dSeqI (jV 0)) (gdName 0) (zHz) (zG6)) qQ))) dNext)
 (dRet (dCB tupleS (jW (dCB sortedS (jW (dOp addS (jV 0) (dTup (jW (jV 1) qQ))) qQ)) qQ)))
noncomputable def F_7:DF:=fnD none 2 2 d_7
theorem ok_7{f:Addr}{fd:Ai}(Fn:Fun K "flipped" "flipped" st_7 f fd)(hm:mg "flipped"=some (.ref f))(hb:Binds K fd ["asked","q"] [])(z_sorted:mg "sorted"=none)(z_tuple:mg "tuple"=none):FD P wd K mg base (1) "flipped" none 2 F_7 :=
 zAO (k:=0) Fn sc_7 hm hb fun cdv A outer s H E M B=>zAB (zAb (tx_c (zGT M) (jZ 1) (jZ 0)) (zAF (zAJ (zAg M (zAV M) z_tuple Bg (jQ (zAy none (N':=["other","q"]) (ix:=[none,some 1]) M (fun _=>⟨rfl,by kernel_rfl⟩) (zAS M (jZ 0)) (zAH 0 (hN:=fun _=>(by show (["other","q"]:List Str).Nodup; decide +kernel))) (zCf (tx_c (zA5 M.comp) (jZ 0) (jZ 1))) (jZ 0) (hix:=hix0)) jY)))) zAU)
 (zAF (zAJ (zAg M (zAV M) z_tuple Bg (jQ (zAf M (zFk M) z_sorted GY (jQ (zAY M (jZ 0) (zAL (jQ (jZ 1) jY))) jY)) jY))))
abbrev st_8:Stmt:=top 3
theorem sc_8:FnScope ["step","begin","flips","yes","no","times"] ["step","begin","flips"] (defScope st_8):=by walk_at "s"
noncomputable def d_8:DS:=dSeq (dSet 3 (dOp ixS (dOp ixS (jV 0) (dC (.int 1))) (dC (.int 0))))
 (dSeq (dSet 4 (dOp ixS (dOp ixS (jV 0) (dC (.int 2))) (dC (.int 0))))
 (dSeq (dSet 5 (dOp mulS (dC (.int 2)) (dOp addS (dC (.int 1)) (jV 1))))
 (dRet (dLst (jW (dTup (jW (jV 2) (jW (dOp mulS (jV 5) (dOp addS (jV 4) (jV 3))) qQ))) (jW (dTup (jW (dCall none F_7 [] (jW (jV 2) (jW (dOp ixS (jV 0) (dC (.int 0))) qQ))) (jW (dOp mulS (jV 5) (dOp subS (jV 4) (jV 3))) qQ))) qQ))))))
noncomputable def F_8:DF:=fnD none 3 6 d_8
theorem ok_8{f:Addr}{fd:Ai}(Fn:Fun K "pairs_of_step" "pairs_of_step" st_8 f fd)(hm:mg "pairs_of_step"=some (.ref f))(hb:Binds K fd ["step","begin","flips"] [])(D_7:FD P wd K mg base (1) "flipped" none 2 F_7):FD P wd K mg base (2) "pairs_of_step" none 3 F_8 :=
 zAO (k:=1) Fn sc_8 hm hb fun cdv A outer s H E M B=>zAB (zAI 3 (zAC M (zAC M (jZ 0) jJ) jJ) (hN:=fun _=>sc_8.nd))
 (zAB (zAI 4 (zAC M (zAC M (jZ 0) jJ) jJ) (hN:=fun _=>sc_8.nd))
 (zAB (zAI 5 (zAk jJ (zAY M jJ (jZ 1))) (hN:=fun _=>sc_8.nd))
 (zAF (zAJ (zA3 (jQ (zAL (jQ (jZ 2) (jQ (zAk (jZ 5) (zAY M (jZ 4) (jZ 3))) jY))) (jQ (zAL (jQ (zAE M B D_7 (jQ (jZ 2) (jQ (zAC M (jZ 0) jJ) jY))) (jQ (zAk (jZ 5) (zEp (jZ 4) (jZ 3))) jY))) jY)))))))
abbrev st_9:Stmt:=top 4
theorem sc_9:FnScope ["turning"] ["turning"] (defScope st_9):=by walk_at "s"
noncomputable def d_9:DS:=dRet (dOp modS (dOp subS (dOp ixS (jV 0) (dC (.int 1))) (dOp ixS (jV 0) (dC (.int 0)))) (dC (.int 3)))
noncomputable def F_9:DF:=fnD none 1 1 d_9
theorem ok_9{f:Addr}{fd:Ai}(Fn:Fun K "e_of" "e_of" st_9 f fd)(hm:mg "e_of"=some (.ref f))(hb:Binds K fd ["turning"] []) :FD P wd K mg base (1) "e_of" none 1 F_9 :=
 zAO (k:=0) Fn sc_9 hm hb fun cdv A outer s H E M B=>zAF (zAJ (zAx (zEp (zAC M (jZ 0) jJ) (zAC M (jZ 0) jJ)) jJ))
noncomputable def zBM:DS:=dSeq (dDrop (dMut 3 hExtend (jW (dCall none F_8 [] (jW (jV 4) (jW (jV 1) (jW (jV 2) qQ)))) qQ)))
 (dSeq (dIf (dTest (dOp eqS (dCall none F_9 [] (jW (dOp ixS (jV 4) (dC (.int 2))) qQ)) (dC (.int 2)))) (dSet 1 (dOp subS (dC (.int 1)) (jV 1))) dNext)
 (dIf (dTest (dOp neS (dCall none F_9 [] (jW (dOp ixS (jV 4) (dC (.int 1))) qQ)) (dCall none F_9 [] (jW (dOp ixS (jV 4) (dC (.int 2))) qQ)))) (dSet 2 (dCall none F_7 [] (jW (jV 2) (jW (dOp ixS (jV 4) (dC (.int 0))) qQ)))) dNext))
abbrev zJ6:Stmt:=top 5
theorem zCv:FnScope ["dance","begin","flips","pairs","step"] ["dance"] (defScope zJ6):=by walk_at "s"
noncomputable def d_10:DS:=dSeq (dSet 1 (dC (.int 0)))
 (dSeq (dSet 2 (dTup qQ))
 (dSeq (dSet 3 (dLst qQ))
 (dSeq (dFor none (dRev (jW (dOp ixS (jV 0) (dC (.int 2))) qQ)) (gdName 4) (zBM))
 (dRet (dTup (jW (jV 1) (jW (jV 2) (jW (dCall none F_6 [] (jW (jV 3) qQ)) qQ))))))))
noncomputable def F_10:DF:=fnD none 1 5 d_10
theorem zRJ{f:Addr}{fd:Ai}(Fn:Fun K "sums_of" "sums_of" zJ6 f fd)(hm:mg "sums_of"=some (.ref f))(hb:Binds K fd ["dance"] [])(z_reversed:mg "reversed"=none)(D_6:FD P wd K mg base (1) "marks_of" none 1 F_6)(D_7:FD P wd K mg base (1) "flipped" none 2 F_7)(D_8:FD P wd K mg base (2) "pairs_of_step" none 3 F_8)(D_9:FD P wd K mg base (1) "e_of" none 1 F_9):FD P wd K mg base (3) "sums_of" none 1 F_10 :=
 zAO (k:=2) Fn zCv hm hb fun cdv A outer s H E M B=>zAB (zAI 1 jJ (hN:=fun _=>zCv.nd))
 (zAB (zAI 2 (zAL jY) (hN:=fun _=>zCv.nd))
 (zAB (zAI 3 (zA3 jY) (hN:=fun _=>zCv.nd))
 (zAB (zA8 M (fun _=>BZ) (zLg M z_reversed (jQ (zAC M (jZ 0) jJ) jY)) (zAH 4 (hN:=fun _=>zCv.nd)) (zAB (zCX (zCj M PySem.F.slot_list_extend PySem.F.type_list_extend (fun _=>zLL) zJm (pv' 3) (jQ (zAE M B D_8 (jQ (jZ 4) (jQ (jZ 1) (jQ (jZ 2) jY)))) jY)))
 (zAB (zAb (tx_c (zA1 M) (zAE M B D_9 (jQ (zAC M (jZ 4) jJ) jY)) jJ) (zAF (zAI 1 (zEp jJ (jZ 1)) (hN:=fun _=>zCv.nd))) zAU)
 (zAF (zAb (tx_c (zA5 M) (zAE M B D_9 (jQ (zAC M (jZ 4) jJ) jY)) (zAE M B D_9 (jQ (zAC M (jZ 4) jJ) jY))) (zAF (zAI 2 (zAE M B D_7 (jQ (jZ 2) (jQ (zAC M (jZ 4) jJ) jY))) (hN:=fun _=>zCv.nd))) zAU)))))
 (zAF (zAJ (zAL (jQ (jZ 1) (jQ (jZ 2) (jQ (zAE M B D_6 (jQ (jZ 3) jY)) jY)))))))))
abbrev zJf:Stmt:=top 10
theorem zRB:FnScope ["cups"] ["cups"] (defScope zJf):=by walk_at "s"
noncomputable def d_11:DS:=dRet (dTupRng (jW (jV 0) qQ))
noncomputable def F_11:DF:=fnD none 1 1 d_11
theorem zQu{f:Addr}{fd:Ai}(Fn:Fun K "still" "still" zJf f fd)(hm:mg "still"=some (.ref f))(hb:Binds K fd ["cups"] [])(z_range:mg "range"=none)(z_tuple:mg "tuple"=none):FD P wd K mg base (1) "still" none 1 F_11 :=
 zAO (k:=0) Fn zRB hm hb fun cdv A outer s H E M B=>zAF (zAJ (zCR M z_tuple z_range (jQ (jZ 0) jY)))
noncomputable def zFN:DE:=dOp ixS (jV 1) (jV 0)
abbrev zJu:Stmt:=top 11
theorem zRE:FnScope ["one","other"] ["one","other"] (defScope zJu):=by walk_at "s"
noncomputable def d_12:DS:=dRet (dCB tupleS (jW (dComp none [none,some 1] (dSeqI (jV 0)) (gdName 0) dYes (zFN)) qQ))
noncomputable def F_12:DF:=fnD none 2 2 d_12
theorem zRM{f:Addr}{fd:Ai}(Fn:Fun K "then" "then" zJu f fd)(hm:mg "then"=some (.ref f))(hb:Binds K fd ["one","other"] [])(z_tuple:mg "tuple"=none):FD P wd K mg base (1) "then" none 2 F_12 :=
 zAO (k:=0) Fn zRE hm hb fun cdv A outer s H E M B=>zAF (zAJ (zAg M (zAV M) z_tuple Bg (jQ (zAy none (N':=["place","other"]) (ix:=[none,some 1]) M (fun _=>⟨rfl,by kernel_rfl⟩) (zAS M (jZ 0)) (zAH 0 (hN:=fun _=>(by show (["place","other"]:List Str).Nodup; decide +kernel))) zAs (zAC M.comp (jZ 1) (jZ 0)) (hix:=hix0)) jY)))
abbrev zJb:Stmt:=top 20
theorem zQe:FnScope ["one","other"] ["one","other"] (defScope zJb):=by walk_at "s"
noncomputable def d_13:DS:=dRet (dTup (jW (dOp ixS (jV 0) (dC (.int 0))) (jW (dCall none F_12 [] (jW (dOp ixS (jV 0) (dC (.int 1))) (jW (dOp ixS (jV 1) (dC (.int 1))) qQ))) (jW (dCall none F_12 [] (jW (dOp ixS (jV 0) (dC (.int 2))) (jW (dOp ixS (jV 1) (dC (.int 2))) qQ))) qQ))))
noncomputable def F_13:DF:=fnD none 2 2 d_13
theorem zQl{f:Addr}{fd:Ai}(Fn:Fun K "together" "together" zJb f fd)(hm:mg "together"=some (.ref f))(hb:Binds K fd ["one","other"] [])(D_12:FD P wd K mg base (1) "then" none 2 F_12):FD P wd K mg base (2) "together" none 2 F_13 :=
 zAO (k:=1) Fn zQe hm hb fun cdv A outer s H E M B=>zAF (zAJ (zAL (jQ (zAC M (jZ 0) jJ) (jQ (zAE M B D_12 (jQ (zAC M (jZ 0) jJ) (jQ (zAC M (jZ 1) jJ) jY))) (jQ (zAE M B D_12 (jQ (zAC M (jZ 0) jJ) (jQ (zAC M (jZ 1) jJ) jY))) jY)))))
noncomputable def zCU:DS:=dSeq (dSet 4 (dIfE (dAnd (dTru (jV 2)) (dTest (dOp eqS (dOp ixS (dOp ixS (jV 2) (dUn negS (dC (.int 1)))) (dC (.int 0))) (dOp ixS (jV 3) (dC (.int 0)))))) (dCall none F_13 [] (jW (dMut 2 hPop qQ) (jW (jV 3) qQ))) (jV 3)))
 (dIf (dTest (dOp neS (dSl (jV 4) (dPart (dC (.int 1))) dNoPart) (jV 1))) (dDrop (dMut 2 hAppend (jW (jV 4) qQ))) dNext)
abbrev zJ2:Stmt:=top 21
theorem zEd:FnScope ["dance","nothing","kept","step","new"] ["dance"] (defScope zJ2):=by walk_at "s"
noncomputable def d_14:DS:=dSeq (dSet 1 (dTup (jW (dCall none F_11 [] (jW (dOp ixS (jV 0) (dC (.int 0))) qQ)) (jW (dCall none F_11 [] (jW (dOp ixS (jV 0) (dC (.int 0))) qQ)) qQ))))
 (dSeq (dSet 2 (dLst qQ))
 (dSeq (dFor none (dSeqI (dOp ixS (jV 0) (dC (.int 2)))) (gdName 3) (zCU))
 (dRet (dTup (jW (dOp ixS (jV 0) (dC (.int 0))) (jW (dOp ixS (jV 0) (dC (.int 1))) (jW (dCB tupleS (jW (jV 2) qQ)) qQ)))))))
noncomputable def F_14:DF:=fnD none 1 5 d_14
theorem zQ6{f:Addr}{fd:Ai}(Fn:Fun K "cut" "cut" zJ2 f fd)(hm:mg "cut"=some (.ref f))(hb:Binds K fd ["dance"] [])(z_tuple:mg "tuple"=none)(D_11:FD P wd K mg base (1) "still" none 1 F_11)(D_13:FD P wd K mg base (2) "together" none 2 F_13):FD P wd K mg base (3) "cut" none 1 F_14 :=
 zAO (k:=2) Fn zEd hm hb fun cdv A outer s H E M B=>zAB (zAI 1 (zAL (jQ (zAE M B D_11 (jQ (zAC M (jZ 0) jJ) jY)) (jQ (zAE M B D_11 (jQ (zAC M (jZ 0) jJ) jY)) jY))) (hN:=fun _=>zEd.nd))
 (zAB (zAI 2 (zA3 jY) (hN:=fun _=>zEd.nd))
 (zAB (zA8 M (fun _=>BZ) (zAS M (zAC M (jZ 0) jJ)) (zAH 3 (hN:=fun _=>zEd.nd)) (zAB (zAI 4 (zE1 (tx_w (zEg (tx_v M (jZ 2)) (zDd (tx_c (zA1 M) (zAC M (zAC M (jZ 2) (zHL jJ)) jJ) (zAC M (jZ 3) jJ))))) (zAE M B D_13 (jQ (zOV M GV GW (fun _=>zPs) zOc (pv' 2)) (jQ (jZ 3) jY))) (jZ 3)) (hN:=fun _=>zEd.nd))
 (zAF (zAb (tx_c (zA5 M) (zGV M (jZ 4) (zDa jJ) zDo) (jZ 1)) (zAF (zCX (zCj M Cp Cq (fun _=>zCN) zB6 (pv' 2) (jQ (jZ 4) jY)))) zAU))))
 (zAF (zAJ (zAL (jQ (zAC M (jZ 0) jJ) (jQ (zAC M (jZ 0) jJ) (jQ (zAg M (zAV M) z_tuple Bg (jQ (jZ 2) jY)) jY))))))))
abbrev zJ1:Stmt:=top 24
theorem zQU:FnScope ["asked","q","answer"] ["asked","q","answer"] (defScope zJ1):=by walk_at "s"
noncomputable def d_15:DS:=dRet (dIfE (dAnd (dTest (dOp eqS (jV 2) (dC (.int 1)))) (dTest (dOp (inS false) (jV 1) (jV 0)))) (dC (.int 2)) (dC (.int 1)))
noncomputable def F_15:DF:=fnD none 3 3 d_15
theorem zRK{f:Addr}{fd:Ai}(Fn:Fun K "sign_of_one" "sign_of_one" zJ1 f fd)(hm:mg "sign_of_one"=some (.ref f))(hb:Binds K fd ["asked","q","answer"] []) :FD P wd K mg base (1) "sign_of_one" none 3 F_15 :=
 zAO (k:=0) Fn zQU hm hb fun cdv A outer s H E M B=>zAF (zAJ (zE1 (tx_w (zEg (tx_c (zA1 M) (jZ 2) jJ) (zDd (tx_c (zGT M) (jZ 1) (jZ 0))))) jJ jJ))
noncomputable def zDu:DE:=jV 0
noncomputable def zDg:DT:=dTest (dOp neS (jV 0) (jV 1))
abbrev zJh:Stmt:=top 23
theorem zQ8:FnScope ["asked","q"] ["asked","q"] (defScope zJh):=by walk_at "s"
noncomputable def d_16:DS:=dRet (dCB tupleS (jW (dComp none [none,some 1] (dSeqI (jV 0)) (gdName 0) (zDg) (zDu)) qQ))
noncomputable def F_16:DF:=fnD none 2 2 d_16
theorem zQj{f:Addr}{fd:Ai}(Fn:Fun K "without" "without" zJh f fd)(hm:mg "without"=some (.ref f))(hb:Binds K fd ["asked","q"] [])(z_tuple:mg "tuple"=none):FD P wd K mg base (1) "without" none 2 F_16 :=
 zAO (k:=0) Fn zQ8 hm hb fun cdv A outer s H E M B=>zAF (zAJ (zAg M (zAV M) z_tuple Bg (jQ (zAy none (N':=["other","q"]) (ix:=[none,some 1]) M (fun _=>⟨rfl,by kernel_rfl⟩) (zAS M (jZ 0)) (zAH 0 (hN:=fun _=>(by show (["other","q"]:List Str).Nodup; decide +kernel))) (zCf (tx_c (zA5 M.comp) (jZ 0) (jZ 1))) (jZ 0) (hix:=hix0)) jY)))
noncomputable def zDc:DE:=dTup (jW (dCall none F_16 [] (jW (dOp ixS (jV 0) (dC (.int 0))) (jW (jV 1) qQ))) (jW (dOp mulS (dOp ixS (jV 0) (dC (.int 1))) (dCall none F_15 [] (jW (dOp ixS (jV 0) (dC (.int 0))) (jW (jV 1) (jW (jV 2) qQ))))) qQ))
abbrev zKQ:Stmt:=top 25
theorem zGX:FnScope ["sums","q","answer","turned","begin","pairs"] ["sums","q","answer"] (defScope zKQ):=by walk_at "s"
noncomputable def d_17:DS:=dSeq (dSet 3 (dOp eqS (dCall none F_15 [] (jW (dOp ixS (jV 0) (dC (.int 1))) (jW (jV 1) (jW (jV 2) qQ)))) (dC (.int 2))))
 (dSeq (dSet 4 (dIfE (dTru (jV 3)) (dOp subS (dC (.int 1)) (dOp ixS (jV 0) (dC (.int 0)))) (dOp ixS (jV 0) (dC (.int 0)))))
 (dSeq (dSet 5 (dComp none [none,some 1,some 2] (dSeqI (dOp ixS (jV 0) (dC (.int 2)))) (gdName 0) dYes (zDc)))
 (dRet (dTup (jW (jV 4) (jW (dCall none F_16 [] (jW (dOp ixS (jV 0) (dC (.int 1))) (jW (jV 1) qQ))) (jW (dCall none F_6 [] (jW (jV 5) qQ)) qQ)))))))
noncomputable def F_17:DF:=fnD none 3 6 d_17
theorem zQq{f:Addr}{fd:Ai}(Fn:Fun K "answered_sums" "answered_sums" zKQ f fd)(hm:mg "answered_sums"=some (.ref f))(hb:Binds K fd ["sums","q","answer"] [])(D_6:FD P wd K mg base (1) "marks_of" none 1 F_6)(D_15:FD P wd K mg base (1) "sign_of_one" none 3 F_15)(D_16:FD P wd K mg base (1) "without" none 2 F_16):FD P wd K mg base (2) "answered_sums" none 3 F_17 :=
 zAO (k:=1) Fn zGX hm hb fun cdv A outer s H E M B=>zAB (zAI 3 (ex_c (zA1 M) (zAE M B D_15 (jQ (zAC M (jZ 0) jJ) (jQ (jZ 1) (jQ (jZ 2) jY)))) jJ) (hN:=fun _=>zGX.nd))
 (zAB (zAI 4 (zE1 (tx_v M (jZ 3)) (zEp jJ (zAC M (jZ 0) jJ)) (zAC M (jZ 0) jJ)) (hN:=fun _=>zGX.nd))
 (zAB (zBB 5 none (N':=["mark","q","answer"]) (ix:=[none,some 1,some 2]) M (fun _=>⟨rfl,by kernel_rfl⟩) (zAS M (zAC M (jZ 0) jJ)) (zAH 0 (hN:=fun _=>(by show (["mark","q","answer"]:List Str).Nodup; decide +kernel))) zAs (zAL (jQ (zAE M.comp B.comp D_16 (jQ (zAC M.comp (jZ 0) jJ) (jQ (jZ 1) jY))) (jQ (zAk (zAC M.comp (jZ 0) jJ) (zAE M.comp B.comp D_15 (jQ (zAC M.comp (jZ 0) jJ) (jQ (jZ 1) (jQ (jZ 2) jY))))) jY))) (hix:=hix0) (hN:=fun _=>zGX.nd))
 (zAF (zAJ (zAL (jQ (jZ 4) (jQ (zAE M B D_16 (jQ (zAC M (jZ 0) jJ) (jQ (jZ 1) jY))) (jQ (zAE M B D_6 (jQ (jZ 5) jY)) jY))))))))
noncomputable def zFQ:DE:=dCall none F_17 [] (jW (jV 0) (jW (jV 1) (jW (jV 2) qQ)))
noncomputable def zFG:DE:=dCall none F_17 [] (jW (jV 0) (jW (jV 1) (jW (dC (.int 0)) qQ)))
noncomputable def zB9:DS:=dSeq (dSet 5 (dComp none [none,some 4] (dSeqI (jV 2)) (gdName 0) dYes (zFG)))
 (dSeq (dSet 6 (dIfE (dTest (dOp neS (dOp ixS (jV 5) (dC (.int 0))) (dOp ixS (jV 5) (dC (.int 1))))) (dC (.int 0)) (dC (.int 1))))
 (dSeq (dSet 2 (dComp none [none,some 4,some 6] (dSeqI (jV 2)) (gdName 0) dYes (zFQ)))
 (dDrop (dMut 3 hAppend (jW (jV 6) qQ)))))
abbrev zJU:Stmt:=top 26
theorem zCp:FnScope ["one","other","both","answers","q","by_no","answer"] ["one","other"] (defScope zJU):=by walk_at "s"
noncomputable def d_18:DS:=dSeq (dIf (dTest (dOp neS (dOp ixS (jV 0) (dC (.int 1))) (dOp ixS (jV 1) (dC (.int 1))))) (dNever) dNext)
 (dSeq (dSet 2 (dLst (jW (dCall none F_10 [] (jW (jV 0) qQ)) (jW (dCall none F_10 [] (jW (jV 1) qQ)) qQ))))
 (dSeq (dIf (dTest (dOp eqS (dOp ixS (jV 2) (dC (.int 0))) (dOp ixS (jV 2) (dC (.int 1))))) (dRet (dC .non)) dNext)
 (dSeq (dSet 3 (dLst qQ))
 (dSeq (dFor none (dRng1 (jW (dOp ixS (jV 0) (dC (.int 1))) qQ)) (gdName 4) (zB9))
 (dRet (dCB tupleS (jW (jV 3) qQ)))))))
noncomputable def F_18:DF:=fnD none 2 7 d_18
theorem zQg{f:Addr}{fd:Ai}(Fn:Fun K "parted" "parted" zJU f fd)(hm:mg "parted"=some (.ref f))(hb:Binds K fd ["one","other"] [])(z_range:mg "range"=none)(z_tuple:mg "tuple"=none)(D_10:FD P wd K mg base (3) "sums_of" none 1 F_10)(D_17:FD P wd K mg base (2) "answered_sums" none 3 F_17):FD P wd K mg base (4) "parted" none 2 F_18 :=
 zAO (k:=3) Fn zCp hm hb fun cdv A outer s H E M B=>zAB (zAb (tx_c (zA5 M) (zAC M (jZ 0) jJ) (zAC M (jZ 1) jJ)) (zAF (zH8)) zAU)
 (zAB (zAI 2 (zA3 (jQ (zAE M B D_10 (jQ (jZ 0) jY)) (jQ (zAE M B D_10 (jQ (jZ 1) jY)) jY))) (hN:=fun _=>zCp.nd))
 (zAB (zAb (tx_c (zA1 M) (zAC M (jZ 2) jJ) (zAC M (jZ 2) jJ)) (zAF (zAJ zEY)) zAU)
 (zAB (zAI 3 (zA3 jY) (hN:=fun _=>zCp.nd))
 (zAB (zA8 M (fun _=>BZ) (zBj M z_range (jQ (zAC M (jZ 0) jJ) jY)) (zAH 4 (hN:=fun _=>zCp.nd)) (zAB (zBB 5 none (N':=["sums","q"]) (ix:=[none,some 4]) M (fun _=>⟨rfl,by kernel_rfl⟩) (zAS M (jZ 2)) (zAH 0 (hN:=fun _=>(by show (["sums","q"]:List Str).Nodup; decide +kernel))) zAs (zAE M.comp B.comp D_17 (jQ (jZ 0) (jQ (jZ 1) (jQ jJ jY)))) (hix:=hix0) (hN:=fun _=>zCp.nd))
 (zAB (zAI 6 (zE1 (tx_c (zA5 M) (zAC M (jZ 5) jJ) (zAC M (jZ 5) jJ)) jJ jJ) (hN:=fun _=>zCp.nd))
 (zAB (zBB 2 none (N':=["sums","q","answer"]) (ix:=[none,some 4,some 6]) M (fun _=>⟨rfl,by kernel_rfl⟩) (zAS M (jZ 2)) (zAH 0 (hN:=fun _=>(by show (["sums","q","answer"]:List Str).Nodup; decide +kernel))) zAs (zAE M.comp B.comp D_17 (jQ (jZ 0) (jQ (jZ 1) (jQ (jZ 2) jY)))) (hix:=hix0) (hN:=fun _=>zCp.nd))
 (zAF (zCX (zCj M Cp Cq (fun _=>zCN) zB6 (pv' 3) (jQ (jZ 6) jY))))))))
 (zAF (zAJ (zAg M (zAV M) z_tuple Bg (jQ (jZ 3) jY))))))))
noncomputable def zFW:DE:=dOp ixS (jV 1) (jV 0)
abbrev zJq:Stmt:=top 31
theorem zQ2:FnScope ["_law_one","_law_other"] ["_law_one","_law_other"] (defScope zJq):=by walk_at "s"
noncomputable def d_19:DS:=dRet (dCB tupleS (jW (dComp none [none,some 1] (dSeqI (jV 0)) (gdName 0) dYes (zFW)) qQ))
noncomputable def F_19:DF:=fnD none 2 2 d_19
theorem zQr{f:Addr}{fd:Ai}(Fn:Fun K "_law_then" "_law_then" zJq f fd)(hm:mg "_law_then"=some (.ref f))(hb:Binds K fd ["_law_one","_law_other"] [])(z_tuple:mg "tuple"=none):FD P wd K mg base (1) "_law_then" none 2 F_19 :=
 zAO (k:=0) Fn zQ2 hm hb fun cdv A outer s H E M B=>zAF (zAJ (zAg M (zAV M) z_tuple Bg (jQ (zAy none (N':=["_law_place","_law_other"]) (ix:=[none,some 1]) M (fun _=>⟨rfl,by kernel_rfl⟩) (zAS M (jZ 0)) (zAH 0 (hN:=fun _=>(by show (["_law_place","_law_other"]:List Str).Nodup; decide +kernel))) zAs (zAC M.comp (jZ 1) (jZ 0)) (hix:=hix0)) jY)))
noncomputable def zCk:DS:=dSet 2 (dCall none F_19 [] (jW (jV 2) (jW (dOp ixS (dLst (jW (jV 5) (jW (jV 4) qQ))) (dOp ixS (jV 1) (jV 3))) qQ)))
abbrev zJ0:Stmt:=top 35
theorem zDh:FnScope ["_law_dance_here","_law_answers","_law_found","_law_q","_law_yes","_law_no"] ["_law_dance_here","_law_answers"] (defScope zJ0):=by walk_at "s"
noncomputable def d_20:DS:=dSeq (dSet 2 (dTupRng (jW (dOp ixS (jV 0) (dC (.int 0))) qQ)))
 (dSeq (dFor none (dSeqI (dOp ixS (jV 0) (dC (.int 2)))) (gdTup 3 (gdCons (gdName 3) (gdCons (gdName 4) (gdCons (gdName 5) gdNil)))) (zCk))
 (dRet (jV 2)))
noncomputable def F_20:DF:=fnD none 2 6 d_20
theorem zQd{f:Addr}{fd:Ai}(Fn:Fun K "_law_done" "_law_done" zJ0 f fd)(hm:mg "_law_done"=some (.ref f))(hb:Binds K fd ["_law_dance_here","_law_answers"] [])(z_range:mg "range"=none)(z_tuple:mg "tuple"=none)(D_19:FD P wd K mg base (1) "_law_then" none 2 F_19):FD P wd K mg base (2) "_law_done" none 2 F_20 :=
 zAO (k:=1) Fn zDh hm hb fun cdv A outer s H E M B=>zAB (zAI 2 (zCR M z_tuple z_range (jQ (zAC M (jZ 0) jJ) jY)) (hN:=fun _=>zDh.nd))
 (zAB (zA8 M (fun _=>BZ) (zAS M (zAC M (jZ 0) jJ)) (zBa 3 M (zAP (zAH 3 (hN:=fun _=>zDh.nd)) (zAP (zAH 4 (hN:=fun _=>zDh.nd)) (zAP (zAH 5 (hN:=fun _=>zDh.nd)) zBD)))) (zAF (zAI 2 (zAE M B D_19 (jQ (jZ 2) (jQ (zAC M (zA3 (jQ (jZ 5) (jQ (jZ 4) jY))) (zAC M (jZ 1) (jZ 3))) jY))) (hN:=fun _=>zDh.nd))))
 (zAF (zAJ (jZ 2))))
noncomputable def zFS:DE:=jV 0
noncomputable def zDs:DT:=dTest (dOp (inS true) (jV 0) (dTup (jW (dC (.int 0)) (jW (dC (.int 1)) qQ))))
abbrev zKC:Stmt:=top 45
theorem zNp:FnScope ["_law_one","_law_other","_law_alike","_law_found"] ["_law_one","_law_other","_law_alike"] (defScope zKC):=by walk_at "s"
noncomputable def d_21:DS:=dSeq (dSet 3 (dCall none F_18 [] (jW (jV 0) (jW (jV 1) qQ))))
 (dSeq (dIf (dOr (dTest (dOp (isNoneS false) (jV 3) (dC .non))) (dTru (jV 2))) (dRet (dAndV (dOp (isNoneS false) (jV 3) (dC .non)) (jV 2))) dNext)
 (dSeq (dIf (dOr (dNot (dTru (dCB isiS (jW (jV 3) (jW (dC (.ty "tuple")) qQ))))) (dOr (dTest (dOp neS (dCB lenS (jW (jV 3) qQ)) (dOp ixS (jV 0) (dC (.int 1))))) (dTest (dOp gtS (dCB lenS (jW (dComp none [none] (dSeqI (jV 3)) (gdName 0) (zDs) (zFS)) qQ)) (dC (.int 0)))))) (dRet (dC (.bl false))) dNext)
 (dRet (dOp neS (dCall none F_20 [] (jW (jV 0) (jW (jV 3) qQ))) (dCall none F_20 [] (jW (jV 1) (jW (jV 3) qQ)))))))
noncomputable def F_21:DF:=fnD none 3 4 d_21
theorem zRF{f:Addr}{fd:Ai}(Fn:Fun K "_law_parted_right" "_law_parted_right" zKC f fd)(hm:mg "_law_parted_right"=some (.ref f))(hb:Binds K fd ["_law_one","_law_other","_law_alike"] [])(z_isinstance:mg "isinstance"=none)(z_len:mg "len"=none)(z_tuple:mg "tuple"=none)(D_18:FD P wd K mg base (4) "parted" none 2 F_18)(D_20:FD P wd K mg base (2) "_law_done" none 2 F_20):FD P wd K mg base (5) "_law_parted_right" none 3 F_21 :=
 zAO (k:=4) Fn zNp hm hb fun cdv A outer s H E M B=>zAB (zAI 3 (zAE M B D_18 (jQ (jZ 0) (jQ (jZ 1) jY))) (hN:=fun _=>zNp.nd))
 (zAB (zAb (tx_w (zEh (tx_c zNl (jZ 3) zEY) (zEa (tx_v M (jZ 2))))) (zAF (zAJ (zPV (ex_c zNl (jZ 3) zEY) (zPt (jZ 2))))) zAU)
 (zAB (zAb (tx_w (zEh (zKe (tx_v M (zAf M (zPK M) z_isinstance boot_isinstance (jQ (jZ 3) (jQ (zRR M z_tuple Bg) jY))))) (zEh (tx_c (zA5 M) (zAf M (zA2 M) z_len Bm (jQ (jZ 3) jY)) (zAC M (jZ 0) jJ)) (zEa (tx_c zDV (zAf M (zA2 M) z_len Bm (jQ (zAy none (N':=["_law_a"]) (ix:=[none]) M (fun _=>⟨rfl,by kernel_rfl⟩) (zAS M (jZ 3)) (zAH 0 (hN:=fun _=>(by show (["_law_a"]:List Str).Nodup; decide +kernel))) (zCf (tx_c (zED M.comp) (jZ 0) (zAL (jQ jJ (jQ jJ jY))))) (jZ 0) (hix:=hix0)) jY)) jJ))))) (zAF (zAJ zEx)) zAU)
 (zAF (zAJ (ex_c (zA5 M) (zAE M B D_20 (jQ (jZ 0) (jQ (jZ 3) jY))) (zAE M B D_20 (jQ (jZ 1) (jQ (jZ 3) jY))))))))
abbrev zJl:Stmt:=top 14
theorem zQt:FnScope ["one","other"] ["one","other"] (defScope zJl):=by walk_at "s"
noncomputable def d_22:DS:=dSeq (dIf (dTest (dOp neS (dSl (jV 0) dNoPart (dPart (dC (.int 2)))) (dSl (jV 1) dNoPart (dPart (dC (.int 2)))))) (dNever) dNext)
 (dRet (dTup (jW (dOp ixS (jV 0) (dC (.int 0))) (jW (dOp ixS (jV 0) (dC (.int 1))) (jW (dOp addS (dOp ixS (jV 0) (dC (.int 2))) (dOp ixS (jV 1) (dC (.int 2)))) qQ)))))
noncomputable def F_22:DF:=fnD none 2 2 d_22
theorem zQv{f:Addr}{fd:Ai}(Fn:Fun K "behind" "behind" zJl f fd)(hm:mg "behind"=some (.ref f))(hb:Binds K fd ["one","other"] []) :FD P wd K mg base (1) "behind" none 2 F_22 :=
 zAO (k:=0) Fn zQt hm hb fun cdv A outer s H E M B=>zAB (zAb (tx_c (zA5 M) (zGV M (jZ 0) zDo (zDa jJ)) (zGV M (jZ 1) zDo (zDa jJ))) (zAF (zH8)) zAU)
 (zAF (zAJ (zAL (jQ (zAC M (jZ 0) jJ) (jQ (zAC M (jZ 0) jJ) (jQ (zAY M (zAC M (jZ 0) jJ) (zAC M (jZ 1) jJ)) jY))))))
noncomputable def zCb:DS:=dDPut [] 3 (jV 4) (dOp modS (dOp addS (dDGet2 [] (jV 3) (jV 4) (dC (.int 0))) (jV 5)) (dC (.int 3)))
abbrev zJL:Stmt:=top 37
theorem zGS:FnScope ["_law_begin","_law_flips","_law_pairs","_law_found","_law_some","_law_value"] ["_law_begin","_law_flips","_law_pairs"] (defScope zJL):=by walk_at "s"
noncomputable def d_23:DS:=dSeq (dSet 3 (dDNew true))
 (dSeq (dFor none (dSeqI (jV 2)) (gdTup 2 (gdCons (gdName 4) (gdCons (gdName 5) gdNil))) (zCb))
 (dRet (dTup (jW (jV 0) (jW (jV 1) (jW (dCB tupleS (jW (dCB sortTV (jW (dPos 3) qQ)) qQ)) qQ))))))
noncomputable def F_23:DF:=fnD none 3 6 d_23
theorem zQw{f:Addr}{fd:Ai}(Fn:Fun K "_law_gathered" "_law_gathered" zJL f fd)(hm:mg "_law_gathered"=some (.ref f))(hb:Binds K fd ["_law_begin","_law_flips","_law_pairs"] [])(z_KC:KC K [])(z_sorted:mg "sorted"=none)(z_tuple:mg "tuple"=none):FD P wd K mg base (1) "_law_gathered" none 3 F_23 :=
 zAO (k:=0) Fn zGS hm hb fun cdv A outer s H E M B=>zAB (zAI 3 (zHa) (hN:=fun _=>zGS.nd))
 (zAB (zA8 M (fun _=>BZ) (zAS M (jZ 2)) (zBa 2 M (zAP (zAH 4 (hN:=fun _=>zGS.nd)) (zAP (zAH 5 (hN:=fun _=>zGS.nd)) zBD))) (zAF (zIa 3 M z_KC (pv' 3) (jZ 4) (zAx (zAY M (zHq M z_KC (jZ 3) (jZ 4) jJ) (jZ 5)) jJ))))
 (zAF (zAJ (zAL (jQ (jZ 0) (jQ (jZ 1) (jQ (zAg M (zAV M) z_tuple Bg (jQ (zAf M (zLN M) z_sorted GY (jQ (zPu (N':=["_law_some","_law_found"]) (ix:=[none,some 3]) 3 1 0 M (fun _=>⟨rfl,by kernel_rfl⟩)) jY)) jY)) jY)))))))
noncomputable def zFg:DE:=jV 0
noncomputable def zFA:DT:=dOr (dTest (dOp (inS true) (jV 0) (jV 1))) (dTest (dOp (inS true) (jV 0) (jV 2)))
abbrev zJx:Stmt:=top 36
theorem zQa:FnScope ["_law_one","_law_other"] ["_law_one","_law_other"] (defScope zJx):=by walk_at "s"
noncomputable def d_24:DS:=dRet (dCB tupleS (jW (dCB sortedS (jW (dComp none [none,some 0,some 1] (dSeqI (dOp addS (jV 0) (jV 1))) (gdName 0) (zFA) (zFg)) qQ)) qQ))
noncomputable def F_24:DF:=fnD none 2 2 d_24
theorem zRI{f:Addr}{fd:Ai}(Fn:Fun K "_law_apart" "_law_apart" zJx f fd)(hm:mg "_law_apart"=some (.ref f))(hb:Binds K fd ["_law_one","_law_other"] [])(z_sorted:mg "sorted"=none)(z_tuple:mg "tuple"=none):FD P wd K mg base (1) "_law_apart" none 2 F_24 :=
 zAO (k:=0) Fn zQa hm hb fun cdv A outer s H E M B=>zAF (zAJ (zAg M (zAV M) z_tuple Bg (jQ (zAf M (zFk M) z_sorted GY (jQ (zAy none (N':=["_law_q","_law_one","_law_other"]) (ix:=[none,some 0,some 1]) M (fun _=>⟨rfl,by kernel_rfl⟩) (zAS M (zAY M (jZ 0) (jZ 1))) (zAH 0 (hN:=fun _=>(by show (["_law_q","_law_one","_law_other"]:List Str).Nodup; decide +kernel))) (zCf (tx_w (zEh (tx_c (zED M.comp) (jZ 0) (jZ 1)) (zEa (tx_c (zED M.comp) (jZ 0) (jZ 2)))))) (jZ 0) (hix:=hix0)) jY)) jY)))
noncomputable def zDY:DE:=dTup (jW (dCall none F_24 [] (jW (jV 0) (jW (dOp ixS (jV 2) (dC (.int 1))) qQ))) (jW (dOp mulS (jV 1) (dOp addS (dC (.int 1)) (dOp ixS (jV 2) (dC (.int 0))))) qQ))
abbrev zJR:Stmt:=top 38
theorem zNq:FnScope ["_law_one","_law_other","_law_pairs"] ["_law_one","_law_other"] (defScope zJR):=by walk_at "s"
noncomputable def d_25:DS:=dSeq (dSet 2 (dComp none [none,none,some 1] (dSeqI (dOp ixS (jV 0) (dC (.int 2)))) (gdTup 2 (gdCons (gdName 0) (gdCons (gdName 1) gdNil))) dYes (zDY)))
 (dRet (dCall none F_23 [] (jW (dOp modS (dOp addS (dOp ixS (jV 0) (dC (.int 0))) (dOp ixS (jV 1) (dC (.int 0)))) (dC (.int 2))) (jW (dCall none F_24 [] (jW (dOp ixS (jV 0) (dC (.int 1))) (jW (dOp ixS (jV 1) (dC (.int 1))) qQ))) (jW (dOp addS (jV 2) (dCB listS (jW (dOp ixS (jV 1) (dC (.int 2))) qQ))) qQ)))))
noncomputable def F_25:DF:=fnD none 2 3 d_25
theorem zQR{f:Addr}{fd:Ai}(Fn:Fun K "_law_behind" "_law_behind" zJR f fd)(hm:mg "_law_behind"=some (.ref f))(hb:Binds K fd ["_law_one","_law_other"] [])(z_list:mg "list"=none)(D_23:FD P wd K mg base (1) "_law_gathered" none 3 F_23)(D_24:FD P wd K mg base (1) "_law_apart" none 2 F_24):FD P wd K mg base (2) "_law_behind" none 2 F_25 :=
 zAO (k:=1) Fn zNq hm hb fun cdv A outer s H E M B=>zAB (zBB 2 none (N':=["_law_some","_law_value","_law_other"]) (ix:=[none,none,some 1]) M (fun _=>⟨rfl,by kernel_rfl⟩) (zAS M (zAC M (jZ 0) jJ)) (zBa 2 M.comp (zAP (zAH 0 (hN:=fun _=>(by show (["_law_some","_law_value","_law_other"]:List Str).Nodup; decide +kernel))) (zAP (zAH 1 (hN:=fun _=>(by show (["_law_some","_law_value","_law_other"]:List Str).Nodup; decide +kernel))) zBD))) zAs (zAL (jQ (zAE M.comp B.comp D_24 (jQ (jZ 0) (jQ (zAC M.comp (jZ 2) jJ) jY))) (jQ (zAk (jZ 1) (zAY M.comp jJ (zAC M.comp (jZ 2) jJ))) jY))) (hix:=hix0) (hN:=fun _=>zNq.nd))
 (zAF (zAJ (zAE M B D_23 (jQ (zAx (zAY M (zAC M (jZ 0) jJ) (zAC M (jZ 1) jJ)) jJ) (jQ (zAE M B D_24 (jQ (zAC M (jZ 0) jJ) (jQ (zAC M (jZ 1) jJ) jY))) (jQ (zAY M (jZ 2) (zAg M (zOY M) z_list boot_list (jQ (zAC M (jZ 1) jJ) jY))) jY))))))
noncomputable def zFR:DE:=dIndex (jV 1) (jW (jV 0) qQ)
abbrev zJk:Stmt:=top 12
theorem zQ7:FnScope ["turning"] ["turning"] (defScope zJk):=by walk_at "s"
noncomputable def d_26:DS:=dRet (dCB tupleS (jW (dComp none [none,some 0] (dRng1 (jW (dCB lenS (jW (jV 0) qQ)) qQ)) (gdName 0) dYes (zFR)) qQ))
noncomputable def F_26:DF:=fnD none 1 1 d_26
theorem zQf{f:Addr}{fd:Ai}(Fn:Fun K "back" "back" zJk f fd)(hm:mg "back"=some (.ref f))(hb:Binds K fd ["turning"] [])(z_len:mg "len"=none)(z_range:mg "range"=none)(z_tuple:mg "tuple"=none):FD P wd K mg base (1) "back" none 1 F_26 :=
 zAO (k:=0) Fn zQ7 hm hb fun cdv A outer s H E M B=>zAF (zAJ (zAg M (zAV M) z_tuple Bg (jQ (zAy none (N':=["place","turning"]) (ix:=[none,some 0]) M (fun _=>⟨rfl,by kernel_rfl⟩) (zBj M z_range (jQ (zAf M (zA2 M) z_len Bm (jQ (jZ 0) jY)) jY)) (zAH 0 (hN:=fun _=>(by show (["place","turning"]:List Str).Nodup; decide +kernel))) zAs (zHg M.comp (jZ 1) (jQ (jZ 0) jY)) (hix:=hix0)) jY)))
noncomputable def zE5:DE:=dTup (jW (dOp ixS (jV 0) (dC (.int 0))) (jW (dCall none F_26 [] (jW (dOp ixS (jV 0) (dC (.int 1))) qQ)) (jW (dCall none F_26 [] (jW (dOp ixS (jV 0) (dC (.int 2))) qQ)) qQ)))
abbrev zJN:Stmt:=top 15
theorem zNn:FnScope ["dance","steps"] ["dance"] (defScope zJN):=by walk_at "s"
noncomputable def d_27:DS:=dSeq (dSet 1 (dComp none [none] (dRev (jW (dOp ixS (jV 0) (dC (.int 2))) qQ)) (gdName 0) dYes (zE5)))
 (dRet (dTup (jW (dOp ixS (jV 0) (dC (.int 0))) (jW (dOp ixS (jV 0) (dC (.int 1))) (jW (dCB tupleS (jW (jV 1) qQ)) qQ)))))
noncomputable def F_27:DF:=fnD none 1 2 d_27
theorem zQ4{f:Addr}{fd:Ai}(Fn:Fun K "turned_back" "turned_back" zJN f fd)(hm:mg "turned_back"=some (.ref f))(hb:Binds K fd ["dance"] [])(z_reversed:mg "reversed"=none)(z_tuple:mg "tuple"=none)(D_26:FD P wd K mg base (1) "back" none 1 F_26):FD P wd K mg base (2) "turned_back" none 1 F_27 :=
 zAO (k:=1) Fn zNn hm hb fun cdv A outer s H E M B=>zAB (zBB 1 none (N':=["step"]) (ix:=[none]) M (fun _=>⟨rfl,by kernel_rfl⟩) (zLg M z_reversed (jQ (zAC M (jZ 0) jJ) jY)) (zAH 0 (hN:=fun _=>(by show (["step"]:List Str).Nodup; decide +kernel))) zAs (zAL (jQ (zAC M.comp (jZ 0) jJ) (jQ (zAE M.comp B.comp D_26 (jQ (zAC M.comp (jZ 0) jJ) jY)) (jQ (zAE M.comp B.comp D_26 (jQ (zAC M.comp (jZ 0) jJ) jY)) jY)))) (hix:=hix0) (hN:=fun _=>zNn.nd))
 (zAF (zAJ (zAL (jQ (zAC M (jZ 0) jJ) (jQ (zAC M (jZ 0) jJ) (jQ (zAg M (zAV M) z_tuple Bg (jQ (jZ 1) jY)) jY))))))
noncomputable def zDp:DE:=dTup (jW (dCall none F_24 [] (jW (jV 0) (jW (dOp ixS (jV 2) (dC (.int 1))) qQ))) (jW (dOp mulS (dOp mulS (dC (.int 2)) (jV 1)) (dOp addS (dC (.int 1)) (dOp ixS (jV 2) (dC (.int 0))))) qQ))
abbrev zKY:Stmt:=top 39
theorem zNh:FnScope ["_law_sums","_law_pairs"] ["_law_sums"] (defScope zKY):=by walk_at "s"
noncomputable def d_28:DS:=dSeq (dSet 1 (dComp none [none,none,some 0] (dSeqI (dOp ixS (jV 0) (dC (.int 2)))) (gdTup 2 (gdCons (gdName 0) (gdCons (gdName 1) gdNil))) dYes (zDp)))
 (dRet (dCall none F_23 [] (jW (dOp ixS (jV 0) (dC (.int 0))) (jW (dOp ixS (jV 0) (dC (.int 1))) (jW (jV 1) qQ)))))
noncomputable def F_28:DF:=fnD none 1 2 d_28
theorem zQY{f:Addr}{fd:Ai}(Fn:Fun K "_law_turned" "_law_turned" zKY f fd)(hm:mg "_law_turned"=some (.ref f))(hb:Binds K fd ["_law_sums"] [])(D_23:FD P wd K mg base (1) "_law_gathered" none 3 F_23)(D_24:FD P wd K mg base (1) "_law_apart" none 2 F_24):FD P wd K mg base (2) "_law_turned" none 1 F_28 :=
 zAO (k:=1) Fn zNh hm hb fun cdv A outer s H E M B=>zAB (zBB 1 none (N':=["_law_some","_law_value","_law_sums"]) (ix:=[none,none,some 0]) M (fun _=>⟨rfl,by kernel_rfl⟩) (zAS M (zAC M (jZ 0) jJ)) (zBa 2 M.comp (zAP (zAH 0 (hN:=fun _=>(by show (["_law_some","_law_value","_law_sums"]:List Str).Nodup; decide +kernel))) (zAP (zAH 1 (hN:=fun _=>(by show (["_law_some","_law_value","_law_sums"]:List Str).Nodup; decide +kernel))) zBD))) zAs (zAL (jQ (zAE M.comp B.comp D_24 (jQ (jZ 0) (jQ (zAC M.comp (jZ 2) jJ) jY))) (jQ (zAk (zAk jJ (jZ 1)) (zAY M.comp jJ (zAC M.comp (jZ 2) jJ))) jY))) (hix:=hix0) (hN:=fun _=>zNh.nd))
 (zAF (zAJ (zAE M B D_23 (jQ (zAC M (jZ 0) jJ) (jQ (zAC M (jZ 0) jJ) (jQ (jZ 1) jY))))))
noncomputable def zFc:DE:=dTup (jW (dOp ixS (jV 1) (dOp ixS (jV 0) (dC (.int 0)))) (jW (dOp ixS (jV 0) (dC (.int 1))) (jW (dOp ixS (jV 0) (dC (.int 2))) qQ)))
abbrev zJV:Stmt:=top 16
theorem zNi:FnScope ["dance","row","questions","steps"] ["dance","row","questions"] (defScope zJV):=by walk_at "s"
noncomputable def d_29:DS:=dSeq (dSet 3 (dComp none [none,some 1] (dSeqI (dOp ixS (jV 0) (dC (.int 2)))) (gdName 0) dYes (zFc)))
 (dRet (dTup (jW (dOp ixS (jV 0) (dC (.int 0))) (jW (jV 2) (jW (dCB tupleS (jW (jV 3) qQ)) qQ)))))
noncomputable def F_29:DF:=fnD none 3 4 d_29
theorem zQZ{f:Addr}{fd:Ai}(Fn:Fun K "asked_anew" "asked_anew" zJV f fd)(hm:mg "asked_anew"=some (.ref f))(hb:Binds K fd ["dance","row","questions"] [])(z_tuple:mg "tuple"=none):FD P wd K mg base (1) "asked_anew" none 3 F_29 :=
 zAO (k:=0) Fn zNi hm hb fun cdv A outer s H E M B=>zAB (zBB 3 none (N':=["step","row"]) (ix:=[none,some 1]) M (fun _=>⟨rfl,by kernel_rfl⟩) (zAS M (zAC M (jZ 0) jJ)) (zAH 0 (hN:=fun _=>(by show (["step","row"]:List Str).Nodup; decide +kernel))) zAs (zAL (jQ (zAC M.comp (jZ 1) (zAC M.comp (jZ 0) jJ)) (jQ (zAC M.comp (jZ 0) jJ) (jQ (zAC M.comp (jZ 0) jJ) jY)))) (hix:=hix0) (hN:=fun _=>zNi.nd))
 (zAF (zAJ (zAL (jQ (zAC M (jZ 0) jJ) (jQ (jZ 2) (jQ (zAg M (zAV M) z_tuple Bg (jQ (jZ 3) jY)) jY))))))
noncomputable def zCg:DS:=dSet 2 (dCall none F_24 [] (jW (jV 2) (jW (dTup (jW (dOp ixS (jV 1) (jV 3)) qQ)) qQ)))
abbrev zJJ:Stmt:=top 40
theorem zGW:FnScope ["_law_some","_law_row","_law_found","_law_q"] ["_law_some","_law_row"] (defScope zJJ):=by walk_at "s"
noncomputable def d_30:DS:=dSeq (dSet 2 (dTup qQ))
 (dSeq (dFor none (dSeqI (jV 0)) (gdName 3) (zCg))
 (dRet (jV 2)))
noncomputable def F_30:DF:=fnD none 2 4 d_30
theorem zQn{f:Addr}{fd:Ai}(Fn:Fun K "_law_moved" "_law_moved" zJJ f fd)(hm:mg "_law_moved"=some (.ref f))(hb:Binds K fd ["_law_some","_law_row"] [])(D_24:FD P wd K mg base (1) "_law_apart" none 2 F_24):FD P wd K mg base (2) "_law_moved" none 2 F_30 :=
 zAO (k:=1) Fn zGW hm hb fun cdv A outer s H E M B=>zAB (zAI 2 (zAL jY) (hN:=fun _=>zGW.nd))
 (zAB (zA8 M (fun _=>BZ) (zAS M (jZ 0)) (zAH 3 (hN:=fun _=>zGW.nd)) (zAF (zAI 2 (zAE M B D_24 (jQ (jZ 2) (jQ (zAL (jQ (zAC M (jZ 1) (jZ 3)) jY)) jY))) (hN:=fun _=>zGW.nd))))
 (zAF (zAJ (jZ 2))))
noncomputable def zDZ:DE:=dTup (jW (dCall none F_30 [] (jW (jV 0) (jW (jV 2) qQ))) (jW (jV 1) qQ))
abbrev zJQ:Stmt:=top 41
theorem zNg:FnScope ["_law_sums","_law_row","_law_pairs"] ["_law_sums","_law_row"] (defScope zJQ):=by walk_at "s"
noncomputable def d_31:DS:=dSeq (dSet 2 (dComp none [none,none,some 1] (dSeqI (dOp ixS (jV 0) (dC (.int 2)))) (gdTup 2 (gdCons (gdName 0) (gdCons (gdName 1) gdNil))) dYes (zDZ)))
 (dRet (dCall none F_23 [] (jW (dOp ixS (jV 0) (dC (.int 0))) (jW (dCall none F_30 [] (jW (dOp ixS (jV 0) (dC (.int 1))) (jW (jV 1) qQ))) (jW (jV 2) qQ)))))
noncomputable def F_31:DF:=fnD none 2 3 d_31
theorem zRH{f:Addr}{fd:Ai}(Fn:Fun K "_law_anew" "_law_anew" zJQ f fd)(hm:mg "_law_anew"=some (.ref f))(hb:Binds K fd ["_law_sums","_law_row"] [])(D_23:FD P wd K mg base (1) "_law_gathered" none 3 F_23)(D_30:FD P wd K mg base (2) "_law_moved" none 2 F_30):FD P wd K mg base (3) "_law_anew" none 2 F_31 :=
 zAO (k:=2) Fn zNg hm hb fun cdv A outer s H E M B=>zAB (zBB 2 none (N':=["_law_some","_law_value","_law_row"]) (ix:=[none,none,some 1]) M (fun _=>⟨rfl,by kernel_rfl⟩) (zAS M (zAC M (jZ 0) jJ)) (zBa 2 M.comp (zAP (zAH 0 (hN:=fun _=>(by show (["_law_some","_law_value","_law_row"]:List Str).Nodup; decide +kernel))) (zAP (zAH 1 (hN:=fun _=>(by show (["_law_some","_law_value","_law_row"]:List Str).Nodup; decide +kernel))) zBD))) zAs (zAL (jQ (zAE M.comp B.comp D_30 (jQ (jZ 0) (jQ (jZ 2) jY))) (jQ (jZ 1) jY))) (hix:=hix0) (hN:=fun _=>zNg.nd))
 (zAF (zAJ (zAE M B D_23 (jQ (zAC M (jZ 0) jJ) (jQ (zAE M B D_30 (jQ (zAC M (jZ 0) jJ) (jQ (jZ 1) jY))) (jQ (jZ 2) jY))))))
abbrev zJz:Stmt:=top 17
theorem zNf:FnScope ["step","q","answer","turning"] ["step","q","answer"] (defScope zJz):=by walk_at "s"
noncomputable def d_32:DS:=dSeq (dIf (dTest (dOp neS (dOp ixS (jV 0) (dC (.int 0))) (jV 1))) (dRet (jV 0)) dNext)
 (dSeq (dSet 3 (dIfE (dTest (dOp eqS (jV 2) (dC (.int 1)))) (dOp ixS (jV 0) (dC (.int 1))) (dOp ixS (jV 0) (dC (.int 2)))))
 (dRet (dTup (jW (jV 1) (jW (jV 3) (jW (jV 3) qQ))))))
noncomputable def F_32:DF:=fnD none 3 4 d_32
theorem zQS{f:Addr}{fd:Ai}(Fn:Fun K "answered_step" "answered_step" zJz f fd)(hm:mg "answered_step"=some (.ref f))(hb:Binds K fd ["step","q","answer"] []) :FD P wd K mg base (1) "answered_step" none 3 F_32 :=
 zAO (k:=0) Fn zNf hm hb fun cdv A outer s H E M B=>zAB (zAb (tx_c (zA5 M) (zAC M (jZ 0) jJ) (jZ 1)) (zAF (zAJ (jZ 0))) zAU)
 (zAB (zAI 3 (zE1 (tx_c (zA1 M) (jZ 2) jJ) (zAC M (jZ 0) jJ) (zAC M (jZ 0) jJ)) (hN:=fun _=>zNf.nd))
 (zAF (zAJ (zAL (jQ (jZ 1) (jQ (jZ 3) (jQ (jZ 3) jY)))))))
noncomputable def zFf:DE:=dCall none F_32 [] (jW (jV 0) (jW (jV 1) (jW (jV 2) qQ)))
abbrev zKS:Stmt:=top 18
theorem zNj:FnScope ["dance","q","answer","steps"] ["dance","q","answer"] (defScope zKS):=by walk_at "s"
noncomputable def d_33:DS:=dSeq (dSet 3 (dComp none [none,some 1,some 2] (dSeqI (dOp ixS (jV 0) (dC (.int 2)))) (gdName 0) dYes (zFf)))
 (dRet (dTup (jW (dOp ixS (jV 0) (dC (.int 0))) (jW (dOp ixS (jV 0) (dC (.int 1))) (jW (dCB tupleS (jW (jV 3) qQ)) qQ)))))
noncomputable def F_33:DF:=fnD none 3 4 d_33
theorem zRL{f:Addr}{fd:Ai}(Fn:Fun K "answered" "answered" zKS f fd)(hm:mg "answered"=some (.ref f))(hb:Binds K fd ["dance","q","answer"] [])(z_tuple:mg "tuple"=none)(D_32:FD P wd K mg base (1) "answered_step" none 3 F_32):FD P wd K mg base (2) "answered" none 3 F_33 :=
 zAO (k:=1) Fn zNj hm hb fun cdv A outer s H E M B=>zAB (zBB 3 none (N':=["step","q","answer"]) (ix:=[none,some 1,some 2]) M (fun _=>⟨rfl,by kernel_rfl⟩) (zAS M (zAC M (jZ 0) jJ)) (zAH 0 (hN:=fun _=>(by show (["step","q","answer"]:List Str).Nodup; decide +kernel))) zAs (zAE M.comp B.comp D_32 (jQ (jZ 0) (jQ (jZ 1) (jQ (jZ 2) jY)))) (hix:=hix0) (hN:=fun _=>zNj.nd))
 (zAF (zAJ (zAL (jQ (zAC M (jZ 0) jJ) (jQ (zAC M (jZ 0) jJ) (jQ (zAg M (zAV M) z_tuple Bg (jQ (jZ 3) jY)) jY))))))
noncomputable def zDj:DE:=jV 0
noncomputable def zDm:DT:=dTest (dOp neS (jV 0) (jV 1))
abbrev zJ7:Stmt:=top 42
theorem zQx:FnScope ["_law_some","_law_q"] ["_law_some","_law_q"] (defScope zJ7):=by walk_at "s"
noncomputable def d_34:DS:=dRet (dCB tupleS (jW (dComp none [none,some 1] (dSeqI (jV 0)) (gdName 0) (zDm) (zDj)) qQ))
noncomputable def F_34:DF:=fnD none 2 2 d_34
theorem zQ9{f:Addr}{fd:Ai}(Fn:Fun K "_law_without" "_law_without" zJ7 f fd)(hm:mg "_law_without"=some (.ref f))(hb:Binds K fd ["_law_some","_law_q"] [])(z_tuple:mg "tuple"=none):FD P wd K mg base (1) "_law_without" none 2 F_34 :=
 zAO (k:=0) Fn zQx hm hb fun cdv A outer s H E M B=>zAF (zAJ (zAg M (zAV M) z_tuple Bg (jQ (zAy none (N':=["_law_one","_law_q"]) (ix:=[none,some 1]) M (fun _=>⟨rfl,by kernel_rfl⟩) (zAS M (jZ 0)) (zAH 0 (hN:=fun _=>(by show (["_law_one","_law_q"]:List Str).Nodup; decide +kernel))) (zCf (tx_c (zA5 M.comp) (jZ 0) (jZ 1))) (jZ 0) (hix:=hix0)) jY)))
noncomputable def zCV:DS:=dDrop (dMut 3 hAppend (jW (dTup (jW (dCall none F_34 [] (jW (jV 4) (jW (jV 1) qQ))) (jW (dOp mulS (jV 5) (dOp addS (dC (.int 1)) (dOp mulS (jV 2) (dCB intS (jW (dOp (inS false) (jV 1) (jV 4)) qQ))))) qQ))) qQ))
abbrev zKO:Stmt:=top 43
theorem zEs:FnScope ["_law_sums","_law_q","_law_answer","_law_pairs","_law_some","_law_value","_law_begin"] ["_law_sums","_law_q","_law_answer"] (defScope zKO):=by walk_at "s"
noncomputable def d_35:DS:=dSeq (dSet 3 (dLst qQ))
 (dSeq (dFor none (dSeqI (dOp ixS (jV 0) (dC (.int 2)))) (gdTup 2 (gdCons (gdName 4) (gdCons (gdName 5) gdNil))) (zCV))
 (dSeq (dSet 6 (dOp modS (dOp addS (dOp ixS (jV 0) (dC (.int 0))) (dOp mulS (jV 2) (dCB intS (jW (dOp (inS false) (jV 1) (dOp ixS (jV 0) (dC (.int 1)))) qQ)))) (dC (.int 2))))
 (dRet (dCall none F_23 [] (jW (jV 6) (jW (dCall none F_34 [] (jW (dOp ixS (jV 0) (dC (.int 1))) (jW (jV 1) qQ))) (jW (jV 3) qQ)))))))
noncomputable def F_35:DF:=fnD none 3 7 d_35
theorem zQQ{f:Addr}{fd:Ai}(Fn:Fun K "_law_ahead" "_law_ahead" zKO f fd)(hm:mg "_law_ahead"=some (.ref f))(hb:Binds K fd ["_law_sums","_law_q","_law_answer"] [])(z_int:mg "int"=none)(D_23:FD P wd K mg base (1) "_law_gathered" none 3 F_23)(D_34:FD P wd K mg base (1) "_law_without" none 2 F_34):FD P wd K mg base (2) "_law_ahead" none 3 F_35 :=
 zAO (k:=1) Fn zEs hm hb fun cdv A outer s H E M B=>zAB (zAI 3 (zA3 jY) (hN:=fun _=>zEs.nd))
 (zAB (zA8 M (fun _=>BZ) (zAS M (zAC M (jZ 0) jJ)) (zBa 2 M (zAP (zAH 4 (hN:=fun _=>zEs.nd)) (zAP (zAH 5 (hN:=fun _=>zEs.nd)) zBD))) (zAF (zCX (zCj M Cp Cq (fun _=>zCN) zB6 (pv' 3) (jQ (zAL (jQ (zAE M B D_34 (jQ (jZ 4) (jQ (jZ 1) jY))) (jQ (zAk (jZ 5) (zAY M jJ (zAk (jZ 2) (zAg M (zG9) z_int (by decide +kernel) (jQ (ex_c (zGT M) (jZ 1) (jZ 4)) jY))))) jY))) jY)))))
 (zAB (zAI 6 (zAx (zAY M (zAC M (jZ 0) jJ) (zAk (jZ 2) (zAg M (zG9) z_int (by decide +kernel) (jQ (ex_c (zGT M) (jZ 1) (zAC M (jZ 0) jJ)) jY)))) jJ) (hN:=fun _=>zEs.nd))
 (zAF (zAJ (zAE M B D_23 (jQ (jZ 6) (jQ (zAE M B D_34 (jQ (zAC M (jZ 0) jJ) (jQ (jZ 1) jY))) (jQ (jZ 3) jY))))))))
abbrev zJn:Stmt:=top 44
theorem zCm:FnScope ["_law_pair","_law_others","_law_change","_law_dance_here","_law_sums","_law_kind","_law_row","_law_q","_law_answer"] ["_law_pair","_law_others","_law_change"] (defScope zJn):=by walk_at "s"
noncomputable def d_36:DS:=dSeq (dUnp (gdTup 2 (gdCons (gdName 3) (gdCons (gdName 4) gdNil))) (jV 0))
 (dSeq (dUnp (gdTup 4 (gdCons (gdName 5) (gdCons (gdName 6) (gdCons (gdName 7) (gdCons (gdName 8) gdNil))))) (jV 2))
 (dSeq (dIf (dTest (dOp eqS (jV 5) (dC (.str "behind")))) (dRet (dTup (jW (dCall none F_22 [] (jW (dOp ixS (jV 1) (dC (.int 0))) (jW (jV 3) qQ))) (jW (dCall none F_25 [] (jW (dOp ixS (jV 1) (dC (.int 1))) (jW (jV 4) qQ))) qQ)))) dNext)
 (dSeq (dIf (dTest (dOp eqS (jV 5) (dC (.str "ahead")))) (dRet (dTup (jW (dCall none F_22 [] (jW (jV 3) (jW (dOp ixS (jV 1) (dC (.int 0))) qQ))) (jW (dCall none F_25 [] (jW (jV 4) (jW (dOp ixS (jV 1) (dC (.int 1))) qQ))) qQ)))) dNext)
 (dSeq (dIf (dTest (dOp eqS (jV 5) (dC (.str "turned")))) (dRet (dTup (jW (dCall none F_27 [] (jW (jV 3) qQ)) (jW (dCall none F_28 [] (jW (jV 4) qQ)) qQ)))) dNext)
 (dSeq (dIf (dTest (dOp eqS (jV 5) (dC (.str "anew")))) (dRet (dTup (jW (dCall none F_29 [] (jW (jV 3) (jW (jV 6) (jW (dOp ixS (jV 3) (dC (.int 1))) qQ)))) (jW (dCall none F_31 [] (jW (jV 4) (jW (jV 6) qQ))) qQ)))) dNext)
 (dSeq (dIf (dTest (dOp eqS (jV 5) (dC (.str "answered")))) (dRet (dTup (jW (dCall none F_33 [] (jW (jV 3) (jW (jV 7) (jW (jV 8) qQ)))) (jW (dCall none F_35 [] (jW (jV 4) (jW (jV 7) (jW (jV 8) qQ)))) qQ)))) dNext)
 (dRet (dTup (jW (dCall none F_14 [] (jW (jV 3) qQ)) (jW (jV 4) qQ))))))))))
noncomputable def F_36:DF:=fnD none 3 9 d_36
theorem zQ1{f:Addr}{fd:Ai}(Fn:Fun K "_law_changed" "_law_changed" zJn f fd)(hm:mg "_law_changed"=some (.ref f))(hb:Binds K fd ["_law_pair","_law_others","_law_change"] [])(D_14:FD P wd K mg base (3) "cut" none 1 F_14)(D_22:FD P wd K mg base (1) "behind" none 2 F_22)(D_25:FD P wd K mg base (2) "_law_behind" none 2 F_25)(D_27:FD P wd K mg base (2) "turned_back" none 1 F_27)(D_28:FD P wd K mg base (2) "_law_turned" none 1 F_28)(D_29:FD P wd K mg base (1) "asked_anew" none 3 F_29)(D_31:FD P wd K mg base (3) "_law_anew" none 2 F_31)(D_33:FD P wd K mg base (2) "answered" none 3 F_33)(D_35:FD P wd K mg base (2) "_law_ahead" none 3 F_35):FD P wd K mg base (4) "_law_changed" none 3 F_36 :=
 zAO (k:=3) Fn zCm hm hb fun cdv A outer s H E M B=>zAB (zGx (jZ 0) (zBa 2 M (zAP (zAH 3 (hN:=fun _=>zCm.nd)) (zAP (zAH 4 (hN:=fun _=>zCm.nd)) zBD))))
 (zAB (zGx (jZ 2) (zBa 4 M (zAP (zAH 5 (hN:=fun _=>zCm.nd)) (zAP (zAH 6 (hN:=fun _=>zCm.nd)) (zAP (zAH 7 (hN:=fun _=>zCm.nd)) (zAP (zAH 8 (hN:=fun _=>zCm.nd)) zBD))))))
 (zAB (zAb (tx_c (zA1 M) (jZ 5) zBA) (zAF (zAJ (zAL (jQ (zAE M B D_22 (jQ (zAC M (jZ 1) jJ) (jQ (jZ 3) jY))) (jQ (zAE M B D_25 (jQ (zAC M (jZ 1) jJ) (jQ (jZ 4) jY))) jY))))) zAU)
 (zAB (zAb (tx_c (zA1 M) (jZ 5) zBA) (zAF (zAJ (zAL (jQ (zAE M B D_22 (jQ (jZ 3) (jQ (zAC M (jZ 1) jJ) jY))) (jQ (zAE M B D_25 (jQ (jZ 4) (jQ (zAC M (jZ 1) jJ) jY))) jY))))) zAU)
 (zAB (zAb (tx_c (zA1 M) (jZ 5) zBA) (zAF (zAJ (zAL (jQ (zAE M B D_27 (jQ (jZ 3) jY)) (jQ (zAE M B D_28 (jQ (jZ 4) jY)) jY))))) zAU)
 (zAB (zAb (tx_c (zA1 M) (jZ 5) zBA) (zAF (zAJ (zAL (jQ (zAE M B D_29 (jQ (jZ 3) (jQ (jZ 6) (jQ (zAC M (jZ 3) jJ) jY)))) (jQ (zAE M B D_31 (jQ (jZ 4) (jQ (jZ 6) jY))) jY))))) zAU)
 (zAB (zAb (tx_c (zA1 M) (jZ 5) zBA) (zAF (zAJ (zAL (jQ (zAE M B D_33 (jQ (jZ 3) (jQ (jZ 7) (jQ (jZ 8) jY)))) (jQ (zAE M B D_35 (jQ (jZ 4) (jQ (jZ 7) (jQ (jZ 8) jY)))) jY))))) zAU)
 (zAF (zAJ (zAL (jQ (zAE M B D_14 (jQ (jZ 3) jY)) (jQ (jZ 4) jY)))))))))))
noncomputable def zDn:DE:=dCall (some 0) F_1 [] (jW (jV 1) (jW (jV 2) qQ))
noncomputable def zDq:DS:=dSeq (dSet 8 (dOp ixS (dLst (jW (dC (.str "behind")) (jW (dC (.str "ahead")) (jW (dC (.str "turned")) (jW (dC (.str "anew")) (jW (dC (.str "answered")) (jW (dC (.str "cut")) qQ))))))) (dCall (some 0) F_1 [] (jW (jV 0) (jW (dC (.int 6)) qQ)))))
 (dSeq (dSet 9 (dCB tupleS (jW (dComp (some (1,0)) [none,some 0,some 1] (dRng1 (jW (jV 1) qQ)) (gdName 0) dYes (zDn)) qQ)))
 (dSeq (dSet 6 (dCall none F_36 [] (jW (jV 6) (jW (jV 5) (jW (dTup (jW (jV 8) (jW (jV 9) (jW (dCall (some 0) F_1 [] (jW (jV 0) (jW (jV 1) qQ))) (jW (dCall (some 0) F_1 [] (jW (jV 0) (jW (dC (.int 2)) qQ))) qQ))))) qQ)))))
 (dIf (dTest (dOp neS (dCB reprS (jW (dCall none F_10 [] (jW (dOp ixS (jV 6) (dC (.int 0))) qQ)) qQ)) (dCB reprS (jW (dOp ixS (jV 6) (dC (.int 1))) qQ)))) (dRet (dC (.bl false))) dNext)))
abbrev zJO:Stmt:=top 46
theorem zBZ:FnScope ["_law_box_here","_law_questions","_law_dance_here","_law_other","_law_first","_law_others","_law_pair","_law_k","_law_kind","_law_row","_law_shorter"] ["_law_box_here","_law_questions"] (defScope zJO):=by walk_at "s"
noncomputable def d_37:DS:=dSeq (dSet 2 (dCall (some 0) F_5 [] (jW (jV 0) (jW (dC (.int 3)) (jW (jV 1) (jW (dC (.int 24)) qQ))))))
 (dSeq (dSet 3 (dCall (some 0) F_5 [] (jW (jV 0) (jW (dC (.int 3)) (jW (jV 1) (jW (dC (.int 24)) qQ))))))
 (dSeq (dSet 4 (dCall none F_10 [] (jW (jV 2) qQ)))
 (dSeq (dSet 5 (dTup (jW (jV 3) (jW (dCall none F_10 [] (jW (jV 3) qQ)) qQ))))
 (dSeq (dSet 6 (dTup (jW (jV 2) (jW (jV 4) qQ))))
 (dSeq (dFor (some 0) (dRng1 (jW (dOp addS (dC (.int 1)) (dCall (some 0) F_1 [] (jW (jV 0) (jW (dC (.int 5)) qQ)))) qQ)) (gdName 7) (zDq))
 (dSeq (dSet 10 (dCall none F_14 [] (jW (dOp ixS (jV 6) (dC (.int 0))) qQ)))
 (dSeq (dIf (dOr (dTest (dOp neS (dCB reprS (jW (dCall none F_10 [] (jW (jV 10) qQ)) qQ)) (dCB reprS (jW (dOp ixS (jV 6) (dC (.int 1))) qQ)))) (dTest (dOp (isNoneS true) (dCall none F_18 [] (jW (dOp ixS (jV 6) (dC (.int 0))) (jW (jV 10) qQ))) (dC .non)))) (dRet (dC (.bl false))) dNext)
 (dRet (dCall none F_21 [] (jW (jV 2) (jW (dOp ixS (jV 6) (dC (.int 0))) (jW (dOp eqS (jV 4) (dOp ixS (jV 6) (dC (.int 1)))) qQ))))))))))))
noncomputable def F_37:DF:=fnD (some 0) 2 11 d_37
theorem zQ3{f:Addr}{fd:Ai}(Fn:Fun K "_law_right" "_law_right" zJO f fd)(hm:mg "_law_right"=some (.ref f))(hb:Binds K fd ["_law_box_here","_law_questions"] [])(z_range:mg "range"=none)(z_repr:mg "repr"=none)(z_tuple:mg "tuple"=none)(D_1:FD P wd K mg base (1) "_law_take" (some 0) 2 F_1)(D_5:FD P wd K mg base (4) "_law_dance" (some 0) 4 F_5)(D_10:FD P wd K mg base (3) "sums_of" none 1 F_10)(D_14:FD P wd K mg base (3) "cut" none 1 F_14)(D_18:FD P wd K mg base (4) "parted" none 2 F_18)(D_21:FD P wd K mg base (5) "_law_parted_right" none 3 F_21)(D_36:FD P wd K mg base (4) "_law_changed" none 3 F_36):FD P wd K mg base (6) "_law_right" (some 0) 2 F_37 :=
 zAO (k:=5) Fn zBZ hm hb fun cdv A outer s H E M B=>zAB (zAI 2 (zAE M B D_5 (jQ (jZ 0) (jQ jJ (jQ (jZ 1) (jQ jJ jY))))) (hN:=fun _=>zBZ.nd))
 (zAB (zAI 3 (zAE M B D_5 (jQ (jZ 0) (jQ jJ (jQ (jZ 1) (jQ jJ jY))))) (hN:=fun _=>zBZ.nd))
 (zAB (zAI 4 (zAE M B D_10 (jQ (jZ 2) jY)) (hN:=fun _=>zBZ.nd))
 (zAB (zAI 5 (zAL (jQ (jZ 3) (jQ (zAE M B D_10 (jQ (jZ 3) jY)) jY))) (hN:=fun _=>zBZ.nd))
 (zAB (zAI 6 (zAL (jQ (jZ 2) (jQ (jZ 4) jY))) (hN:=fun _=>zBZ.nd))
 (zAB (zA8 M (fun _=>BZ) (zBj M z_range (jQ (zAY M jJ (zAE M B D_1 (jQ (jZ 0) (jQ jJ jY)))) jY)) (zAH 7 (hN:=fun _=>zBZ.nd)) (zAB (zAI 8 (zAC M (zA3 (jQ zBA (jQ zBA (jQ zBA (jQ zBA (jQ zBA (jQ zBA jY))))))) (zAE M B D_1 (jQ (jZ 0) (jQ jJ jY)))) (hN:=fun _=>zBZ.nd))
 (zAB (zAI 9 (zAg M (zAV M) z_tuple Bg (jQ (zAy (some (1,0)) (N':=["_law_q","_law_box_here","_law_questions"]) (ix:=[none,some 0,some 1]) M (fun _=>⟨rfl,by kernel_rfl⟩) (zBj M z_range (jQ (jZ 1) jY)) (zAH 0 (hN:=fun _=>(by show (["_law_q","_law_box_here","_law_questions"]:List Str).Nodup; decide +kernel))) zAs (zAE M.comp B.comp D_1 (jQ (jZ 1) (jQ (jZ 2) jY))) (hix:=hix1 (by decide))) jY)) (hN:=fun _=>zBZ.nd))
 (zAB (zAI 6 (zAE M B D_36 (jQ (jZ 6) (jQ (jZ 5) (jQ (zAL (jQ (jZ 8) (jQ (jZ 9) (jQ (zAE M B D_1 (jQ (jZ 0) (jQ (jZ 1) jY))) (jQ (zAE M B D_1 (jQ (jZ 0) (jQ jJ jY))) jY))))) jY)))) (hN:=fun _=>zBZ.nd))
 (zAF (zAb (tx_c (zA5 M) (zAf M (zDw M) z_repr He (jQ (zAE M B D_10 (jQ (zAC M (jZ 6) jJ) jY)) jY)) (zAf M (zDw M) z_repr He (jQ (zAC M (jZ 6) jJ) jY))) (zAF (zAJ zEx)) zAU))))))
 (zAB (zAI 10 (zAE M B D_14 (jQ (zAC M (jZ 6) jJ) jY)) (hN:=fun _=>zBZ.nd))
 (zAB (zAb (tx_w (zEh (tx_c (zA5 M) (zAf M (zDw M) z_repr He (jQ (zAE M B D_10 (jQ (jZ 10) jY)) jY)) (zAf M (zDw M) z_repr He (jQ (zAC M (jZ 6) jJ) jY))) (zEa (tx_c zMn (zAE M B D_18 (jQ (zAC M (jZ 6) jJ) (jQ (jZ 10) jY))) zEY)))) (zAF (zAJ zEx)) zAU)
 (zAF (zAJ (zAE M B D_21 (jQ (jZ 2) (jQ (zAC M (jZ 6) jJ) (jQ (ex_c (zA1 M) (jZ 4) (zAC M (jZ 6) jJ)) jY)))))))))))))
noncomputable def zCq:DS:=dSeq (dSet 2 (dCall none F_0 [] (jW (jV 0) (jW (jV 1) qQ))))
 (dIf (dNot (dTru (dCall (some 0) F_37 [] (jW (jV 2) (jW (dOp ixS (dLst (jW (dC (.int 1)) (jW (dC (.int 2)) (jW (dC (.int 3)) (jW (dC (.int 4)) (jW (dC (.int 6)) (jW (dC (.int 10)) qQ))))))) (dCall (some 0) F_1 [] (jW (jV 2) (jW (dC (.int 6)) qQ)))) qQ))))) (dRet (dC (.bl false))) dNext)
abbrev zBf:Stmt:=top 47
theorem zHU:FnScope ["_law_script","_law_k","_law_box_here"] ["_law_script"] (defScope zBf):=by walk_at "s"
noncomputable def zNo:DS:=dSeq (dFor none (dRng1 (jW (dCB max2S (jW (dC (.int 2)) (jW (dCB min2S (jW (dCB lenS (jW (jV 0) qQ)) (jW (dC (.int 4)) qQ))) qQ))) qQ)) (gdName 1) (zCq))
 (dRet (dC (.bl true)))
noncomputable def zCu:DF:=fnD none 1 3 zNo
theorem zPh{f:Addr}{fd:Ai}(Fn:Fun K "law" "law" zBf f fd)(z_len:mg "len"=none)(z_max:mg "max"=none)(z_min:mg "min"=none)(z_range:mg "range"=none)(D_0:FD P wd K mg base (1) "_law_box" none 2 F_0)(D_1:FD P wd K mg base (1) "_law_take" (some 0) 2 F_1)(D_37:FD P wd K mg base (6) "_law_right" (some 0) 2 F_37):FnOk P wd K mg base CX0 7 f fd ["_law_script"] (spD K none 1 zCu) :=
 zQb (k:=6) Fn zHU fun cdv A outer s H E M B=>zAB (zA8 M (fun _=>BZ) (zBj M z_range (jQ (zAf M (zOM M) z_max boot_max (jQ jJ (jQ (zAf M (zPD M) z_min boot_min (jQ (zAf M (zA2 M) z_len Bm (jQ (jZ 0) jY)) (jQ jJ jY))) jY))) jY)) (zAH 1 (hN:=fun _=>zHU.nd)) (zAB (zAI 2 (zAE M B D_0 (jQ (jZ 0) (jQ (jZ 1) jY))) (hN:=fun _=>zHU.nd))
 (zAF (zAb (zKe (tx_v M (zAE M B D_37 (jQ (jZ 2) (jQ (zAC M (zA3 (jQ jJ (jQ jJ (jQ jJ (jQ jJ (jQ jJ (jQ jJ jY))))))) (zAE M B D_1 (jQ (jZ 2) (jQ jJ jY)))) jY))))) (zAF (zAJ zEx)) zAU))))
 (zAF (zAJ zEx))
end
theorem zOA(a b w:Int)(h0:0 < w)(h1:w < 1073741824):∃ r a' b',0<=r/\r < w/\F_1 [.l [iT a,iT b],.v (iT w)]=some (.v (iT r),[iT a',iT b']):=by
 have h2:CDiv a w:=⟨h0,h1⟩
 by_cases h:0 < a
 ·refine⟨a % w,a / w,b,B3 _ (by lia),E6 _ h0,?_⟩
  simp[F_1,fnD,d_1,h,h0,h2,ixN]
 ·refine⟨(b * 69623 % 2147483647 * 2147483647+((b * 69623 % 2147483647 * 48271+30103) % 2147483629+1)) / 8191 % w,a,(b * 69623 % 2147483647 * 48271+30103) % 2147483629+1,B3 _ (by lia),E6 _ h0,?_⟩
  simp[F_1,fnD,d_1,h,h0,h2,ixN,CMul,CDiv]
theorem zAo(a b:Int)(w:Nat)(h0:0 < w)(h1:w<=1000000000):∃ (r:Nat) (a' b':Int),r < w/\F_1 [.l [iT a,iT b],.v (iT (w:Int))]=some (.v (iT (r:Int)),[iT a',iT b']):=by
 obtain⟨r,a',b',r0,r1,e⟩:=zOA a b w (by lia) (by lia)
 obtain⟨n,rfl⟩:∃ n:Nat,r=n:=⟨r.toNat,by lia⟩
 exact⟨n,a',b',by lia,e⟩
theorem zP2(ns:List Int)(k:Int)(hk:0<=k)(hk1:k < 1000):∃ a b,F_0 [.k (intsT ns),.v (iT k)]=some (.l [iT a,iT b],[]):=by
 have hl:(intsT ns).length=ns.length:=by simp[intsT]
 have fin:∀ c:Int,∃ a,atI [T.a (V.int 0),T.a (V.int c)] (if (1000000000000000000:Int)<=c then 1 else 0)=some (iT a):=fun c=>by
  split
  ·exact⟨c,rfl⟩
  ·exact⟨0,rfl⟩
 have c1:CMul 7919 k:=.inl ⟨by decide,by decide⟩
 have c2:CMul 40692 k:=.inl ⟨by decide,by decide⟩
 have c3:∀ m:Int,CMul m 69623:=fun m=>.inr ⟨by decide,by decide⟩
 have c4:∀ m:Int,CMul m 48271:=fun m=>.inr ⟨by decide,by decide⟩
 have c5:CPow 10 18:=⟨by decide,by decide,by decide⟩
 by_cases h1:k < ns.length
 ·obtain⟨z,hz⟩:=zHY ns hk h1
  obtain⟨a,ha⟩:=fin z
  refine⟨a,(z % 2147483629 * 48271+40692 * k) % 2147483629+1,?_⟩
  simp[F_0,fnD,d_0,hl,h1,c1,c2,c3,c4,c5,hz,ha,gd,zFE]
 ·by_cases h2:0 < ns.length
  ·obtain⟨z,hz⟩:=zHY ns (i:=k % ns.length) (B3 _ (by lia)) (E6 _ (by lia))
   obtain⟨a,ha⟩:=fin (7919 * k+11+z % 2147483629 * 69623)
   refine⟨a,((7919 * k+11+z % 2147483629 * 69623) % 2147483629 * 48271+40692 * k) % 2147483629+1,?_⟩
   simp[F_0,fnD,d_0,hl,h1,h2,c1,c2,c3,c4,c5,hz,ha,gd,zFE]
  ·obtain⟨a,ha⟩:=fin (7919 * k+11)
   refine⟨a,((7919 * k+11) % 2147483629 * 48271+40692 * k) % 2147483629+1,?_⟩
   simp[F_0,fnD,d_0,hl,h1,h2,c1,c2,c3,c4,c5,ha,gd,zFE]
theorem zG1:∀ (m:Nat) (ls fs:List Nat) (a b n:Int) (fuel:Nat),ls.length=m->m < fuel->ls.length+fs.length<=5->∃ fs' a' b',fs'.Perm (fs++ls) /\
  dWhile zEl zHf fuel [some (.l [iT a,iT b]),some (.v (iT n)),some (.l (tvT ls)),some (.v (tuT fs))]=some (.nx [some (.l [iT a',iT b']),some (.v (iT n)),some (.l []),some (.v (tuT fs'))]):=by
 intro m
 induction m with
 | zero =>
  intro ls fs a b n fuel hl hf h5
  obtain rfl:ls=[]:=Gd.mp hl
  obtain⟨f,rfl⟩:∃ f,fuel=f+1:=⟨fuel - 1,by lia⟩
  exact⟨fs,a,b,by simp,by rw[zDy]; simp[zEl]⟩
 | succ m ih =>
  intro ls fs a b n fuel hl hf h5
  obtain⟨f,rfl⟩:∃ f,fuel=f+1:=⟨fuel - 1,by lia⟩
  obtain⟨r,a',b',hr,e⟩:=zAo a b ls.length (by lia) (by lia)
  obtain⟨z,hz⟩:∃ z,ls[r]?=some z:=⟨ls[r],by simp[hr]⟩
  obtain⟨fs',a2,b2,hp,e2⟩:=ih (ls.eraseIdx r) (fs++[z]) a' b' n f (by rw[GC hr]; lia) (by lia) (by rw[GC hr]; simp; lia)
  refine⟨fs',a2,b2,hp.trans (zJi hz),?_⟩
  rw[← e2,zDy]
  have hpos:(0:Int) < ls.length:=by lia
  have hb:inR 9223372036854775807 (r:Int)=true:=zJA (by lia)
  have g1:ls.length<=AE:=zAG (by lia)
  have g2:fs.length+1<=AE:=zAG (by lia)
  have g3:(1:Nat)<=AE:=by decide
  simp[zEl,zHf,hpos,e,hb,zHZ hr,hz,gd,g1,g2,g3,show 0 < ls.length by lia,zKj]
theorem zEu(a b:Int)(n:Nat)(hn:n<=5):∃ t a' b',IsT n t/\F_2 [.l [iT a,iT b],.v (iT (n:Int))]=some (.v (tuT t),[iT a',iT b']):=by
 obtain⟨t,a',b',hp,e⟩:=zG1 n (AC n) [] a b n fuelX (by simp) (by rw[zMk]; lia) (by simp; exact hn)
 refine⟨t,a',b',zIO (by simpa using hp),?_⟩
 simp only[tuT,tvT,Ay]at e
 simp[F_2,fnD,d_2,zAm n (by lia),zBO,gd,e]
theorem zIp(n:Nat)(t:List Nat)(h:IsT n t)(hn:n<=5):F_4 [.v (tuT t)]=some (.v (tuT (backL t)),[]):=by
 have hl:=h.len
 obtain⟨o',e⟩:=zAq (fun (i:Nat)=>iT (i:Int)) (fun (i:Nat)=>iT (t.idxOf i:Nat)) (de:=zHv) (R:=[some (.v (tuT t))]) (AC n) (fun i hi=>by
  have f1:=zHJ (h.mem (show i < n by simpa using hi))
  simp[zHv,zA0 t,zI5 t,f1,flatV]) none
 have e2:=zBO n
 simp only[tuT,tvT,iT]at e e2
 simp[F_4,fnD,d_4,hl,zAm n (by lia),e2,e,backL]
@[simp] theorem zR7:(0:Nat) < AE:=by decide
def StepOk (n qs:Nat) (s:T):Prop:=∃ (q:Nat) (y z:List Nat),q < qs/\IsT n y/\IsT n z/\s=.t [iT (q:Int),tuT y,tuT z]
theorem zAe{f g:DS}{Γ Γ':En}{r:Option O}(h:f Γ=some (.nx Γ'))(k:g Γ'=r):dSeq f g Γ=r:=by rw[zJD,h]; exact k
theorem zKx{ta:DT}{f g:DS}{Γ Γ':En}{r:Option O}(h:ta Γ=some (true,Γ'))(k:f Γ'=r):dIf ta f g Γ=r:=by rw[zLa,h]; exact k
theorem zDv{ta:DT}{f g:DS}{Γ Γ':En}{r:Option O}(h:ta Γ=some (false,Γ'))(k:g Γ'=r):dIf ta f g Γ=r:=by rw[zLa,h]; exact k
theorem zOk(a b:Int)(n qs:Nat)(hn:n<=5)(h0:0 < qs)(hq:qs<=10):∃ s a' b',StepOk n qs s/\F_3 [.l [iT a,iT b],.v (iT (n:Int)),.v (iT (qs:Int))]=some (.v s,[iT a',iT b']):=by
 obtain⟨f,a1,b1,hf,e1⟩:=zAo a b 8 (by decide) (by decide)
 obtain⟨q,a2,b2,hq2,e2⟩:=zAo a1 b1 qs h0 (by lia)
 obtain⟨y,a3,b3,hy,e3⟩:=zEu a2 b2 n hn
 obtain⟨z,a4,b4,hz,e4⟩:=zEu a3 b3 n hn
 have e1':F_1 [.l [iT a,iT b],.v (.a (.int 8))]=some (.v (iT (f:Int)),[iT a1,iT b1]):=e1
 have g3:(3:Nat)<=AE:=by decide
 have r1:=zAm n (by lia)
 have rt:=zBO n
 have body:∃ y' z',IsT n y'/\IsT n z'/\d_3 [some (.l [iT a,iT b]),some (.v (iT (n:Int))),some (.v (iT (qs:Int))),none,none,none,none]=some (.rt (.v (.t [iT (q:Int),tuT y',tuT z'])) [some (.l [iT a4,iT b4]),some (.v (iT (n:Int))),some (.v (iT (qs:Int))),some (.v (iT (f:Int))),some (.v (iT (q:Int))),some (.v (tuT y')),some (.v (tuT z'))]):=by
  refine⟨if f=3 then AC n else y,if f < 2 then y else if f=2 then AC n else z,by split; exact zAi n; exact hy,by split; exact hy; split; exact zAi n; exact hz,?_⟩
  have cf:tuT (if f=3 then AC n else y)=if f=3 then tuT (AC n) else tuT y:=by split <;> rfl
  have cg:tuT (if f < 2 then y else if f=2 then AC n else z)=if f < 2 then tuT y else if f=2 then tuT (AC n) else tuT z:=by split; rfl; split <;> rfl
  rw[cf,cg]
  have rt':T.t (rngT 0 n)=tuT (AC n):=by rw[rt]
  clear rt cf cg
  generalize tuT (AC n)=TR at *
  generalize tuT y=TY at *
  generalize tuT z=TZ at *
  simp only[iT]at e1' e2 e3 e4 ⊢
  unfold d_3
  refine zAe (Γ':=[some (.l [.a (.int a1),.a (.int b1)]),some (.v (.a (.int (n:Int)))),some (.v (.a (.int (qs:Int)))),some (.v (.a (.int (f:Int)))),none,none,none]) (by simp[e1']) ?_
  refine zAe (Γ':=[some (.l [.a (.int a4),.a (.int b4)]),some (.v (.a (.int (n:Int)))),some (.v (.a (.int (qs:Int)))),some (.v (.a (.int (f:Int)))),some (.v (.a (.int (q:Int)))),some (.v TY),some (.v TZ)]) (by simp[e2,e3,e4]) ?_
  generalize [T.a (.int a4),T.a (.int b4)]=BX
  by_cases c1:f < 2
  ·have d1:(f:Int) < 2:=by lia
   have d2:¬ (f:Int)=2:=by lia
   have d3:¬ (f:Int)=3:=by lia
   have d4:¬ f=3:=by lia
   rw[if_pos c1,if_neg d4]
   simp[d1,d2,d3,gd,g3]
  ·have d1:¬ (f:Int) < 2:=by lia
   rw[if_neg c1]
   by_cases c2:f=2
   ·subst c2
    simp[gd,g3,r1,rt']
   ·have d2:¬ (f:Int)=2:=by lia
    rw[if_neg c2]
    by_cases c3:f=3
    ·subst c3
     simp[gd,g3,r1,rt']
    ·have d3:¬ (f:Int)=3:=by lia
     rw[if_neg c3]
     simp[d1,d2,d3,gd,g3]
 obtain⟨y',z',hy',hz',eb⟩:=body
 refine⟨_,a4,b4,⟨q,y',z',hq2,hy',hz',rfl⟩,?_⟩
 simp only[iT]at eb ⊢
 simp[F_3,fnD,eb]
def StepsOk (n qs:Nat) (ss:List T):Prop:=∀ s∈ss,StepOk n qs s
theorem zJP(n qs:Nat)(hn:n<=5)(h0:0 < qs)(hq:qs<=10)(m:T):∀ (its:List T) (a b:Int) (ss:List T) (o5 o6 o7 o8 o9 o10:Option G),StepsOk n qs ss->its.length+ss.length<=1000->∃ a' b' ss' o5' o6' o7' o8' o9' o10',StepsOk n qs ss'/\ss'.length=ss.length+its.length /\
  forD (gdName 5) zBu its [some (.l [iT a,iT b]),some (.v (iT (n:Int))),some (.v (iT (qs:Int))),some (.v m),some (.l ss),o5,o6,o7,o8,o9,o10] =
   some (.nx [some (.l [iT a',iT b']),some (.v (iT (n:Int))),some (.v (iT (qs:Int))),some (.v m),some (.l ss'),o5',o6',o7',o8',o9',o10']):=by
 intro its
 induction its with
 | nil=>intro a b ss o5 o6 o7 o8 o9 o10 h _; exact⟨a,b,ss,o5,o6,o7,o8,o9,o10,h,by simp,by rw[zAn]⟩
 | cons t r ih =>
  intro a b ss o5 o6 o7 o8 o9 o10 h hl
  obtain⟨s,a1,b1,hs,e1⟩:=zOk a b n qs hn h0 hq
  obtain⟨f,a2,b2,hf,e2⟩:=zAo a1 b1 6 (by decide) (by decide)
  have e2':F_1 [.l [iT a1,iT b1],.v (.a (.int 6))]=some (.v (iT (f:Int)),[iT a2,iT b2]):=e2
  have g1:ss.length<=AE:=zAG (by simp at hl; lia)
  have g2:ss.length < AE:=zCA (by simp at hl; lia)
  have g3:(3:Nat)<=AE:=by decide
  have g4:(1:Nat)<=AE:=by decide
  have turn:∃ s' o6' o7' o8' o9' o10',StepOk n qs s'/\zBu [some (.l [iT a,iT b]),some (.v (iT (n:Int))),some (.v (iT (qs:Int))),some (.v m),some (.l ss),some (.v t),o6,o7,o8,o9,o10] =
    some (.nx [some (.l [iT a2,iT b2]),some (.v (iT (n:Int))),some (.v (iT (qs:Int))),some (.v m),some (.l (ss++[s'])),some (.v t),o6',o7',o8',o9',o10']):=by
   by_cases hss:ss=[]
   ·subst hss
    refine⟨s,some (.v s),some (.v (iT (f:Int))),o8,o9,o10,hs,?_⟩
    have g0:¬ AE=0:=by decide
    unfold zBu
    refine zAe (Γ':=[some (.l [iT a1,iT b1]),some (.v (iT (n:Int))),some (.v (iT (qs:Int))),some (.v m),some (.l []),some (.v t),some (.v s),o7,o8,o9,o10]) (by simp[e1]) (zAe (Γ':=[some (.l [iT a2,iT b2]),some (.v (iT (n:Int))),some (.v (iT (qs:Int))),some (.v m),some (.l []),some (.v t),some (.v s),some (.v (iT (f:Int))),o8,o9,o10]) (by simp[e2']) ?_)
    refine zAe (Γ':=[some (.l [iT a2,iT b2]),some (.v (iT (n:Int))),some (.v (iT (qs:Int))),some (.v m),some (.l []),some (.v t),some (.v s),some (.v (iT (f:Int))),o8,o9,o10]) (zDv (by by_cases c:(f:Int) < 2 <;> simp[c]) rfl) (zAe (Γ':=[some (.l [iT a2,iT b2]),some (.v (iT (n:Int))),some (.v (iT (qs:Int))),some (.v m),some (.l []),some (.v t),some (.v s),some (.v (iT (f:Int))),o8,o9,o10]) (zDv (by by_cases c:(f:Int)=2 <;> simp[c]) rfl) (by simp[gd,g0]))
   ·have hpos:0 < ss.length:=HM.mpr hss
    have hpos':(0:Int) < ss.length:=by lia
    obtain⟨s0,hs0⟩:∃ s0,ss[ss.length - 1]?=some s0:=⟨ss[ss.length - 1]'(by lia),by simp⟩
    obtain⟨q0,y0,z0,hq0,hy0,hz0,rfl⟩:=h s0 (Br hs0)
    obtain⟨q1,y1,z1,hq1,hy1,hz1,rfl⟩:=hs
    have at1:=zL3 hss
    by_cases c1:f < 2
    ·have d1:(f:Int) < 2:=by lia
     have d2:¬ (f:Int)=2:=by lia
     refine⟨.t [iT (q0:Int),tuT y1,tuT z1],some (.v (.t [iT (q0:Int),tuT y1,tuT z1])),some (.v (iT (f:Int))),o8,o9,o10,⟨q0,y1,z1,hq0,hy1,hz1,rfl⟩,?_⟩
     have ec:cutT [iT (q1:Int),tuT y1,tuT z1] (some 1) none=[tuT y1,tuT z1]:=rfl
     simp only[iT]at ec
     generalize tuT y1=TY at *
     generalize tuT z1=TZ at *
     unfold zBu
     refine zAe (Γ':=[some (.l [iT a1,iT b1]),some (.v (iT (n:Int))),some (.v (iT (qs:Int))),some (.v m),some (.l ss),some (.v t),some (.v (.t [iT (q1:Int),TY,TZ])),o7,o8,o9,o10]) (by simp[e1]) (zAe (Γ':=[some (.l [iT a2,iT b2]),some (.v (iT (n:Int))),some (.v (iT (qs:Int))),some (.v m),some (.l ss),some (.v t),some (.v (.t [iT (q1:Int),TY,TZ])),some (.v (iT (f:Int))),o8,o9,o10]) (by simp[e2']) ?_)
     refine zAe (Γ':=[some (.l [iT a2,iT b2]),some (.v (iT (n:Int))),some (.v (iT (qs:Int))),some (.v m),some (.l ss),some (.v t),some (.v (.t [iT (q0:Int),TY,TZ])),some (.v (iT (f:Int))),o8,o9,o10]) (zKx (Γ':=[some (.l [iT a2,iT b2]),some (.v (iT (n:Int))),some (.v (iT (qs:Int))),some (.v m),some (.l ss),some (.v t),some (.v (.t [iT (q1:Int),TY,TZ])),some (.v (iT (f:Int))),o8,o9,o10]) (by simp[d1,hpos,hpos']) (by simp[gd,g3,g4,at1,hs0,ec])) (zAe (Γ':=[some (.l [iT a2,iT b2]),some (.v (iT (n:Int))),some (.v (iT (qs:Int))),some (.v m),some (.l ss),some (.v t),some (.v (.t [iT (q0:Int),TY,TZ])),some (.v (iT (f:Int))),o8,o9,o10]) (zDv (Γ':=[some (.l [iT a2,iT b2]),some (.v (iT (n:Int))),some (.v (iT (qs:Int))),some (.v m),some (.l ss),some (.v t),some (.v (.t [iT (q0:Int),TY,TZ])),some (.v (iT (f:Int))),o8,o9,o10]) (by simp[d2]) rfl) (by simp[gd,g1,g2]))
    ·have d1:¬ (f:Int) < 2:=by lia
     by_cases c2:f=2
     ·subst c2
      refine⟨.t [iT (q0:Int),tuT (backL y0),tuT (backL z0)],some (.v (.t [iT (q0:Int),tuT (backL y0),tuT (backL z0)])),some (.v (iT 2)),some (.v (iT (q0:Int))),some (.v (tuT y0)),some (.v (tuT z0)),⟨q0,backL y0,backL z0,hq0,zBQ hy0,zBQ hz0,rfl⟩,?_⟩
      have k1:=zIp n y0 hy0 hn
      have k2:=zIp n z0 hz0 hn
      generalize tuT y1=TY at *
      generalize tuT z1=TZ at *
      generalize tuT (backL y0)=TB at *
      generalize tuT (backL z0)=TC at *
      generalize tuT y0=TU at *
      generalize tuT z0=TV at *
      unfold zBu
      refine zAe (Γ':=[some (.l [iT a1,iT b1]),some (.v (iT (n:Int))),some (.v (iT (qs:Int))),some (.v m),some (.l ss),some (.v t),some (.v (.t [iT (q1:Int),TY,TZ])),o7,o8,o9,o10]) (by simp[e1]) (zAe (Γ':=[some (.l [iT a2,iT b2]),some (.v (iT (n:Int))),some (.v (iT (qs:Int))),some (.v m),some (.l ss),some (.v t),some (.v (.t [iT (q1:Int),TY,TZ])),some (.v (iT 2)),o8,o9,o10]) (by simp[e2']) ?_)
      refine zAe (Γ':=[some (.l [iT a2,iT b2]),some (.v (iT (n:Int))),some (.v (iT (qs:Int))),some (.v m),some (.l ss),some (.v t),some (.v (.t [iT (q1:Int),TY,TZ])),some (.v (iT 2)),o8,o9,o10]) (zDv (Γ':=[some (.l [iT a2,iT b2]),some (.v (iT (n:Int))),some (.v (iT (qs:Int))),some (.v m),some (.l ss),some (.v t),some (.v (.t [iT (q1:Int),TY,TZ])),some (.v (iT 2)),o8,o9,o10]) (by simp) rfl) (zAe (Γ':=[some (.l [iT a2,iT b2]),some (.v (iT (n:Int))),some (.v (iT (qs:Int))),some (.v m),some (.l ss),some (.v t),some (.v (.t [iT (q0:Int),TB,TC])),some (.v (iT 2)),some (.v (iT (q0:Int))),some (.v TU),some (.v TV)]) (zKx (Γ':=[some (.l [iT a2,iT b2]),some (.v (iT (n:Int))),some (.v (iT (qs:Int))),some (.v m),some (.l ss),some (.v t),some (.v (.t [iT (q1:Int),TY,TZ])),some (.v (iT 2)),o8,o9,o10]) (by simp[hpos,hpos']) (zAe (Γ':=[some (.l [iT a2,iT b2]),some (.v (iT (n:Int))),some (.v (iT (qs:Int))),some (.v m),some (.l ss),some (.v t),some (.v (.t [iT (q1:Int),TY,TZ])),some (.v (iT 2)),some (.v (iT (q0:Int))),some (.v TU),some (.v TV)]) (by simp[at1,hs0]) (by simp[gd,g3,k1,k2]))) (by simp[gd,g1,g2]))
     ·have d2:¬ (f:Int)=2:=by lia
      refine⟨.t [iT (q1:Int),tuT y1,tuT z1],some (.v (.t [iT (q1:Int),tuT y1,tuT z1])),some (.v (iT (f:Int))),o8,o9,o10,⟨q1,y1,z1,hq1,hy1,hz1,rfl⟩,?_⟩
      generalize tuT y1=TY at *
      generalize tuT z1=TZ at *
      unfold zBu
      refine zAe (Γ':=[some (.l [iT a1,iT b1]),some (.v (iT (n:Int))),some (.v (iT (qs:Int))),some (.v m),some (.l ss),some (.v t),some (.v (.t [iT (q1:Int),TY,TZ])),o7,o8,o9,o10]) (by simp[e1]) (zAe (Γ':=[some (.l [iT a2,iT b2]),some (.v (iT (n:Int))),some (.v (iT (qs:Int))),some (.v m),some (.l ss),some (.v t),some (.v (.t [iT (q1:Int),TY,TZ])),some (.v (iT (f:Int))),o8,o9,o10]) (by simp[e2']) ?_)
      refine zAe (Γ':=[some (.l [iT a2,iT b2]),some (.v (iT (n:Int))),some (.v (iT (qs:Int))),some (.v m),some (.l ss),some (.v t),some (.v (.t [iT (q1:Int),TY,TZ])),some (.v (iT (f:Int))),o8,o9,o10]) (zDv (Γ':=[some (.l [iT a2,iT b2]),some (.v (iT (n:Int))),some (.v (iT (qs:Int))),some (.v m),some (.l ss),some (.v t),some (.v (.t [iT (q1:Int),TY,TZ])),some (.v (iT (f:Int))),o8,o9,o10]) (by simp[d1]) rfl) (zAe (Γ':=[some (.l [iT a2,iT b2]),some (.v (iT (n:Int))),some (.v (iT (qs:Int))),some (.v m),some (.l ss),some (.v t),some (.v (.t [iT (q1:Int),TY,TZ])),some (.v (iT (f:Int))),o8,o9,o10]) (zDv (Γ':=[some (.l [iT a2,iT b2]),some (.v (iT (n:Int))),some (.v (iT (qs:Int))),some (.v m),some (.l ss),some (.v t),some (.v (.t [iT (q1:Int),TY,TZ])),some (.v (iT (f:Int))),o8,o9,o10]) (by simp[d2]) rfl) (by simp[gd,g1,g2]))
  obtain⟨s',o6',o7',o8',o9',o10',hs',e3⟩:=turn
  obtain⟨a',b',ss',p5,p6,p7,p8,p9,p10,hss',hl',e4⟩:=ih a2 b2 (ss++[s']) (some (.v t)) o6' o7' o8' o9' o10' (fun x hx=>(Ap.mp hx).elim (h x) (fun z=>AI.mp z ▸ hs')) (by simp at hl ⊢; lia)
  refine⟨a',b',ss',p5,p6,p7,p8,p9,p10,hss',by rw[hl']; simp; lia,?_⟩
  rw[zDJ]
  show (zBu [some (.l [iT a,iT b]),some (.v (iT (n:Int))),some (.v (iT (qs:Int))),some (.v m),some (.l ss),some (.v t),o6,o7,o8,o9,o10]).bind _=_
  rw[e3]
  exact e4
noncomputable def danceT (n qs:Nat) (ss:List T):T:=.t [iT (n:Int),iT (qs:Int),.t ss]
theorem zNM(a b:Int)(n qs m:Nat)(hn:n<=5)(h0:0 < qs)(hq:qs<=10)(hm:m<=500):∃ ss a' b',StepsOk n qs ss/\ss.length<=m/\F_5 [.l [iT a,iT b],.v (iT (n:Int)),.v (iT (qs:Int)),.v (iT (m:Int))]=some (.v (danceT n qs ss),[iT a',iT b']):=by
 obtain⟨r,a1,b1,hr,e1⟩:=zAo a b (m+1) (by lia) (by lia)
 obtain⟨a',b',ss,p5,p6,p7,p8,p9,p10,hss,hl,e2⟩:=zJP n qs hn h0 hq (iT (m:Int)) (rngT 0 r) a1 b1 [] none none none none none none (fun s hs=>nomatch hs) (by simp[rngT]; lia)
 have hl':ss.length=r:=by rw[hl]; simp[rngT]
 refine⟨ss,a',b',hss,by lia,?_⟩
 have e1':F_1 [.l [iT a,iT b],.v (.a (.int ((m:Int)+1)))]=some (.v (iT (r:Int)),[iT a1,iT b1]):=e1
 have g1:ss.length<=AE:=zAG (by lia)
 have g3:(3:Nat)<=AE:=by decide
 simp only[iT]at e1' e2
 simp[F_5,fnD,d_5,e1',zAm r (by lia),e2,gd,g1,g3,danceT]
theorem zAu{tg:En->T->Option En}{b:DS}{t:T}{r:List T}{Γ Γ1 Γ2:En}(h1:tg Γ t=some Γ1)(h2:b Γ1=some (.nx Γ2)):forD tg b (t::r) Γ=forD tg b r Γ2:=by
 rw[zDJ,h1,BG,h2,BG]
theorem zEf{tg:En->T->Option En}{de:DE}{t t':T}{r ts:List T}{Γ Γ1 Γ2 Γ3:En}(h1:tg Γ t=some Γ1)(h2:de Γ1=some (.v t',Γ2))(h3:compD tg dYes de r Γ2=some (ts,Γ3)):compD tg dYes de (t::r) Γ=some (t'::ts,Γ3):=by
 rw[zCs,h1,BG,zON,BG,if_pos rfl,h2,BG,zPy,BG,h3]
 rfl
theorem zFH{f g:DS}{Γ Γ':En}(h:f Γ=some (.nx Γ')):dSeq f g Γ=g Γ':=by rw[zJD,h]; rfl
theorem zEW{n qs:Nat}:∀ {ss:List T},StepsOk n qs ss->∃ st:List Stp,ss=st.map stT/\StOk n qs st
 | [],_=>⟨[],rfl,fun s hs=>nomatch hs⟩
 | s::r,h=>by
  obtain⟨q,y,z,h1,h2,h3,e⟩:=h s AH
  obtain⟨st,e2,h4⟩:=zEW (ss:=r) fun x hx=>h x (AF _ hx)
  exact⟨(q,y,z)::st,by rw[e,e2]; rfl,fun x hx=>(AS.mp hx).elim (fun z=>z ▸ ⟨h1,h2,h3⟩) (h4 x)⟩
noncomputable abbrev danT (n qs:Nat) (st:List Stp):T:=.t [iT (n:Int),iT (qs:Int),.t (st.map stT)]
theorem zHc(a b:Int)(n qs m:Nat)(hn:n<=5)(h0:0 < qs)(hq:qs<=10)(hm:m<=500):∃ st a' b',StOk n qs st/\st.length<=m/\F_5 [.l [iT a,iT b],.v (iT (n:Int)),.v (iT (qs:Int)),.v (iT (m:Int))]=some (.v (danT n qs st),[iT a',iT b']):=by
 obtain⟨ss,a',b',h1,h2,e⟩:=zNM a b n qs m hn h0 hq hm
 obtain⟨st,rfl,h3⟩:=zEW h1
 exact⟨st,a',b',h3,by simpa using h2,e⟩
abbrev Mk:=List Nat×Nat
@[simp] noncomputable abbrev mkT (m:Mk):T:=.t [tuT m.1,iT (m.2:Int)]
@[simp] noncomputable abbrev sumT (bg:Nat) (fl:List Nat) (mk:List Mk):T:=.t [iT (bg:Int),tuT fl,.t (mk.map mkT)]
def SetOk (qs:Nat) (s:List Nat):Prop:=s.Sublist (AC qs)
theorem SetOk.lt{qs:Nat}{s:List Nat}(h:SetOk qs s){q:Nat}(hq:q∈s):q < qs:=BU.mp (h.subset hq)
theorem SetOk.len{qs:Nat}{s:List Nat}(h:SetOk qs s):s.length<=qs:=by have:=h.length_le; simpa using this
def MkOk (qs:Nat) (m:Mk):Prop:=SetOk qs m.1/\1<=m.2/\m.2<=2
theorem zCO{a b:List Nat}(h:(a.map fun (k:Nat)=>(.inl (k:Int):Key))=b.map fun (k:Nat)=>(.inl (k:Int):Key)):a=b:=by
 induction a generalizing b with
 | nil=>cases b with
  | nil=>rfl
  | cons _ _=>simp at h
 | cons x r ih=>cases b with
  | nil=>simp at h
  | cons y s =>
   simp only[AJ,LU]at h
   obtain⟨h1,h2⟩:=h
   have:(x:Int)=(y:Int):=IW h1
   rw[show x=y by lia,ih h2]
noncomputable def keyM (t:List Nat):List Key:=t.map fun (k:Nat)=>(.inl (k:Int):Key)
theorem zDU:∀ t:List Nat,keyTs (tvT t)=some (keyM t)
 | []=>rfl
 | x::r=>by
  have:=zDU r
  simp only[tvT,iT]at this
  simp[keyTs,keyT,this,keyM]
noncomputable def dctM (D:List Mk):List (List Key×T):=D.map fun p=>(keyM p.1,iT (p.2:Int))
noncomputable def putM (D:List Mk) (s:List Nat) (m:Nat):List Mk:=if (D.any fun p=>decide (p.1=s))=true then D.map (fun p=>if p.1=s then (p.1,m) else p) else D++[(s,m)]
theorem zNZ(D:List Mk)(s:List Nat)(m:Nat):putT (dctM D) (keyM s) (iT (m:Int))=dctM (putM D s m):=by
 have e:((dctM D).any fun kv=>decide (kv.1=keyM s))=D.any fun p=>decide (p.1=s):=by
  unfold dctM
  rw[Gi]
  congr 1
  funext p
  by_cases h:p.1=s
  ·simp[h]
  ·have h':¬ keyM p.1=keyM s:=fun z=>h (zCO z)
   simp[h,h']
 unfold putT putM
 rw[e]
 split
 ·unfold dctM
  rw[A7,A7]
  congr 1
  funext p
  by_cases h:p.1=s
  ·simp[h]
  ·have h':¬ keyM p.1=keyM s:=fun z=>h (zCO z)
   simp[h,h']
 ·simp[dctM]
theorem zF5(D:List Mk)(s:List Nat)(m:Nat)(hl:D.length < AE):putX [] (.inr (dctM D)) (tuT s) (iT (m:Int))=some (.inr (dctM (putM D s m))):=by
 show (keyTs (tvT s)).bind _=_
 rw[zDU,BG,← zNZ]
 have:(dctM D).length < AE:=by simpa [dctM] using hl
 simp[this]
theorem zJd(D:List Mk):itemsT (dctM D)=D.map mkT:=by
 unfold itemsT dctM
 rw[A7]
 refine BH fun p _=>?_
 simp[keyTup,keyM,B1,kV]
theorem zBt:∀ t:List Nat,intsOf (tvT t)=some (t.map fun (k:Nat)=>(k:Int))
 | []=>rfl
 | k::r=>by
  have:=zBt r
  simp only[tvT,iT]at this
  simp[intsOf,this]
theorem zOW(m:Mk):asTQ (mkT m)=some (m.1.map fun (k:Nat)=>(k:Int),(m.2:Int)):=by
 have:=zBt m.1
 simp only[tvT,iT]at this
 simp[asTQ,asTI,this]
theorem zHh:∀ D:List Mk,asTQs (D.map mkT)=some (D.map fun m=>(m.1.map fun (k:Nat)=>(k:Int),(m.2:Int)))
 | []=>rfl
 | m::r=>by rw[AJ,asTQs,zOW,zHh r]; rfl
theorem zML(m:Mk)(r:List Mk):asTIs ((m::r).map mkT)=none:=by
 rw[AJ,asTIs]
 have:asTI (mkT m)=none:=rfl
 rw[this]; rfl
noncomputable def hasQ (s:List Nat) (q:Nat):Bool:=decide (q∈s)
noncomputable def flipL (qs:Nat) (s:List Nat) (q:Nat):List Nat:=(AC qs).filter fun x=>hasQ s x != decide (x=q)
theorem zC1:∀ {s l:List Nat},s.Sublist l->l.Nodup->l.filter (hasQ s)=s
 | _,_,.slnil,_=>rfl
 | s,_,.cons a h,nd=>by
  obtain⟨n1,n2⟩:=BI.mp nd
  have:hasQ s a=false:=decide_eq_false fun z=>n1 (h.subset z)
  rw[FW,this]
  exact zC1 h n2
 | _,_,.cons₂ (l₁:=s) (l₂:=l) a h,nd=>by
  obtain⟨n1,n2⟩:=BI.mp nd
  have:hasQ (a::s) a=true:=decide_eq_true AH
  rw[FW,this,if_pos rfl]
  have e:l.filter (hasQ (a::s))=l.filter (hasQ s):=C9 fun x hx=>by
   have:x≠a:=fun z=>n1 (z ▸ hx)
   unfold hasQ
   simp[this]
  rw[e,zC1 h n2]
theorem SetOk.filter{qs:Nat}{s:List Nat}(h:SetOk qs s):(AC qs).filter (hasQ s)=s:=zC1 h Cm
theorem zCK(qs:Nat)(s:List Nat)(q:Nat):SetOk qs (flipL qs s q):=Eo
theorem SetOk.nodup{qs:Nat}{s:List Nat}(h:SetOk qs s):s.Nodup:=LA h Cm
theorem SetOk.sorted{qs:Nat}{s:List Nat}(h:SetOk qs s):s.Pairwise (· < ·):=Jp h List.pairwise_lt_range
theorem zL7{qs:Nat}{s:List Nat}{q x:Nat}:x∈flipL qs s q ↔ x < qs/\(hasQ s x != decide (x=q))=true:=by
 unfold flipL; rw[A5,BU]
theorem zMO{qs:Nat}{s:List Nat}{q:Nat}(h:SetOk qs s)(hq:q∈s):s.filter (fun x=>!decide (x=q))=flipL qs s q:=by
 conv=>lhs; rw[← h.filter]
 rw[List.filter_filter]
 unfold flipL
 refine C9 fun x _=>?_
 by_cases e:x=q
 ·subst e; simp[hasQ,hq]
 ·simp[e]
theorem zOQ{qs:Nat}{s:List Nat}{q:Nat}(h:SetOk qs s)(hq:q∉s)(hlt:q < qs):(s++[q]).Perm (flipL qs s q):=by
 have n1:(s++[q]).Nodup:=by
  rw[FA]
  refine⟨h.nodup,by simp,fun a ha b hb=>?_⟩
  rw[AI.mp hb]
  exact fun z=>hq (z ▸ ha)
 refine (GD n1 (zCK qs s q).nodup).mpr fun x=>?_
 rw[zL7,Ap,AI]
 by_cases e:x=q
 ·subst e; simp[hasQ,hq,hlt]
 ·simp only[e,or_false,decide_false,Bool.bne_false,hasQ,decide_eq_true_eq]
  exact⟨fun z=>⟨h.lt z,z⟩,fun z=>z.2⟩
theorem zKy{qs:Nat}{s:List Nat}{q:Nat}(h:SetOk qs s)(hq:q∉s)(hlt:q < qs):sortI ((s++[q]).map fun (k:Nat)=>(k:Int))=(flipL qs s q).map fun (k:Nat)=>(k:Int):=by
 refine zB2 ((zB5 _).trans ((zOQ h hq hlt).map _)) (zBb _) ?_
 refine BN.mpr ((zCK qs s q).sorted.imp fun {a b} hab=>?_)
 lia
theorem zCe(s:List Nat)(q:Nat):inV (.int (q:Int)) (s.map fun (k:Nat)=>V.int (k:Int))=hasQ s q:=by
 unfold hasQ
 induction s with
 | nil=>rfl
 | cons x r ih =>
  have:∀ y:V,inV (.int (q:Int)) (y::r.map fun (k:Nat)=>V.int (k:Int))=(eqV y (.int (q:Int)) || inV (.int (q:Int)) (r.map fun (k:Nat)=>V.int (k:Int))):=fun y=>by simp[inV]
  rw[AJ,this,ih]
  by_cases e:x=q
  ·subst e; simp[eqV]
  ·have e':q≠x:=fun z=>e z.symm
   have:eqV (.int (x:Int)) (.int (q:Int))=false:=by simp[eqV]; lia
   rw[this]
   simp[e']
theorem zC9(qs:Nat)(hqs:qs<=20)(s:List Nat)(q:Nat)(h:SetOk qs s)(hq:q < qs):F_7 [.v (tuT s),.v (iT (q:Int))]=some (.v (tuT (flipL qs s q)),[]):=by
 have hl:=h.len
 have at1:=zA0 s
 have ff:∀ x:Int,flatV (.int x)=true:=fun _=>rfl
 have in1:=zCe s q
 have g:s.length<=AE:=zAG (by lia)
 have g1:(1:Nat)<=AE:=by decide
 have g2:s.length+1<=AE:=zAG (by lia)
 by_cases hm:q∈s
 ·have e1:hasQ s q=true:=decide_eq_true hm
  obtain⟨o',e⟩:=zBL (fun (k:Nat)=>iT (k:Int)) (fun (k:Nat)=>iT (k:Int)) (fun x=>!decide (x=q)) (dc:=zHz) (de:=zG6) (R:=[some (.v (iT (q:Int)))]) s (fun x _=>by
   have:(decide ((x:Int)=(q:Int)))=decide (x=q):=by simp[EM]
   simp[zHz,this]) (fun x _ _=>by simp[zG6]) none
  rw[zMO h hm]at e
  rw[e1]at in1
  simp only[tuT,tvT,iT]at e at1 ⊢
  simp[F_7,fnD,d_7,inS,seqS,at1,ff,in1,gd,g,e]
 ·have e1:hasQ s q=false:=decide_eq_false hm
  have e2:=zKy h hm hq
  have e3:=zBt (s++[q])
  rw[e1]at in1
  have hf:=(zCK qs s q).len
  have l64:((s++[q]).map fun (k:Nat)=>(k:Int)).length < 64:=by simp; lia
  generalize ((s++[q]).map fun (k:Nat)=>(k:Int))=W at *
  simp only[tuT,tvT,iT,A6,AJ,Ay]at e3 at1 ⊢
  simp[F_7,fnD,d_7,inS,seqS,at1,ff,in1,gd,g1,g2,sortedS,e3,l64,e2,B1]
@[simp] noncomputable abbrev prI (p:List Nat×Int):T:=.t [tuT p.1,iT p.2]
noncomputable def lkM (D:List Mk) (s:List Nat):Option Nat:=(D.find? fun p=>decide (p.1=s)).map (·.2)
theorem zMZ(D:List Mk)(t:List Nat):valT (dctM D) (keyM t)=(lkM D t).map fun (m:Nat)=>iT (m:Int):=by
 induction D with
 | nil=>rfl
 | cons p r ih =>
  unfold valT lkM dctM at *
  rw[AJ,Bp,Bp]
  by_cases h:p.1=t
  ·simp[h]
  ·have h':¬ keyM p.1=keyM t:=fun e=>h (zCO e)
   simp only[h,h',decide_false]
   exact ih
theorem zCP(D:List Mk)(t:List Nat):getX [] (.inr (dctM D)) (tuT t)=some ((lkM D t).map fun (m:Nat)=>iT (m:Int)):=by
 show (keyTs (tvT t)).bind _=_
 rw[zDU,BG,← zMZ]; rfl
theorem zNr(D:List Mk)(s t:List Nat)(m:Nat):lkM (putM D s m) t=if t=s then some m else lkM D t:=by
 unfold putM lkM
 split
 ·rename_i ha
  rw[List.find?_map]
  have hp:(fun p:Mk=>decide (p.1=t)) ∘ (fun p=>if p.1=s then (p.1,m) else p)=fun p=>decide (p.1=t):=by
   funext p; simp only[B1]; split <;> rfl
  rw[hp]
  by_cases e:t=s
  ·subst e
   rw[if_pos rfl]
   obtain⟨p,hp1,hp2⟩:=CO.mp ha
   cases hf:D.find? fun p=>decide (p.1=t) with
   | none=>have:=Hf.mp hf p hp1; exact absurd hp2 this
   | some q =>
    have:=Fh hf
    simp at this
    simp[this]
  ·rw[if_neg e]
   cases hf:D.find? fun p=>decide (p.1=t) with
   | none=>rfl
   | some q =>
    have:=Fh hf
    simp at this
    have h':¬ q.1=s:=fun z=>e (this.symm.trans z)
    simp[h']
 ·rename_i ha
  rw[H9]
  by_cases e:t=s
  ·subst e
   rw[if_pos rfl]
   have:(D.find? fun p=>decide (p.1=t))=none:=by
    rw[Hf]
    intro p hp hd
    exact ha (CO.mpr ⟨p,hp,hd⟩)
   rw[this]; simp
  ·rw[if_neg e]
   have:¬ s=t:=fun z=>e z.symm
   simp[Bp,this]
theorem zCI(D:List Mk)(s:List Nat)(m:Nat):(putM D s m).map (·.1)=if s∈D.map (·.1) then D.map (·.1) else D.map (·.1)++[s]:=by
 have ha:(D.any fun p=>decide (p.1=s))=true ↔ s∈D.map (·.1):=by
  rw[CO,Ag]
  exact⟨fun ⟨p,h1,h2⟩=>⟨p,h1,by simpa using h2⟩,fun ⟨p,h1,h2⟩=>⟨p,h1,by simpa using h2⟩⟩
 unfold putM
 by_cases h:s∈D.map (·.1)
 ·rw[if_pos (ha.mpr h),if_pos h,A7]
  refine BH fun p _=>?_
  simp only[B1]; split <;> rfl
 ·rw[if_neg (fun z=>h (ha.mp z)),if_neg h]; simp
noncomputable def cfI (ps:List (List Nat×Int)) (s:List Nat):Int:=((ps.filter fun p=>decide (p.1=s)).map (·.2)).sum
noncomputable def stepM (D:List Mk) (p:List Nat×Int):List Mk:=putM D p.1 ((((lkM D p.1).getD 0:Nat)+p.2:Int) % 3).toNat
noncomputable def foldM (ps:List (List Nat×Int)):List Mk:=ps.foldl stepM []
theorem zNQ(ps:List (List Nat×Int))(p:List Nat×Int)(s:List Nat):cfI (ps++[p]) s=cfI ps s+if p.1=s then p.2 else 0:=by
 unfold cfI
 rw[Cw,A6,EJ]
 by_cases h:p.1=s <;> simp[h]
structure FoldOk(ps:List (List Nat×Int))(D:List Mk):Prop where
 nd:(D.map (·.1)).Nodup
 len:D.length<=ps.length
 key:∀ s,s∈D.map (·.1) ↔ s∈ps.map (·.1)
 val:∀ s,lkM D s=if s∈ps.map (·.1) then some (cfI ps s % 3).toNat else none
theorem zIN{ps:List (List Nat×Int)}{D:List Mk}(h:FoldOk ps D)(p:List Nat×Int):FoldOk (ps++[p]) (stepM D p):=by
 unfold stepM
 refine⟨?_,?_,fun s=>?_,fun s=>?_⟩
 ·rw[zCI]
  split
  ·exact h.nd
  ·rename_i hn
   rw[FA]
   refine⟨h.nd,by simp,fun a ha b hb=>?_⟩
   rw[AI.mp hb]
   exact fun z=>hn (z ▸ ha)
 ·have:=congrArg DR (zCI D p.1 ((((lkM D p.1).getD 0:Nat)+p.2:Int) % 3).toNat)
  rw[Ak]at this
  rw[this,BQ,DK]
  have:=h.len
  split <;> simp <;> lia
 ·rw[zCI,A6,Ap,← h.key s]
  split
  ·rename_i hm
   refine⟨fun z=>.inl z,fun z=>z.elim id fun z=>?_⟩
   rw[show s=p.1 from by simpa using z]; exact hm
  ·rw[Ap]; simp
 ·have hmm:s∈(ps++[p]).map (·.1) ↔ (s∈ps.map (·.1)\/s=p.1):=by rw[A6,Ap]; simp
  rw[zNr,h.val,h.val,zNQ]
  by_cases e:s=p.1
  ·subst e
   rw[if_pos rfl,if_pos (hmm.mpr (.inr rfl)),if_pos rfl]
   congr 2
   split
   ·have hm:0<=cfI ps p.1 % 3:=B3 _ (by decide)
    rw[BV,CP hm]
    lia
   ·rename_i hn
    have:cfI ps p.1=0:=by
     unfold cfI
     have:(ps.filter fun q=>decide (q.1=p.1))=[]:=by
      rw[EC]
      intro q hq hd
      exact hn (Ag.mpr ⟨q,hq,by simpa using hd⟩)
     rw[this]; rfl
    rw[this]; simp
  ·have e':¬ p.1=s:=fun z=>e z.symm
   rw[if_neg e,if_neg e',G0]
   by_cases hs:s∈ps.map (·.1)
   ·rw[if_pos hs,if_pos (hmm.mpr (.inl hs))]
   ·rw[if_neg hs,if_neg fun z=>(hmm.mp z).elim hs e]
theorem zA9(ps:List (List Nat×Int)):FoldOk ps (foldM ps):=by
 have gen:∀ (r done:List (List Nat×Int)) (D:List Mk),FoldOk done D->FoldOk (done++r) (r.foldl stepM D):=by
  intro r
  induction r with
  | nil=>intro done D h; simpa using h
  | cons p r ih=>intro done D h; rw[EH,List.append_cons]; exact ih _ _ (zIN h p)
 exact gen ps [] [] ⟨.nil,AL _,fun s=>by simp,fun s=>by simp[lkM]⟩
theorem zD4{α β:Type}(f:α->β)(lt:Nat->Nat->Bool)(d:α)(d':β)(xs:List α):sortBy lt d' (xs.map f)=(sortBy lt d xs).map f:=by
 unfold sortBy
 rw[Ak]
 split
 ·rfl
 ·rename_i h
  rw[A7]
  refine BH fun i hi=>?_
  have hi':i < xs.length:=BU.mp (((zBi (n:=xs.length) (by lia)).run lt).subset hi)
  simp[AK,hi']
noncomputable def sortL (nss:List (List Nat)):List (List Nat):=sortBy (ltI (nss.map fun s=>s.map fun (k:Nat)=>(k:Int))) [] nss
theorem zAw(nss:List (List Nat)):(sortL nss).Perm nss:=zD2 _ _ _
theorem zGd:∀ nss:List (List Nat),asTIs (nss.map tuT)=some (nss.map fun s=>s.map fun (k:Nat)=>(k:Int))
 | []=>rfl
 | s::r=>by
  have e:asTI (tuT s)=some (s.map fun (k:Nat)=>(k:Int)):=zBt s
  rw[AJ,asTIs,e,zGd r]; rfl
theorem zLM{nss:List (List Nat)}(h:nss.Nodup):(nss.map fun s=>s.map fun (k:Nat)=>(k:Int)).Nodup:=by
 refine Jq _ (fun a b hab e=>hab ?_) h
 exact List.map_inj_right (f:=fun (k:Nat)=>(k:Int)) (fun x y z=>LV z) |>.mp e
theorem zM5(nss:List (List Nat))(h:nss.length < 1000)(nd:nss.Nodup):srtV (nss.map tuT)=some ((sortL nss).map tuT):=by
 unfold srtV
 rw[zGd]
 dsimp only
 rw[if_pos ⟨by simpa using h,zLM nd⟩,zD4 tuT _ [] _ nss]
 rfl
theorem zMB(D:List Mk):keysT (dctM D)=(D.map (·.1)).map tuT:=by
 unfold keysT dctM
 rw[A7,A7]
 refine BH fun p _=>?_
 simp[keyTup,keyM,B1,kV]
noncomputable def marksL (ps:List (List Nat×Int)):List Mk:=((sortL ((foldM ps).map (·.1))).filter fun s=>!decide (cfI ps s % 3=0)).map fun s=>(s,(cfI ps s % 3).toNat)
theorem zB3(ps:List (List Nat×Int)):(marksL ps).length<=ps.length:=by
 unfold marksL
 rw[Ak]
 refine Al (G4 _ _) ?_
 rw[(zAw _).length_eq,Ak]
 exact (zA9 ps).len
theorem zES{ps:List (List Nat×Int)}{m:Mk}:m∈marksL ps ↔ m.1∈ps.map (·.1)/\cfI ps m.1 % 3≠0/\m.2=(cfI ps m.1 % 3).toNat:=by
 unfold marksL
 rw[Ag]
 constructor
 ·rintro ⟨s,hs,rfl⟩
  rw[A5,(zAw _).mem_iff,(zA9 ps).key]at hs
  exact⟨hs.1,by simpa using hs.2,rfl⟩
 ·rintro ⟨h1,h2,h3⟩
  refine⟨m.1,?_,by rw[← h3]⟩
  rw[A5,(zAw _).mem_iff,(zA9 ps).key]
  exact⟨h1,by simpa using h2⟩
theorem zH6(o0:Option G):∀ (ps:List (List Nat×Int)) (D:List Mk) (o2:Option G),D.length+ps.length<=1000->∃ o2',forD (gdName 2) zDF (ps.map prI) [o0,some (.d (.inr (dctM D))),o2]=some (.nx [o0,some (.d (.inr (dctM (ps.foldl stepM D)))),o2']):=by
 intro ps
 induction ps with
 | nil=>intro D o2 _; exact⟨o2,by rw[Ay,zAn]; rfl⟩
 | cons p r ih =>
  intro D o2 hl
  have hD:(stepM D p).length<=D.length+1:=by
   have:=congrArg DR (zCI D p.1 ((((lkM D p.1).getD 0:Nat)+p.2:Int) % 3).toNat)
   rw[Ak]at this
   unfold stepM
   rw[this]
   split <;> simp
  obtain⟨o2',e3⟩:=ih (stepM D p) (some (.v (prI p))) (by simp at hl; lia)
  refine⟨o2',?_⟩
  have gx:=zCP D p.1
  have px:=zF5 D p.1 ((((lkM D p.1).getD 0:Nat)+p.2:Int) % 3).toNat (zCA (by simp at hl; lia))
  have hm:0<=(((lkM D p.1).getD 0:Nat)+p.2:Int) % 3:=B3 _ (by decide)
  rw[CP hm]at px
  have hg:((lkM D p.1).map fun (m:Nat)=>iT (m:Int)).getD (.a (.int 0))=iT (((lkM D p.1).getD 0:Nat):Int):=by
   cases lkM D p.1 <;> rfl
  have turn:zDF [o0,some (.d (.inr (dctM D))),some (.v (prI p))]=some (.nx [o0,some (.d (.inr (dctM (stepM D p)))),some (.v (prI p))]):=by
   unfold stepM
   generalize dctM (putM D p.1 ((((lkM D p.1).getD 0:Nat)+p.2:Int) % 3).toNat)=D2 at *
   generalize dctM D=D1 at *
   generalize ((lkM D p.1).map fun (m:Nat)=>iT (m:Int))=LK at *
   generalize (((lkM D p.1).getD 0:Nat):Int)=N0 at *
   simp only[prI]
   simp only[tuT,tvT,iT]at gx px hg ⊢
   simp[zDF,gx,px,hg]
  rw[AJ,zAu (by simp) turn,e3]
  rfl
theorem zE0(ps:List (List Nat×Int))(hl:ps.length < 1000):F_6 [.r (ps.map prI)]=some (.v (.t ((marksL ps).map mkT)),[]):=by
 have hF:=zA9 ps
 obtain⟨o2,e1⟩:=zH6 (some (.r (ps.map prI))) ps [] none (by simp; lia)
 have hlen:((foldM ps).map (·.1)).length < 1000:=by have:=hF.len; simp; lia
 have e2:=zM5 ((foldM ps).map (·.1)) hlen hF.nd
 rw[← zMB]at e2
 obtain⟨o',e3⟩:=zBL tuT (fun s=>mkT (s,(cfI ps s % 3).toNat)) (fun s=>!decide (cfI ps s % 3=0)) (dc:=zEm) (de:=zEX) (R:=[some (.e (.inr (dctM (foldM ps))))]) (sortL ((foldM ps).map (·.1))) (fun s hs=>by
  have gx:=zCP (foldM ps) s
  rw[hF.val,if_pos ((hF.key s).mp ((zAw _).mem_iff.mp hs)),IA]at gx
  have hm:0<=cfI ps s % 3:=B3 _ (by decide)
  rw[CP hm]at gx
  generalize dctM (foldM ps)=DD at *
  simp only[tuT,tvT,iT]at gx ⊢
  simp[zEm,gx]) (fun s hs _=>by
  have gx:=zCP (foldM ps) s
  rw[hF.val,if_pos ((hF.key s).mp ((zAw _).mem_iff.mp hs)),IA]at gx
  have g2:(2:Nat)<=AE:=by decide
  generalize (cfI ps s % 3).toNat=N at *
  generalize dctM (foldM ps)=DD at *
  simp only[tuT,tvT,iT,mkT]at gx ⊢
  simp[zEX,gx,gd,g2]) none
 have e3':compD (gdName 0) zEm zEX ((sortL ((foldM ps).map (·.1))).map tuT) [none,some (.e (.inr (dctM (foldM ps))))]=some ((marksL ps).map mkT,[o',some (.e (.inr (dctM (foldM ps))))]):=by
  unfold marksL
  rw[A7]
  exact e3
 have g:(ps.map prI).length<=AE:=zAG (by simp; lia)
 have g':((sortL ((foldM ps).map (·.1))).map tuT).length<=AE:=zAG (by rw[Ak,(zAw _).length_eq]; lia)
 have d0:dctM []=[]:=rfl
 have e1':forD (gdName 2) zDF (ps.map prI) [some (.r (ps.map prI)),some (.d (.inr [])),none]=some (.nx [some (.r (ps.map prI)),some (.d (.inr (dctM (foldM ps)))),o2]):=e1
 generalize ps.map prI=PP at *
 generalize dctM (foldM ps)=DD at *
 generalize (sortL ((foldM ps).map (·.1))).map tuT=KK at *
 generalize (marksL ps).map mkT=MM at *
 simp[F_6,fnD,d_6,gd,g,g',e1',e2,e3',frz1,pick1]
noncomputable def e3 (t:List Nat):Int:=((t.getD 1 0:Nat) - (t.getD 0 0:Nat):Int) % 3
theorem isT3{t:List Nat}(h:IsT 3 t):∃ a b c:Nat,t=[a,b,c]:=by
 match t,h.len with
 | [a,b,c],_=>exact⟨a,b,c,rfl⟩
theorem zF8(t:List Nat)(h:IsT 3 t):F_9 [.v (tuT t)]=some (.v (iT (e3 t)),[]):=by
 obtain⟨a,b,c,rfl⟩:=isT3 h
 simp[F_9,fnD,d_9,e3,atI,ixN]
abbrev Pr:=List Nat×Int
noncomputable def pairsL (qs:Nat) (s:Stp) (bg:Nat) (fl:List Nat):List Pr :=
 [(fl,2 * (1+(bg:Int)) * ((s.2.2.getD 0 0:Nat)+(s.2.1.getD 0 0:Nat))),(flipL qs fl s.1,2 * (1+(bg:Int)) * ((s.2.2.getD 0 0:Nat) - (s.2.1.getD 0 0:Nat)))]
theorem zJT(qs:Nat)(hqs:qs<=20)(s:Stp)(bg:Nat)(fl:List Nat)(hs:s.1 < qs/\IsT 3 s.2.1/\IsT 3 s.2.2)(hb:bg < 2)(hf:SetOk qs fl):F_8 [.v (stT s),.v (iT (bg:Int)),.v (tuT fl)]=some (.l ((pairsL qs s bg fl).map prI),[]):=by
 obtain⟨q,yes,no⟩:=s
 obtain⟨h1,h2,h3⟩:=hs
 obtain⟨a,b,c,rfl⟩:=isT3 h2
 obtain⟨a',b',c',rfl⟩:=isT3 h3
 have e1:=zC9 qs hqs fl q hf h1
 have g2:(2:Nat)<=AE:=by decide
 have c1:CMul 2 (1+(bg:Int)):=zBW ⟨by decide,by decide⟩
 have c2:∀ m:Int,CMul (2 * (1+(bg:Int))) m:=fun m=>zBW ⟨by lia,by lia⟩
 simp only[tuT,tvT,iT]at e1
 simp[F_8,fnD,d_8,e1,pairsL,gd,g2,c1,c2,atI,ixN]
abbrev Ss:=Nat×List Nat×List Pr
noncomputable def stepS (qs:Nat) (x:Ss) (s:Stp):Ss :=
 (if e3 s.2.2=2 then 1 - x.1 else x.1,if e3 s.2.1=e3 s.2.2 then x.2.1 else flipL qs x.2.1 s.1,x.2.2++pairsL qs s x.1 x.2.1)
noncomputable def sumsL (qs:Nat) (st:List Stp):Ss:=st.reverse.foldl (stepS qs) (0,[],[])
structure SsOk(qs:Nat)(x:Ss):Prop where
 bg:x.1 < 2
 fl:SetOk qs x.2.1
 ps:∀ p∈x.2.2,SetOk qs p.1
theorem zGr{qs:Nat}{x:Ss}(h:SsOk qs x)(s:Stp):SsOk qs (stepS qs x s):=by
 have:=h.bg
 refine⟨?_,?_,fun p hp=>?_⟩
 ·show (if e3 s.2.2=2 then 1 - x.1 else x.1) < 2
  split <;> lia
 ·show SetOk qs (if e3 s.2.1=e3 s.2.2 then x.2.1 else flipL qs x.2.1 s.1)
  split
  ·exact h.fl
  ·exact zCK _ _ _
 ·rcases Ap.mp hp with z | z
  ·exact h.ps p z
  ·rcases AS.mp z with z | z
   ·subst z; exact h.fl
   ·have:=AI.mp z; subst this; exact zCK _ _ _
theorem zLE(qs:Nat):SsOk qs (0,[],[]):=⟨by decide,D4 _,fun p hp=>nomatch hp⟩
theorem zHF{qs:Nat}:∀ (st:List Stp) (x:Ss),SsOk qs x->SsOk qs (st.foldl (stepS qs) x)/\(st.foldl (stepS qs) x).2.2.length=x.2.2.length+2 * st.length
 | [],x,h=>⟨h,by simp⟩
 | s::r,x,h=>by
  obtain⟨a,b⟩:=zHF r (stepS qs x s) (zGr h s)
  refine⟨a,b.trans ?_⟩
  simp[stepS,pairsL]; lia
theorem zCF(qs:Nat)(st:List Stp):SsOk qs (sumsL qs st)/\(sumsL qs st).2.2.length=2 * st.length:=by
 obtain⟨a,b⟩:=zHF st.reverse (0,[],[]) (zLE qs)
 exact⟨a,b.trans (by simp)⟩
theorem zIG(qs:Nat)(hqs:qs<=20)(d:Option G):∀ (st:List Stp) (x:Ss) (o4:Option G),StOk 3 qs st->SsOk qs x->x.2.2.length+2 * st.length<=1000->∃ o4',forD (gdName 4) zBM (st.map stT) [d,some (.v (iT (x.1:Int))),some (.v (tuT x.2.1)),some (.l (x.2.2.map prI)),o4] =
  some (.nx [d,some (.v (iT ((st.foldl (stepS qs) x).1:Int))),some (.v (tuT (st.foldl (stepS qs) x).2.1)),some (.l ((st.foldl (stepS qs) x).2.2.map prI)),o4']):=by
 intro st
 induction st with
 | nil=>intro x o4 _ _ _; exact⟨o4,by rw[Ay,zAn]; rfl⟩
 | cons s r ih =>
  intro x o4 hs hx hl
  have h0:=hs s AH
  obtain⟨o4',e4⟩:=ih (stepS qs x s) (some (.v (stT s))) (fun z hz=>hs z (AF _ hz)) (zGr hx s) (by simp[stepS,pairsL]at hl ⊢; lia)
  refine⟨o4',?_⟩
  have e1:=zJT qs hqs s x.1 x.2.1 h0 hx.bg hx.fl
  have e2:=zF8 s.2.2 h0.2.2
  have e2':=zF8 s.2.1 h0.2.1
  have e3':=zC9 qs hqs x.2.1 s.1 hx.fl h0.1
  have g1:x.2.2.length<=AE:=zAG (by lia)
  have g2:x.2.2.length+(pairsL qs s x.1 x.2.1).length<=AE:=zAG (by simp[pairsL]at hl ⊢; lia)
  have hb:=hx.bg
  obtain⟨bg,fl,ps⟩:=x
  obtain⟨q,yes,no⟩:=s
  have turn:zBM [d,some (.v (iT (bg:Int))),some (.v (tuT fl)),some (.l (ps.map prI)),some (.v (stT (q,yes,no)))] =
    some (.nx [d,some (.v (iT (((stepS qs (bg,fl,ps) (q,yes,no)).1:Nat):Int))),some (.v (tuT (stepS qs (bg,fl,ps) (q,yes,no)).2.1)),some (.l ((stepS qs (bg,fl,ps) (q,yes,no)).2.2.map prI)),some (.v (stT (q,yes,no)))]):=by
   simp only[stepS]
   dsimp only at e1 e2 e2' e3' g1 g2 hb
   have g1':(ps.map prI).length<=AE:=by simpa using g1
   have g2':(ps.map prI).length+((pairsL qs (q,yes,no) bg fl).map prI).length<=AE:=by simpa using g2
   rw[A6]
   generalize (pairsL qs (q,yes,no) bg fl).map prI=PN at *
   generalize ps.map prI=PS at *
   generalize flipL qs fl q=FL at *
   have cb:((1 - bg:Nat):Int)=1 - (bg:Int):=by lia
   simp only[stT,tuT,tvT,iT]at e1 e2 e2' e3' ⊢
   by_cases h1:e3 no=2
   ·by_cases h2:e3 yes=e3 no
    ·rw[h2]at e2'
     simp[zBM,e1,e2,e2',e3',gd,g1',g2',hExtend,h1,h2,cb]
    ·have h3:¬ e3 yes=2:=fun z=>h2 (z.trans h1.symm)
     simp[zBM,e1,e2,e2',e3',gd,g1',g2',hExtend,h1,h3,cb]
   ·by_cases h2:e3 yes=e3 no
    ·rw[h2]at e2'
     simp[zBM,e1,e2,e2',e3',gd,g1',g2',hExtend,h1,h2]
    ·simp[zBM,e1,e2,e2',e3',gd,g1',g2',hExtend,h1,h2]
  rw[AJ,zAu (by simp) turn]
  exact e4
theorem zBP(qs:Nat)(hqs:qs<=20)(st:List Stp)(hs:StOk 3 qs st)(hl:2 * st.length < 1000):F_10 [.v (danT 3 qs st)]=some (.v (sumT (sumsL qs st).1 (sumsL qs st).2.1 (marksL (sumsL qs st).2.2)),[]):=by
 obtain⟨o4,e1⟩:=zIG qs hqs (some (.v (danT 3 qs st))) st.reverse (0,[],[]) none (fun s h=>hs s (CA.mp h)) (zLE qs) (by simp; lia)
 obtain⟨ok,hlen⟩:=zCF qs st
 have e2:=zE0 (sumsL qs st).2.2 (by lia)
 have e1':forD (gdName 4) zBM (st.map stT).reverse [some (.v (danT 3 qs st)),some (.v (.a (.int 0))),some (.v (.t [])),some (.l []),none]=some (.nx [some (.v (danT 3 qs st)),some (.v (iT (((sumsL qs st).1:Nat):Int))),some (.v (tuT (sumsL qs st).2.1)),some (.l ((sumsL qs st).2.2.map prI)),o4]):=by
  rw[← IJ]; exact e1
 have g0:(0:Nat)<=AE:=by decide
 have g3:(3:Nat)<=AE:=by decide
 have g:(st.map stT).length<=AE:=zAG (by simp; lia)
 have gm:((marksL (sumsL qs st).2.2).map mkT).length<=AE:=zAG (by have:=zB3 (sumsL qs st).2.2; simp; lia)
 simp only[danT,sumT,show ((3:Nat):Int)=3 from rfl]at e1' ⊢
 generalize (marksL (sumsL qs st).2.2).map mkT=MM at *
 generalize (sumsL qs st).2.2.map prI=PP at *
 generalize tuT (sumsL qs st).2.1=FF at *
 generalize (((sumsL qs st).1:Nat):Int)=BB at *
 generalize st.map stT=SS at *
 simp only[iT]at e1' ⊢
 simp[F_10,fnD,d_10,dRev,gd,g0,g3,g,e1',e2]
noncomputable def sumN (as:List Nat) (s:List Nat):Nat:=(s.map fun q=>as.getD q 0).sum
noncomputable def sgn (as:List Nat) (s:List Nat):Nat:=1+sumN as s % 2
noncomputable def cL (as:List Nat) (mk:List Mk):Nat:=(mk.map fun m=>m.2 * sgn as m.1).sum
noncomputable def comeL (as:List Nat) (bg:Nat) (fl:List Nat) (mk:List Mk):List Nat:=(AC 3).map fun x=>(cL as mk+(1+bg) * sgn as fl * x) % 3
structure AnsGe(qs:Nat)(as:List Nat):Prop where
 len:qs<=as.length
 lt:∀ x∈as,x < 2
theorem AnsGe.two{qs:Nat}{as:List Nat}(h:AnsGe qs as)(q:Nat):as.getD q 0 < 2:=by
 rw[AK]
 cases e:as[q]? with
 | none=>simp
 | some x=>exact h.lt x (Br e)
theorem zEo{α:Type}{a b:List α}(hl:a.length=b.length)(h:∀ i,i < a.length->a[i]?=b[i]?):a=b:=by
 apply List.ext_getElem?
 intro i
 by_cases hi:i < a.length
 ·exact h i hi
 ·rw[Bz (by lia),Bz (by lia)]
theorem zAj(a b:List Nat):(thenL a b).length=a.length:=by simp[thenL]
theorem zA4{n:Nat}{a b c:List Nat}(ha:IsT n a)(hb:IsT n b)(hc:IsT n c):thenL (thenL a b) c=thenL a (thenL b c):=by
 refine zEo (by simp[zAj]) fun i hi=>?_
 have hi':i < n:=by rw[zAj,zAj,ha.len]at hi; exact hi
 obtain⟨k,e1,k1⟩:=ha.get hi'
 obtain⟨m,e2,m1⟩:=hb.get k1
 obtain⟨z,e3,z1⟩:=hc.get m1
 rw[zA6 (zA6 e1 e2) e3,zA6 e1 (zA6 e2 e3)]
theorem zCr{n i:Nat}(h:i < n):(AC n)[i]?=some i:=by simp[h]
theorem zBn{n:Nat}{a:List Nat}(ha:IsT n a):thenL a (AC n)=a:=by
 refine zEo (by simp[zAj]) fun i hi=>?_
 have hi':i < n:=by rw[zAj,ha.len]at hi; exact hi
 obtain⟨k,e1,k1⟩:=ha.get hi'
 rw[zA6 e1 (zCr k1),e1]
theorem zCT{n:Nat}{a:List Nat}(ha:IsT n a):thenL (AC n) a=a:=by
 refine zEo (by simp[zAj,ha.len]) fun i hi=>?_
 have hi':i < n:=by rw[zAj,Hv]at hi; exact hi
 obtain⟨k,e1,k1⟩:=ha.get hi'
 rw[zA6 (zCr hi') e1,e1]
theorem zJM{n:Nat}{a:List Nat}(ha:IsT n a):thenL a (backL a)=AC n:=by
 refine zEo (by simp[zAj,ha.len]) fun i hi=>?_
 have hi':i < n:=by rw[zAj,ha.len]at hi; exact hi
 obtain⟨k,e1,k1⟩:=ha.get hi'
 rw[zA6 e1 (zH0 (by rw[ha.len]; exact k1)),zDA ha e1,zCr hi']
theorem zPl{n:Nat}{a:List Nat}(ha:IsT n a){i:Nat}(hi:i < n):a[a.idxOf i]?=some i:=by
 have hm:=ha.mem hi
 have hlt:a.idxOf i < a.length:=CL.mpr hm
 rw[AR hlt]
 simp
theorem zJ4{n:Nat}{a:List Nat}(ha:IsT n a):thenL (backL a) a=AC n:=by
 refine zEo (by simp[zAj,backL,ha.len]) fun i hi=>?_
 have hi':i < n:=by rw[zAj,(zBQ ha).len]at hi; exact hi
 rw[zA6 (zH0 (by rw[ha.len]; exact hi')) (zPl ha hi'),zCr hi']
theorem zCz{n qs:Nat}{as:List Nat}:∀ {st:List Stp} {c d:List Nat},IsT n c->IsT n d->StOk n qs st->doneL as (thenL c d) st=thenL c (doneL as d st)
 | [],_,_,_,_,_=>rfl
 | s::r,c,d,hc,hd,hs=>by
  have hp:=zAz (as:=as) (hs s AH)
  simp only[doneL]
  rw[zA4 hc hd hp]
  exact zCz hc (zAv hd hp) fun x hx=>hs x (AF _ hx)
theorem zEn{n qs:Nat}{as:List Nat}{s:Stp}{r:List Stp}(hs:StOk n qs (s::r)):doneL as (AC n) (s::r)=thenL (pickT as s) (doneL as (AC n) r):=by
 have hp:=zAz (as:=as) (hs s AH)
 have hr:StOk n qs r:=fun x hx=>hs x (AF _ hx)
 show doneL as (thenL (AC n) (pickT as s)) r=_
 rw[zCT hp]
 conv=>lhs; rw[← zBn hp]
 exact zCz hp (zAi n) hr
theorem zCM(as:List Nat):∀ (c:List Nat) (st:List Stp) (s:Stp),doneL as c (st++[s])=thenL (doneL as c st) (pickT as s)
 | _,[],_=>rfl
 | c,x::r,s=>zCM as (thenL c (pickT as x)) r s
noncomputable def bkS (s:Stp):Stp:=(s.1,backL s.2.1,backL s.2.2)
theorem zO7(as:List Nat)(s:Stp):pickT as (bkS s)=backL (pickT as s):=by
 unfold pickT bkS
 dsimp only
 split <;> rfl
theorem zJg{n qs:Nat}{st:List Stp}(hs:StOk n qs st):StOk n qs (st.reverse.map bkS):=fun x hx=>by
 obtain⟨s,h,rfl⟩:=Ag.mp hx
 have:=hs s (CA.mp h)
 exact⟨this.1,zBQ this.2.1,zBQ this.2.2⟩
theorem zJB{n qs:Nat}{as:List Nat}:∀ {st:List Stp},StOk n qs st->thenL (doneL as (AC n) st) (doneL as (AC n) (st.reverse.map bkS))=AC n/\thenL (doneL as (AC n) (st.reverse.map bkS)) (doneL as (AC n) st)=AC n
 | [],_=>by
  have:=zBn (zAi n)
  exact⟨this,this⟩
 | s::r,hs=>by
  have hr:StOk n qs r:=fun x hx=>hs x (AF _ hx)
  obtain⟨i1,i2⟩:=zJB (as:=as) hr
  have hp:=zAz (as:=as) (hs s AH)
  have hd:=zBN (as:=as) (zAi n) hr
  have hb:=zBN (as:=as) (zAi n) (zJg hr)
  have hbp:=zBQ hp
  have e:doneL as (AC n) ((s::r).reverse.map bkS)=thenL (doneL as (AC n) (r.reverse.map bkS)) (backL (pickT as s)):=by
   rw[IB,A6,AJ,Ay,zCM,zO7]
  rw[e,zEn hs]
  generalize doneL as (AC n) r=d at *
  generalize doneL as (AC n) (r.reverse.map bkS)=b at *
  generalize pickT as s=p at *
  constructor
  ·rw[zA4 hp hd (zAv hb hbp),← zA4 hd hb hbp,i1,zCT hbp,zJM hp]
  ·rw[zA4 hb hbp (zAv hp hd),← zA4 hbp hp hd,zJ4 hp,zCT hd,i2]
noncomputable def allA:Nat->List (List Nat)
 | 0=>[[]]
 | q+1=>(allA q).map (0::·)++(allA q).map (1::·)
noncomputable def twoA (a:List Nat):List (List Nat):=[a++[0],a++[1]]
theorem zF9(x:Nat)(l:List (List Nat)):(l.map (x::·)).flatMap twoA=(l.flatMap twoA).map (x::·):=by
 induction l with
 | nil=>rfl
 | cons a r ih=>simp only[AJ,IC,ih,A6]; rfl
theorem zGy:∀ q,(allA q).flatMap twoA=allA (q+1)
 | 0=>rfl
 | q+1=>by
  rw[allA,List.flatMap_append,zF9,zF9,zGy q]
  rfl
theorem zB8:∀ (q:Nat) (a:List Nat),a∈allA q->AnsOk q a
 | 0,a,h=>by
  simp[allA]at h
  subst h
  exact⟨rfl,fun x hx=>nomatch hx⟩
 | q+1,a,h=>by
  simp only[allA,Ap,Ag]at h
  rcases h with ⟨b,hb,rfl⟩ | ⟨b,hb,rfl⟩
  ·have:=zB8 q b hb
   exact⟨by simp[this.len],fun x hx=>(AS.mp hx).elim (fun z=>by lia) (this.lt x)⟩
  ·have:=zB8 q b hb
   exact⟨by simp[this.len],fun x hx=>(AS.mp hx).elim (fun z=>by lia) (this.lt x)⟩
noncomputable def chi (d:Nat->Bool) (as:List Nat):Nat->Int
 | 0=>1
 | q+1=>chi d as q * (if (d q && decide (as.getD q 0=1))=true then -1 else 1)
theorem zG5(d:Nat->Bool)(as:List Nat):∀ q,chi d as q=1\/chi d as q=-1
 | 0=>.inl rfl
 | q+1=>by
  unfold chi
  rcases zG5 d as q with e | e <;> rw[e] <;> split <;> simp
theorem zDr(d d':Nat->Bool)(as:List Nat):∀ q,chi d as q * chi d' as q=chi (fun x=>d x != d' x) as q
 | 0=>rfl
 | q+1=>by
  unfold chi
  rw[← zDr d d' as q]
  generalize as.getD q 0=x
  cases h1:d q <;> cases h2:d' q <;> by_cases h3:x=1 <;> simp[h3,HS,Int.neg_mul,Cr,FM,Bv]
theorem zBp{d d':Nat->Bool}{as:List Nat}:∀ {q:Nat},(∀ x,x < q->d x=d' x)->chi d as q=chi d' as q
 | 0,_=>rfl
 | q+1,h=>by
  unfold chi
  rw[zBp fun x hx=>h x (by lia),h q (by lia)]
theorem zBx(d:Nat->Bool)(q:Nat):(AC (q+1)).filter d=(AC q).filter d++(if d q=true then [q] else []):=by
 rw[Fi,Cw]
 congr 1
 by_cases h:d q=true <;> simp[h]
theorem zI1{as:List Nat}(h:∀ q,as.getD q 0 < 2)(d:Nat->Bool):∀ q,((sgn as ((AC q).filter d):Nat):Int) % 3=chi d as q % 3
 | 0=>by simp[sgn,sumN,chi]
 | q+1=>by
  have ih:=zI1 h d q
  have hp:=zG5 d as q
  have h2:=h q
  rw[zBx]
  unfold chi
  unfold sgn at ih ⊢
  have es:sumN as ((AC q).filter d++if d q=true then [q] else [])=sumN as ((AC q).filter d)+(if d q=true then as.getD q 0 else 0):=by
   unfold sumN
   rw[A6,EJ]
   by_cases hd:d q=true <;> simp[hd]
  rw[es]
  generalize sumN as ((AC q).filter d)=N at *
  generalize as.getD q 0=x at *
  by_cases hd:d q=true
  ·rw[if_pos hd]
   by_cases hx:x=1
   ·subst hx
    rw[if_pos (by simp[hd])]
    rcases hp with e | e <;> rw[e]at ih ⊢ <;> lia
   ·rw[if_neg (by simp[hx])]
    have:x=0:=by lia
    subst this
    rcases hp with e | e <;> rw[e]at ih ⊢ <;> lia
  ·rw[if_neg hd,if_neg (by simp[hd])]
   rcases hp with e | e <;> rw[e]at ih ⊢ <;> lia
noncomputable def chS (qs:Nat) (as:List Nat) (s:List Nat):Int:=chi (hasQ s) as qs
theorem zBE{qs:Nat}{as s:List Nat}(h:∀ q,as.getD q 0 < 2)(hs:SetOk qs s):((sgn as s:Nat):Int) % 3=chS qs as s % 3:=by
 have:=zI1 h (hasQ s) qs
 rw[hs.filter]at this
 exact this
theorem zD5{qs:Nat}{d:Nat->Bool}{x:Nat}(hx:x < qs):hasQ ((AC qs).filter d) x=d x:=by
 unfold hasQ
 by_cases h:d x=true
 ·rw[h]; exact decide_eq_true (A5.mpr ⟨BU.mpr hx,h⟩)
 ·have h':d x=false:=by simpa using h
  rw[h']; exact decide_eq_false fun z=>h (A5.mp z).2
theorem zIX(q0:Nat)(as:List Nat):∀ q,chi (fun x=>decide (x=q0)) as q=if q0 < q/\as.getD q0 0=1 then -1 else 1
 | 0=>by simp[chi]
 | q+1=>by
  unfold chi
  rw[zIX q0 as q]
  by_cases e:q=q0
  ·subst e; by_cases h:as.getD q 0=1 <;> simp[h]
  ·have:(q0 < q/\as.getD q0 0=1) ↔ (q0 < q+1/\as.getD q0 0=1):=by constructor <;> intro z <;> exact⟨by lia,z.2⟩
   have e1:(decide (q=q0) && decide (as.getD q 0=1))=false:=by rw[decide_eq_false e]; rfl
   rw[e1]
   simp only[Ar,if_false,Ce]
   by_cases z:q0 < q/\as.getD q0 0=1
   ·rw[if_pos z,if_pos (this.mp z)]
   ·rw[if_neg z,if_neg fun w=>z (this.mpr w)]
theorem zMp{qs:Nat}(as s:List Nat){q:Nat}(hq:q < qs):chS qs as (flipL qs s q)=chS qs as s * (if as.getD q 0=1 then -1 else 1):=by
 unfold chS
 have e:chi (hasQ (flipL qs s q)) as qs=chi (fun x=>hasQ s x != decide (x=q)) as qs:=zBp fun x hx=>zD5 hx
 rw[e,← zDr,zIX]
 simp[hq]
noncomputable def af (c e:Int):List Nat:=(AC 3).map fun (x:Nat)=>((c+e * (x:Int)) % 3).toNat
theorem zBI{c e c' e':Int}(h1:c % 3=c' % 3)(h2:e % 3=e' % 3):af c e=af c' e':=by
 unfold af
 refine BH fun x _=>?_
 have:(c+e * (x:Int)) % 3=(c'+e' * (x:Int)) % 3:=by
  rw[FN,Bq,h1,h2,← Bq,← FN]
 rw[this]
theorem zGb{c e c' e':Int}(h:af c e=af c' e'):c % 3=c' % 3/\e % 3=e' % 3:=by
 have h0:=congrArg (fun l=>l.getD 0 0) h
 have h1:=congrArg (fun l=>l.getD 1 0) h
 simp[af,Fi]at h0 h1
 lia
theorem zO4{c e:Int}{k:Nat}(hk:k < 3):(af c e).getD k 0=((c+e * (k:Int)) % 3).toNat:=by
 unfold af
 rw[AK,Af,List.getElem?_range hk]; rfl
theorem zE8(c e c' e':Int):thenL (af c e) (af c' e')=af (c'+e' * c) (e' * e):=by
 have gen:∀ x:Nat,(af c' e').getD ((c+e * (x:Int)) % 3).toNat 0=(((c'+e' * c)+e' * e * (x:Int)) % 3).toNat:=fun x=>by
  rw[zO4 (by lia),CP (B3 _ (by decide))]
  congr 1
  rw[FN,Bq,JT,← Bq,← FN]
  congr 1
  rw[Fj,← Bv,Int.add_assoc]
 show ((AC 3).map _).map _=_
 rw[A7]
 refine BH fun x _=>?_
 exact gen x
theorem zKE{t:List Nat}(h:IsT 3 t):t=af (t.getD 0 0:Nat) (e3 t)/\(e3 t=1\/e3 t=2):=by
 obtain⟨a,b,c,rfl⟩:=isT3 h
 have ha:=h.lt a (by simp)
 have hb:=h.lt b (by simp)
 have hc:=h.lt c (by simp)
 have nd:=h.nd
 simp at nd
 have ha':a=0\/a=1\/a=2:=by lia
 have hb':b=0\/b=1\/b=2:=by lia
 have hc':c=0\/c=1\/c=2:=by lia
 obtain⟨⟨n1,n2⟩,n3⟩:=nd
 clear h ha hb hc
 rcases ha' with rfl | rfl | rfl <;> rcases hb' with rfl | rfl | rfl <;> rcases hc' with rfl | rfl | rfl <;> first | exact absurd rfl n1 | exact absurd rfl n2 | exact absurd rfl n3 | decide
theorem zBK(as:List Nat)(bg:Nat)(fl:List Nat)(mk:List Mk):comeL as bg fl mk=af (cL as mk:Nat) (((1+bg) * sgn as fl:Nat):Int):=by
 unfold comeL af
 refine BH fun x _=>?_
 lia
noncomputable def cP (qs:Nat) (as:List Nat) (ps:List Pr):Int:=(ps.map fun p=>p.2 * chS qs as p.1).sum
noncomputable def eP (qs:Nat) (as:List Nat) (x:Ss):Int:=(1+(x.1:Int)) * chS qs as x.2.1
theorem zL5(qs:Nat)(as:List Nat)(a b:List Pr):cP qs as (a++b)=cP qs as a+cP qs as b:=by
 unfold cP; rw[A6,EJ]
theorem zKR(qs:Nat)(s:Stp)(r:List Stp):sumsL qs (s::r)=stepS qs (sumsL qs r) s:=by
 unfold sumsL
 rw[IB,List.foldl_append]; rfl
theorem zLh{qs:Nat}{as:List Nat}(ha:∀ q,as.getD q 0 < 2)(x:Ss)(hb:x.1 < 2)(s:Stp)(hs:s.1 < qs/\IsT 3 s.2.1/\IsT 3 s.2.2) :
  cP qs as (stepS qs x s).2.2 % 3=(cP qs as x.2.2+eP qs as x * ((pickT as s).getD 0 0:Nat)) % 3/\eP qs as (stepS qs x s) % 3=(eP qs as x * e3 (pickT as s)) % 3:=by
 obtain⟨bg,fl,ps⟩:=x
 obtain⟨q,yes,no⟩:=s
 obtain⟨hq,hy,hn⟩:=hs
 have ey:e3 yes=1\/e3 yes=2:=(zKE hy).2
 have en:e3 no=1\/e3 no=2:=(zKE hn).2
 have hp:=zG5 (hasQ fl) as qs
 have ec:cP qs as (stepS qs (bg,fl,ps) (q,yes,no)).2.2=cP qs as ps+cP qs as (pairsL qs (q,yes,no) bg fl):=zL5 _ _ _ _
 have ef:=zMp as fl hq
 have hchs:chS qs as fl=1\/chS qs as fl=-1:=hp
 have hbg:bg=0\/bg=1:=by dsimp only at hb; lia
 have ecp:cP qs as (pairsL qs (q,yes,no) bg fl)=2 * (1+(bg:Int)) * ((no.getD 0 0:Nat)+(yes.getD 0 0:Nat)) * chS qs as fl+2 * (1+(bg:Int)) * ((no.getD 0 0:Nat) - (yes.getD 0 0:Nat)) * (chS qs as fl * (if as.getD q 0=1 then -1 else 1)):=by
  unfold cP pairsL
  simp only[AJ,Ay,BD,Gj,G0]
  rw[ef]
 rw[ec,ecp]
 unfold eP stepS pickT
 dsimp only
 have h2:=ha q
 by_cases h1:as.getD q 0=1
 ·rw[if_pos h1,if_pos h1]
  rw[if_pos h1]at ef
  generalize cP qs as ps=C at *
  generalize (no.getD 0 0)=n0 at *
  generalize (yes.getD 0 0)=y0 at *
  constructor
  ·rcases hchs with e | e <;> rcases hbg with f | f <;> subst f <;> rw[e] <;> lia
  ·by_cases e2:e3 no=2
   ·rw[if_pos e2]
    by_cases e4:e3 yes=e3 no
    ·rw[if_pos e4,e4,e2]
     rcases hchs with e | e <;> rcases hbg with f | f <;> subst f <;> rw[e] <;> decide
    ·rw[if_neg e4,ef]
     have:e3 yes=1:=by lia
     rw[this]
     rcases hchs with e | e <;> rcases hbg with f | f <;> subst f <;> rw[e] <;> decide
   ·rw[if_neg e2]
    by_cases e4:e3 yes=e3 no
    ·have:e3 yes=1:=by lia
     rw[if_pos e4,this,Ce]
    ·rw[if_neg e4,ef]
     have:e3 yes=2:=by lia
     rw[this]
     rcases hchs with e | e <;> rcases hbg with f | f <;> subst f <;> rw[e] <;> decide
 ·rw[if_neg h1,if_neg h1]
  rw[if_neg h1]at ef
  generalize cP qs as ps=C at *
  generalize (no.getD 0 0)=n0 at *
  generalize (yes.getD 0 0)=y0 at *
  constructor
  ·rcases hchs with e | e <;> rcases hbg with f | f <;> subst f <;> rw[e] <;> lia
  ·have efl:chS qs as (if e3 yes=e3 no then fl else flipL qs fl q)=chS qs as fl:=by
    split
    ·rfl
    ·rw[ef,Ce]
   rw[efl]
   by_cases e2:e3 no=2
   ·rw[if_pos e2,e2]
    rcases hchs with e | e <;> rcases hbg with f | f <;> subst f <;> rw[e] <;> decide
   ·have:e3 no=1:=by lia
    rw[if_neg e2,this,Ce]
theorem zIS{qs:Nat}{as:List Nat}(ha:∀ q,as.getD q 0 < 2):∀ (st:List Stp),StOk 3 qs st->doneL as (AC 3) st=af (cP qs as (sumsL qs st).2.2) (eP qs as (sumsL qs st))
 | [],_=>by
  have h1:cP qs as (sumsL qs []).2.2=0:=rfl
  have h2:eP qs as (sumsL qs [])=1:=by
   show (1+((0:Nat):Int)) * chS qs as []=1
   have:chS qs as []=1:=by
    unfold chS
    have e:chi (hasQ []) as qs=chi (fun _=>false) as qs:=zBp fun x _=>by simp[hasQ]
    rw[e]
    have:∀ q,chi (fun _=>false) as q=1:=fun q=>by
     induction q with
     | zero=>rfl
     | succ q ih=>unfold chi; rw[ih]; simp
    exact this qs
   rw[this]; rfl
  rw[h1,h2]
  show AC 3=af 0 1
  decide
 | s::r,hs=>by
  have h0:=hs s AH
  have hr:StOk 3 qs r:=fun x hx=>hs x (AF _ hx)
  have ih:=zIS ha r hr
  have hp:=zAz (as:=as) h0
  obtain⟨e1,e2⟩:=zLh ha (sumsL qs r) (zCF qs r).1.bg s h0
  rw[zEn hs,ih,zKR]
  conv=>lhs; arg 1; rw[(zKE hp).1]
  rw[zE8]
  exact zBI e1.symm e2.symm
theorem zEF(p:Pr)(ps:List Pr)(s:List Nat):cfI (p::ps) s=(if p.1=s then p.2 else 0)+cfI ps s:=by
 unfold cfI
 by_cases h:p.1=s <;> simp[h]
theorem zLI(g:List Nat->Int)(k:List Nat)(v:Int):∀ ks:List (List Nat),ks.Nodup->k∈ks->(ks.map fun s=>(if k=s then v else 0) * g s).sum=v * g k
 | [],_,h=>nomatch h
 | s::r,nd,h=>by
  obtain⟨n1,n2⟩:=BI.mp nd
  rw[AJ,BD]
  by_cases e:k=s
  ·subst e
   have:(r.map fun s=>(if k=s then v else 0) * g s).sum=0:=by
    have z:∀ l:List (List Nat),k∉l->(l.map fun s=>(if k=s then v else 0) * g s).sum=0:=by
     intro l
     induction l with
     | nil=>intro _; rfl
     | cons a l ih =>
      intro hn
      have hn':=List.not_mem_cons_of_ne_of_not_mem (a:=k) (y:=a) (l:=l)
      have h1:k≠a:=fun z=>hn (z ▸ AH)
      have h2:k∉l:=fun z=>hn (AF _ z)
      rw[AJ,BD,if_neg h1,ih h2]; simp
    exact z r n1
   rw[this,if_pos rfl]; simp
  ·have hr:k∈r:=(AS.mp h).elim (fun z=>absurd z e) id
   rw[if_neg e,zLI g k v r n2 hr]; simp
theorem zIl(f g:List Nat->Int):∀ ks:List (List Nat),(ks.map fun s=>f s+g s).sum=(ks.map f).sum+(ks.map g).sum
 | []=>rfl
 | s::r=>by simp only[AJ,BD,zIl f g r]; lia
theorem zGa(g:List Nat->Int){ks:List (List Nat)}(nd:ks.Nodup):∀ ps:List Pr,(∀ p∈ps,p.1∈ks)->(ps.map fun p=>p.2 * g p.1).sum=(ks.map fun s=>cfI ps s * g s).sum
 | [],_=>by
  have:∀ l:List (List Nat),(l.map fun s=>cfI [] s * g s).sum=0:=fun l=>by
   induction l with
   | nil=>rfl
   | cons a l ih=>rw[AJ,BD,ih]; simp[cfI]
  rw[this]; rfl
 | p::ps,h=>by
  rw[AJ,BD,zGa g nd ps fun q hq=>h q (AF _ hq),← zLI g p.1 p.2 ks nd (h p AH),← zIl]
  congr 1
  refine BH fun s _=>?_
  rw[zEF,KM]
theorem zI2{α:Type}{f g:α->Int}:∀ l:List α,(∀ x∈l,f x % 3=g x % 3)->(l.map f).sum % 3=(l.map g).sum % 3
 | [],_=>rfl
 | a::l,h=>by
  have h1:=h a AH
  have h2:=zI2 l fun x hx=>h x (AF _ hx)
  simp only[AJ,BD]
  lia
theorem zAp{a b c d:Int}(h1:a % 3=c % 3)(h2:b % 3=d % 3):(a * b) % 3=(c * d) % 3:=by
 rw[Bq,h1,h2,← Bq]
theorem zIb(as:List Nat)(m:Mk)(r:List Mk):cL as (m::r)=m.2 * sgn as m.1+cL as r:=by simp[cL]
theorem zFi{qs:Nat}{as:List Nat}(ha:∀ q,as.getD q 0 < 2)(cf:List Nat->Int):∀ ks:List (List Nat),(∀ s∈ks,SetOk qs s)->((cL as ((ks.filter fun s=>!decide (cf s % 3=0)).map fun s=>(s,(cf s % 3).toNat)):Nat):Int) % 3=(ks.map fun s=>cf s * chS qs as s).sum % 3
 | [],_=>by simp[cL]
 | s::r,h=>by
  have ih:=zFi ha cf r fun x hx=>h x (AF _ hx)
  have hs:=zBE ha (h s AH)
  rw[AJ,BD,FW]
  by_cases e:cf s % 3=0
  ·rw[if_neg (by simp[e])]
   have:(cf s * chS qs as s) % 3=0:=by rw[Bq,e]; simp
   lia
  ·rw[if_pos (by simp[e]),AJ,zIb]
   have h0:0<=cf s % 3:=B3 _ (by decide)
   have h1:(((cf s % 3).toNat * sgn as s:Nat):Int) % 3=(cf s * chS qs as s) % 3:=by
    rw[Bd,CP h0]
    exact zAp (JT _ _) hs
   show ((((cf s % 3).toNat * sgn as s+cL as _:Nat)):Int) % 3=_
   rw[Ij]
   lia
theorem zCx{qs:Nat}{as:List Nat}(ha:∀ q,as.getD q 0 < 2){ps:List Pr}(hp:∀ p∈ps,SetOk qs p.1):((cL as (marksL ps):Nat):Int) % 3=cP qs as ps % 3:=by
 have hF:=zA9 ps
 have nd:(sortL ((foldM ps).map (·.1))).Nodup:=(GU (zAw _)).mpr hF.nd
 have hin:∀ s,s∈sortL ((foldM ps).map (·.1)) ↔ s∈ps.map (·.1):=fun s=>by rw[(zAw _).mem_iff]; exact hF.key s
 unfold marksL cP
 rw[zFi ha (cfI ps) _ fun s hs=>by
  obtain⟨p,hpp,e⟩:=Ag.mp ((hin s).mp hs)
  rw[← e]; exact hp p hpp]
 rw[zGa (chS qs as) nd ps fun p hpp=>(hin _).mpr (Ag.mpr ⟨p,hpp,rfl⟩)]
theorem zG2(d:Nat->Bool){as:List Nat}{q:Nat}(h:as.length=q)(x:Nat):chi d (as++[x]) (q+1)=chi d as q * (if (d q && decide (x=1))=true then -1 else 1):=by
 have e:∀ k,k<=q->chi d (as++[x]) k=chi d as k:=by
  intro k
  induction k with
  | zero=>intro _; rfl
  | succ k ih =>
   intro hk
   unfold chi
   rw[ih (by lia)]
   have:(as++[x]).getD k 0=as.getD k 0:=by
    rw[AK,AK,Aq (by lia)]
   rw[this]
 show chi d (as++[x]) q * _=_
 rw[e q (AL _)]
 have:(as++[x]).getD q 0=x:=by
  rw[AK,BJ (by lia),h,Jr]; rfl
 rw[this]
noncomputable def none0 (d:Nat->Bool) (q:Nat):Bool:=(AC q).all fun x=>!d x
theorem zJ8(d:Nat->Bool)(q:Nat):none0 d (q+1)=(none0 d q && !d q):=by
 unfold none0; rw[Fi,List.all_append]; simp
theorem zIy(d:Nat->Bool)(q:Nat):∀ L:List (List Nat),(∀ as∈L,as.length=q)->((L.flatMap twoA).map fun as=>chi d as (q+1)).sum=(if d q=true then 0 else 2) * (L.map fun as=>chi d as q).sum
 | [],_=>by simp
 | a::L,h=>by
  have ih:=zIy d q L fun x hx=>h x (AF _ hx)
  have hl:=h a AH
  rw[IC,A6,EJ,ih,AJ,BD]
  simp only[twoA,AJ,Ay,BD,Gj]
  rw[zG2 d hl 0,zG2 d hl 1]
  by_cases hd:d q=true
  ·simp[hd]; lia
  ·simp[hd]; lia
theorem zI0(d:Nat->Bool):∀ q,((allA q).map fun as=>chi d as q).sum=if none0 d q=true then 2 ^ q else 0
 | 0=>rfl
 | q+1=>by
  rw[← zGy,zIy d q (allA q) fun as ha=>(zB8 q as ha).len,zI0 d q,zJ8]
  by_cases hd:d q=true
  ·simp[hd]
  ·by_cases hn:none0 d q=true
   ·simp[hd,hn,Js,Cr]
   ·simp[hd,hn]
theorem zMs{α β:Type}(f:α->β->Int)(l:List α)(m:List β):(l.map fun a=>(m.map fun b=>f a b).sum).sum=(m.map fun b=>(l.map fun a=>f a b).sum).sum:=by
 induction l with
 | nil =>
  have:∀ m:List β,(m.map fun _=>(0:Int)).sum=0:=fun m=>by induction m with
   | nil=>rfl
   | cons b m ih=>rw[AJ,BD,ih]; rfl
  simp only[Ay,Gj]; rw[this]
 | cons a l ih =>
  have add:∀ (g h:β->Int) (m:List β),(m.map fun b=>g b+h b).sum=(m.map g).sum+(m.map h).sum:=fun g h m=>by
   induction m with
   | nil=>rfl
   | cons b m ih=>simp only[AJ,BD,ih]; lia
  simp only[AJ,BD]
  rw[add,ih]
theorem zGl{α:Type}(f:α->Int)(c:Int):∀ l:List α,(l.map fun a=>f a * c).sum=(l.map f).sum * c
 | []=>by simp
 | a::l=>by simp only[AJ,BD,zGl f c l,KM]
theorem zEG{α:Type}(f:α->Int)(c:Int):∀ l:List α,(l.map fun a=>c * f a).sum=c * (l.map f).sum
 | []=>by simp
 | a::l=>by simp only[AJ,BD,zEG f c l,Fj]
theorem zG0{qs:Nat}{s t:List Nat}(hs:SetOk qs s)(ht:SetOk qs t):none0 (fun x=>hasQ s x != hasQ t x) qs=decide (s=t):=by
 by_cases e:s=t
 ·subst e; rw[decide_eq_true rfl]; unfold none0; simp
 ·rw[decide_eq_false e]
  cases h:none0 (fun x=>hasQ s x != hasQ t x) qs with
  | false=>rfl
  | true =>
   exfalso
   apply e
   rw[← hs.filter,← ht.filter]
   refine C9 fun x hx=>?_
   have:=BK.mp h x hx
   simpa using this
theorem ortho{qs:Nat}{s t:List Nat}(hs:SetOk qs s)(ht:SetOk qs t):((allA qs).map fun as=>chS qs as s * chS qs as t).sum=if s=t then 2 ^ qs else 0:=by
 have:(fun as=>chS qs as s * chS qs as t)=fun as=>chi (fun x=>hasQ s x != hasQ t x) as qs:=by funext as; exact zDr _ _ _ _
 rw[this,zI0,zG0 hs ht]
 by_cases e:s=t <;> simp[e]
theorem zNd{qs:Nat}{ps:List Pr}(hp:∀ p∈ps,SetOk qs p.1){t:List Nat}(ht:SetOk qs t):((allA qs).map fun as=>cP qs as ps * chS qs as t).sum=2 ^ qs * cfI ps t:=by
 have e1:((allA qs).map fun as=>cP qs as ps * chS qs as t)=(allA qs).map fun as=>(ps.map fun p=>p.2 * (chS qs as p.1 * chS qs as t)).sum:=BH fun as _=>by
  unfold cP
  rw[← zGl]
  congr 1
  refine BH fun p _=>?_
  rw[Bv]
 rw[e1,zMs]
 have e2:(ps.map fun p=>((allA qs).map fun as=>p.2 * (chS qs as p.1 * chS qs as t)).sum)=ps.map fun p=>2 ^ qs * (if p.1=t then p.2 else 0):=BH fun p hpp=>by
  rw[zEG,ortho (hp p hpp) ht]
  by_cases e:p.1=t
  ·rw[if_pos e,if_pos e,Cr]
  ·rw[if_neg e,if_neg e]; simp
 rw[e2,zEG]
 congr 1
 have:∀ ps:List Pr,(ps.map fun p=>if p.1=t then p.2 else 0).sum=cfI ps t:=fun ps=>by
  induction ps with
  | nil=>rfl
  | cons p r ih=>rw[AJ,BD,ih,zEF]
 exact this ps
theorem zMh(q:Nat):((2:Int) ^ q) % 3=1\/((2:Int) ^ q) % 3=2:=by
 induction q with
 | zero=>exact .inl rfl
 | succ q ih=>rw[Js]; lia
theorem zNH{q:Nat}{a b:Int}(h:(2 ^ q * a) % 3=(2 ^ q * b) % 3):a % 3=b % 3:=by
 rcases zMh q with e | e
 ·rw[Bq,e,Bq (2 ^ q) b,e]at h; lia
 ·rw[Bq,e,Bq (2 ^ q) b,e]at h; lia
theorem zOt{qs:Nat}{ps ps':List Pr}(hp:∀ p∈ps,SetOk qs p.1)(hp':∀ p∈ps',SetOk qs p.1)(h:∀ as,AnsOk qs as->cP qs as ps % 3=cP qs as ps' % 3){t:List Nat}(ht:SetOk qs t):cfI ps t % 3=cfI ps' t % 3:=by
 refine zNH (q:=qs) ?_
 rw[← zNd hp ht,← zNd hp' ht]
 exact zI2 _ fun as has=>zAp (h as (zB8 qs as has)) rfl
noncomputable def lxN (a b:List Nat):Bool:=HT.lexLt (a.map fun (k:Nat)=>(k:Int)) (b.map fun (k:Nat)=>(k:Int))
theorem zDW:∀ a:List Nat,lxN a a=false
 | []=>rfl
 | x::r=>by unfold lxN; rw[AJ,HT.lexLt_cons,if_pos rfl]; exact zDW r
theorem zFP:∀ a b:List Nat,a≠b->lxN a b=false->lxN b a=true
 | [],[],h,_=>absurd rfl h
 | [],_::_,_,h=>by cases h
 | _::_,[],_,_=>rfl
 | x::r,y::s,h,e=>by
  unfold lxN at e ⊢
  rw[AJ,AJ,HT.lexLt_cons]at e ⊢
  by_cases z:x=y
  ·subst z
   rw[if_pos rfl]at e ⊢
   exact zFP r s (fun w=>h (by rw[w])) e
  ·rw[if_neg (by lia)]at e ⊢
   have:¬ ((x:Int) < (y:Int)):=by simpa using e
   exact decide_eq_true (by lia)
theorem zDb:∀ a b:List Nat,lxN a b=true->lxN b a=false
 | [],[],_=>rfl
 | [],_::_,_=>rfl
 | _::_,[],h=>by cases h
 | x::r,y::s,e=>by
  unfold lxN at e ⊢
  rw[AJ,AJ,HT.lexLt_cons]at e ⊢
  by_cases z:x=y
  ·subst z
   rw[if_pos rfl]at e ⊢
   exact zDb r s e
  ·rw[if_neg (by lia)]at e ⊢
   have:(x:Int) < (y:Int):=by simpa using e
   exact decide_eq_false (by lia)
theorem zHr:∀ a b c:List Nat,lxN a b=true->lxN b c=true->lxN a c=true
 | _,[],[],_,h=>by cases h
 | _,_::_,[],_,h=>by cases h
 | [],_,_::_,_,_=>rfl
 | _::_,[],_::_,h,_=>by cases h
 | x::r,y::s,z::t,e,f=>by
  unfold lxN at e f ⊢
  rw[AJ,AJ,HT.lexLt_cons]at e f ⊢
  by_cases h1:x=y
  ·subst h1
   rw[if_pos rfl]at e
   by_cases h2:x=z
   ·subst h2
    rw[if_pos rfl]at f ⊢
    exact zHr r s t e f
   ·rw[if_neg (by lia)]at f ⊢; exact f
  ·rw[if_neg (by lia)]at e
   have e':(x:Int) < (y:Int):=by simpa using e
   by_cases h2:y=z
   ·subst h2
    rw[if_neg (by lia)]; exact e
   ·rw[if_neg (by lia)]at f
    have f':(y:Int) < (z:Int):=by simpa using f
    rw[if_neg (by lia)]
    exact decide_eq_true (by lia)
theorem zGo{nss:List (List Nat)}(nd:nss.Nodup):(sortL nss).Pairwise fun a b=>lxN a b=true:=by
 have gi:∀ i,i < nss.length->(nss.map fun s=>s.map fun (k:Nat)=>(k:Int)).getD i []=(nss.getD i []).map fun (k:Nat)=>(k:Int):=fun i hi=>by
  simp[AK,hi]
 have inj:∀ i j,i < nss.length->j < nss.length->i≠j->nss.getD i []≠nss.getD j []:=fun i j hi hj hij e=>by
  rw[AK,AK,AR hi,AR hj,BV,BV]at e
  have pw:=Au.mp nd
  rcases FK i j with z | z | z
  ·exact pw i j hi hj z e
  ·exact hij z
  ·exact pw j i hj hi z e.symm
 unfold sortL
 refine zC6 ⟨fun i j hi hj hij h=>?_,fun i j hi hj h=>?_,fun i j k hi hj hk h1 h2=>?_⟩ _ fun i j hi hj h=>?_
 ·unfold ltI at h ⊢
  rw[gi i hi,gi j hj]at h ⊢
  exact zFP _ _ (inj i j hi hj hij) h
 ·unfold ltI at h ⊢
  rw[gi i hi,gi j hj]at h ⊢
  exact zDb _ _ h
 ·unfold ltI at h1 h2 ⊢
  rw[gi i hi,gi j hj]at h1
  rw[gi j hj,gi k hk]at h2
  rw[gi i hi,gi k hk]
  exact zHr _ _ _ h1 h2
 ·unfold ltI at h
  rw[gi i hi,gi j hj]at h
  exact h
structure WfM(qs:Nat)(mk:List Mk):Prop where
 ok:∀ m∈mk,MkOk qs m
 srt:mk.Pairwise fun a b=>lxN a.1 b.1=true
theorem zBU{qs:Nat}{ps:List Pr}(hp:∀ p∈ps,SetOk qs p.1):WfM qs (marksL ps):=by
 refine⟨fun m hm=>?_,?_⟩
 ·obtain⟨h1,h2,h3⟩:=zES.mp hm
  obtain⟨p,hpp,e⟩:=Ag.mp h1
  refine⟨e ▸ hp p hpp,?_,?_⟩
  ·rw[h3]; lia
  ·rw[h3]; lia
 ·unfold marksL
  exact BN.mpr ((zGo (zA9 ps).nd).filter _)
theorem WfM.keys{qs:Nat}{mk:List Mk}(h:WfM qs mk):(mk.map (·.1)).Nodup :=
 BN.mpr (h.srt.imp fun {a b} hab e=>by rw[e,zDW]at hab; cases hab)
noncomputable def prM (mk:List Mk):List Pr:=mk.map fun m=>(m.1,(m.2:Int))
theorem zFL:∀ {mk:List Mk},(mk.map (·.1)).Nodup->∀ {m:Mk},m∈mk->cfI (prM mk) m.1=(m.2:Int)
 | [],_,_,h=>nomatch h
 | a::r,nd,m,h=>by
  rw[AJ,BI]at nd
  show cfI ((a.1,(a.2:Int))::prM r) m.1=_
  rw[zEF]
  rcases AS.mp h with e | e
  ·subst e
   have:cfI (prM r) m.1=0:=by
    have:((prM r).filter fun p=>decide (p.1=m.1))=[]:=by
     rw[EC]
     intro p hp hd
     obtain⟨b,hb,e⟩:=Ag.mp hp
     subst e
     exact nd.1 (Ag.mpr ⟨b,hb,by simpa using hd⟩)
    unfold cfI; rw[this]; rfl
   rw[this,if_pos rfl,G0]
  ·have:¬ a.1=m.1:=fun z=>nd.1 (Ag.mpr ⟨m,e,z.symm⟩)
   rw[if_neg this,zFL nd.2 e,Int.zero_add]
theorem zNX{mk:List Mk}{t:List Nat}(h:cfI (prM mk) t≠0):∃ m∈mk,m.1=t:=by
 cases e:(prM mk).filter fun p=>decide (p.1=t) with
 | nil=>exact absurd (by unfold cfI; rw[e]; rfl) h
 | cons p r =>
  have hp:p∈(prM mk).filter fun p=>decide (p.1=t):=by rw[e]; exact AH
  obtain⟨h1,h2⟩:=A5.mp hp
  obtain⟨m,hm,e⟩:=Ag.mp h1
  subst e
  exact⟨m,hm,by simpa using h2⟩
theorem zCy:∀ {a b:List Mk},a.Pairwise (fun x y=>lxN x.1 y.1=true)->b.Pairwise (fun x y=>lxN x.1 y.1=true)->(∀ m,m∈a ↔ m∈b)->a=b
 | [],[],_,_,_=>rfl
 | [],y::s,_,_,h=>nomatch (h y).mpr AH
 | x::r,[],_,_,h=>nomatch (h x).mp AH
 | x::r,y::s,ha,hb,h=>by
  have ha':=Bb.mp ha
  have hb':=Bb.mp hb
  have e:x=y:=by
   rcases AS.mp ((h x).mp AH) with e | e
   ·exact e
   ·rcases AS.mp ((h y).mpr AH) with f | f
    ·exact f.symm
    ·have:=zDb _ _ (hb'.1 x e)
     rw[ha'.1 y f]at this; cases this
  subst e
  have hn:∀ l:List Mk,(∀ z∈l,lxN x.1 z.1=true)->x∉l:=fun l hl hx=>by have:=hl x hx; rw[zDW]at this; cases this
  rw[zCy ha'.2 hb'.2 fun m=>⟨fun hm=>?_,fun hm=>?_⟩]
  ·rcases AS.mp ((h m).mp (AF _ hm)) with e | e
   ·subst e; exact absurd hm (hn r ha'.1)
   ·exact e
  ·rcases AS.mp ((h m).mpr (AF _ hm)) with e | e
   ·subst e; exact absurd hm (hn s hb'.1)
   ·exact e
theorem zDM{qs:Nat}{as:List Nat}(ha:∀ q,as.getD q 0 < 2):∀ {mk:List Mk},(∀ m∈mk,MkOk qs m)->((cL as mk:Nat):Int) % 3=cP qs as (prM mk) % 3
 | [],_=>by simp[cL,cP,prM]
 | m::r,h=>by
  have ih:=zDM ha (mk:=r) fun x hx=>h x (AF _ hx)
  have hs:=zBE ha (h m AH).1
  rw[zIb]
  have e:cP qs as (prM (m::r))=(m.2:Int) * chS qs as m.1+cP qs as (prM r):=by simp[cP,prM]
  rw[e,Ij,Bd]
  have:=zAp (a:=(m.2:Int)) (c:=(m.2:Int)) rfl hs
  lia
theorem zNa{qs bg bg':Nat}{fl fl':List Nat}{mk mk':List Mk}(hb:bg < 2)(hb':bg' < 2)(hf:SetOk qs fl)(hf':SetOk qs fl')(hm:WfM qs mk)(hm':WfM qs mk')(h:∀ as,AnsOk qs as->comeL as bg fl mk=comeL as bg' fl' mk'):bg=bg'/\fl=fl'/\mk=mk':=by
 have both:∀ as,AnsOk qs as->((cL as mk:Nat):Int) % 3=((cL as mk':Nat):Int) % 3/\((1+(bg:Int)) * chS qs as fl) % 3=((1+(bg':Int)) * chS qs as fl') % 3:=fun as ha=>by
  have ht:∀ q,as.getD q 0 < 2:=fun q=>(AnsGe.two ⟨Dl ha.len.symm,ha.lt⟩ q)
  have:=h as ha
  rw[zBK,zBK]at this
  obtain⟨h1,h2⟩:=zGb this
  refine⟨h1,?_⟩
  rw[Bd,Bd]at h2
  have e1:=zAp (a:=((1+bg:Nat):Int)) (c:=1+(bg:Int)) (by simp) (zBE ht hf)
  have e2:=zAp (a:=((1+bg':Nat):Int)) (c:=1+(bg':Int)) (by simp) (zBE ht hf')
  rw[← e1,← e2]; exact h2
 have zero:AnsOk qs (Ac qs 0):=⟨by simp,fun x hx=>by rw[Dv hx]; decide⟩
 have ch0:∀ s,chS qs (Ac qs 0) s=1:=fun s=>by
  unfold chS
  have:∀ k,chi (hasQ s) (Ac qs 0) k=1:=fun k=>by
   induction k with
   | zero=>rfl
   | succ k ih =>
    unfold chi
    rw[ih]
    have:¬ (Ac qs 0).getD k 0=1:=by
     rw[AK,C0]; split <;> simp
    have e1:(hasQ s k && decide ((Ac qs 0).getD k 0=1))=false:=by rw[decide_eq_false this,Ia]
    rw[e1]; rfl
  exact this qs
 have hbg:bg=bg':=by
  have:=(both _ zero).2
  rw[ch0,ch0]at this
  lia
 subst hbg
 have hfl:fl=fl':=by
  have key:none0 (fun x=>hasQ fl x != hasQ fl' x) qs=true:=by
   unfold none0
   refine BK.mpr fun q hq=>?_
   have hq':=BU.mp hq
   have one:AnsOk qs ((Ac qs 0).set q 1):=⟨by simp,fun x hx=>by
    rcases GM hx with z | z
    ·rw[Dv z]; decide
    ·rw[z]; decide⟩
   have g1:((Ac qs 0).set q 1).getD q 0=1:=by
    rw[AK,Am (by simpa using hq')]; rfl
   have g0:∀ x,x≠q->((Ac qs 0).set q 1).getD x 0=0:=fun x hx=>by
    rw[AK,AW (BC hx),C0]; split <;> rfl
   have ch1:∀ s,∀ k,chi (hasQ s) ((Ac qs 0).set q 1) k=if q < k/\hasQ s q=true then -1 else 1:=fun s k=>by
    induction k with
    | zero=>simp[chi]
    | succ k ih =>
     unfold chi
     rw[ih]
     by_cases e:k=q
     ·subst e
      rw[g1]
      cases hasQ s k <;> simp
     ·rw[g0 k e]
      have:(q < k/\hasQ s q=true) ↔ (q < k+1/\hasQ s q=true):=by constructor <;> intro z <;> exact⟨by lia,z.2⟩
      by_cases z:q < k/\hasQ s q=true
      ·rw[if_pos z,if_pos (this.mp z)]; simp
      ·rw[if_neg z,if_neg fun w=>z (this.mpr w)]; simp
   have:=(both _ one).2
   unfold chS at this
   rw[ch1,ch1]at this
   rw[show (if q < qs/\hasQ fl q=true then (-1:Int) else 1)=(if hasQ fl q=true then -1 else 1) from by simp[hq'],show (if q < qs/\hasQ fl' q=true then (-1:Int) else 1)=(if hasQ fl' q=true then -1 else 1) from by simp[hq']]at this
   show (!(hasQ fl q != hasQ fl' q))=true
   by_cases h1:hasQ fl q=true
   ·by_cases h2:hasQ fl' q=true
    ·rw[h1,h2]; rfl
    ·rw[if_pos h1,if_neg h2]at this; lia
   ·by_cases h2:hasQ fl' q=true
    ·rw[if_neg h1,if_pos h2]at this; lia
    ·rw[show hasQ fl q=false from by simpa using h1,show hasQ fl' q=false from by simpa using h2]; rfl
  rw[zG0 hf hf']at key
  simpa using key
 refine⟨rfl,hfl,zCy hm.srt hm'.srt ?_⟩
 have co:∀ t,SetOk qs t->cfI (prM mk) t % 3=cfI (prM mk') t % 3:=fun t ht=>by
  refine zOt (fun p hp=>?_) (fun p hp=>?_) (fun as ha=>?_) ht
  ·obtain⟨m,hm1,e⟩:=Ag.mp hp; subst e; exact (hm.ok m hm1).1
  ·obtain⟨m,hm1,e⟩:=Ag.mp hp; subst e; exact (hm'.ok m hm1).1
  ·have hT:∀ q,as.getD q 0 < 2:=fun q=>(AnsGe.two ⟨Dl ha.len.symm,ha.lt⟩ q)
   rw[← zDM hT hm.ok,← zDM hT hm'.ok]
   exact (both as ha).1
 have go:∀ {a b:List Mk},WfM qs a->WfM qs b->(∀ t,SetOk qs t->cfI (prM a) t % 3=cfI (prM b) t % 3)->∀ m,m∈a->m∈b:=fun {a b} ha hb hc m hma=>by
  obtain⟨s1,s2,s3⟩:=ha.ok m hma
  have e1:=zFL ha.keys hma
  have e2:=hc m.1 s1
  rw[e1]at e2
  obtain⟨m',hm1,hm2⟩:=zNX (mk:=b) (t:=m.1) (fun z=>by rw[z]at e2; lia)
  have e3:=zFL hb.keys hm1
  rw[hm2]at e3
  obtain⟨_,s4,s5⟩:=hb.ok m' hm1
  rw[e3]at e2
  have:m.2=m'.2:=by lia
  have:m=m':=E7 hm2.symm this
  rw[this]; exact hm1
 exact fun m=>⟨go hm hm' co m,go hm' hm (fun t ht=>(co t ht).symm) m⟩
theorem zLX{qs:Nat}{as:List Nat}(ha:∀ q,as.getD q 0 < 2){st:List Stp}(hs:StOk 3 qs st):doneL as (AC 3) st=comeL as (sumsL qs st).1 (sumsL qs st).2.1 (marksL (sumsL qs st).2.2):=by
 obtain⟨ok,_⟩:=zCF qs st
 rw[zIS ha st hs,zBK]
 refine zBI (zCx ha ok.ps).symm ?_
 rw[Bd]
 exact (zAp (by simp) (zBE ha ok.fl)).symm
noncomputable abbrev Sm:Type:=Nat×List Nat×List Mk
@[simp] noncomputable abbrev smT (x:Sm):T:=sumT x.1 x.2.1 x.2.2
noncomputable def smC (as:List Nat) (x:Sm):List Nat:=comeL as x.1 x.2.1 x.2.2
structure SmOk(qs:Nat)(x:Sm):Prop where
 bg:x.1 < 2
 fl:SetOk qs x.2.1
 ms:WfM qs x.2.2
theorem zCi{qs:Nat}{as:List Nat}(h:AnsOk qs as):AnsGe qs as:=⟨Dl h.len.symm,h.lt⟩
noncomputable def nfS (qs:Nat) (st:List Stp):Sm:=((sumsL qs st).1,(sumsL qs st).2.1,marksL (sumsL qs st).2.2)
theorem zAd(qs:Nat)(st:List Stp):SmOk qs (nfS qs st)/\(nfS qs st).2.2.length<=2 * st.length:=by
 have so:=(zCF qs st).1
 have lk:=zB3 (sumsL qs st).2.2
 rw[(zCF qs st).2]at lk
 exact⟨⟨so.bg,so.fl,zBU so.ps⟩,lk⟩
theorem zAc{qs:Nat}{st:List Stp}(hs:StOk 3 qs st){as:List Nat}(ha:AnsOk qs as):smC as (nfS qs st)=doneL as (AC 3) st:=(zLX (AnsGe.two (zCi ha)) hs).symm
theorem zCc{qs:Nat}{x y:Sm}(hx:SmOk qs x)(hy:SmOk qs y)(h:∀ as,AnsOk qs as->smC as x=smC as y):x=y:=by
 obtain⟨h1,h2,h3⟩:=zNa hx.bg hy.bg hx.fl hy.fl hx.ms hy.ms h
 exact E7 h1 (E7 h2 h3)
noncomputable def outL (s:List Nat) (q:Nat):List Nat:=s.filter fun x=>!decide (x=q)
theorem zFJ{qs:Nat}{s:List Nat}(h:SetOk qs s)(q:Nat):SetOk qs (outL s q):=Eo.trans h
noncomputable def one1 (s:List Nat) (q a:Nat):Nat:=if a=1/\q∈s then 2 else 1
theorem zM4(s:List Nat)(q x:Nat):hasQ (outL s q) x=(hasQ s x && !decide (x=q)):=by
 unfold hasQ outL
 by_cases h1:x∈s <;> by_cases h2:x=q <;> simp[A5,h1,h2]
theorem zMV(as:List Nat)(q a n:Nat)(hq:q < as.length):(as.set q a).getD n 0=if n=q then a else as.getD n 0:=by
 rw[AK,List.getElem?_set,AK]
 by_cases h:n=q
 ·subst h; simp[hq]
 ·have h':¬ q=n:=fun z=>h z.symm
  simp[h,h']
theorem zIm(d:Nat->Bool)(as:List Nat)(q a:Nat)(hq:q < as.length):∀ n,chi d (as.set q a) n=chi (fun x=>d x && !decide (x=q)) as n * (if q < n/\d q=true/\a=1 then -1 else 1)
 | 0=>by simp[chi]
 | n+1=>by
  unfold chi
  rw[zIm d as q a hq n,zMV as q a n hq]
  generalize chi (fun x=>d x && !decide (x=q)) as n=Z
  by_cases h:n=q
  ·subst h
   cases h1:d n <;> by_cases h2:a=1 <;> simp[h2]
  ·have e1:(q < n+1) ↔ q < n:=by lia
   simp only[h,if_false,decide_false,Ea,JD,e1]
   rw[Bv,Bv]
   congr 1
   exact Cr _ _
theorem zJH{qs:Nat}{as s:List Nat}{q a:Nat}(hl:as.length=qs)(hq:q < qs):chS qs (as.set q a) s=chS qs as (outL s q) * (if a=1/\q∈s then -1 else 1):=by
 unfold chS
 rw[zIm _ _ _ _ (by lia)]
 congr 1
 ·exact zBp fun x _=>(zM4 s q x).symm
 ·have e:hasQ s q=true ↔ q∈s:=by simp[hasQ]
  simp only[hq,true_and,e]
  by_cases h1:a=1 <;> by_cases h2:q∈s <;> simp[h1,h2]
noncomputable def ansP (mk:List Mk) (q a:Nat):List Pr:=mk.map fun m=>(outL m.1 q,((m.2 * one1 m.1 q a:Nat):Int))
noncomputable def ansS (x:Sm) (q a:Nat):Sm:=(if a=1/\q∈x.2.1 then 1 - x.1 else x.1,outL x.2.1 q,marksL (ansP x.2.2 q a))
theorem zFF{qs:Nat}{mk:List Mk}(h:∀ m∈mk,MkOk qs m)(q a:Nat):∀ p∈ansP mk q a,SetOk qs p.1:=fun p hp=>by
 obtain⟨m,hm,rfl⟩:=Ag.mp hp
 exact zFJ (h m hm).1 q
theorem zCd{qs:Nat}{x:Sm}(h:SmOk qs x)(q a:Nat):SmOk qs (ansS x q a)/\(ansS x q a).2.2.length<=x.2.2.length:=by
 have hb:=h.bg
 refine⟨⟨?_,zFJ h.fl q,zBU (zFF h.ms.ok q a)⟩,?_⟩
 ·show (if a=1/\q∈x.2.1 then 1 - x.1 else x.1) < 2
  split <;> lia
 ·have:=zB3 (ansP x.2.2 q a)
  exact Al this (by simp[ansP])
theorem zGm{qs:Nat}{as:List Nat}(h:AnsOk qs as)(q:Nat){a:Nat}(ha:a < 2):AnsOk qs (as.set q a):=⟨by simp[h.len],fun x hx=>by
 rcases GM hx with z | z
 ·exact h.lt x z
 ·lia⟩
theorem zKs{qs:Nat}{as:List Nat}{q a:Nat}(hl:as.length=qs)(hq:q < qs):∀ mk:List Mk,∃ k:Int,cP qs as (ansP mk q a)=cP qs (as.set q a) (prM mk)+3 * k
 | []=>⟨0,by simp[cP,ansP,prM]⟩
 | m::r=>by
  obtain⟨k,e⟩:=zKs hl hq r
  have c1:cP qs as (ansP (m::r) q a)=((m.2 * one1 m.1 q a:Nat):Int) * chS qs as (outL m.1 q)+cP qs as (ansP r q a):=by simp[cP,ansP]
  have c2:cP qs (as.set q a) (prM (m::r))=(m.2:Int) * chS qs (as.set q a) m.1+cP qs (as.set q a) (prM r):=by simp[cP,prM]
  rw[c1,c2,e,zJH hl hq]
  generalize chS qs as (outL m.1 q)=Z
  generalize cP qs (as.set q a) (prM r)=Y
  unfold one1
  by_cases h:a=1/\q∈m.1
  ·refine⟨k+(m.2:Int) * Z,?_⟩
   rw[if_pos h,if_pos h,Bd,Fj,HS,Ce,HS]
   have:(m.2:Int) * ((2:Nat):Int) * Z=2 * ((m.2:Int) * Z):=by
    rw[Cr (m.2:Int) _,Bv]; rfl
   rw[this]
   generalize (m.2:Int) * Z=W
   lia
  ·refine⟨k,?_⟩
   rw[if_neg h,if_neg h,Nat.mul_one,Ce]
   generalize (m.2:Int) * Z=W
   lia
theorem zHb{qs:Nat}{x:Sm}(h:SmOk qs x){q a:Nat}(hq:q < qs)(h2:a < 2){as:List Nat}(ha:AnsOk qs as):smC as (ansS x q a)=smC (as.set q a) x:=by
 have t1:=AnsGe.two (zCi ha)
 have t2:=AnsGe.two (zCi (zGm ha q h2))
 have hl:=ha.len
 unfold smC
 rw[zBK,zBK]
 refine zBI ?_ ?_
 ·show ((cL as (marksL (ansP x.2.2 q a)):Nat):Int) % 3=_
  rw[zCx t1 (zFF h.ms.ok q a),zDM t2 h.ms.ok]
  obtain⟨k,e⟩:=zKs (a:=a) hl hq x.2.2
  rw[e]; lia
 ·have hb:=h.bg
  have s1:=zBE t1 (zFJ h.fl q)
  have s2:=zBE t2 h.fl
  rw[zJH hl hq]at s2
  show (((1+(if a=1/\q∈x.2.1 then 1 - x.1 else x.1)) * sgn as (outL x.2.1 q):Nat):Int) % 3=_
  rw[Bd,Bd]
  rw[zAp (c:=((1+(if a=1/\q∈x.2.1 then 1 - x.1 else x.1):Nat):Int)) rfl s1,zAp (c:=((1+x.1:Nat):Int)) rfl s2]
  generalize chS qs as (outL x.2.1 q)=Z
  by_cases hc:a=1/\q∈x.2.1
  ·rw[if_pos hc,if_pos hc]
   have:x.1=0\/x.1=1:=by lia
   rcases this with z | z <;> rw[z] <;> simp <;> lia
  ·rw[if_neg hc,if_neg hc,Ce]
noncomputable def hasD (df:List Nat->Bool) (n:Nat) (p:List Nat):Bool:=(allA n).any fun r=>df (p++r)
theorem zFp(df:List Nat->Bool)(n:Nat)(p:List Nat):hasD df (n+1) p=(hasD df n (p++[0]) || hasD df n (p++[1])):=by
 unfold hasD
 rw[allA,List.any_append,Gi,Gi]
 simp[B1]
noncomputable def greedy (df:List Nat->Bool):Nat->List Nat->List Nat
 | 0,p=>p
 | n+1,p=>greedy df n (p++[if hasD df n (p++[0])=true then 0 else 1])
theorem zCS(df:List Nat->Bool):∀ n p,((allA n).map (p++·)).find? df=if hasD df n p=true then some (greedy df n p) else none
 | 0,p=>by
  simp only[allA,hasD,greedy,AJ,Ay,CJ,CW,List.any_nil,Iu]
  cases h:df p <;> simp[List.find?,h]
 | n+1,p=>by
  have e:(allA (n+1)).map (p++·)=((allA n).map ((p++[0])++·))++((allA n).map ((p++[1])++·)):=by
   rw[allA,A6,A7,A7]
   simp[B1]
  rw[e,H9,zCS df n,zCS df n,zFp,greedy]
  cases h:hasD df n (p++[0]) <;> cases h2:hasD df n (p++[1]) <;> simp
theorem zEQ(df:List Nat->Bool):∀ n p,(greedy df n p).length=p.length+n
 | 0,p=>rfl
 | n+1,p=>by rw[greedy,zEQ df n]; simp; lia
theorem zCn:∀ {n:Nat} {r:List Nat},AnsOk n r->r∈allA n
 | 0,r,h=>by
  have:r=[]:=Gd.mp h.len
  subst this; exact AI.mpr rfl
 | n+1,[],h=>by have:=h.len; simp at this
 | n+1,x::r,h=>by
  have hr:AnsOk n r:=⟨by have:=h.len; simpa using this,fun y hy=>h.lt y (AF _ hy)⟩
  have:=zCn hr
  have hx:=h.lt x AH
  rw[allA,Ap]
  have:x=0\/x=1:=by lia
  rcases this with z | z
  ·subst z; exact .inl (Ag.mpr ⟨r,zCn hr,rfl⟩)
  ·subst z; exact .inr (Ag.mpr ⟨r,zCn hr,rfl⟩)
def Says (qs:Nat) (f:List Nat->List Nat) (p:List Nat) (x:Sm):Prop:=∀ as,AnsOk qs as->smC as x=f (p++as.drop p.length)
theorem zCL{qs:Nat}{f:List Nat->List Nat}{p:List Nat}{x:Sm}(hx:SmOk qs x)(hp:p.length < qs){a:Nat}(ha:a < 2)(h:Says qs f p x):Says qs f (p++[a]) (ansS x p.length a):=fun as has=>by
 rw[zHb hx hp ha has,h _ (zGm has _ ha)]
 congr 1
 have hl:=has.len
 rw[Bk,BQ,DK]
 congr 1
 rw[List.drop_set,if_neg (by lia),Jr,Co (by lia)]
 rfl
theorem zDX{qs n:Nat}{f g:List Nat->List Nat}{p:List Nat}{x y:Sm}(hn:p.length+n=qs)(hx:SmOk qs x)(hy:SmOk qs y)(sx:Says qs f p x)(sy:Says qs g p y):hasD (fun as=>!decide (f as=g as)) n p=true ↔ x≠y:=by
 constructor
 ·intro h e
  obtain⟨r,hr,h1⟩:=CO.mp h
  have hro:=zB8 n r hr
  have ho:AnsOk qs (Ac p.length 0++r):=⟨by simp[hro.len]; lia,fun z hz=>by
   rcases Ap.mp hz with w | w
   ·rw[Dv w]; decide
   ·exact hro.lt z w⟩
  have e1:=sx _ ho
  have e2:=sy _ ho
  have d:(Ac p.length 0++r).drop p.length=r:=by rw[List.drop_append_of_le_length (by simp)]; simp
  rw[d]at e1 e2
  rw[e,e2]at e1
  simp[e1]at h1
 ·intro h
  cases hd:hasD (fun as=>!decide (f as=g as)) n p with
  | true=>rfl
  | false =>
   refine absurd (zCc hx hy fun as has=>?_) h
   rw[sx as has,sy as has]
   have hro:AnsOk n (as.drop p.length):=⟨by have:=has.len; simp; lia,fun z hz=>has.lt z (List.mem_of_mem_drop hz)⟩
   have:=List.any_eq_false.mp hd _ (zCn hro)
   simpa using this
theorem zGB(n:Nat)(a b:List Nat)(ha:IsT n a)(hb:IsT n b)(hn:n<=5):F_12 [.v (tuT a),.v (tuT b)]=some (.v (tuT (thenL a b)),[]):=by
 have hl:=ha.len
 obtain⟨o',e⟩:=zAq (fun (k:Nat)=>iT (k:Int)) (fun (k:Nat)=>iT (b.getD k 0:Nat)) (de:=zFN) (R:=[some (.v (tuT b))]) a (fun k hk=>by
  obtain⟨m,hm,_⟩:=hb.get (ha.lt k hk)
  have:=zEj hm
  simp only[tvT,iT]at this
  simp[zFN,this,hm]) none
 have g:a.length<=AE:=zAG (by lia)
 simp only[tuT,tvT,iT]at e
 simp[F_12,fnD,d_12,gd,g,e,thenL]
theorem zKW(n:Nat)(hn:n<=5):F_11 [.v (iT (n:Int))]=some (.v (tuT (AC n)),[]):=by
 simp[F_11,fnD,d_11,zAm n (by lia),zBO]
theorem zLF(n:Nat)(a b:List Nat)(ha:IsT n a)(hb:IsT n b)(hn:n<=5):F_19 [.v (tuT a),.v (tuT b)]=some (.v (tuT (thenL a b)),[]):=by
 have hl:=ha.len
 obtain⟨o',e⟩:=zAq (fun (k:Nat)=>iT (k:Int)) (fun (k:Nat)=>iT (b.getD k 0:Nat)) (de:=zFW) (R:=[some (.v (tuT b))]) a (fun k hk=>by
  obtain⟨m,hm,_⟩:=hb.get (ha.lt k hk)
  have:=zEj hm
  simp only[tvT,iT]at this
  simp[zFW,this,hm]) none
 have g:a.length<=AE:=zAG (by lia)
 simp only[tuT,tvT,iT]at e
 simp[F_19,fnD,d_19,gd,g,e,thenL]
theorem zIB(n qs:Nat)(hn:n<=5)(as:List Nat)(ha:AnsOk qs as)(d:T):∀ (st:List Stp) (c:List Nat) (o3 o4 o5:Option G),IsT n c->StOk n qs st->∃ o3' o4' o5',forD (gdTup 3 (gdCons (gdName 3) (gdCons (gdName 4) (gdCons (gdName 5) gdNil)))) zCk (st.map stT) [some (.v d),some (.v (tuT as)),some (.v (tuT c)),o3,o4,o5] =
  some (.nx [some (.v d),some (.v (tuT as)),some (.v (tuT (doneL as c st))),o3',o4',o5']):=by
 intro st
 induction st with
 | nil=>intro c o3 o4 o5 _ _; exact⟨o3,o4,o5,by simp[zAn,doneL]⟩
 | cons s r ih =>
  intro c o3 o4 o5 hc hs
  have h1:=hs s AH
  have hp:=zAz (as:=as) h1
  have e2:=zLF n c (pickT as s) hc hp hn
  obtain⟨o3',o4',o5',e3⟩:=ih (thenL c (pickT as s)) (some (.v (iT (s.1:Int)))) (some (.v (tuT s.2.1))) (some (.v (tuT s.2.2))) (zAv hc hp) (fun x hx=>hs x (AF _ hx))
  refine⟨o3',o4',o5',?_⟩
  have turn:zCk [some (.v d),some (.v (tuT as)),some (.v (tuT c)),some (.v (iT (s.1:Int))),some (.v (tuT s.2.1)),some (.v (tuT s.2.2))] =
    some (.nx [some (.v d),some (.v (tuT as)),some (.v (tuT (thenL c (pickT as s)))),some (.v (iT (s.1:Int))),some (.v (tuT s.2.1)),some (.v (tuT s.2.2))]):=by
   have h0:=zOT ha h1.1
   have hx:=ha.lt _ (Br h0)
   have g2:(2:Nat)<=AE:=by decide
   unfold pickT at e2 ⊢
   generalize as.getD s.1 0=x at h0 hx e2 ⊢
   have h2:=zEj h0
   match x,hx with
   | 0,_ =>
    simp only[tuT,tvT,iT]at h2 e2 ⊢
    simp at h2 e2 ⊢
    simp[zCk,h2,gd,g2,e2]
   | 1,_ =>
    simp only[tuT,tvT,iT]at h2 e2 ⊢
    simp at h2 e2 ⊢
    simp[zCk,h2,gd,g2,e2]
  rw[AJ,zAu (t:=stT s) rfl turn]
  exact e3
theorem zFr(n qs:Nat)(hn:n<=5)(st:List Stp)(as:List Nat)(ha:AnsOk qs as)(hs:StOk n qs st)(hl:st.length<=5000):F_20 [.v (danT n qs st),.v (tuT as)]=some (.v (tuT (doneL as (AC n) st)),[]):=by
 obtain⟨o3',o4',o5',e⟩:=zIB n qs hn as ha (danT n qs st) st (AC n) none none none (zAi n) hs
 have g:st.length<=AE:=zAG (by lia)
 have r2:=zBO n
 simp only[tuT,tvT,iT,danT,stT]at e r2
 simp[F_20,fnD,d_20,zAm n (by lia),r2,gd,g,e]
theorem zBY:∀ a c:List Nat,A8 (intsD a) (intsD c)=decide (a=c)
 | [],[]=>by simp[intsD,A8]
 | [],y::s=>by simp[intsD,A8]
 | x::r,[]=>by simp[intsD,A8]
 | x::r,y::s=>by
  have:=zBY r s
  simp only[intsD,AJ]at this ⊢
  rw[A8,this]
  have e:Bo (.int (x:Int)) (.int (y:Int))=decide (x=y):=by
   by_cases h:x=y
   ·subst h; simp[Bo]
   ·have h':¬ (x:Int)=(y:Int):=by lia
    simp[Bo,h,h']
  rw[e]
  by_cases h:x=y <;> by_cases h2:r=s <;> simp[h,h2]
theorem zIT(Γ:En)(t:List Nat):datS Γ (.v (tuT t))=some (.tuple (intsD t)):=by
 have:=zCD t
 simp only[tvT,iT]at this
 simp[datS,toD,this]
theorem zGe(Γ:En)(a c:List Nat):neS Γ (.v (tuT a)) (.v (tuT c))=some (.v (.a (.bl (!decide (a=c))))):=by
 have e1:cmpD (fun a b=>!PyData.eqv a b) Γ (.v (tuT a)) (.v (tuT c))=some (.v (.a (.bl (!decide (a=c))))):=by
  unfold cmpD
  rw[zIT,zIT]
  simp only[BG,B0,zBF,CG,zBe,Bo,zBY]
  rfl
 show ((none:Option S).or (cmpD (fun a b=>!PyData.eqv a b) Γ (.v (tuT a)) (.v (tuT c))))=_
 rw[De,e1]
theorem zOr(Γ:En)(a b c d:List Nat):neS Γ (.v (.t [tuT a,tuT b])) (.v (.t [tuT c,tuT d]))=some (.v (.a (.bl (!decide (a=c/\b=d))))):=by
 have dt:∀ x y:List Nat,datS Γ (.v (.t [tuT x,tuT y]))=some (.tuple [.tuple (intsD x),.tuple (intsD y)]):=fun x y=>by
  have h1:=zCD x
  have h2:=zCD y
  simp only[tvT,iT]at h1 h2
  simp[datS,toD,toDs,h1,h2]
 have ev:Bo (.tuple [.tuple (intsD a),.tuple (intsD b)]) (.tuple [.tuple (intsD c),.tuple (intsD d)])=decide (a=c/\b=d):=by
  simp only[Bo,A8,zBY,JD]
  by_cases h:a=c <;> by_cases h2:b=d <;> simp[h,h2]
 have e1:cmpD (fun a b=>!PyData.eqv a b) Γ (.v (.t [tuT a,tuT b])) (.v (.t [tuT c,tuT d]))=some (.v (.a (.bl (!decide (a=c/\b=d))))):=by
  unfold cmpD
  rw[dt,dt]
  simp only[BG,ev]
  simp only[B0,Bj,zBF,CG,BS,zBe]
  rfl
 show ((none:Option S).or (cmpD (fun a b=>!PyData.eqv a b) Γ (.v (.t [tuT a,tuT b])) (.v (.t [tuT c,tuT d]))))=_
 rw[De,e1]
noncomputable def metS (x s:Stp):Stp:=(x.1,thenL x.2.1 s.2.1,thenL x.2.2 s.2.2)
noncomputable def putS (n:Nat) (kept:List Stp) (s:Stp):List Stp:=if s.2.1=AC n/\s.2.2=AC n then kept else kept++[s]
noncomputable def cutS (n:Nat) (kept:List Stp) (s:Stp):List Stp:=match kept.getLast? with
 | some x=>if x.1=s.1 then putS n kept.dropLast (metS x s) else putS n kept s
 | none=>putS n kept s
noncomputable def cutL (n:Nat):List Stp->List Stp->List Stp
 | kept,[]=>kept
 | kept,s::r=>cutL n (cutS n kept s) r
theorem zFe{n qs:Nat}{kept:List Stp}{s:Stp}(hk:StOk n qs kept)(hs:s.1 < qs/\IsT n s.2.1/\IsT n s.2.2):StOk n qs (putS n kept s):=by
 unfold putS
 split
 ·exact hk
 ·exact fun x hx=>(Ap.mp hx).elim (hk x) fun z=>AI.mp z ▸ hs
theorem zFM{n qs:Nat}{kept:List Stp}{s:Stp}(hk:StOk n qs kept)(hs:s.1 < qs/\IsT n s.2.1/\IsT n s.2.2):StOk n qs (cutS n kept s):=by
 unfold cutS
 split
 ·rename_i x hx
  split
  ·have hx':=hk x (HD hx)
   exact zFe (fun y hy=>hk y (HE _ hy)) ⟨hx'.1,zAv hx'.2.1 hs.2.1,zAv hx'.2.2 hs.2.2⟩
  ·exact zFe hk hs
 ·exact zFe hk hs
theorem zEI(n:Nat)(kept:List Stp)(s:Stp):(putS n kept s).length<=kept.length+1:=by
 unfold putS; split <;> simp
theorem zHM(n:Nat)(kept:List Stp)(s:Stp):(cutS n kept s).length<=kept.length+1:=by
 unfold cutS
 split
 ·split
  ·have:=zEI n kept.dropLast (metS ‹_› s)
   simp at this ⊢; lia
  ·exact zEI n kept s
 ·exact zEI n kept s
theorem zEJ(n:Nat):∀ (kept st:List Stp),(cutL n kept st).length<=kept.length+st.length
 | _,[]=>by simp[cutL]
 | kept,s::r=>by
  have:=zEJ n (cutS n kept s) r
  have:=zHM n kept s
  rw[cutL,Be]; lia
theorem zDk{n qs:Nat}:∀ {kept st:List Stp},StOk n qs kept->StOk n qs st->StOk n qs (cutL n kept st)
 | _,[],hk,_=>hk
 | kept,s::r,hk,hs=>zDk (kept:=cutS n kept s) (st:=r) (zFM hk (hs s AH)) fun x hx=>hs x (AF _ hx)
theorem zDP{n qs:Nat}{as:List Nat}{kept:List Stp}{s:Stp}(hk:StOk n qs kept)(hs:s.1 < qs/\IsT n s.2.1/\IsT n s.2.2):doneL as (AC n) (putS n kept s)=thenL (doneL as (AC n) kept) (pickT as s):=by
 unfold putS
 split
 ·rename_i h
  have e:pickT as s=AC n:=by unfold pickT; split; exact h.1; exact h.2
  rw[e,zBn (zBN (zAi n) hk)]
 ·exact zCM as _ kept s
theorem zNV(as:List Nat){x s:Stp}(h:x.1=s.1):pickT as (metS x s)=thenL (pickT as x) (pickT as s):=by
 unfold pickT metS
 dsimp only
 rw[h]
 split <;> rfl
theorem zMF{n qs:Nat}{as:List Nat}{kept:List Stp}{s:Stp}(hk:StOk n qs kept)(hs:s.1 < qs/\IsT n s.2.1/\IsT n s.2.2):doneL as (AC n) (cutS n kept s)=thenL (doneL as (AC n) kept) (pickT as s):=by
 unfold cutS
 split
 ·rename_i x hx
  split
  ·rename_i e
   have hx':=hk x (HD hx)
   have hd:StOk n qs kept.dropLast:=fun y hy=>hk y (HE _ hy)
   have hk':kept=kept.dropLast++[x]:=by
    obtain⟨l,rfl⟩:=List.getLast?_eq_some_iff.mp hx
    simp
   rw[zDP (s:=metS x s) hd ⟨hx'.1,zAv hx'.2.1 hs.2.1,zAv hx'.2.2 hs.2.2⟩,zNV as e]
   conv=>rhs; rw[hk',zCM]
   rw[zA4 (zBN (zAi n) hd) (zAz hx') (zAz hs)]
  ·exact zDP hk hs
 ·exact zDP hk hs
theorem zGE{n qs:Nat}{as:List Nat}:∀ {kept st:List Stp},StOk n qs kept->StOk n qs st->doneL as (AC n) (cutL n kept st)=doneL as (doneL as (AC n) kept) st
 | _,[],_,_=>rfl
 | kept,s::r,hk,hs=>by
  have h1:=hs s AH
  rw[cutL,zGE (zFM hk h1) fun x hx=>hs x (AF _ hx),zMF hk h1]
  rfl
theorem zGN(n:Nat)(hn:n<=5)(x s:Stp)(hx:IsT n x.2.1/\IsT n x.2.2)(hs:IsT n s.2.1/\IsT n s.2.2):F_13 [.v (stT x),.v (stT s)]=some (.v (stT (metS x s)),[]):=by
 have e1:=zGB n _ _ hx.1 hs.1 hn
 have e2:=zGB n _ _ hx.2 hs.2 hn
 have g3:(3:Nat)<=AE:=by decide
 simp only[stT,metS]
 simp only[iT,tuT,tvT]at e1 e2
 simp[F_13,fnD,d_13,e1,e2,gd,g3]
theorem zKU(n qs:Nat)(hn:n<=5)(d:T):∀ (st kept:List Stp) (o3 o4:Option G),StOk n qs st->StOk n qs kept->st.length+kept.length<=10000->∃ o3' o4',forD (gdName 3) zCU (st.map stT) [some (.v d),some (.v (.t [tuT (AC n),tuT (AC n)])),some (.l (kept.map stT)),o3,o4] =
  some (.nx [some (.v d),some (.v (.t [tuT (AC n),tuT (AC n)])),some (.l ((cutL n kept st).map stT)),o3',o4']):=by
 intro st
 induction st with
 | nil=>intro kept o3 o4 _ _ _; exact⟨o3,o4,by simp[zAn,cutL]⟩
 | cons s r ih =>
  intro kept o3 o4 hs hk hl
  have h1:=hs s AH
  have hlen:=zHM n kept s
  have g1:kept.length<=AE:=zAG (by simp at hl; lia)
  have g2:kept.length < AE:=zCA (by simp at hl; lia)
  have c0:∀ t:Stp,cutT [iT (t.1:Int),tuT t.2.1,tuT t.2.2] (some 1) none=[tuT t.2.1,tuT t.2.2]:=fun t=>rfl
  have put:∀ (K2:List Stp) (new:Stp),K2.length<=kept.length->(dIf (dTest (dOp neS (dSl (jV 4) (dPart (dC (.int 1))) dNoPart) (jV 1))) (dDrop (dMut 2 hAppend (jW (jV 4) qQ))) dNext) [some (.v d),some (.v (.t [tuT (AC n),tuT (AC n)])),some (.l (K2.map stT)),some (.v (stT s)),some (.v (stT new))] =
    some (.nx [some (.v d),some (.v (.t [tuT (AC n),tuT (AC n)])),some (.l ((putS n K2 new).map stT)),some (.v (stT s)),some (.v (stT new))]):=fun K2 new hK=>by
   have c1:=c0 new
   have q:=fun Γ=>zOr Γ new.2.1 new.2.2 (AC n) (AC n)
   have g3:K2.length<=AE:=Al hK g1
   have g4:K2.length < AE:=E4 hK g2
   unfold putS
   simp only[stT]at c1 ⊢
   generalize hX:tuT new.2.1=X1 at *
   generalize hY:tuT new.2.2=X2 at *
   generalize tuT (AC n)=Z at *
   simp only[iT]at c1
   by_cases hh:new.2.1=AC n/\new.2.2=AC n
   ·simp only[hh,and_self,decide_true,Ew]at q
    simp[c1,q,hh]
   ·simp only[hh,decide_false,Ea]at q
    simp[c1,q,hh,gd,g3,g4,hAppend,hX,hY]
  obtain⟨o4n,turn⟩:∃ o4n,zCU [some (.v d),some (.v (.t [tuT (AC n),tuT (AC n)])),some (.l (kept.map stT)),some (.v (stT s)),o4] =
    some (.nx [some (.v d),some (.v (.t [tuT (AC n),tuT (AC n)])),some (.l ((cutS n kept s).map stT)),some (.v (stT s)),o4n]):=by
   rcases List.eq_nil_or_concat kept with hk0 | ⟨l,x,hk0⟩
   ·subst hk0
    refine⟨some (.v (stT s)),?_⟩
    have p:=put [] s (AL _)
    unfold zCU
    have first:dSet 4 (dIfE (dAnd (dTru (jV 2)) (dTest (dOp eqS (dOp ixS (dOp ixS (jV 2) (dUn negS (dC (.int 1)))) (dC (.int 0))) (dOp ixS (jV 3) (dC (.int 0)))))) (dCall none F_13 [] (jW (dMut 2 hPop qQ) (jW (jV 3) qQ))) (jV 3)) [some (.v d),some (.v (.t [tuT (AC n),tuT (AC n)])),some (.l (([]:List Stp).map stT)),some (.v (stT s)),o4] =
      some (.nx [some (.v d),some (.v (.t [tuT (AC n),tuT (AC n)])),some (.l (([]:List Stp).map stT)),some (.v (stT s)),some (.v (stT s))]):=by
     generalize tuT (AC n)=Z
     simp
    rw[zFH first,p]
    rfl
   ·have hx:=hk x (by rw[hk0]; simp)
    have lastx:atI (kept.map stT) (-1)=some (stT x):=by
     rw[zL3 (by rw[hk0]; simp),hk0]
     simp
    have ne:(kept.map stT).isEmpty=false:=by rw[hk0]; simp
    have gl:kept.getLast?=some x:=by rw[hk0]; simp
    have dl:(kept.map stT).dropLast=l.map stT:=by rw[hk0]; simp
    have la:(kept.map stT)[(kept.map stT).length - 1]?=some (stT x):=by rw[hk0]; simp
    have kl:(kept.map stT).length<=AE:=by simpa using g1
    unfold zCU
    unfold cutS
    rw[gl]
    dsimp only
    by_cases hq:x.1=s.1
    ·rw[if_pos hq]
     have kd:kept.dropLast=l:=by rw[hk0]; simp
     rw[kd]
     refine⟨some (.v (stT (metS x s))),?_⟩
     have p:=put l (metS x s) (by rw[hk0]; simp)
     have tg:=zGN n hn x s ⟨hx.2.1,hx.2.2⟩ ⟨h1.2.1,h1.2.2⟩
     have first:dSet 4 (dIfE (dAnd (dTru (jV 2)) (dTest (dOp eqS (dOp ixS (dOp ixS (jV 2) (dUn negS (dC (.int 1)))) (dC (.int 0))) (dOp ixS (jV 3) (dC (.int 0)))))) (dCall none F_13 [] (jW (dMut 2 hPop qQ) (jW (jV 3) qQ))) (jV 3)) [some (.v d),some (.v (.t [tuT (AC n),tuT (AC n)])),some (.l (kept.map stT)),some (.v (stT s)),o4] =
       some (.nx [some (.v d),some (.v (.t [tuT (AC n),tuT (AC n)])),some (.l (l.map stT)),some (.v (stT s)),some (.v (stT (metS x s)))]):=by
      have hq':(x.1:Int)=(s.1:Int):=by lia
      generalize tuT (AC n)=Z
      generalize l.map stT=LL at *
      generalize kept.map stT=KK at *
      generalize hM:stT (metS x s)=M at *
      simp only[stT]at lastx la tg ⊢
      generalize tuT x.2.1=X1 at *
      generalize tuT x.2.2=X2 at *
      generalize tuT s.2.1=Y1 at *
      generalize tuT s.2.2=Y2 at *
      simp only[iT]at *
      rw[hq']at lastx la tg
      simp[ne,lastx,gd,kl,hPop,la,dl,tg]
     rw[zFH first,p]
    ·rw[if_neg hq]
     refine⟨some (.v (stT s)),?_⟩
     have p:=put kept s (AL _)
     have first:dSet 4 (dIfE (dAnd (dTru (jV 2)) (dTest (dOp eqS (dOp ixS (dOp ixS (jV 2) (dUn negS (dC (.int 1)))) (dC (.int 0))) (dOp ixS (jV 3) (dC (.int 0)))))) (dCall none F_13 [] (jW (dMut 2 hPop qQ) (jW (jV 3) qQ))) (jV 3)) [some (.v d),some (.v (.t [tuT (AC n),tuT (AC n)])),some (.l (kept.map stT)),some (.v (stT s)),o4] =
       some (.nx [some (.v d),some (.v (.t [tuT (AC n),tuT (AC n)])),some (.l (kept.map stT)),some (.v (stT s)),some (.v (stT s))]):=by
      have hq':¬ (x.1:Int)=(s.1:Int):=by lia
      generalize tuT (AC n)=Z
      generalize kept.map stT=KK at *
      simp only[stT]at lastx la ⊢
      generalize tuT x.2.1=X1 at *
      generalize tuT x.2.2=X2 at *
      generalize tuT s.2.1=Y1 at *
      generalize tuT s.2.2=Y2 at *
      simp only[iT]at *
      simp[ne,lastx,hq']
     rw[zFH first,p]
  obtain⟨o3',o4',e3⟩:=ih (cutS n kept s) (some (.v (stT s))) o4n (fun x hx=>hs x (AF _ hx)) (zFM hk h1) (by simp at hl ⊢; lia)
  refine⟨o3',o4',?_⟩
  rw[AJ,zDJ]
  simp only[zKa,BG,List.set_cons_succ,List.set_cons_zero]
  rw[turn]
  simp only[BG]
  rw[e3]
  rfl
theorem zHR(n qs:Nat)(hn:n<=5)(st:List Stp)(hs:StOk n qs st)(hl:st.length<=5000):F_14 [.v (danT n qs st)]=some (.v (danT n qs (cutL n [] st)),[]):=by
 obtain⟨o3,o4,e⟩:=zKU n qs hn (danT n qs st) st [] none none hs (fun x hx=>nomatch hx) (by simp; lia)
 have e1:=zKW n hn
 have g0:(0:Nat)<=AE:=by decide
 have g2:(2:Nat)<=AE:=by decide
 have g3:(3:Nat)<=AE:=by decide
 have gL:(st.map stT).length<=AE:=zAG (by simp; lia)
 simp only[danT,Ay]at e ⊢
 generalize (cutL n [] st).map stT=C at *
 generalize st.map stT=L at *
 generalize tuT (AC n)=Z at *
 simp only[iT]at e e1
 simp[F_14,fnD,d_14,e1,gd,g0,g2,g3,gL,e]
theorem zGF(n:Nat)(t:List Nat)(h:IsT n t)(hn:n<=5):F_26 [.v (tuT t)]=some (.v (tuT (backL t)),[]):=by
 have hl:=h.len
 obtain⟨o',e⟩:=zAq (fun (i:Nat)=>iT (i:Int)) (fun (i:Nat)=>iT (t.idxOf i:Nat)) (de:=zFR) (R:=[some (.v (tuT t))]) (AC n) (fun i hi=>by
  have f1:=zHJ (h.mem (show i < n by simpa using hi))
  simp[zFR,zA0 t,zI5 t,f1,flatV]) none
 have e2:=zBO n
 simp only[tuT,tvT,iT]at e e2
 simp[F_26,fnD,d_26,hl,zAm n (by lia),e2,e,backL]
theorem zNw(n qs:Nat)(hn:n<=5)(st:List Stp)(hs:StOk n qs st)(hl:st.length<=5000):F_27 [.v (danT n qs st)]=some (.v (danT n qs (st.reverse.map bkS)),[]):=by
 have g3:(3:Nat)<=AE:=by decide
 obtain⟨o',e⟩:=zAq stT (fun s=>stT (bkS s)) (de:=zE5) (R:=[]) st.reverse (fun s hm=>by
  have h:=hs s (CA.mp hm)
  have k1:=zGF n s.2.1 h.2.1 hn
  have k2:=zGF n s.2.2 h.2.2 hn
  simp only[iT,tuT,tvT]at k1 k2
  simp[zE5,k1,k2,gd,g3,bkS]) none
 have g:st.length<=AE:=zAG (by lia)
 have hm:st.reverse.map (fun s=>stT (bkS s))=(st.reverse.map bkS).map stT:=by rw[A7]; rfl
 have hr:(st.map stT).reverse=st.reverse.map stT:=by rw[IJ]
 have hlen:(st.reverse.map bkS).length=st.length:=by simp
 rw[hm,← hr]at e
 simp only[danT]
 generalize (st.reverse.map bkS)=B at *
 have gB:B.length<=AE:=by rw[hlen]; exact g
 have hL:(st.map stT).length<=AE:=by simpa using g
 generalize st.map stT=L at *
 generalize hBL:B.map stT=BL at *
 have gBL:BL.length<=AE:=by rw[← hBL]; simpa using gB
 simp[F_27,fnD,d_27,dRev,gd,g3,hL,e,gBL,hBL]
structure RowOk(qs other:Nat)(row:List Nat):Prop where
 len:row.length=qs
 lt:∀ x∈row,x < other
theorem RowOk.get{qs other:Nat}{row:List Nat}(h:RowOk qs other row){q:Nat}(hq:q < qs):row[q]?=some (row.getD q 0)/\row.getD q 0 < other:=by
 have hl:=h.len
 have e:row[q]?=some (row.getD q 0):=by rw[AK,AR (by lia)]; rfl
 exact⟨e,h.lt _ (Br e)⟩
noncomputable def anewS (row:List Nat) (s:Stp):Stp:=(row.getD s.1 0,s.2)
theorem zI8{n qs other:Nat}{row:List Nat}{st:List Stp}(hr:RowOk qs other row)(hs:StOk n qs st):StOk n other (st.map (anewS row)):=fun x hx=>by
 obtain⟨s,h1,rfl⟩:=Ag.mp hx
 exact⟨(hr.get (hs s h1).1).2,(hs s h1).2⟩
theorem zGI(n qs other:Nat)(st:List Stp)(row:List Nat)(hr:RowOk qs other row)(hs:StOk n qs st)(hl:st.length<=5000):F_29 [.v (danT n qs st),.v (tuT row),.v (iT (other:Int))]=some (.v (danT n other (st.map (anewS row))),[]):=by
 have g3:(3:Nat)<=AE:=by decide
 obtain⟨o',e⟩:=zAq stT (fun s=>stT (anewS row s)) (de:=zFc) (R:=[some (.v (tuT row))]) st (fun s h=>by
  have h2:=zEj (hr.get (hs s h).1).1
  unfold anewS
  generalize row.getD s.1 0=x at h2 ⊢
  simp only[tuT,tvT,iT,stT]at h2 ⊢
  simp[zFc,h2,gd,g3]) none
 have g:st.length<=AE:=zAG (by lia)
 simp only[tuT,tvT,iT,danT,stT]at e
 simp[F_29,fnD,d_29,gd,g,g3,e]
noncomputable def aheadS (q x:Nat) (s:Stp):Stp:=if s.1=q then (if x=1 then (s.1,s.2.1,s.2.1) else (s.1,s.2.2,s.2.2)) else s
theorem zGp{n qs q x:Nat}{st:List Stp}(hs:StOk n qs st):StOk n qs (st.map (aheadS q x)):=fun y hy=>by
 obtain⟨s,h1,rfl⟩:=Ag.mp hy
 have h:=hs s h1
 unfold aheadS
 split
 ·split
  ·exact⟨h.1,h.2.1,h.2.1⟩
  ·exact⟨h.1,h.2.2,h.2.2⟩
 ·exact h
theorem zEK(s:Stp)(q x:Nat):F_32 [.v (stT s),.v (iT (q:Int)),.v (iT (x:Int))]=some (.v (stT (aheadS q x s)),[]):=by
 have g3:(3:Nat)<=AE:=by decide
 unfold aheadS
 by_cases h1:s.1=q
 ·subst h1
  by_cases h2:x=1
  ·subst h2
   simp[F_32,fnD,d_32,gd,g3]
  ·have h2':¬ (x:Int)=1:=by lia
   simp[F_32,fnD,d_32,gd,g3,h2,h2']
 ·have h1':¬ (s.1:Int)=(q:Int):=by lia
  simp[F_32,fnD,d_32,h1,h1']
theorem zIJ(n qs q x:Nat)(st:List Stp)(hl:st.length<=5000):F_33 [.v (danT n qs st),.v (iT (q:Int)),.v (iT (x:Int))]=some (.v (danT n qs (st.map (aheadS q x))),[]):=by
 have g3:(3:Nat)<=AE:=by decide
 obtain⟨o',e⟩:=zAq stT (fun s=>stT (aheadS q x s)) (de:=zFf) (R:=[some (.v (iT (q:Int))),some (.v (iT (x:Int)))]) st (fun s h=>by
  have:=zEK s q x
  simp only[tuT,tvT,iT,stT]at this ⊢
  simp[zFf,this]) none
 have g:st.length<=AE:=zAG (by lia)
 simp only[tuT,tvT,iT,danT,stT]at e
 simp[F_33,fnD,d_33,gd,g,g3,e]
theorem zLo{n qs other:Nat}{row as:List Nat}{st:List Stp}(hr:RowOk qs other row)(hs:StOk n qs st)(c:List Nat):doneL as c (st.map (anewS row))=doneL (row.map fun k=>as.getD k 0) c st:=zDQ (fun s h=>by
 have h2:=(hr.get (hs s h).1).1
 unfold pickT anewS
 simp only[AK,Af]at h2 ⊢
 rw[h2]; simp) _
theorem zD0(n qs:Nat)(a b:List Stp)(hl:a.length+b.length<=10000):F_22 [.v (danT n qs a),.v (danT n qs b)]=some (.v (danT n qs (a++b)),[]):=by
 have q:=fun Γ=>zGe Γ [n,qs] [n,qs]
 have g3:(3:Nat)<=AE:=by decide
 have c1:∀ L:T,cutT [iT (n:Int),iT (qs:Int),L] none (some 2)=[iT (n:Int),iT (qs:Int)]:=fun L=>rfl
 have gL:(a.map stT).length+(b.map stT).length<=AE:=zAG (by simp; lia)
 have e:(a++b).map stT=a.map stT++b.map stT:=A6
 simp only[danT]
 rw[e]
 generalize a.map stT=A at *
 generalize b.map stT=B at *
 simp only[tuT,tvT,iT,AJ,Ay,decide_true,Ew]at q c1
 simp[F_22,fnD,d_22,c1,q,gd,g3,gL]
noncomputable def putA (as:List Nat) (q x:Nat):List Nat:=as.take q++x::as.drop (q+1)
theorem zNY{as:List Nat}{q x k:Nat}(hq:q < as.length):(putA as q x).getD k 0=if k=q then x else as.getD k 0:=by
 unfold putA
 simp only[AK]
 by_cases h:k < q
 ·rw[Aq (by simp; lia),Cu h,if_neg (by lia)]
 ·rw[BJ (by simp; lia)]
  by_cases h2:k=q
  ·subst h2; simp[Nat.min_eq_left (ED hq)]
  ·rw[if_neg h2]
   obtain⟨m,rfl⟩:∃ m,k=q+1+m:=⟨k - (q+1),by lia⟩
   have:q+1+m - (as.take q).length=m+1:=by simp; lia
   rw[this,List.getElem?_cons_succ,Ey]
theorem zJa{n qs q x:Nat}{as:List Nat}{st:List Stp}(hq:q < as.length)(c:List Nat):doneL as c (st.map (aheadS q x))=doneL (putA as q x) c st:=zDQ (fun s h=>by
 unfold pickT
 rw[zNY hq]
 unfold aheadS
 by_cases h1:s.1=q
 ·rw[if_pos h1,if_pos h1]
  by_cases h2:x=1
  ·simp[h2]
  ·simp[h2]
 ·rw[if_neg h1,if_neg h1]) _
noncomputable def mkD (m:Mk):CM:=.tuple [.tuple (intsD m.1),.int (m.2:Int)]
noncomputable def smD (x:Sm):CM:=.tuple [.int (x.1:Int),.tuple (intsD x.2.1),.tuple (x.2.2.map mkD)]
theorem zIW:∀ l:List Mk,toDs (l.map mkT)=some (l.map mkD)
 | []=>rfl
 | m::r=>by
  have h1:=zCD m.1
  have h2:=zIW r
  simp only[tvT,iT]at h1
  simp only[AJ,mkD]
  simp[toDs,toD,toDa,h1,h2]
theorem zFX(Γ:En)(x:Sm):datS Γ (.v (smT x))=some (smD x):=by
 have h1:=zCD x.2.1
 have h2:=zIW x.2.2
 simp only[tvT,iT]at h1
 simp only[smT,sumT,smD]
 generalize x.2.2.map mkT=MM at *
 simp[datS,toD,toDs,toDa,h1,h2]
theorem zFo:∀ a c:List Mk,A8 (a.map mkD) (c.map mkD)=decide (a=c)
 | [],[]=>by simp[A8]
 | [],y::s=>by simp[A8]
 | x::r,[]=>by simp[A8]
 | (s,k)::r,(s',k')::r'=>by
  have ih:=zFo r r'
  rw[AJ,AJ,A8,ih]
  have e:Bo (mkD (s,k)) (mkD (s',k'))=decide ((s,k)=(s',k')):=by
   have h:((k:Int)=(k':Int)) ↔ k=k':=by lia
   by_cases h1:s=s' <;> by_cases h2:k=k' <;> simp[mkD,Bo,A8,zBY,h,h1,h2]
  rw[e]
  by_cases h:(s,k)=(s',k') <;> by_cases h2:r=r' <;> simp[h,h2]
  all_goals first | exact fun z1 z2=>h (by rw[z1,z2]) | skip
theorem zLU(x y:Sm):Bo (smD x) (smD y)=decide (x=y):=by
 obtain⟨a,b,c⟩:=x
 obtain⟨a',b',c'⟩:=y
 have h:((a:Int)=(a':Int)) ↔ a=a':=by lia
 by_cases h1:a=a' <;> by_cases h2:b=b' <;> by_cases h3:c=c' <;> simp[smD,Bo,A8,zBY,zFo,h,h1,h2,h3]
theorem zK8:∀ l:List Mk,Bj (l.map mkD)=true
 | []=>rfl
 | m::r=>by simp[Bj,B0,mkD,zBF,zK8 r]
theorem zHQ:∀ l:List Mk,BS (l.map mkD)<=5
 | []=>by simp[BS]
 | m::r=>by
  have:=zHQ r
  have h:=zBe m.1
  simp[BS,CG,mkD,h]
  lia
theorem zLs(x:Sm):B0 (smD x)=true:=by simp[smD,B0,Bj,zBF,zK8]
theorem zMj(x:Sm):CG (smD x)<=20:=by
 have h1:=zBe x.2.1
 have h2:=zHQ x.2.2
 simp[smD,CG,BS,h1]
 lia
theorem zLV(f:CM->CM->Bool)(Γ:En)(x y:Sm):cmpD f Γ (.v (smT x)) (.v (smT y))=some (.v (.a (.bl (f (smD x) (smD y))))):=by
 unfold cmpD
 rw[zFX,zFX]
 simp only[BG]
 rw[if_pos ⟨zLs x,zLs y,by have:=zMj x; lia⟩]
 rfl
theorem zLv(Γ:En)(x y:Sm):eqS Γ (.v (smT x)) (.v (smT y))=some (.v (.a (.bl (decide (x=y))))):=by
 show ((none:Option S).or (cmpD Bo Γ (.v (smT x)) (.v (smT y))))=_
 rw[De,zLV,zLU]
theorem zPo(Γ:En)(x y:Sm):neS Γ (.v (smT x)) (.v (smT y))=some (.v (.a (.bl (!decide (x=y))))):=by
 show ((none:Option S).or (cmpD (fun a b=>!PyData.eqv a b) Γ (.v (smT x)) (.v (smT y))))=_
 rw[De,zLV,zLU]
theorem zEP(s:List Nat)(q:Nat)(hl:s.length<=1000):F_16 [.v (tuT s),.v (iT (q:Int))]=some (.v (tuT (outL s q)),[]):=by
 have g:s.length<=AE:=zAG (by lia)
 obtain⟨o',e⟩:=zBL (fun (k:Nat)=>iT (k:Int)) (fun (k:Nat)=>iT (k:Int)) (fun x=>!decide (x=q)) (dc:=zDg) (de:=zDu) (R:=[some (.v (iT (q:Int)))]) s (fun x _=>by
  have:(decide ((x:Int)=(q:Int)))=decide (x=q):=by simp[EM]
  simp[zDg,this]) (fun x _ _=>by simp[zDu]) none
 have e':compD (gdName 0) zDg zDu (s.map fun (k:Nat)=>iT (k:Int)) [none,some (.v (iT (q:Int)))]=some ((outL s q).map fun (k:Nat)=>iT (k:Int),[o',some (.v (iT (q:Int)))]):=e
 simp only[tuT,tvT,iT]at e' ⊢
 simp[F_16,fnD,d_16,gd,g,e']
theorem zIo(s:List Nat)(q a:Nat):F_15 [.v (tuT s),.v (iT (q:Int)),.v (iT (a:Int))]=some (.v (iT (one1 s q a:Int)),[]):=by
 have at1:=zA0 s
 have in1:=zCe s q
 have ff:∀ x:Int,flatV (.int x)=true:=fun _=>rfl
 have ea:((a:Int)=1) ↔ a=1:=by lia
 unfold one1
 simp only[tuT,tvT,iT]at at1 ⊢
 by_cases h1:a=1
 ·by_cases h2:q∈s
  ·have e1:hasQ s q=true:=decide_eq_true h2
   rw[e1]at in1
   simp[F_15,fnD,d_15,inS,seqS,at1,ff,in1,h1,h2]
  ·have e1:hasQ s q=false:=decide_eq_false h2
   rw[e1]at in1
   simp[F_15,fnD,d_15,inS,seqS,at1,ff,in1,h1,h2]
 ·have h1':¬ ((a:Int)=1):=by lia
  simp[F_15,fnD,d_15,h1,h1']
theorem zFs{qs:Nat}(hqs:qs<=20){x:Sm}(hx:SmOk qs x)(q a:Nat)(hl:x.2.2.length < 1000):F_17 [.v (smT x),.v (iT (q:Int)),.v (iT (a:Int))]=some (.v (smT (ansS x q a)),[]):=by
 have hb:=hx.bg
 have hfl:=hx.fl.len
 have e1:=zIo x.2.1 q a
 have e2:=zEP x.2.1 q (by lia)
 have e3:=zE0 (ansP x.2.2 q a) (by simpa [ansP] using hl)
 obtain⟨o',e4⟩:=zAq mkT (fun m=>prI (outL m.1 q,((m.2 * one1 m.1 q a:Nat):Int))) (de:=zDc) (R:=[some (.v (iT (q:Int))),some (.v (iT (a:Int)))]) x.2.2 (fun m hm=>by
  have hm':=hx.ms.ok m hm
  have:=hm'.1.len
  have f1:=zIo m.1 q a
  have f2:=zEP m.1 q (by lia)
  have g2:(2:Nat)<=AE:=by decide
  have c:CMul (m.2:Int) (one1 m.1 q a:Int):=zBW ⟨by have:=hm'.2.1; lia,by have:=hm'.2.2; lia⟩
  simp only[prI,mkT,Bd]
  generalize tuT (outL m.1 q)=TO at *
  generalize tuT m.1=TM at *
  simp only[iT]at f1 f2 ⊢
  simp[zDc,f1,f2,gd,g2,c]) none
 have e5:compD (gdName 0) dYes zDc (x.2.2.map mkT) [none,some (.v (iT (q:Int))),some (.v (iT (a:Int)))]=some ((ansP x.2.2 q a).map prI,[o',some (.v (iT (q:Int))),some (.v (iT (a:Int)))]):=by
  rw[e4]; simp only[ansP,A7]; rfl
 have g:(x.2.2.map mkT).length<=AE:=zAG (by simp; lia)
 have g3:(3:Nat)<=AE:=by decide
 have hbg:((if a=1/\q∈x.2.1 then 1 - x.1 else x.1:Nat):Int)=if one1 x.2.1 q a=2 then 1 - (x.1:Int) else (x.1:Int):=by
  unfold one1
  by_cases h:a=1/\q∈x.2.1
  ·rw[if_pos h,if_pos h,if_pos rfl]; lia
  ·rw[if_neg h,if_neg h,if_neg (by decide)]
 simp only[smT,sumT,ansS]
 rw[hbg]
 have ho:(((one1 x.2.1 q a:Nat):Int)=2) ↔ one1 x.2.1 q a=2:=by lia
 generalize one1 x.2.1 q a=N1 at *
 generalize (ansP x.2.2 q a).map prI=PP at *
 generalize (marksL (ansP x.2.2 q a)).map mkT=MA at *
 generalize x.2.2.map mkT=MM at *
 generalize tuT (outL x.2.1 q)=TO at *
 generalize tuT x.2.1=TX at *
 simp only[iT]at e1 e2 e3 e5 ⊢
 by_cases h:N1=2
 ·have h':(N1:Int)=2:=by lia
  rw[h']at e1
  simp[F_17,fnD,d_17,e1,e2,e3,e5,gd,g,g3,h]
 ·have h':¬ (N1:Int)=2:=by lia
  simp[F_17,fnD,d_17,e1,e2,e3,e5,gd,g,g3,h,h']
theorem zEA{qs:Nat}(hqs:qs<=20)(f g:List Nat->List Nat)(o0 o1:Option G):∀ (n:Nat) (p:List Nat) (x y:Sm) (o4 o5 o6:Option G),p.length+n=qs->SmOk qs x->SmOk qs y->x.2.2.length < 1000->y.2.2.length < 1000->Says qs f p x->Says qs g p y->x≠y->∃ (x' y':Sm) (q4 q5 q6:Option G),
  forD (gdName 4) zB9 ((G6 p.length n).map fun (k:Nat)=>iT (k:Int)) [o0,o1,some (.l [smT x,smT y]),some (.l (tvT p)),o4,o5,o6]=some (.nx [o0,o1,some (.l [smT x',smT y']),some (.l (tvT (greedy (fun as=>!decide (f as=g as)) n p))),q4,q5,q6])
 | 0,p,x,y,o4,o5,o6,_,_,_,_,_,_,_,_=>⟨x,y,o4,o5,o6,by rw[List.range'_zero,Ay,zAn]; rfl⟩
 | n+1,p,x,y,o4,o5,o6,hn,hx,hy,lx,ly,sx,sy,hne=>by
  have hp:p.length < qs:=by lia
  have hD:=(zDX (n:=n+1) (by lia) hx hy sx sy).mpr hne
  rw[zFp]at hD
  have sx0:=zCL hx hp (a:=0) (by decide) sx
  have sy0:=zCL hy hp (a:=0) (by decide) sy
  have x0:=zCd hx p.length 0
  have y0:=zCd hy p.length 0
  have d0:=zDX (n:=n) (by simp; lia) x0.1 y0.1 sx0 sy0
  obtain⟨a,ha2,hae,hax⟩:∃ a:Nat,a < 2/\a=(if hasD (fun as=>!decide (f as=g as)) n (p++[0])=true then 0 else 1)/\hasD (fun as=>!decide (f as=g as)) n (p++[a])=true:=by
   cases h:hasD (fun as=>!decide (f as=g as)) n (p++[0]) with
   | true=>exact⟨0,by decide,rfl,h⟩
   | false =>
    rw[h,Iy]at hD
    exact⟨1,by decide,rfl,hD⟩
  have sx1:=zCL hx hp ha2 sx
  have sy1:=zCL hy hp ha2 sy
  have x1:=zCd hx p.length a
  have y1:=zCd hy p.length a
  have d1:=(zDX (n:=n) (by simp; lia) x1.1 y1.1 sx1 sy1).mp hax
  obtain⟨x',y',q4,q5,q6,e⟩:=zEA hqs f g o0 o1 n (p++[a]) (ansS x p.length a) (ansS y p.length a) (some (.v (iT (p.length:Int)))) (some (.l [smT (ansS x p.length 0),smT (ansS y p.length 0)])) (some (.v (iT (a:Int)))) (by simp; lia) x1.1 y1.1 (by lia) (by lia) sx1 sy1 d1
  refine⟨x',y',q4,q5,q6,?_⟩
  rw[greedy,← hae,← e,FQ,AJ]
  have hlen:(p++[a]).length=p.length+1:=by simp
  rw[hlen]
  have turn:zB9 [o0,o1,some (.l [smT x,smT y]),some (.l (tvT p)),some (.v (iT (p.length:Int))),o5,o6]=some (.nx [o0,o1,some (.l [smT (ansS x p.length a),smT (ansS y p.length a)]),some (.l (tvT (p++[a]))),some (.v (iT (p.length:Int))),some (.l [smT (ansS x p.length 0),smT (ansS y p.length 0)]),some (.v (iT (a:Int)))]):=by
   obtain⟨r1,e1⟩:=zAq smT (fun z=>smT (ansS z p.length 0)) (de:=zFG) (R:=[some (.v (iT (p.length:Int)))]) [x,y] (fun z hz=>by
    have hz':SmOk qs z/\z.2.2.length < 1000:=by
     rcases AS.mp hz with w | w
     ·subst w; exact⟨hx,lx⟩
     ·have:=AI.mp w; subst this; exact⟨hy,ly⟩
    have f1:=zFs hqs hz'.1 p.length 0 hz'.2
    have c0:((0:Nat):Int)=0:=rfl
    rw[c0]at f1
    generalize smT (ansS z p.length 0)=SA at *
    generalize smT z=SZ at *
    simp only[iT]at f1 ⊢
    simp[zFG,f1]) none
   obtain⟨r2,e2⟩:=zAq smT (fun z=>smT (ansS z p.length a)) (de:=zFQ) (R:=[some (.v (iT (p.length:Int))),some (.v (iT (a:Int)))]) [x,y] (fun z hz=>by
    have hz':SmOk qs z/\z.2.2.length < 1000:=by
     rcases AS.mp hz with w | w
     ·subst w; exact⟨hx,lx⟩
     ·have:=AI.mp w; subst this; exact⟨hy,ly⟩
    have f1:=zFs hqs hz'.1 p.length a hz'.2
    generalize smT (ansS z p.length a)=SA at *
    generalize smT z=SZ at *
    simp only[iT]at f1 ⊢
    simp[zFQ,f1]) none
   simp only[AJ,Ay]at e1 e2
   have n0:=fun Γ=>zPo Γ (ansS x p.length 0) (ansS y p.length 0)
   have g2:(2:Nat)<=AE:=by decide
   have gp:p.length < AE:=zCA (by lia)
   have gp':p.length<=AE:=zAG (by lia)
   have ta:tvT (p++[a])=tvT p++[iT (a:Int)]:=by simp
   have hl:(tvT p).length=p.length:=by simp
   rw[ta]
   generalize smT (ansS x p.length a)=XA at *
   generalize smT (ansS y p.length a)=YA at *
   generalize hX0:smT (ansS x p.length 0)=X0 at *
   generalize hY0:smT (ansS y p.length 0)=Y0 at *
   generalize smT x=SX at *
   generalize smT y=SY at *
   generalize tvT p=TP at *
   cases h:hasD (fun as=>!decide (f as=g as)) n (p++[0]) with
   | true =>
    have hne0:ansS x p.length 0≠ansS y p.length 0:=d0.mp h
    have:decide (ansS x p.length 0=ansS y p.length 0)=false:=decide_eq_false hne0
    rw[this]at n0
    have ha0:a=0:=by rw[hae,h]; rfl
    subst ha0
    have cc:((0:Nat):Int)=0:=rfl
    rw[cc]at e2 ⊢
    simp only[iT]at e1 e2 ⊢
    simp[zB9,e1,e2,n0,gd,g2,gp,gp',hl,hAppend]
   | false =>
    have heq0:ansS x p.length 0=ansS y p.length 0:=by
     apply LW
     intro z
     have:=d0.mpr z
     rw[h]at this; cases this
    have:decide (ansS x p.length 0=ansS y p.length 0)=true:=decide_eq_true heq0
    rw[this]at n0
    have ha0:a=1:=by rw[hae,h]; rfl
    subst ha0
    have cc:((1:Nat):Int)=1:=rfl
    rw[cc]at e2 ⊢
    simp only[iT]at e1 e2 ⊢
    simp[zB9,e1,e2,n0,gd,g2,gp,gp',hl,hAppend]
  exact zAu (by simp) turn
theorem zD8{qs:Nat}(h0:0 < qs)(hqs:qs<=20)(st st':List Stp)(hs:StOk 3 qs st)(hs':StOk 3 qs st')(l1:2 * st.length < 1000)(l2:2 * st'.length < 1000):F_18 [.v (danT 3 qs st),.v (danT 3 qs st')]=some (.v (if nfS qs st=nfS qs st' then .a .non else tuT (greedy (fun as=>!decide (doneL as (AC 3) st=doneL as (AC 3) st')) qs [])),[]):=by
 have e1:=zBP qs hqs st hs l1
 have e2:=zBP qs hqs st' hs' l2
 have e1':F_10 [.v (danT 3 qs st)]=some (.v (smT (nfS qs st)),[]):=e1
 have e2':F_10 [.v (danT 3 qs st')]=some (.v (smT (nfS qs st')),[]):=e2
 have n1:=zAd qs st
 have n2:=zAd qs st'
 have q1:=fun Γ=>zLv Γ (nfS qs st) (nfS qs st')
 have g2:(2:Nat)<=AE:=by decide
 have g0:(0:Nat)<=AE:=by decide
 have rr:=zBO qs
 have r1:=zAm qs (by lia)
 by_cases h:nfS qs st=nfS qs st'
 ·have hd:decide (nfS qs st=nfS qs st')=true:=decide_eq_true h
  rw[hd]at q1
  rw[if_pos h]
  simp only[danT,show ((3:Nat):Int)=3 from rfl]at e1' e2' ⊢
  generalize smT (nfS qs st)=S1 at *
  generalize smT (nfS qs st')=S2 at *
  generalize st.map stT=SS at *
  generalize st'.map stT=SS' at *
  simp only[iT]at e1' e2' ⊢
  simp[F_18,fnD,d_18,e1',e2',q1,gd,g2]
 ·have hd:decide (nfS qs st=nfS qs st')=false:=decide_eq_false h
  rw[hd]at q1
  rw[if_neg h]
  obtain⟨x',y',q4,q5,q6,e3⟩:=zEA hqs (fun as=>doneL as (AC 3) st) (fun as=>doneL as (AC 3) st') (some (.v (danT 3 qs st))) (some (.v (danT 3 qs st'))) qs [] (nfS qs st) (nfS qs st') none none none (by simp) n1.1 n2.1 (by lia) (by lia) (fun as ha=>zAc hs ha) (fun as ha=>zAc hs' ha) h
  have e3':forD (gdName 4) zB9 (tvT (AC qs)) [some (.v (danT 3 qs st)),some (.v (danT 3 qs st')),some (.l [smT (nfS qs st),smT (nfS qs st')]),some (.l []),none,none,none]=some (.nx [some (.v (danT 3 qs st)),some (.v (danT 3 qs st')),some (.l [smT x',smT y']),some (.l (tvT (greedy (fun as=>!decide (doneL as (AC 3) st=doneL as (AC 3) st')) qs []))),q4,q5,q6]):=by
   rw[List.range_eq_range']; exact e3
  have gl:=zEQ (fun as=>!decide (doneL as (AC 3) st=doneL as (AC 3) st')) qs []
  have gq:(tvT (greedy (fun as=>!decide (doneL as (AC 3) st=doneL as (AC 3) st')) qs [])).length<=AE:=zAG (by simp at gl ⊢; lia)
  simp only[danT,show ((3:Nat):Int)=3 from rfl]at e1' e2' e3' ⊢
  simp only[tuT]
  generalize tvT (greedy (fun as=>!decide (doneL as (AC 3) st=doneL as (AC 3) st')) qs [])=GG at *
  generalize smT (nfS qs st)=S1 at *
  generalize smT (nfS qs st')=S2 at *
  generalize smT x'=S3 at *
  generalize smT y'=S4 at *
  generalize st.map stT=SS at *
  generalize st'.map stT=SS' at *
  simp only[tvT]at e3' rr
  simp only[iT]at e1' e2' e3' rr r1 ⊢
  simp[F_18,fnD,d_18,e1',e2',q1,gd,g2,g0,r1,rr,e3',gq]
noncomputable def xorL (qs:Nat) (s f:List Nat):List Nat:=(AC qs).filter fun x=>hasQ s x != hasQ f x
theorem zBC(qs:Nat)(s f:List Nat):SetOk qs (xorL qs s f):=Eo
theorem zFa{qs:Nat}(as s f:List Nat):chS qs as (xorL qs s f)=chS qs as s * chS qs as f:=by
 unfold chS
 rw[zDr]
 exact zBp fun x hx=>zD5 hx
theorem zGv{qs:Nat}{s f:List Nat}(hs:SetOk qs s)(hf:SetOk qs f):(s.filter (fun x=>!hasQ f x)++f.filter fun x=>!hasQ s x).Perm (xorL qs s f):=by
 have n1:(s.filter (fun x=>!hasQ f x)++f.filter fun x=>!hasQ s x).Nodup:=by
  rw[FA]
  refine⟨hs.nodup.filter _,hf.nodup.filter _,fun a ha b hb=>?_⟩
  rw[A5]at ha hb
  intro z
  subst z
  have:=hb.2
  simp[hasQ,ha.1]at this
 refine (GD n1 (zBC qs s f).nodup).mpr fun x=>?_
 unfold xorL
 rw[Ap,A5,A5,A5,BU]
 by_cases h1:x∈s <;> by_cases h2:x∈f
 ·simp[hasQ,h1,h2]
 ·simp[hasQ,h1,h2,hs.lt h1]
 ·simp[hasQ,h1,h2,hf.lt h2]
 ·simp[hasQ,h1,h2]
theorem zNO{qs:Nat}{s f:List Nat}(hs:SetOk qs s)(hf:SetOk qs f):sortI ((s.filter (fun x=>!hasQ f x)++f.filter fun x=>!hasQ s x).map fun (k:Nat)=>(k:Int))=(xorL qs s f).map fun (k:Nat)=>(k:Int):=by
 refine zB2 ((zB5 _).trans ((zGv hs hf).map _)) (zBb _) ?_
 refine BN.mpr ((zBC qs s f).sorted.imp fun {a b} hab=>?_)
 lia
theorem zMm(s f:List Nat):(s++f).filter (fun x=>!hasQ s x || !hasQ f x)=s.filter (fun x=>!hasQ f x)++f.filter fun x=>!hasQ s x:=by
 rw[Cw]
 congr 1
 ·refine C9 fun x hx=>?_
  simp[hasQ,hx]
 ·refine C9 fun x hx=>?_
  simp[hasQ,hx]
theorem zC4(qs:Nat)(hqs:qs<=20)(s f:List Nat)(hs:SetOk qs s)(hf:SetOk qs f):F_24 [.v (tuT s),.v (tuT f)]=some (.v (tuT (xorL qs s f)),[]):=by
 have at1:=zA0 s
 have at2:=zA0 f
 have ff:∀ x:Int,flatV (.int x)=true:=fun _=>rfl
 have hl:=hs.len
 have hl2:=hf.len
 have g:s.length+f.length<=AE:=zAG (by lia)
 obtain⟨o1,e1⟩:=zBL (fun (k:Nat)=>iT (k:Int)) (fun (k:Nat)=>iT (k:Int)) (fun x=>!hasQ s x || !hasQ f x) (dc:=zFA) (de:=zFg) (R:=[some (.v (tuT s)),some (.v (tuT f))]) (s++f) (fun x _=>by
  have in1:=zCe s x
  have in2:=zCe f x
  simp only[tuT,tvT,iT]at at1 at2 ⊢
  cases h1:hasQ s x <;> rw[h1]at in1 <;> simp[zFA,inS,seqS,at1,at2,ff,in1,in2]) (fun x _ _=>by simp[zFg]) none
 rw[zMm]at e1
 have e3:=zNO hs hf
 have e4:=zBt (s.filter (fun x=>!hasQ f x)++f.filter fun x=>!hasQ s x)
 have hp:=(zGv hs hf).length_eq
 have hxl:=(zBC qs s f).len
 generalize (s.filter (fun x=>!hasQ f x)++f.filter fun x=>!hasQ s x)=A at *
 have l64:(A.map fun (k:Nat)=>(k:Int)).length < 64:=by simp; lia
 have gA:A.length<=AE:=zAG (by lia)
 generalize A.map (fun (k:Nat)=>(k:Int))=WW at *
 have gx:(xorL qs s f).length<=AE:=zAG (by lia)
 generalize xorL qs s f=XX at *
 simp only[tuT,tvT,iT,A6]at e1 e3 e4 ⊢
 simp[F_24,fnD,d_24,e1,gd,g,gA,sortedS,sqlOf,e4,l64,e3,gx,B1]
noncomputable def movP (qs:Nat) (k:Int) (fl:List Nat) (mk:List Mk):List Pr:=mk.map fun m=>(xorL qs m.1 fl,(m.2:Int) * k)
theorem zME(D:List Mk)(p:Pr):(stepM D p).length<=D.length+1:=by
 have:=congrArg DR (zCI D p.1 ((((lkM D p.1).getD 0:Nat)+p.2:Int) % 3).toNat)
 rw[Ak]at this
 unfold stepM
 rw[this]
 split <;> simp
theorem zLW:∀ {D:List Mk},(D.map (·.1)).Nodup->∀ {m:Mk},m∈D ↔ lkM D m.1=some m.2
 | [],_,m=>by simp[lkM]
 | p::r,nd,m=>by
  rw[AJ,BI]at nd
  have ih:=zLW nd.2 (m:=m)
  by_cases h:p.1=m.1
  ·have e:lkM (p::r) m.1=some p.2:=by simp[lkM,h]
   rw[e,AS]
   constructor
   ·rintro (z | z)
    ·rw[z]
    ·exact absurd (Ag.mpr ⟨m,z,rfl⟩) (h ▸ nd.1)
   ·intro z; exact .inl (E7 h.symm (Ab z).symm)
  ·have e:lkM (p::r) m.1=lkM r m.1:=by simp[lkM,h]
   rw[e,← ih,AS]
   exact⟨fun z=>z.elim (fun z=>absurd (congrArg LB z).symm h) id,.inr⟩
theorem zC0:∀ {a b:List Nat},(a.map fun (k:Nat)=>(k:Int))=b.map (fun (k:Nat)=>(k:Int))->a=b
 | [],[],_=>rfl
 | [],_::_,h=>by cases h
 | _::_,[],h=>by cases h
 | x::a,y::b,h=>by
  rw[AJ,AJ]at h
  have:=Hd h
  rw[zC0 this.2,EM.mp this.1]
theorem zL9(D:List Mk)(nd:(D.map (·.1)).Nodup)(h:D.length < 1000):∃ E:List Mk,E.Perm D/\E.Pairwise (fun a b=>lxN a.1 b.1=true)/\srtV (D.map mkT)=some (E.map mkT):=by
 cases D with
 | nil=>exact⟨[],.refl _,.nil,rfl⟩
 | cons m r =>
  generalize hD:m::r=D at *
  refine⟨sortBy (ltQ (D.map fun m=>(m.1.map fun (k:Nat)=>(k:Int),(m.2:Int)))) ([],0) D,zD2 _ _ _,?_,?_⟩
  ·have gi:∀ i,i < D.length->(D.map fun m=>(m.1.map fun (k:Nat)=>(k:Int),(m.2:Int))).getD i ([],0)=((D.getD i ([],0)).1.map fun (k:Nat)=>(k:Int),((D.getD i ([],0)).2:Int)):=fun i hi=>by
    simp[AK,hi]
   have inj:∀ i j,i < D.length->j < D.length->i≠j->(D.getD i ([],0)).1≠(D.getD j ([],0)).1:=fun i j hi hj hij e=>by
    rw[AK,AK,AR hi,AR hj,BV,BV]at e
    have pw:=Au.mp (BN.mp nd)
    rcases FK i j with z | z | z
    ·exact pw i j hi hj z e
    ·exact hij z
    ·exact pw j i hj hi z e.symm
   have lt:∀ i j,i < D.length->j < D.length->i≠j->ltQ (D.map fun m=>(m.1.map fun (k:Nat)=>(k:Int),(m.2:Int))) i j=lxN (D.getD i ([],0)).1 (D.getD j ([],0)).1:=fun i j hi hj hij=>by
    unfold ltQ ltP
    rw[gi i hi,gi j hj]
    dsimp only
    rw[if_neg fun z=>inj i j hi hj hij (zC0 z)]
    rfl
   have irr:∀ i,i < D.length->ltQ (D.map fun m=>(m.1.map fun (k:Nat)=>(k:Int),(m.2:Int))) i i=false:=fun i hi=>by
    unfold ltQ ltP
    rw[if_pos rfl]
    exact decide_eq_false (Int.lt_irrefl _)
   have ne:∀ {i j},i < D.length->ltQ (D.map fun m=>(m.1.map fun (k:Nat)=>(k:Int),(m.2:Int))) i j=true->i≠j:=fun {i j} hi hh z=>by rw[← z,irr i hi]at hh; cases hh
   refine zC6 ⟨fun i j hi hj hij hh=>?_,fun i j hi hj hh=>?_,fun i j k hi hj hk h1 h2=>?_⟩ _ fun i j hi hj hh=>?_
   ·rw[lt i j hi hj hij]at hh
    rw[lt j i hj hi (BC hij)]
    exact zFP _ _ (inj i j hi hj hij) hh
   ·have n:=ne hi hh
    rw[lt i j hi hj n]at hh
    rw[lt j i hj hi (BC n)]
    exact zDb _ _ hh
   ·have n1:=ne hi h1
    have n2:=ne hj h2
    rw[lt i j hi hj n1]at h1
    rw[lt j k hj hk n2]at h2
    have h3:=zHr _ _ _ h1 h2
    have n3:i≠k:=fun z=>by rw[z,zDW]at h3; cases h3
    rw[lt i k hi hk n3]
    exact h3
   ·rw[lt i j hi hj (ne hi hh)]at hh
    exact hh
  ·unfold srtV
   rw[← hD,zML,zHh,hD]
   have nd2:(D.map fun m:Mk=>(m.1.map fun (k:Nat)=>(k:Int),(m.2:Int))).Nodup:=BN.mpr ((BN.mp nd).imp fun {a b} hab z=>hab (zC0 (congrArg LB z)))
   dsimp only
   rw[if_pos ⟨by simpa using h,nd2⟩,zD4 mkT _ ([],0) _ D]
theorem zOx(D:List Mk):(dctM D).filter (fun kv=>posT kv.2)=dctM (D.filter fun m=>decide (0 < m.2)):=by
 induction D with
 | nil=>rfl
 | cons m r ih =>
  have e:dctM (m::r)=(keyM m.1,iT (m.2:Int))::dctM r:=rfl
  rw[e]
  by_cases h:0 < m.2
  ·rw[C2 (by simp[posT]; lia),C2 (by simpa using h),ih]; rfl
  ·rw[C3 (by simp[posT]; lia),C3 (by simpa using h),ih]
theorem zM9{D:List Mk}(nd:(D.map (·.1)).Nodup):((dctM D).map (·.1)).Nodup:=by
 unfold dctM
 rw[A7]
 have:((fun p:List Key×T=>p.1) ∘ fun p:Mk=>(keyM p.1,iT (p.2:Int)))=fun p:Mk=>keyM p.1:=rfl
 rw[this]
 exact BN.mpr ((BN.mp nd).imp fun {a b} h z=>h (zCO z))
theorem zN0(D:List Mk):((dctM D).all fun kv=>intT kv.2)=true:=by
 unfold dctM
 rw[JR,BK]
 exact fun _ _=>rfl
theorem zLy{qs:Nat}{ps:List Pr}(hp:∀ p∈ps,SetOk qs p.1)(hl:ps.length < 1000):srtV (((foldM ps).filter fun m=>decide (0 < m.2)).map mkT)=some ((marksL ps).map mkT):=by
 have hF:=zA9 ps
 have nd:(((foldM ps).filter fun m=>decide (0 < m.2)).map (·.1)).Nodup:=BN.mpr ((BN.mp hF.nd).filter _)
 have hll:((foldM ps).filter fun m=>decide (0 < m.2)).length < 1000:=by
  have:=G4 (fun m:Mk=>decide (0 < m.2)) (foldM ps)
  have:=hF.len
  lia
 obtain⟨E,p,srt,e⟩:=zL9 _ nd hll
 have:E=marksL ps:=by
  refine zCy srt (zBU hp).srt fun m=>?_
  rw[p.mem_iff,A5,zLW hF.nd,hF.val,zES]
  by_cases hk:m.1∈ps.map (·.1)
  ·rw[if_pos hk]
   constructor
   ·rintro ⟨z1,z2⟩
    have z1:=Ab z1
    have:0 < m.2:=by simpa using z2
    exact⟨hk,by lia,z1.symm⟩
   ·rintro ⟨_,z1,z2⟩
    exact⟨by rw[z2],by rw[z2]; simp; lia⟩
  ·rw[if_neg hk]
   exact⟨fun z=>(nomatch z.1),fun z=>absurd z.1 hk⟩
 rw[e,this]
theorem zFq(o0 o1 o2:Option G):∀ (ps:List Pr) (D:List Mk) (o4 o5:Option G),D.length+ps.length<=1000->∃ o4' o5',forD (gdTup 2 (gdCons (gdName 4) (gdCons (gdName 5) gdNil))) zCb (ps.map prI) [o0,o1,o2,some (.d (.inr (dctM D))),o4,o5]=some (.nx [o0,o1,o2,some (.d (.inr (dctM (ps.foldl stepM D)))),o4',o5'])
 | [],D,o4,o5,_=>⟨o4,o5,by rw[Ay,zAn]; rfl⟩
 | p::r,D,o4,o5,hl=>by
  have hD:=zME D p
  obtain⟨o4',o5',e3⟩:=zFq o0 o1 o2 r (stepM D p) (some (.v (tuT p.1))) (some (.v (iT p.2))) (by simp at hl; lia)
  refine⟨o4',o5',?_⟩
  have gx:=zCP D p.1
  have px:=zF5 D p.1 ((((lkM D p.1).getD 0:Nat)+p.2:Int) % 3).toNat (zCA (by simp at hl; lia))
  have hm:0<=(((lkM D p.1).getD 0:Nat)+p.2:Int) % 3:=B3 _ (by decide)
  rw[CP hm]at px
  have hg:((lkM D p.1).map fun (m:Nat)=>iT (m:Int)).getD (.a (.int 0))=iT (((lkM D p.1).getD 0:Nat):Int):=by
   cases lkM D p.1 <;> rfl
  have turn:zCb [o0,o1,o2,some (.d (.inr (dctM D))),some (.v (tuT p.1)),some (.v (iT p.2))]=some (.nx [o0,o1,o2,some (.d (.inr (dctM (stepM D p)))),some (.v (tuT p.1)),some (.v (iT p.2))]):=by
   unfold stepM
   generalize dctM (putM D p.1 ((((lkM D p.1).getD 0:Nat)+p.2:Int) % 3).toNat)=D2 at *
   generalize dctM D=D1 at *
   generalize ((lkM D p.1).map fun (m:Nat)=>iT (m:Int))=LK at *
   generalize (((lkM D p.1).getD 0:Nat):Int)=N0 at *
   simp only[tuT,tvT,iT]at gx px hg ⊢
   simp[zCb,gx,px,hg]
  rw[AJ,zAu (by simp[prI]) turn,e3]
  rfl
theorem zBl{qs:Nat}(b:Nat)(fl:List Nat)(ps:List Pr)(hp:∀ p∈ps,SetOk qs p.1)(hl:ps.length < 1000):F_23 [.v (iT (b:Int)),.v (tuT fl),.r (ps.map prI)]=some (.v (smT (b,fl,marksL ps)),[]):=by
 have hF:=zA9 ps
 have hFl:=hF.len
 obtain⟨o4,o5,e1⟩:=zFq (some (.v (iT (b:Int)))) (some (.v (tuT fl))) (some (.r (ps.map prI))) ps [] none none (by simp; lia)
 have e1':forD (gdTup 2 (gdCons (gdName 4) (gdCons (gdName 5) gdNil))) zCb (ps.map prI) [some (.v (iT (b:Int))),some (.v (tuT fl)),some (.r (ps.map prI)),some (.d (.inr [])),none,none]=some (.nx [some (.v (iT (b:Int))),some (.v (tuT fl)),some (.r (ps.map prI)),some (.d (.inr (dctM (foldM ps)))),o4,o5]):=e1
 have e4:=zLy hp hl
 have e5:∀ Γ:En,Γ[3]?=some (some (.d (.inr (dctM (foldM ps)))))->dPos 3 Γ=some (.l (((foldM ps).filter fun m=>decide (0 < m.2)).map mkT),Γ):=fun Γ hΓ=>by
  rw[zOR hΓ (by simp[dctM]; lia) (zM9 hF.nd) (zN0 _),zOx,zJd]
 have g:(ps.map prI).length<=AE:=zAG (by simp; lia)
 have g3:(3:Nat)<=AE:=by decide
 have gl:((marksL ps).map mkT).length<=AE:=zAG (by have:=zB3 ps; simp; lia)
 simp only[smT,sumT]
 generalize ((foldM ps).filter fun m=>decide (0 < m.2)).map mkT=PP at *
 generalize dctM (foldM ps)=DD at *
 generalize (marksL ps).map mkT=MM at *
 generalize ps.map prI=RR at *
 generalize tuT fl=FF at *
 simp only[iT]at e1' ⊢
 simp[F_23,fnD,d_23,gd,g,g3,e1',e5,e4,gl,sqlOf]
theorem zHV{qs:Nat}(as:List Nat)(k:Int)(fl:List Nat):∀ mk:List Mk,cP qs as (movP qs k fl mk)=k * chS qs as fl * cP qs as (prM mk)
 | []=>by simp[cP,movP,prM]
 | m::r=>by
  have ih:=zHV (qs:=qs) as k fl r
  have e1:cP qs as (movP qs k fl (m::r))=(m.2:Int) * k * chS qs as (xorL qs m.1 fl)+cP qs as (movP qs k fl r):=by simp[cP,movP]
  have e2:cP qs as (prM (m::r))=(m.2:Int) * chS qs as m.1+cP qs as (prM r):=by simp[cP,prM]
  rw[e1,e2,ih,zFa]
  generalize chS qs as fl=F
  generalize chS qs as m.1=S
  rw[Fj (k * F)]
  congr 1
  simp only[Cr,FM,Bv]
theorem zC2{de:DE}{R:En}(g:Mk->T):∀ (is:List Mk),(∀ m∈is,de (some (.v (tuT m.1))::some (.v (iT (m.2:Int)))::R)=some (.v (g m),some (.v (tuT m.1))::some (.v (iT (m.2:Int)))::R))->∀ o1 o2,∃ o1' o2',compD (gdTup 2 (gdCons (gdName 0) (gdCons (gdName 1) gdNil))) dYes de (is.map mkT) (o1::o2::R)=some (is.map g,o1'::o2'::R)
 | [],_,o1,o2=>⟨o1,o2,rfl⟩
 | m::r,h,o1,o2=>by
  obtain⟨o1',o2',e⟩:=zC2 g r (fun j hj=>h j (AF _ hj)) (some (.v (tuT m.1))) (some (.v (iT (m.2:Int))))
  exact⟨o1',o2',by rw[AJ]; exact zEf (by simp[mkT]) (h m AH) e⟩
noncomputable def behS (qs:Nat) (x y:Sm):Sm:=((x.1+y.1) % 2,xorL qs x.2.1 y.2.1,marksL (movP qs (1+(y.1:Int)) y.2.1 x.2.2++prM y.2.2))
theorem zGZ{qs:Nat}{x y:Sm}(hy:SmOk qs y)(k:Int):∀ p∈movP qs k y.2.1 x.2.2++prM y.2.2,SetOk qs p.1:=fun p hp=>by
 rcases Ap.mp hp with z | z
 ·obtain⟨m,hm,rfl⟩:=Ag.mp z; exact zBC _ _ _
 ·obtain⟨m,hm,rfl⟩:=Ag.mp z; exact (hy.ms.ok m hm).1
theorem zFt{qs:Nat}(hqs:qs<=20){x y:Sm}(hx:SmOk qs x)(hy:SmOk qs y)(hl:x.2.2.length+y.2.2.length < 1000):F_25 [.v (smT x),.v (smT y)]=some (.v (smT (behS qs x y)),[]):=by
 have hb:=hx.bg
 have hb2:=hy.bg
 obtain⟨o1,o2,e1⟩:=zC2 (de:=zDY) (R:=[some (.v (smT y))]) (fun m=>prI (xorL qs m.1 y.2.1,(m.2:Int) * (1+(y.1:Int)))) x.2.2 (fun m hm=>by
  have f1:=zC4 qs hqs m.1 y.2.1 (hx.ms.ok m hm).1 hy.fl
  have hm2:=(hx.ms.ok m hm).2
  have g2:(2:Nat)<=AE:=by decide
  have c:CMul (m.2:Int) (1+(y.1:Int)):=zBW ⟨by lia,by lia⟩
  simp only[prI,smT,sumT]
  generalize tuT (xorL qs m.1 y.2.1)=TO at *
  generalize tuT m.1=TM at *
  generalize tuT y.2.1=TY at *
  simp only[iT]at f1 ⊢
  simp[zDY,f1,gd,g2,c]) none none
 have e1':compD (gdTup 2 (gdCons (gdName 0) (gdCons (gdName 1) gdNil))) dYes zDY (x.2.2.map mkT) [none,none,some (.v (smT y))]=some ((movP qs (1+(y.1:Int)) y.2.1 x.2.2).map prI,[o1,o2,some (.v (smT y))]):=by
  rw[e1]; simp only[movP,A7]; rfl
 have e2:=zC4 qs hqs x.2.1 y.2.1 hx.fl hy.fl
 have hpl:(movP qs (1+(y.1:Int)) y.2.1 x.2.2++prM y.2.2).length < 1000:=by simp[movP,prM]; lia
 have e3:=zBl ((x.1+y.1) % 2) (xorL qs x.2.1 y.2.1) _ (zGZ (x:=x) hy _) hpl
 have c1:(((x.1+y.1) % 2:Nat):Int)=((x.1:Int)+(y.1:Int)) % 2:=by lia
 have pm:(prM y.2.2).map prI=y.2.2.map mkT:=by simp only[prM,A7]; rfl
 rw[c1,A6,pm]at e3
 have g:(x.2.2.map mkT).length<=AE:=zAG (by simp; lia)
 have g2:(y.2.2.map mkT).length<=AE:=zAG (by simp; lia)
 have g3:((movP qs (1+(y.1:Int)) y.2.1 x.2.2).map prI).length+(y.2.2.map mkT).length<=AE:=zAG (by simp[movP]; lia)
 show F_25 [.v (smT x),.v (smT y)]=some (.v (smT ((x.1+y.1) % 2,xorL qs x.2.1 y.2.1,marksL (movP qs (1+(y.1:Int)) y.2.1 x.2.2++prM y.2.2))),[])
 generalize smT ((x.1+y.1) % 2,xorL qs x.2.1 y.2.1,marksL (movP qs (1+(y.1:Int)) y.2.1 x.2.2++prM y.2.2))=RR at *
 simp only[smT,sumT]at e1' ⊢
 generalize (movP qs (1+(y.1:Int)) y.2.1 x.2.2).map prI=PP at *
 generalize x.2.2.map mkT=MX at *
 generalize y.2.2.map mkT=MY at *
 generalize tuT (xorL qs x.2.1 y.2.1)=TO at *
 generalize tuT x.2.1=TX at *
 generalize tuT y.2.1=TY at *
 simp only[iT]at e1' e2 e3 ⊢
 simp[F_25,fnD,d_25,e1',e2,e3,gd,g,g2,g3,sqlOf]
noncomputable def trnS (qs:Nat) (x:Sm):Sm:=(x.1,x.2.1,marksL (movP qs (2 * (1+(x.1:Int))) x.2.1 x.2.2))
theorem zH2{qs:Nat}{x:Sm}(k:Int):∀ p∈movP qs k x.2.1 x.2.2,SetOk qs p.1:=fun p hp=>by
 obtain⟨m,hm,rfl⟩:=Ag.mp hp; exact zBC _ _ _
theorem zLi{qs:Nat}(hqs:qs<=20){x:Sm}(hx:SmOk qs x)(hl:x.2.2.length < 1000):F_28 [.v (smT x)]=some (.v (smT (trnS qs x)),[]):=by
 have hb:=hx.bg
 obtain⟨o1,o2,e1⟩:=zC2 (de:=zDp) (R:=[some (.v (smT x))]) (fun m=>prI (xorL qs m.1 x.2.1,(m.2:Int) * (2 * (1+(x.1:Int))))) x.2.2 (fun m hm=>by
  have f1:=zC4 qs hqs m.1 x.2.1 (hx.ms.ok m hm).1 hx.fl
  have hm2:=(hx.ms.ok m hm).2
  have g2:(2:Nat)<=AE:=by decide
  have c:CMul 2 (m.2:Int):=zBW ⟨by lia,by lia⟩
  have c2:CMul (2 * (m.2:Int)) (1+(x.1:Int)):=zBW ⟨by lia,by lia⟩
  have c3:2 * (m.2:Int) * (1+(x.1:Int))=(m.2:Int) * (2 * (1+(x.1:Int))):=by rw[Cr 2,Bv]
  simp only[prI,smT,sumT]
  generalize tuT (xorL qs m.1 x.2.1)=TO at *
  generalize tuT m.1=TM at *
  generalize tuT x.2.1=TY at *
  simp only[iT]at f1 ⊢
  simp[zDp,f1,gd,g2,c,c2,c3]) none none
 have e1':compD (gdTup 2 (gdCons (gdName 0) (gdCons (gdName 1) gdNil))) dYes zDp (x.2.2.map mkT) [none,none,some (.v (smT x))]=some ((movP qs (2 * (1+(x.1:Int))) x.2.1 x.2.2).map prI,[o1,o2,some (.v (smT x))]):=by
  rw[e1]; simp only[movP,A7]; rfl
 have e3:=zBl x.1 x.2.1 _ (zH2 (qs:=qs) (x:=x) (2 * (1+(x.1:Int)))) (by simpa [movP] using hl)
 have g:(x.2.2.map mkT).length<=AE:=zAG (by simp; lia)
 show F_28 [.v (smT x)]=some (.v (smT (x.1,x.2.1,marksL (movP qs (2 * (1+(x.1:Int))) x.2.1 x.2.2))),[])
 generalize smT (x.1,x.2.1,marksL (movP qs (2 * (1+(x.1:Int))) x.2.1 x.2.2))=RR at *
 simp only[smT,sumT]at e1' ⊢
 generalize (movP qs (2 * (1+(x.1:Int))) x.2.1 x.2.2).map prI=PP at *
 generalize x.2.2.map mkT=MX at *
 generalize tuT x.2.1=TX at *
 simp only[iT]at e1' e3 ⊢
 simp[F_28,fnD,d_28,e1',e3,gd,g]
noncomputable def movL (qs:Nat) (row:List Nat) (s:List Nat):List Nat:=s.foldl (fun f q=>xorL qs f [row.getD q 0]) []
theorem zKw{qs q:Nat}(h:q < qs):SetOk qs [q]:=List.singleton_sublist.mpr (BU.mpr h)
theorem zIu{qs:Nat}{row:List Nat}:∀ (s:List Nat) {f:List Nat},SetOk qs f->SetOk qs (s.foldl (fun f q=>xorL qs f [row.getD q 0]) f)
 | [],_,h=>h
 | q::r,f,h=>zIu r (zBC qs f _)
theorem zFU(qs:Nat)(row s:List Nat):SetOk qs (movL qs row s):=zIu s (D4 _)
theorem zER(qs:Nat)(hqs:qs<=20)(row:List Nat)(hr:RowOk qs qs row)(o0:Option G):∀ (s:List Nat) (f:List Nat) (o3:Option G),(∀ q∈s,q < qs)->SetOk qs f->∃ o3',forD (gdName 3) zCg (tvT s) [o0,some (.v (tuT row)),some (.v (tuT f)),o3]=some (.nx [o0,some (.v (tuT row)),some (.v (tuT (s.foldl (fun f q=>xorL qs f [row.getD q 0]) f))),o3'])
 | [],f,o3,_,_=>⟨o3,by simp only[tvT,Ay]; rw[zAn]; rfl⟩
 | q::r,f,o3,h,hf=>by
  obtain⟨h1,h2⟩:=hr.get (h q AH)
  obtain⟨o3',e⟩:=zER qs hqs row hr o0 r (xorL qs f [row.getD q 0]) (some (.v (iT (q:Int)))) (fun x hx=>h x (AF _ hx)) (zBC _ _ _)
  refine⟨o3',?_⟩
  have a1:=zC4 qs hqs f [row.getD q 0] hf (zKw h2)
  have hlr:=hr.len
  have g1:(1:Nat)<=AE:=by decide
  have gr:row.length<=AE:=zAG (by lia)
  have at1:atI (tvT row) (q:Int)=some (iT ((row.getD q 0:Nat):Int)):=by
   rw[zOC]; simp only[tvT,Af]; rw[h1]; rfl
  have turn:zCg [o0,some (.v (tuT row)),some (.v (tuT f)),some (.v (iT (q:Int)))]=some (.nx [o0,some (.v (tuT row)),some (.v (tuT (xorL qs f [row.getD q 0]))),some (.v (iT (q:Int)))]):=by
   have t1:tuT [row.getD q 0]=.t [iT ((row.getD q 0:Nat):Int)]:=rfl
   rw[t1]at a1
   have gt:(tvT row).length<=AE:=by simpa using gr
   generalize tuT (xorL qs f [row.getD q 0])=TX at *
   generalize tuT f=TF at *
   simp only[tuT]at a1 ⊢
   generalize tvT row=TR at *
   generalize ((row.getD q 0:Nat):Int)=RQ at *
   simp only[iT]at a1 at1 ⊢
   simp[zCg,at1,a1,gd,g1,gt]
  have:tvT (q::r)=iT (q:Int)::tvT r:=rfl
  rw[this,zAu (by simp) turn,e]; rfl
theorem zEr(qs:Nat)(hqs:qs<=20)(row:List Nat)(hr:RowOk qs qs row)(s:List Nat)(hs:SetOk qs s):F_30 [.v (tuT s),.v (tuT row)]=some (.v (tuT (movL qs row s)),[]):=by
 obtain⟨o3,e⟩:=zER qs hqs row hr (some (.v (tuT s))) s [] none (fun q hq=>hs.lt hq) (D4 _)
 have hl:=hs.len
 have g:(tvT s).length<=AE:=zAG (by simp; lia)
 have g0:(0:Nat)<=AE:=by decide
 have e':forD (gdName 3) zCg (tvT s) [some (.v (tuT s)),some (.v (tuT row)),some (.v (.t [])),none]=some (.nx [some (.v (tuT s)),some (.v (tuT row)),some (.v (tuT (movL qs row s))),o3]):=e
 generalize tuT (movL qs row s)=TM at *
 generalize tuT row=TR at *
 simp only[tuT]at e' ⊢
 generalize tvT s=TS at *
 simp[F_30,fnD,d_30,e',gd,g,g0]
noncomputable def anwP (qs:Nat) (row:List Nat) (mk:List Mk):List Pr:=mk.map fun m=>(movL qs row m.1,(m.2:Int))
noncomputable def anwS (qs:Nat) (row:List Nat) (x:Sm):Sm:=(x.1,movL qs row x.2.1,marksL (anwP qs row x.2.2))
theorem zHX{qs:Nat}{row:List Nat}{mk:List Mk}:∀ p∈anwP qs row mk,SetOk qs p.1:=fun p hp=>by
 obtain⟨m,hm,rfl⟩:=Ag.mp hp; exact zFU _ _ _
theorem zO2{qs:Nat}(hqs:qs<=20)(row:List Nat)(hr:RowOk qs qs row){x:Sm}(hx:SmOk qs x)(hl:x.2.2.length < 1000):F_31 [.v (smT x),.v (tuT row)]=some (.v (smT (anwS qs row x)),[]):=by
 obtain⟨o1,o2,e1⟩:=zC2 (de:=zDZ) (R:=[some (.v (tuT row))]) (fun m=>prI (movL qs row m.1,(m.2:Int))) x.2.2 (fun m hm=>by
  have f1:=zEr qs hqs row hr m.1 (hx.ms.ok m hm).1
  have g2:(2:Nat)<=AE:=by decide
  simp only[prI]
  generalize tuT (movL qs row m.1)=TO at *
  generalize tuT m.1=TM at *
  generalize tuT row=TY at *
  simp only[iT]at f1 ⊢
  simp[zDZ,f1,gd,g2]) none none
 have e1':compD (gdTup 2 (gdCons (gdName 0) (gdCons (gdName 1) gdNil))) dYes zDZ (x.2.2.map mkT) [none,none,some (.v (tuT row))]=some ((anwP qs row x.2.2).map prI,[o1,o2,some (.v (tuT row))]):=by
  rw[e1]; simp only[anwP,A7]; rfl
 have e2:=zEr qs hqs row hr x.2.1 hx.fl
 have e3:=zBl x.1 (movL qs row x.2.1) _ (zHX (qs:=qs) (row:=row) (mk:=x.2.2)) (by simpa [anwP] using hl)
 have g:(x.2.2.map mkT).length<=AE:=zAG (by simp; lia)
 show F_31 [.v (smT x),.v (tuT row)]=some (.v (smT (x.1,movL qs row x.2.1,marksL (anwP qs row x.2.2))),[])
 generalize smT (x.1,movL qs row x.2.1,marksL (anwP qs row x.2.2))=RR at *
 simp only[smT,sumT]at e1' ⊢
 generalize (anwP qs row x.2.2).map prI=PP at *
 generalize x.2.2.map mkT=MX at *
 generalize tuT (movL qs row x.2.1)=TO at *
 generalize tuT x.2.1=TX at *
 generalize tuT row=TR at *
 simp only[iT]at e1' e2 e3 ⊢
 simp[F_31,fnD,d_31,e1',e2,e3,gd,g]
theorem zDE(s:List Nat)(q:Nat)(hl:s.length<=1000):F_34 [.v (tuT s),.v (iT (q:Int))]=some (.v (tuT (outL s q)),[]):=by
 have g:s.length<=AE:=zAG (by lia)
 obtain⟨o',e⟩:=zBL (fun (k:Nat)=>iT (k:Int)) (fun (k:Nat)=>iT (k:Int)) (fun x=>!decide (x=q)) (dc:=zDm) (de:=zDj) (R:=[some (.v (iT (q:Int)))]) s (fun x _=>by
  have:(decide ((x:Int)=(q:Int)))=decide (x=q):=by simp[EM]
  simp[zDm,this]) (fun x _ _=>by simp[zDj]) none
 have e':compD (gdName 0) zDm zDj (s.map fun (k:Nat)=>iT (k:Int)) [none,some (.v (iT (q:Int)))]=some ((outL s q).map fun (k:Nat)=>iT (k:Int),[o',some (.v (iT (q:Int)))]):=e
 simp only[tuT,tvT,iT]at e' ⊢
 simp[F_34,fnD,d_34,gd,g,e']
theorem zEV(qs:Nat)(hqs:qs<=20)(q a:Nat)(ha:a < 2)(o0 o6:Option G):∀ (mk:List Mk) (acc:List Pr) (o4 o5:Option G),(∀ m∈mk,MkOk qs m)->acc.length+mk.length<=1000->∃ o4' o5',forD (gdTup 2 (gdCons (gdName 4) (gdCons (gdName 5) gdNil))) zCV (mk.map mkT) [o0,some (.v (iT (q:Int))),some (.v (iT (a:Int))),some (.l (acc.map prI)),o4,o5,o6] =
  some (.nx [o0,some (.v (iT (q:Int))),some (.v (iT (a:Int))),some (.l ((acc++ansP mk q a).map prI)),o4',o5',o6])
 | [],acc,o4,o5,_,_=>⟨o4,o5,by rw[Ay,zAn]; simp[ansP]⟩
 | m::r,acc,o4,o5,h,hl=>by
  have hm:=h m AH
  have hm2:=hm.2
  have hml:=hm.1.len
  obtain⟨o4',o5',e⟩:=zEV qs hqs q a ha o0 o6 r (acc++[(outL m.1 q,((m.2 * one1 m.1 q a:Nat):Int))]) (some (.v (tuT m.1))) (some (.v (iT (m.2:Int)))) (fun x hx=>h x (AF _ hx)) (by simp at hl ⊢; lia)
  refine⟨o4',o5',?_⟩
  have f2:=zDE m.1 q (by lia)
  have g2:(2:Nat)<=AE:=by decide
  have gA:acc.length < AE:=zCA (by simp at hl; lia)
  have gA':acc.length<=AE:=zAG (by simp at hl; lia)
  have at1:=zA0 m.1
  have in1:=zCe m.1 q
  have ff:∀ x:Int,flatV (.int x)=true:=fun _=>rfl
  have cA:∀ k:Int,CMul (a:Int) k:=fun k=>zBW ⟨by lia,by lia⟩
  have cM:∀ k:Int,CMul (m.2:Int) k:=fun k=>zBW ⟨by lia,by lia⟩
  have vl:((m.2 * one1 m.1 q a:Nat):Int)=(m.2:Int) * (1+(a:Int) * (if hasQ m.1 q=true then 1 else 0)):=by
   unfold one1 hasQ
   rw[Bd]
   congr 1
   have:a=0\/a=1:=by lia
   by_cases hq:q∈m.1 <;> rcases this with z | z <;> subst z <;> simp[hq]
  have turn:zCV [o0,some (.v (iT (q:Int))),some (.v (iT (a:Int))),some (.l (acc.map prI)),some (.v (tuT m.1)),some (.v (iT (m.2:Int))),o6]=some (.nx [o0,some (.v (iT (q:Int))),some (.v (iT (a:Int))),some (.l ((acc++[(outL m.1 q,((m.2 * one1 m.1 q a:Nat):Int))]).map prI)),some (.v (tuT m.1)),some (.v (iT (m.2:Int))),o6]):=by
   rw[A6]
   simp only[AJ,Ay,prI]
   rw[vl]
   have gB:(acc.map prI).length < AE:=by simpa using gA
   have gB':(acc.map prI).length<=AE:=by simpa using gA'
   generalize acc.map prI=AA at *
   generalize tuT (outL m.1 q)=TO at *
   simp only[tuT,tvT,iT]at at1 f2 ⊢
   cases hh:hasQ m.1 q <;> rw[hh]at in1 <;> simp[zCV,f2,inS,seqS,at1,ff,in1,cA,cM,gd,g2,gB,gB',hAppend]
  rw[AJ,zAu (by simp[mkT]) turn,e]
  have:acc++[(outL m.1 q,((m.2 * one1 m.1 q a:Nat):Int))]++ansP r q a=acc++ansP (m::r) q a:=by simp[ansP]
  rw[this]
theorem zMr{qs:Nat}(hqs:qs<=20){x:Sm}(hx:SmOk qs x)(q a:Nat)(ha:a < 2)(hl:x.2.2.length < 1000):F_35 [.v (smT x),.v (iT (q:Int)),.v (iT (a:Int))]=some (.v (smT (ansS x q a)),[]):=by
 have hb:=hx.bg
 have hfl:=hx.fl.len
 obtain⟨o4,o5,e1⟩:=zEV qs hqs q a ha (some (.v (smT x))) none x.2.2 [] none none hx.ms.ok (by simp; lia)
 have e2:=zDE x.2.1 q (by lia)
 have e3:=zBl (qs:=qs) (if a=1/\q∈x.2.1 then 1 - x.1 else x.1) (outL x.2.1 q) (ansP x.2.2 q a) (zFF hx.ms.ok q a) (by simpa [ansP] using hl)
 have at1:=zA0 x.2.1
 have in1:=zCe x.2.1 q
 have ff:∀ x:Int,flatV (.int x)=true:=fun _=>rfl
 have cA:∀ k:Int,CMul (a:Int) k:=fun k=>zBW ⟨by lia,by lia⟩
 have vl:((if a=1/\q∈x.2.1 then 1 - x.1 else x.1:Nat):Int)=((x.1:Int)+(a:Int) * (if hasQ x.2.1 q=true then 1 else 0)) % 2:=by
  unfold hasQ
  have:a=0\/a=1:=by lia
  have:x.1=0\/x.1=1:=by lia
  by_cases hq:q∈x.2.1 <;> rcases ‹a=0\/a=1› with z | z <;> rcases ‹x.1=0\/x.1=1› with z' | z' <;> rw[z'] <;> subst z <;> simp[hq]
 have g:(x.2.2.map mkT).length<=AE:=zAG (by simp; lia)
 have g0:(0:Nat)<=AE:=by decide
 have e1':forD (gdTup 2 (gdCons (gdName 4) (gdCons (gdName 5) gdNil))) zCV (x.2.2.map mkT) [some (.v (smT x)),some (.v (iT (q:Int))),some (.v (iT (a:Int))),some (.l []),none,none,none]=some (.nx [some (.v (smT x)),some (.v (iT (q:Int))),some (.v (iT (a:Int))),some (.l ((ansP x.2.2 q a).map prI)),o4,o5,none]):=by
  rw[Ay,IL]at e1; exact e1
 show F_35 [.v (smT x),.v (iT (q:Int)),.v (iT (a:Int))]=some (.v (smT (if a=1/\q∈x.2.1 then 1 - x.1 else x.1,outL x.2.1 q,marksL (ansP x.2.2 q a))),[])
 generalize smT (if a=1/\q∈x.2.1 then 1 - x.1 else x.1,outL x.2.1 q,marksL (ansP x.2.2 q a))=RR at *
 rw[vl]at e3
 simp only[smT,sumT]at e1' ⊢
 generalize (ansP x.2.2 q a).map prI=PP at *
 generalize x.2.2.map mkT=MX at *
 generalize tuT (outL x.2.1 q)=TO at *
 simp only[tuT,tvT,iT]at at1 e1' e2 e3 ⊢
 cases hh:hasQ x.2.1 q <;> rw[hh]at in1 e3 <;> simp at e3 <;> simp[F_35,fnD,d_35,e1',e2,e3,inS,seqS,at1,ff,in1,cA,gd,g,g0]
theorem zCW{qs:Nat}{x:Sm}(h:SmOk qs x){as:List Nat}(ha:AnsOk qs as):smC as x=af (cP qs as (prM x.2.2)) ((1+(x.1:Int)) * chS qs as x.2.1):=by
 have t:=AnsGe.two (zCi ha)
 unfold smC
 rw[zBK]
 refine zBI (zDM t h.ms.ok) ?_
 rw[Bd]; exact zAp (by simp) (zBE t h.fl)
theorem zHK{qs b:Nat}{fl:List Nat}{ps:List Pr}(hf:SetOk qs fl)(hp:∀ p∈ps,SetOk qs p.1){as:List Nat}(ha:AnsOk qs as):smC as (b,fl,marksL ps)=af (cP qs as ps) ((1+(b:Int)) * chS qs as fl):=by
 have t:=AnsGe.two (zCi ha)
 unfold smC
 rw[zBK]
 refine zBI (zCx t hp) ?_
 rw[Bd]; exact zAp (by simp) (zBE t hf)
theorem zNG{qs:Nat}{x y:Sm}(hx:SmOk qs x)(hy:SmOk qs y){as:List Nat}(ha:AnsOk qs as):smC as (behS qs x y)=thenL (smC as x) (smC as y):=by
 rw[zCW hx ha,zCW hy ha,zE8]
 show smC as ((x.1+y.1) % 2,xorL qs x.2.1 y.2.1,marksL (movP qs (1+(y.1:Int)) y.2.1 x.2.2++prM y.2.2))=_
 rw[zHK (zBC _ _ _) (zGZ (x:=x) hy _) ha,zL5,zHV,zFa]
 refine zBI (by rw[Int.add_comm]) ?_
 have hb:(1+(((x.1+y.1) % 2:Nat):Int)) % 3=((1+(y.1:Int)) * (1+(x.1:Int))) % 3:=by
  have h1:=hx.bg
  have h2:=hy.bg
  have:x.1=0\/x.1=1:=by lia
  have:y.1=0\/y.1=1:=by lia
  rcases ‹x.1=0\/x.1=1› with z | z <;> rcases ‹y.1=0\/y.1=1› with z' | z' <;> rw[z,z'] <;> rfl
 rw[zAp hb (b:=chS qs as x.2.1 * chS qs as y.2.1) rfl]
 congr 1
 simp only[Cr,FM,Bv]
theorem inv3{c e c1 e1:Int}(h1:(c1+e1 * c) % 3=0)(h2:(e1 * e) % 3=1):(2 * e * c) % 3=c1 % 3/\e % 3=e1 % 3:=by
 have a1:=Bq e1 e 3
 have a2:=Bq e1 c 3
 have a3:=Bq (2 * e) c 3
 have r1:e % 3=0\/e % 3=1\/e % 3=2:=by omega
 have r2:e1 % 3=0\/e1 % 3=1\/e1 % 3=2:=by omega
 rcases r1 with z | z | z <;> rcases r2 with y | y | y <;> rw[z,y]at a1 <;> rw[y]at a2 <;> try omega
 ·have b:(2 * e) % 3=2:=by omega
  rw[b]at a3; omega
 ·have b:(2 * e) % 3=1:=by omega
  rw[b]at a3; omega
theorem zDT(as:List Nat):∀ (a b:List Stp) (c:List Nat),doneL as c (a++b)=doneL as (doneL as c a) b
 | [],_,_=>rfl
 | s::r,b,c=>zDT as r b _
theorem zM6{qs:Nat}{as:List Nat}{a b:List Stp}(ha:StOk 3 qs a)(hb:StOk 3 qs b):doneL as (AC 3) (a++b)=thenL (doneL as (AC 3) a) (doneL as (AC 3) b):=by
 have h1:IsT 3 (doneL as (AC 3) a):=zBN (zAi 3) ha
 rw[zDT]
 conv=>lhs; rw[← zBn h1]
 exact zCz h1 (zAi 3) hb
theorem zEC{qs:Nat}{a b:List Stp}(ha:StOk 3 qs a)(hb:StOk 3 qs b):StOk 3 qs (a++b):=fun s hs=>(Ap.mp hs).elim (ha s) (hb s)
theorem zPq{qs:Nat}{x y:Sm}(hy:SmOk qs y):SmOk qs (behS qs x y):=⟨Nat.mod_lt _ (by decide),zBC _ _ _,zBU (zGZ (x:=x) hy _)⟩
theorem zK0{qs:Nat}{a b:List Stp}(ha:StOk 3 qs a)(hb:StOk 3 qs b):behS qs (nfS qs a) (nfS qs b)=nfS qs (a++b):=by
 refine zCc (zPq (zAd qs b).1) (zAd qs (a++b)).1 fun as has=>?_
 rw[zNG (zAd qs a).1 (zAd qs b).1 has,zAc ha has,zAc hb has,zAc (zEC ha hb) has,zM6 ha hb]
theorem zNv{qs:Nat}{st:List Stp}(hs:StOk 3 qs st):trnS qs (nfS qs st)=nfS qs (st.reverse.map bkS):=by
 have n1:=(zAd qs st).1
 have n2:=(zAd qs (st.reverse.map bkS)).1
 refine zCc ⟨n1.bg,n1.fl,zBU (zH2 _)⟩ n2 fun as has=>?_
 have h:=(zJB (as:=as) hs).1
 rw[← zAc hs has,← zAc (zJg hs) has,zCW n1 has,zCW n2 has,zE8]at h
 have r0:AC 3=af 0 1:=by decide
 rw[r0]at h
 obtain⟨i1,i2⟩:=inv3 (zGb h).1 (zGb h).2
 rw[zCW n2 has]
 show smC as ((nfS qs st).1,(nfS qs st).2.1,marksL (movP qs (2 * (1+((nfS qs st).1:Int))) (nfS qs st).2.1 (nfS qs st).2.2))=_
 rw[zHK n1.fl (zH2 _) has,zHV]
 refine zBI ?_ i2
 rw[← i1]
 congr 1
 simp only[Bv]
noncomputable def prd (g:Nat->Int):List Nat->Int
 | []=>1
 | q::r=>g q * prd g r
theorem zIg(g:Nat->Int):∀ a b:List Nat,prd g (a++b)=prd g a * prd g b
 | [],b=>by simp[prd]
 | q::r,b=>by rw[List.cons_append,prd,prd,zIg g r b,Bv]
theorem zFx{g g':Nat->Int}:∀ {s:List Nat},(∀ q∈s,g q=g' q)->prd g s=prd g' s
 | [],_=>rfl
 | q::r,h=>by rw[prd,prd,h q AH,zFx fun x hx=>h x (AF _ hx)]
noncomputable def sgA (as:List Nat) (q:Nat):Int:=if as.getD q 0=1 then -1 else 1
theorem zIx(d:Nat->Bool)(as:List Nat):∀ n,chi d as n=prd (sgA as) ((AC n).filter d)
 | 0=>rfl
 | n+1=>by
  rw[chi,zBx,zIg,zIx d as n]
  congr 1
  cases h:d n <;> simp[prd,sgA]
theorem zFC{qs:Nat}{as s:List Nat}(h:SetOk qs s):chS qs as s=prd (sgA as) s:=by
 unfold chS
 rw[zIx,h.filter]
theorem zHA{qs:Nat}{as row:List Nat}(hr:RowOk qs qs row):∀ (s f:List Nat),(∀ q∈s,q < qs)->chS qs as (s.foldl (fun f q=>xorL qs f [row.getD q 0]) f)=chS qs as f * prd (fun q=>sgA as (row.getD q 0)) s
 | [],f,_=>by simp[prd]
 | q::r,f,h=>by
  have hq:=(hr.get (h q AH)).2
  rw[EH,zHA hr r _ fun x hx=>h x (AF _ hx),zFa,zFC (zKw hq),prd,prd,prd,Ce,Bv]
theorem zM1{qs:Nat}{row as:List Nat}(hr:RowOk qs qs row){q:Nat}(hq:q < qs):(row.map fun k=>as.getD k 0).getD q 0=as.getD (row.getD q 0) 0:=by
 rw[AK,Af,(hr.get hq).1]; rfl
theorem zId{qs:Nat}{as row s:List Nat}(hr:RowOk qs qs row)(hs:SetOk qs s):chS qs as (movL qs row s)=chS qs (row.map fun k=>as.getD k 0) s:=by
 unfold movL
 rw[zHA hr s [] fun q hq=>hs.lt hq,zFC (D4 _),zFC hs,prd,Int.one_mul]
 refine zFx fun q hq=>?_
 unfold sgA
 rw[zM1 hr (hs.lt hq)]
theorem zKb{qs:Nat}{as row:List Nat}(hr:RowOk qs qs row):∀ mk:List Mk,(∀ m∈mk,MkOk qs m)->cP qs as (anwP qs row mk)=cP qs (row.map fun k=>as.getD k 0) (prM mk)
 | [],_=>rfl
 | m::r,h=>by
  have ih:=zKb (as:=as) hr r fun x hx=>h x (AF _ hx)
  have e:=zId (as:=as) hr (h m AH).1
  simp only[cP,anwP,prM,AJ,BD,A7]at ih ⊢
  rw[ih,e]
theorem zI7{qs:Nat}{row as:List Nat}(hr:RowOk qs qs row)(ha:AnsOk qs as):AnsOk qs (row.map fun k=>as.getD k 0):=⟨by simp[hr.len],fun x hx=>by
 obtain⟨k,hk,rfl⟩:=Ag.mp hx
 exact AnsGe.two (zCi ha) k⟩
theorem zOf{qs:Nat}{row:List Nat}{st:List Stp}(hr:RowOk qs qs row)(hs:StOk 3 qs st):anwS qs row (nfS qs st)=nfS qs (st.map (anewS row)):=by
 have n1:=(zAd qs st).1
 refine zCc ⟨n1.bg,zFU _ _ _,zBU zHX⟩ (zAd qs _).1 fun as has=>?_
 rw[zAc (zI8 hr hs) has,zLo hr hs,← zAc hs (zI7 hr has),zCW n1 (zI7 hr has)]
 show smC as ((nfS qs st).1,movL qs row (nfS qs st).2.1,marksL (anwP qs row (nfS qs st).2.2))=_
 rw[zHK (zFU _ _ _) zHX has,zKb hr _ n1.ms.ok,zId hr n1.fl]
theorem zMe{as:List Nat}{q a:Nat}(hq:q < as.length):putA as q a=as.set q a:=by
 unfold putA
 rw[List.set_eq_take_append_cons_drop,if_pos hq]
theorem zMP{qs q a:Nat}{st:List Stp}(hq:q < qs)(ha:a < 2)(hs:StOk 3 qs st):ansS (nfS qs st) q a=nfS qs (st.map (aheadS q a)):=by
 have n1:=(zAd qs st).1
 refine zCc (zCd n1 q a).1 (zAd qs _).1 fun as has=>?_
 have hl:q < as.length:=by rw[has.len]; exact hq
 rw[zHb n1 hq ha has,zAc (zGp hs) has,zJa (n:=3) (qs:=qs) hl,zMe hl,zAc hs (zGm has q ha)]
theorem zHw{qs:Nat}{st:List Stp}(hs:StOk 3 qs st):nfS qs (cutL 3 [] st)=nfS qs st:=by
 have k0:StOk 3 qs []:=fun x hx=>nomatch hx
 refine zCc (zAd qs _).1 (zAd qs st).1 fun as has=>?_
 rw[zAc (zDk k0 hs) has,zAc hs has,zGE k0 hs]; rfl
structure ShD(d:CM)(w dp:Nat):Prop where
 sh:d.showable=true
 nd:d.hasDict=false
 dp:d.depth<=dp
 ls:d.leavesShort 8=true
 wt:d.weight<=w
structure ShDs(ds:List CM)(w dp:Nat):Prop where
 sh:HF ds=true
 nd:HU ds=false
 dp:BS ds<=dp
 ls:Ge 8 ds=true
 wt:Hg ds<=w
theorem ShDs.nil{w dp:Nat}:ShDs [] w dp:=⟨rfl,rfl,A9 _,rfl,A9 _⟩
theorem ShDs.cons{d:CM}{ds:List CM}{w w' dp:Nat}(h:ShD d w dp)(hs:ShDs ds w' dp):ShDs (d::ds) (w+1+w') dp:=by
 refine⟨?_,?_,?_,?_,?_⟩
 ·simp only[HF,h.sh,hs.sh]; rfl
 ·simp only[HU,h.nd,hs.nd]; rfl
 ·simp only[BS]; exact Nat.max_le.mpr ⟨h.dp,hs.dp⟩
 ·simp only[Ge,h.ls,hs.ls]; rfl
 ·simp only[Hg]; have:=h.wt; have:=hs.wt; lia
theorem ShD.tup{ds:List CM}{w dp:Nat}(h:ShDs ds w dp):ShD (.tuple ds) w (dp+1):=by
 refine⟨?_,?_,?_,?_,?_⟩
 ·simp only[FR]; exact h.sh
 ·simp only[PyData.hasDict]; exact h.nd
 ·simp only[CG]; have:=h.dp; lia
 ·simp only[G7]; exact h.ls
 ·simp only[IP]; exact h.wt
theorem ShD.mono{d:CM}{w w' dp dp':Nat}(h:ShD d w dp)(h1:w<=w')(h2:dp<=dp'):ShD d w' dp':=⟨h.sh,h.nd,Al h.dp h2,h.ls,Al h.wt h1⟩
theorem ShDs.mono{d:List CM}{w w' dp dp':Nat}(h:ShDs d w dp)(h1:w<=w')(h2:dp<=dp'):ShDs d w' dp':=⟨h.sh,h.nd,Al h.dp h2,h.ls,Al h.wt h1⟩
theorem ShD.nat{k dp:Nat}(h:k < 10):ShD (.int (k:Int)) 6 dp:=by
 obtain⟨a,b,c⟩:=L2.small_show h
 exact⟨a,rfl,by simp[CG],b,by lia⟩
theorem zOX{t:T}{d:CM}{w dp:Nat}(e:toD t=some d)(h:ShD d w dp)(hd:dp<=100)(hw:w<=1000000)(Γ:En):reprS Γ [.v t]=some (.v (.a (.str d.shown))):=by
 rw[zOL,e,zRA,if_pos]
 exact⟨h.sh,h.nd,Al h.dp hd,PyData.shown_fits (B:=8) (by decide) (by decide) h.ls (Al h.wt (Al hw (by decide)))⟩
theorem zGk{qs:Nat}(hq:qs<=10){x:Sm}(hx:SmOk qs x)(hl:x.2.2.length<=1000):∃ s:Str,∀ Γ:En,reprS Γ [.v (smT x)]=some (.v (.a (.str s))):=by
 have nats:∀ {dp:Nat} (t:List Nat),SetOk qs t->ShDs (intsD t) (7 * qs) dp:=fun {dp} t ht=>by
  have go:∀ t:List Nat,(∀ k∈t,k < 10)->ShDs (intsD t) (7 * t.length) dp:=fun t=>by
   induction t with
   | nil=>exact fun _=>ShDs.nil
   | cons k r ih=>exact fun h=>(ShDs.cons (ShD.nat (h k AH)) (ih fun x hx=>h x (AF _ hx))).mono (by simp; lia) (AL _)
  exact (go t fun k hk=>by have:=ht.lt hk; lia).mono (by have:=ht.len; lia) (AL _)
 have mks:∀ l:List Mk,(∀ m∈l,MkOk qs m)->ShDs (l.map mkD) (90 * l.length) 2:=fun l=>by
  induction l with
  | nil=>exact fun _=>ShDs.nil
  | cons m r ih =>
   intro h
   have hm:=h m AH
   have e:ShD (mkD m) 89 2:=(ShD.tup (dp:=1) (ShDs.cons (ShD.tup (dp:=0) (nats m.1 hm.1)) (ShDs.cons (ShD.nat (by have:=hm.2; lia)) ShDs.nil (w':=0)))).mono (by lia) (by decide)
   exact (ShDs.cons e (ih fun x hx=>h x (AF _ hx))).mono (by simp; lia) (AL _)
 have s:ShD (smD x) (90 * x.2.2.length+100) 4:=(ShD.tup (dp:=3) (ShDs.cons (ShD.nat (by have:=hx.bg; lia)) (ShDs.cons ((ShD.tup (dp:=0) (nats x.2.1 hx.fl)).mono (AL _) (by decide)) (ShDs.cons (ShD.tup (mks x.2.2 hx.ms.ok)) ShDs.nil (w':=0))))).mono (by lia) (by decide)
 exact⟨_,fun Γ=>zOX (zFX Γ x) s (by decide) (by lia) Γ⟩
noncomputable def kindS:Nat->Str
 | 0=>"behind" | 1=>"ahead" | 2=>"turned" | 3=>"anew" | 4=>"answered" | _=>"cut"
noncomputable abbrev cgT (kd:Nat) (row:List Nat) (q x:Nat):T:=.t [.a (.str (kindS kd)),tuT row,iT (q:Int),iT (x:Int)]
noncomputable abbrev prT (qs:Nat) (st:List Stp):T:=.t [danT 3 qs st,smT (nfS qs st)]
noncomputable def chgL (ot st:List Stp) (kd:Nat) (row:List Nat) (q x:Nat):List Stp:=match kd with
 | 0=>ot++st | 1=>st++ot | 2=>st.reverse.map bkS | 3=>st.map (anewS row) | 4=>st.map (aheadS q x) | _=>cutL 3 [] st
theorem zOp{qs:Nat}{ot st:List Stp}{kd:Nat}{row:List Nat}{q x:Nat}(hr:RowOk qs qs row)(ho:StOk 3 qs ot)(hs:StOk 3 qs st):StOk 3 qs (chgL ot st kd row q x):=by
 unfold chgL
 split
 ·exact zEC ho hs
 ·exact zEC hs ho
 ·exact zJg hs
 ·exact zI8 hr hs
 ·exact zGp hs
 ·exact zDk (fun x hx=>nomatch hx) hs
theorem zNL{ot st:List Stp}{kd:Nat}{row:List Nat}{q x:Nat}:(chgL ot st kd row q x).length<=st.length+ot.length:=by
 unfold chgL
 split
 ·simp; lia
 ·simp
 ·simp
 ·simp
 ·simp
 ·have:=zEJ 3 [] st
  simp at this
  lia
theorem zKL{qs:Nat}(hqs:qs<=10)(ot st:List Stp)(kd:Nat)(hk:kd < 6)(row:List Nat)(q x:Nat)(hr:RowOk qs qs row)(hq:q < qs)(hx:x < 2)(ho:StOk 3 qs ot)(hs:StOk 3 qs st)(hl:st.length+ot.length<=400):F_36 [.v (prT qs st),.v (prT qs ot),.v (cgT kd row q x)]=some (.v (prT qs (chgL ot st kd row q x)),[]):=by
 have n1:=zAd qs st
 have n2:=zAd qs ot
 have b0:=zFt (by lia:qs<=20) n2.1 n1.1 (by lia)
 have b1:=zFt (by lia:qs<=20) n1.1 n2.1 (by lia)
 have b2:=zLi (by lia:qs<=20) n1.1 (by lia)
 have b3:=zO2 (by lia:qs<=20) row hr n1.1 (by lia)
 have b4:=zMr (by lia:qs<=20) n1.1 q x hx (by lia)
 rw[zK0 ho hs]at b0
 rw[zK0 hs ho]at b1
 rw[zNv hs]at b2
 rw[zOf hr hs]at b3
 rw[zMP hq hx hs]at b4
 have e0:=zD0 3 qs ot st (by lia)
 have e1:=zD0 3 qs st ot (by lia)
 have e2:=zNw 3 qs (by decide) st hs (by lia)
 have e4:=zGI 3 qs qs st row hr hs (by lia)
 have e5:=zIJ 3 qs q x st (by lia)
 have e6:=zHR 3 qs (by decide) st hs (by lia)
 have e7:=zHw hs
 have g2:(2:Nat)<=AE:=by decide
 have f10:¬ (("ahead":Str)="behind"):=by decide
 have f20:¬ (("turned":Str)="behind"):=by decide
 have f21:¬ (("turned":Str)="ahead"):=by decide
 have f40:¬ (("anew":Str)="behind"):=by decide
 have f41:¬ (("anew":Str)="ahead"):=by decide
 have f42:¬ (("anew":Str)="turned"):=by decide
 have f50:¬ (("answered":Str)="behind"):=by decide
 have f51:¬ (("answered":Str)="ahead"):=by decide
 have f52:¬ (("answered":Str)="turned"):=by decide
 have f54:¬ (("answered":Str)="anew"):=by decide
 have f60:¬ (("cut":Str)="behind"):=by decide
 have f61:¬ (("cut":Str)="ahead"):=by decide
 have f62:¬ (("cut":Str)="turned"):=by decide
 have f64:¬ (("cut":Str)="anew"):=by decide
 have f65:¬ (("cut":Str)="answered"):=by decide
 simp only[prT,cgT]at *
 generalize hS:smT (nfS qs st)=SS at *
 generalize smT (nfS qs ot)=SO at *
 generalize tuT row=RR at *
 have i1:∀ L:List T,ixL [iT (3:Int),iT (qs:Int),T.t L] 1=some (iT (qs:Int)):=fun _=>rfl
 match kd,hk with
 | 0,_ =>
  show _=some (G.v (T.t [danT 3 qs (ot++st),smT (nfS qs (ot++st))]),[])
  generalize smT (nfS qs (ot++st))=SN at *
  generalize danT 3 qs (ot++st)=DN at *
  generalize danT 3 qs ot=DO at *
  generalize danT 3 qs st=DS at *
  simp[F_36,fnD,d_36,kindS,e0,b0,gd,g2]
 | 1,_ =>
  show _=some (G.v (T.t [danT 3 qs (st++ot),smT (nfS qs (st++ot))]),[])
  generalize smT (nfS qs (st++ot))=SN at *
  generalize danT 3 qs (st++ot)=DN at *
  generalize danT 3 qs ot=DO at *
  generalize danT 3 qs st=DS at *
  simp[F_36,fnD,d_36,kindS,f10,e1,b1,gd,g2]
 | 2,_ =>
  show _=some (G.v (T.t [danT 3 qs (st.reverse.map bkS),smT (nfS qs (st.reverse.map bkS))]),[])
  generalize smT (nfS qs (st.reverse.map bkS))=SN at *
  generalize danT 3 qs (st.reverse.map bkS)=DN at *
  generalize danT 3 qs ot=DO at *
  generalize danT 3 qs st=DS at *
  simp[F_36,fnD,d_36,kindS,f20,f21,e2,b2,gd,g2]
 | 3,_ =>
  show _=some (G.v (T.t [danT 3 qs (st.map (anewS row)),smT (nfS qs (st.map (anewS row)))]),[])
  generalize smT (nfS qs (st.map (anewS row)))=SN at *
  generalize danT 3 qs (st.map (anewS row))=DN at *
  generalize danT 3 qs ot=DO at *
  simp only[danT,show ((3:Nat):Int)=3 from rfl]at e4 ⊢
  generalize st.map stT=L at *
  simp only[iT]at e4 ⊢
  simp[F_36,fnD,d_36,kindS,f40,f41,f42,e4,b3,gd,g2]
 | 4,_ =>
  show _=some (G.v (T.t [danT 3 qs (st.map (aheadS q x)),smT (nfS qs (st.map (aheadS q x)))]),[])
  generalize smT (nfS qs (st.map (aheadS q x)))=SN at *
  generalize danT 3 qs (st.map (aheadS q x))=DN at *
  generalize danT 3 qs ot=DO at *
  generalize danT 3 qs st=DS at *
  simp only[iT]at e5 b4 ⊢
  simp[F_36,fnD,d_36,kindS,f50,f51,f52,f54,e5,b4,gd,g2]
 | 5,_ =>
  show _=some (G.v (T.t [danT 3 qs (cutL 3 [] st),smT (nfS qs (cutL 3 [] st))]),[])
  rw[e7,hS]
  generalize danT 3 qs (cutL 3 [] st)=DN at *
  generalize danT 3 qs ot=DO at *
  generalize danT 3 qs st=DS at *
  simp[F_36,fnD,d_36,kindS,f60,f61,f62,f64,f65,e6,gd,g2]
theorem zGs(qs:Nat)(h0:0 < qs)(h1:qs<=10):∀ (its:List T) (o:Option G) (a b:Int),∃ (as:List Nat) (o':Option G) (a' b':Int),as.length=its.length/\(∀ x∈as,x < qs)/\compD (gdName 0) dYes zDn its [o,some (.l [iT a,iT b]),some (.v (iT (qs:Int)))]=some (tvT as,[o',some (.l [iT a',iT b']),some (.v (iT (qs:Int)))])
 | [],o,a,b=>⟨[],o,a,b,rfl,(fun x hx=>nomatch hx),rfl⟩
 | t::r,o,a,b=>by
  obtain⟨x,a1,b1,hx,e1⟩:=zAo a b qs h0 (by lia)
  obtain⟨as,o',a',b',hl,hlt,e2⟩:=zGs qs h0 h1 r (some (.v t)) a1 b1
  refine⟨x::as,o',a',b',by simp[hl],fun y hy=>(AS.mp hy).elim (fun z=>z ▸ hx) (hlt y),?_⟩
  have el:zDn [some (.v t),some (.l [iT a,iT b]),some (.v (iT (qs:Int)))]=some (.v (iT (x:Int)),[some (.v t),some (.l [iT a1,iT b1]),some (.v (iT (qs:Int)))]):=by
   simp only[iT]at e1
   simp[zDn,e1]
  exact zEf rfl el e2
theorem zKT{qs:Nat}(h0:0 < qs)(hq:qs<=10)(ot st:List Stp)(ho:StOk 3 qs ot)(hs:StOk 3 qs st)(hl:st.length+ot.length<=400)(a b:Int)(o2 o3 o4 o7 o8 o9 o10:Option G):∃ (st':List Stp) (a' b':Int) (o8' o9':Option G),StOk 3 qs st'/\st'.length<=st.length+ot.length /\
  zDq [some (.l [iT a,iT b]),some (.v (iT (qs:Int))),o2,o3,o4,some (.v (prT qs ot)),some (.v (prT qs st)),o7,o8,o9,o10]=some (.nx [some (.l [iT a',iT b']),some (.v (iT (qs:Int))),o2,o3,o4,some (.v (prT qs ot)),some (.v (prT qs st')),o7,o8',o9',o10]):=by
 obtain⟨kd,a1,b1,hk,e1⟩:=zAo a b 6 (by decide) (by decide)
 have e1':F_1 [.l [iT a,iT b],.v (.a (.int 6))]=some (.v (iT (kd:Int)),[iT a1,iT b1]):=e1
 obtain⟨row,oo,a2,b2,hrl,hrlt,e2⟩:=zGs qs h0 hq (rngT 0 qs) none a1 b1
 obtain⟨q,a4,b4,hqq,e4⟩:=zAo a2 b2 qs h0 (by lia)
 obtain⟨x,a5,b5,hx,e5⟩:=zAo a4 b4 2 (by decide) (by decide)
 have e5':F_1 [.l [iT a4,iT b4],.v (.a (.int 2))]=some (.v (iT (x:Int)),[iT a5,iT b5]):=e5
 have hr:RowOk qs qs row:=⟨by rw[hrl]; simp[rngT],hrlt⟩
 have ok:=zOp (kd:=kd) (q:=q) (x:=x) hr ho hs
 have ln:=zNL (ot:=ot) (st:=st) (kd:=kd) (row:=row) (q:=q) (x:=x)
 have e6:=zKL hq ot st kd hk row q x hr hqq hx ho hs hl
 refine⟨chgL ot st kd row q x,a5,b5,some (.v (.a (.str (kindS kd)))),some (.v (tuT row)),ok,ln,?_⟩
 generalize chgL ot st kd row q x=sn at *
 have e7:F_10 [.v (danT 3 qs sn)]=some (.v (smT (nfS qs sn)),[]):=zBP qs (by lia) sn ok (by lia)
 have n1:=zAd qs sn
 obtain⟨sx,e8⟩:=zGk hq n1.1 (by lia)
 have g2:(2:Nat)<=AE:=by decide
 have g4:(4:Nat)<=AE:=by decide
 have g6:(6:Nat)<=AE:=by decide
 have gr:(tvT row).length<=AE:=zAG (by have:=hr.len; simp; lia)
 have ek:atI [T.a (.str "behind"),T.a (.str "ahead"),T.a (.str "turned"),T.a (.str "anew"),T.a (.str "answered"),T.a (.str "cut")] (kd:Int)=some (.a (.str (kindS kd))):=by
  match kd,hk with
  | 0,_=>rfl
  | 1,_=>rfl
  | 2,_=>rfl
  | 3,_=>rfl
  | 4,_=>rfl
  | 5,_=>rfl
 simp only[prT,cgT]at *
 generalize smT (nfS qs sn)=SN at *
 generalize danT 3 qs sn=DN at *
 generalize danT 3 qs ot=DO at *
 generalize danT 3 qs st=DS at *
 generalize smT (nfS qs st)=SS at *
 generalize smT (nfS qs ot)=SO at *
 simp only[tuT]at e6 ⊢
 generalize tvT row=RR at *
 simp only[iT]at e1' e2 e4 e5' e6 ek ⊢
 simp[zDq,gd,g2,g4,g6,gr,e1',ek,zAm qs (by lia),e2,e4,e5',e6,e7,e8]
theorem zEc{qs:Nat}(h0:0 < qs)(hq:qs<=10)(ot:List Stp)(ho:StOk 3 qs ot)(hlo:ot.length<=24)(o2 o3 o4 o10:Option G):∀ (its:List T) (st:List Stp) (a b:Int) (o7 o8 o9:Option G),StOk 3 qs st->st.length+its.length * 24<=300->∃ (st':List Stp) (a' b':Int) (o7' o8' o9':Option G),StOk 3 qs st'/\st'.length<=st.length+its.length * 24 /\
  forD (gdName 7) zDq its [some (.l [iT a,iT b]),some (.v (iT (qs:Int))),o2,o3,o4,some (.v (prT qs ot)),some (.v (prT qs st)),o7,o8,o9,o10]=some (.nx [some (.l [iT a',iT b']),some (.v (iT (qs:Int))),o2,o3,o4,some (.v (prT qs ot)),some (.v (prT qs st')),o7',o8',o9',o10])
 | [],st,a,b,o7,o8,o9,hs,_=>⟨st,a,b,o7,o8,o9,hs,by simp,by rw[zAn]⟩
 | t::r,st,a,b,o7,o8,o9,hs,hl=>by
  rw[Be]at hl ⊢
  obtain⟨s1,a1,b1,p8,p9,k1,l1,e1⟩:=zKT h0 hq ot st ho hs (by lia) a b o2 o3 o4 (some (.v t)) o8 o9 o10
  obtain⟨s2,a2,b2,q7,q8,q9,k2,l2,e2⟩:=zEc h0 hq ot ho hlo o2 o3 o4 o10 r s1 a1 b1 (some (.v t)) p8 p9 k1 (by lia)
  exact⟨s2,a2,b2,q7,q8,q9,k2,by lia,by rw[zAu (by rfl) e1]; exact e2⟩
theorem zLl{qs:Nat}(st st':List Stp)(hs:StOk 3 qs st)(hs':StOk 3 qs st')(h:nfS qs st≠nfS qs st'):AnsOk qs (greedy (fun as=>!decide (doneL as (AC 3) st=doneL as (AC 3) st')) qs [])/\¬ doneL (greedy (fun as=>!decide (doneL as (AC 3) st=doneL as (AC 3) st')) qs []) (AC 3) st=doneL (greedy (fun as=>!decide (doneL as (AC 3) st=doneL as (AC 3) st')) qs []) (AC 3) st':=by
 have n1:=(zAd qs st).1
 have n2:=(zAd qs st').1
 have hd:=(zDX (n:=qs) (p:=[]) (f:=fun as=>doneL as (AC 3) st) (g:=fun as=>doneL as (AC 3) st') (by simp) n1 n2 (fun as ha=>zAc hs ha) (fun as ha=>zAc hs' ha)).mpr h
 have fg:=zCS (fun as=>!decide (doneL as (AC 3) st=doneL as (AC 3) st')) qs []
 rw[if_pos hd]at fg
 have e:(allA qs).map (([]:List Nat)++·)=allA qs:=by simp
 rw[e]at fg
 exact⟨zB8 _ _ (List.mem_of_find?_eq_some fg),by simpa using Fh fg⟩
theorem non0(Γ:En):isNoneS false Γ (.v (.a .non)) (.v (.a .non))=some (.v (.a (.bl true))):=rfl
theorem non1(Γ:En)(xs:List T):isNoneS false Γ (.v (.t xs)) (.v (.a .non))=some (.v (.a (.bl false))):=rfl
theorem non2(Γ:En):isNoneS true Γ (.v (.a .non)) (.v (.a .non))=some (.v (.a (.bl false))):=rfl
theorem zEq{qs:Nat}(h0:0 < qs)(hq:qs<=10)(st st':List Stp)(hs:StOk 3 qs st)(hs':StOk 3 qs st')(l1:st.length<=400)(l2:st'.length<=400):F_21 [.v (danT 3 qs st),.v (danT 3 qs st'),.v (.a (.bl (decide (nfS qs st=nfS qs st'))))]=some (.v (.a (.bl true)),[]):=by
 have e1:=zD8 h0 (by lia:qs<=20) st st' hs hs' (by lia) (by lia)
 by_cases h:nfS qs st=nfS qs st'
 ·rw[if_pos h]at e1
  have hd:decide (nfS qs st=nfS qs st')=true:=decide_eq_true h
  rw[hd]
  generalize danT 3 qs st=D1 at *
  generalize danT 3 qs st'=D2 at *
  simp[F_21,fnD,d_21,e1,non0]
 ·rw[if_neg h]at e1
  have hd:decide (nfS qs st=nfS qs st')=false:=decide_eq_false h
  rw[hd]
  obtain⟨ga,gn⟩:=zLl st st' hs hs' h
  generalize greedy (fun as=>!decide (doneL as (AC 3) st=doneL as (AC 3) st')) qs []=A at *
  have d1:=zFr 3 qs (by decide) st A ga hs (by lia)
  have d2:=zFr 3 qs (by decide) st' A ga hs' (by lia)
  have nq:=fun Γ=>zGe Γ (doneL A (AC 3) st) (doneL A (AC 3) st')
  have hn:decide (doneL A (AC 3) st=doneL A (AC 3) st')=false:=decide_eq_false gn
  rw[hn,Ea]at nq
  have ff:∀ x:Int,flatV (.int x)=true:=fun _=>rfl
  have g2:(2:Nat)<=AE:=by decide
  obtain⟨o',e2⟩:=zBL (fun (k:Nat)=>iT (k:Int)) (fun (k:Nat)=>iT (k:Int)) (fun _=>false) (dc:=zDs) (de:=zFS) (R:=[]) A (fun x hx=>by
   have:=ga.lt x hx
   have:x=0\/x=1:=by lia
   rcases this with z | z <;> subst z <;> simp[zDs,inS,seqS,atomsOf,ff,inV,eqV,gd,g2]) (fun x _ z=>by cases z) none
  have e2':compD (gdName 0) zDs zFS (tvT A) [none]=some ([],[o']):=by
   rw[EC.mpr (by simp)]at e2; exact e2
  have hl:(tvT A).length=qs:=by simpa using ga.len
  have gl:qs<=AE:=zAG (by lia)
  have g0:(0:Nat)<=AE:=by decide
  have ii:∀ (Γ:En) (xs:List T),isiS Γ [.v (.t xs),.v (.a (.ty "tuple"))]=some (.v (.a (.bl true))):=fun _ _=>rfl
  generalize tuT (doneL A (AC 3) st)=T1 at *
  generalize tuT (doneL A (AC 3) st')=T2 at *
  simp only[danT,tuT,show ((3:Nat):Int)=3 from rfl]at e1 d1 d2 ⊢
  generalize st.map stT=L1 at *
  generalize st'.map stT=L2 at *
  generalize tvT A=TA at *
  simp only[iT]at e1 d1 d2 ⊢
  simp[F_21,fnD,d_21,non1,e1,d1,d2,nq,ii,hl,gl,e2',gd,g0]
theorem zMg{qs:Nat}(h0:0 < qs)(hq:qs<=10)(a b:Int):∃ a' b',F_37 [.l [iT a,iT b],.v (iT (qs:Int))]=some (.v (.a (.bl true)),[iT a',iT b']):=by
 obtain⟨st,a1,b1,hs,ls,e1⟩:=zHc a b 3 qs 24 (by decide) h0 hq (by decide)
 obtain⟨ot,a2,b2,ho,lo,e2⟩:=zHc a1 b1 3 qs 24 (by decide) h0 hq (by decide)
 obtain⟨m,a3,b3,hm,e3⟩:=zAo a2 b2 5 (by decide) (by decide)
 have p1:F_10 [.v (danT 3 qs st)]=some (.v (smT (nfS qs st)),[]):=zBP qs (by lia) st hs (by lia)
 have p2:F_10 [.v (danT 3 qs ot)]=some (.v (smT (nfS qs ot)),[]):=zBP qs (by lia) ot ho (by lia)
 obtain⟨sn,a4,b4,o7,o8,o9,hn,ln,e4⟩:=zEc h0 hq ot ho lo (some (.v (danT 3 qs st))) (some (.v (danT 3 qs ot))) (some (.v (smT (nfS qs st)))) none (rngT 0 (1+m)) st a3 b3 none none none hs (by simp[rngT]; lia)
 have ln':sn.length<=144:=by simp[rngT]at ln; lia
 refine⟨a4,b4,?_⟩
 have k0:StOk 3 qs []:=fun x hx=>nomatch hx
 have hc:=zDk k0 hn
 have lc:=zEJ 3 [] sn
 simp at lc
 have c1:=zHR 3 qs (by decide) sn hn (by lia)
 have c2:F_10 [.v (danT 3 qs (cutL 3 [] sn))]=some (.v (smT (nfS qs (cutL 3 [] sn))),[]):=zBP qs (by lia) _ hc (by lia)
 have c3:=zD8 h0 (by lia:qs<=20) sn (cutL 3 [] sn) hn hc (by lia) (by lia)
 rw[if_pos (zHw hn).symm]at c3
 rw[zHw hn]at c2
 have n1:=zAd qs sn
 obtain⟨sx,e8⟩:=zGk hq n1.1 (by lia)
 have q1:=fun Γ=>zLv Γ (nfS qs st) (nfS qs sn)
 have pr:=zEq h0 hq st sn hs hn (by lia) (by lia)
 have g2:(2:Nat)<=AE:=by decide
 have e1':F_5 [.l [iT a,iT b],.v (.a (.int 3)),.v (iT (qs:Int)),.v (.a (.int 24))]=some (.v (danT 3 qs st),[iT a1,iT b1]):=e1
 have e2':F_5 [.l [iT a1,iT b1],.v (.a (.int 3)),.v (iT (qs:Int)),.v (.a (.int 24))]=some (.v (danT 3 qs ot),[iT a2,iT b2]):=e2
 have e3':F_1 [.l [iT a2,iT b2],.v (.a (.int 5))]=some (.v (iT (m:Int)),[iT a3,iT b3]):=e3
 have rr:rngS [S.v (.a (.int (1+(m:Int))))]=some (rngT 0 (1+m)):=by
  have:=zAm (1+m) (by lia)
  rwa [show ((1+m:Nat):Int)=1+(m:Int) by lia]at this
 generalize decide (nfS qs st=nfS qs sn)=DD at *
 simp only[prT]at e4
 generalize smT (nfS qs sn)=SN at *
 generalize smT (nfS qs st)=SS at *
 generalize smT (nfS qs ot)=SO at *
 generalize danT 3 qs (cutL 3 [] sn)=DC at *
 generalize danT 3 qs sn=DN at *
 generalize danT 3 qs ot=DO at *
 generalize danT 3 qs st=DS at *
 generalize rngT 0 (1+m)=RG at *
 simp only[iT]at e1' e2' e3' e4 ⊢
 simp[F_37,fnD,d_37,e1',e2',e3',p1,p2,rr,e4,c1,c2,c3,e8,q1,pr,gd,g2,non2]
theorem zNB(ns:List Int)(k:Nat)(hk:k < 100)(o2:Option G):∃ o2',zCq [some (.k (intsT ns)),some (.v (iT (k:Int))),o2]=some (.nx [some (.k (intsT ns)),some (.v (iT (k:Int))),o2']):=by
 obtain⟨a,b,e1⟩:=zP2 ns (k:Int) (by lia) (by lia)
 obtain⟨m,a1,b1,hm,e2⟩:=zAo a b 6 (by decide) (by decide)
 have e2':F_1 [.l [iT a,iT b],.v (.a (.int 6))]=some (.v (iT (m:Int)),[iT a1,iT b1]):=e2
 obtain⟨qs,h0,hq,ek⟩:∃ qs:Nat,0 < qs/\qs<=10/\atI [T.a (.int 1),T.a (.int 2),T.a (.int 3),T.a (.int 4),T.a (.int 6),T.a (.int 10)] (m:Int)=some (iT (qs:Int)):=by
  match m,hm with
  | 0,_=>exact⟨1,by decide,by decide,rfl⟩
  | 1,_=>exact⟨2,by decide,by decide,rfl⟩
  | 2,_=>exact⟨3,by decide,by decide,rfl⟩
  | 3,_=>exact⟨4,by decide,by decide,rfl⟩
  | 4,_=>exact⟨6,by decide,by decide,rfl⟩
  | 5,_=>exact⟨10,by decide,by decide,rfl⟩
 obtain⟨a2,b2,e3⟩:=zMg h0 hq a1 b1
 refine⟨some (.l [iT a2,iT b2]),?_⟩
 have g6:(6:Nat)<=AE:=by decide
 simp only[iT]at e1 e2' ek e3 ⊢
 simp[zCq,e1,e2',ek,e3,gd,g6]
theorem zGf(ns:List Int):∀ (ks:List Nat) (o1 o2:Option G),(∀ k∈ks,k < 100)->∃ o1' o2',forD (gdName 1) zCq (tvT ks) [some (.k (intsT ns)),o1,o2]=some (.nx [some (.k (intsT ns)),o1',o2'])
 | [],o1,o2,_=>⟨o1,o2,by simp only[tvT,Ay]; rw[zAn]⟩
 | k::r,o1,o2,h=>by
  obtain⟨p2,e1⟩:=zNB ns k (h k AH) o2
  obtain⟨o1',o2',e2⟩:=zGf ns r (some (.v (iT (k:Int)))) p2 fun x hx=>h x (AF _ hx)
  refine⟨o1',o2',?_⟩
  have:tvT (k::r)=iT (k:Int)::tvT r:=rfl
  rw[this,zAu (by rfl) e1]; exact e2
theorem law_true(ns:List Int)(hns:ns.length<=63):zCu [.k (intsT ns)]=some (.v (.a (.bl true)),[]):=by
 obtain⟨m,hm,em⟩:=maxmin (lo:=2) (hi:=4) (m:=0) (len:=ns.length) (by decide)
 obtain⟨o1,o2,e1⟩:=zGf ns (AC m) none none (fun k hk=>by have:=BU.mp hk; lia)
 have em':(if (2:Int) < (if (4:Int) < (ns.length:Int) then 4 else (ns.length:Int)) then (if (4:Int) < (ns.length:Int) then 4 else (ns.length:Int)) else 2)=(m:Int):=em
 have hl:(intsT ns).length=ns.length:=by simp[intsT]
 have rr:=zBO m
 simp only[tvT,iT]at e1 rr
 simp[zCu,fnD,zNo,hl,em',zAm m (by lia),rr,e1]
structure Wr(K:AU)(x:Str)(st:Stmt)(f:Addr):Prop where
 a:nsIn K Av x=some (some (.ref f))
 F:∃ fd,Fun K x x st f fd
theorem wr_mk{K:AU}{x:Str}{st:Stmt}{f:Addr}{oc:AB}{od an:Option Addr}{osl:Array (Option AB)}{kV doc pm cdv ct:AB}(a:nsIn K Av x=some (some (.ref f)))(l:K.lookup f=some ⟨oc,od,.func (fnOf x x (defArgs st) (defBody st) (defScope st) .none kV doc pm an cdv ct),osl⟩)
  (c:DY K cdv x=true) (k:CY K (.ref f)=true):Wr K x st f:=⟨a,_,zLH l c k⟩
local macro_rules | `(tactic| walk_at "b") => `(tactic| (intro _ _ _ _ _ _ us hl; first|(obtain⟨_,h⟩:=len1 hl; subst h; exact rfl)|(obtain⟨_,_,h⟩:=len2 hl; subst h; exact rfl)|(obtain⟨_,_,_,h⟩:=len3 hl; subst h; exact rfl)|(obtain⟨_,_,_,_,h⟩:=len4 hl; subst h; exact rfl)))
theorem all_mk{l:FG}{w:Aw}{K:AU}{h:Heap}{mg:Str->Option AB}{fa:Addr}(X:K.In h)(G:h.Ns Av mg)(hfa:mg "law"=some (.ref fa))
  {f1:Addr} (w1:Wr K "_law_box" st_0 f1)
  {f2:Addr} (w2:Wr K "_law_take" st_1 f2)
  {f3:Addr} (w3:Wr K "_law_turning" st_2 f3)
  {f4:Addr} (w4:Wr K "_law_step" st_3 f4)
  {f5:Addr} (w5:Wr K "_law_back" st_4 f5)
  {f6:Addr} (w6:Wr K "_law_dance" st_5 f6)
  {f7:Addr} (w7:Wr K "marks_of" st_6 f7)
  {f8:Addr} (w8:Wr K "flipped" st_7 f8)
  {f9:Addr} (w9:Wr K "pairs_of_step" st_8 f9)
  {f10:Addr} (w10:Wr K "e_of" st_9 f10)
  {f11:Addr} (w11:Wr K "sums_of" zJ6 f11)
  {f12:Addr} (w12:Wr K "still" zJf f12)
  {f13:Addr} (w13:Wr K "then" zJu f13)
  {f14:Addr} (w14:Wr K "together" zJb f14)
  {f15:Addr} (w15:Wr K "cut" zJ2 f15)
  {f16:Addr} (w16:Wr K "sign_of_one" zJ1 f16)
  {f17:Addr} (w17:Wr K "without" zJh f17)
  {f18:Addr} (w18:Wr K "answered_sums" zKQ f18)
  {f19:Addr} (w19:Wr K "parted" zJU f19)
  {f20:Addr} (w20:Wr K "_law_then" zJq f20)
  {f21:Addr} (w21:Wr K "_law_done" zJ0 f21)
  {f22:Addr} (w22:Wr K "_law_parted_right" zKC f22)
  {f23:Addr} (w23:Wr K "behind" zJl f23)
  {f24:Addr} (w24:Wr K "_law_gathered" zJL f24)
  {f25:Addr} (w25:Wr K "_law_apart" zJx f25)
  {f26:Addr} (w26:Wr K "_law_behind" zJR f26)
  {f27:Addr} (w27:Wr K "back" zJk f27)
  {f28:Addr} (w28:Wr K "turned_back" zJN f28)
  {f29:Addr} (w29:Wr K "_law_turned" zKY f29)
  {f30:Addr} (w30:Wr K "asked_anew" zJV f30)
  {f31:Addr} (w31:Wr K "_law_moved" zJJ f31)
  {f32:Addr} (w32:Wr K "_law_anew" zJQ f32)
  {f33:Addr} (w33:Wr K "answered_step" zJz f33)
  {f34:Addr} (w34:Wr K "answered" zKS f34)
  {f35:Addr} (w35:Wr K "_law_without" zJ7 f35)
  {f36:Addr} (w36:Wr K "_law_ahead" zKO f36)
  {f37:Addr} (w37:Wr K "_law_changed" zJn f37)
  {f38:Addr} (w38:Wr K "_law_right" zJO f38)
  {f39:Addr} {od39 an39:Option Addr} {sl39:Array (Option AB)} {oc39 kV39 dc39 pm39 cd39 ct39:AB}
  (a39:nsIn K Av "law"=some (some (.ref f39))) (l39:K.lookup f39=some ⟨oc39,od39,.func (fnOf "law" "law" (defArgs zBf) (defBody zBf) (defScope zBf) .none kV39 dc39 pm39 an39 cd39 ct39),sl39⟩) (c39:DY K cd39 "law"=true) (k39:CY K (.ref f39)=true)
  (z1:nsIn K Av "int"=some none)
  (z2:nsIn K Av "isinstance"=some none)
  (z3:nsIn K Av "len"=some none)
  (z4:nsIn K Av "list"=some none)
  (z5:nsIn K Av "max"=some none)
  (z6:nsIn K Av "min"=some none)
  (z7:nsIn K Av "range"=some none)
  (z8:nsIn K Av "repr"=some none)
  (z9:nsIn K Av "reversed"=some none)
  (z10:nsIn K Av "sorted"=some none)
  (z11:nsIn K Av "tuple"=some none)
  (kc:(K.all fun q=>kcC [] q.2)=true) :
  ∃ fd:Ai,(∀ (s:AG) (v:AB),Gf s fd ⟨[v],[]⟩ [("_law_script",v)])/\∀ base:Heap,K.In base->base.Ns Av mg->FnOk l.prog w K mg base CX0 7 fa fd ["_law_script"] (spD K none 1 zCu):=by
 have e:=hfa.symm.trans (mg_of X G a39)
 cases e
 have z_int:=mg_none_of X G z1
 have z_isinstance:=mg_none_of X G z2
 have z_len:=mg_none_of X G z3
 have z_list:=mg_none_of X G z4
 have z_max:=mg_none_of X G z5
 have z_min:=mg_none_of X G z6
 have z_range:=mg_none_of X G z7
 have z_repr:=mg_none_of X G z8
 have z_reversed:=mg_none_of X G z9
 have z_sorted:=mg_none_of X G z10
 have z_tuple:=mg_none_of X G z11
 have z_KC:=zPj kc
 obtain⟨a1,_,F1⟩:=w1
 have b1:=F1.binds (ps:=["_law_script","_law_k"]) (by walk_at "b")
 have m1:=mg_of X G a1
 obtain⟨a2,_,F2⟩:=w2
 have b2:=F2.binds (ps:=["_law_box_here","_law_wide"]) (by walk_at "b")
 have m2:=mg_of X G a2
 obtain⟨a3,_,F3⟩:=w3
 have b3:=F3.binds (ps:=["_law_box_here","_law_cups"]) (by walk_at "b")
 have m3:=mg_of X G a3
 obtain⟨a4,_,F4⟩:=w4
 have b4:=F4.binds (ps:=["_law_box_here","_law_cups","_law_questions"]) (by walk_at "b")
 have m4:=mg_of X G a4
 obtain⟨a5,_,F5⟩:=w5
 have b5:=F5.binds (ps:=["_law_turning_here"]) (by walk_at "b")
 have m5:=mg_of X G a5
 obtain⟨a6,_,F6⟩:=w6
 have b6:=F6.binds (ps:=["_law_box_here","_law_cups","_law_questions","_law_most"]) (by walk_at "b")
 have m6:=mg_of X G a6
 obtain⟨a7,_,F7⟩:=w7
 have b7:=F7.binds (ps:=["pairs"]) (by walk_at "b")
 have m7:=mg_of X G a7
 obtain⟨a8,_,F8⟩:=w8
 have b8:=F8.binds (ps:=["asked","q"]) (by walk_at "b")
 have m8:=mg_of X G a8
 obtain⟨a9,_,F9⟩:=w9
 have b9:=F9.binds (ps:=["step","begin","flips"]) (by walk_at "b")
 have m9:=mg_of X G a9
 obtain⟨a10,_,F10⟩:=w10
 have b10:=F10.binds (ps:=["turning"]) (by walk_at "b")
 have m10:=mg_of X G a10
 obtain⟨a11,_,F11⟩:=w11
 have b11:=F11.binds (ps:=["dance"]) (by walk_at "b")
 have m11:=mg_of X G a11
 obtain⟨a12,_,F12⟩:=w12
 have b12:=F12.binds (ps:=["cups"]) (by walk_at "b")
 have m12:=mg_of X G a12
 obtain⟨a13,_,F13⟩:=w13
 have b13:=F13.binds (ps:=["one","other"]) (by walk_at "b")
 have m13:=mg_of X G a13
 obtain⟨a14,_,F14⟩:=w14
 have b14:=F14.binds (ps:=["one","other"]) (by walk_at "b")
 have m14:=mg_of X G a14
 obtain⟨a15,_,F15⟩:=w15
 have b15:=F15.binds (ps:=["dance"]) (by walk_at "b")
 have m15:=mg_of X G a15
 obtain⟨a16,_,F16⟩:=w16
 have b16:=F16.binds (ps:=["asked","q","answer"]) (by walk_at "b")
 have m16:=mg_of X G a16
 obtain⟨a17,_,F17⟩:=w17
 have b17:=F17.binds (ps:=["asked","q"]) (by walk_at "b")
 have m17:=mg_of X G a17
 obtain⟨a18,_,F18⟩:=w18
 have b18:=F18.binds (ps:=["sums","q","answer"]) (by walk_at "b")
 have m18:=mg_of X G a18
 obtain⟨a19,_,F19⟩:=w19
 have b19:=F19.binds (ps:=["one","other"]) (by walk_at "b")
 have m19:=mg_of X G a19
 obtain⟨a20,_,F20⟩:=w20
 have b20:=F20.binds (ps:=["_law_one","_law_other"]) (by walk_at "b")
 have m20:=mg_of X G a20
 obtain⟨a21,_,F21⟩:=w21
 have b21:=F21.binds (ps:=["_law_dance_here","_law_answers"]) (by walk_at "b")
 have m21:=mg_of X G a21
 obtain⟨a22,_,F22⟩:=w22
 have b22:=F22.binds (ps:=["_law_one","_law_other","_law_alike"]) (by walk_at "b")
 have m22:=mg_of X G a22
 obtain⟨a23,_,F23⟩:=w23
 have b23:=F23.binds (ps:=["one","other"]) (by walk_at "b")
 have m23:=mg_of X G a23
 obtain⟨a24,_,F24⟩:=w24
 have b24:=F24.binds (ps:=["_law_begin","_law_flips","_law_pairs"]) (by walk_at "b")
 have m24:=mg_of X G a24
 obtain⟨a25,_,F25⟩:=w25
 have b25:=F25.binds (ps:=["_law_one","_law_other"]) (by walk_at "b")
 have m25:=mg_of X G a25
 obtain⟨a26,_,F26⟩:=w26
 have b26:=F26.binds (ps:=["_law_one","_law_other"]) (by walk_at "b")
 have m26:=mg_of X G a26
 obtain⟨a27,_,F27⟩:=w27
 have b27:=F27.binds (ps:=["turning"]) (by walk_at "b")
 have m27:=mg_of X G a27
 obtain⟨a28,_,F28⟩:=w28
 have b28:=F28.binds (ps:=["dance"]) (by walk_at "b")
 have m28:=mg_of X G a28
 obtain⟨a29,_,F29⟩:=w29
 have b29:=F29.binds (ps:=["_law_sums"]) (by walk_at "b")
 have m29:=mg_of X G a29
 obtain⟨a30,_,F30⟩:=w30
 have b30:=F30.binds (ps:=["dance","row","questions"]) (by walk_at "b")
 have m30:=mg_of X G a30
 obtain⟨a31,_,F31⟩:=w31
 have b31:=F31.binds (ps:=["_law_some","_law_row"]) (by walk_at "b")
 have m31:=mg_of X G a31
 obtain⟨a32,_,F32⟩:=w32
 have b32:=F32.binds (ps:=["_law_sums","_law_row"]) (by walk_at "b")
 have m32:=mg_of X G a32
 obtain⟨a33,_,F33⟩:=w33
 have b33:=F33.binds (ps:=["step","q","answer"]) (by walk_at "b")
 have m33:=mg_of X G a33
 obtain⟨a34,_,F34⟩:=w34
 have b34:=F34.binds (ps:=["dance","q","answer"]) (by walk_at "b")
 have m34:=mg_of X G a34
 obtain⟨a35,_,F35⟩:=w35
 have b35:=F35.binds (ps:=["_law_some","_law_q"]) (by walk_at "b")
 have m35:=mg_of X G a35
 obtain⟨a36,_,F36⟩:=w36
 have b36:=F36.binds (ps:=["_law_sums","_law_q","_law_answer"]) (by walk_at "b")
 have m36:=mg_of X G a36
 obtain⟨a37,_,F37⟩:=w37
 have b37:=F37.binds (ps:=["_law_pair","_law_others","_law_change"]) (by walk_at "b")
 have m37:=mg_of X G a37
 obtain⟨a38,_,F38⟩:=w38
 have b38:=F38.binds (ps:=["_law_box_here","_law_questions"]) (by walk_at "b")
 have m38:=mg_of X G a38
 have F39:=zLH (st:=zBf) l39 c39 k39
 have b39:=F39.binds (ps:=["_law_script"]) (by walk_at "b")
 have m39:=mg_of X G a39
 refine⟨fnOf "law" "law" (defArgs zBf) (defBody zBf) (defScope zBf) .none kV39 dc39 pm39 an39 cd39 ct39,fun s v=>.of_eq rfl,fun base _ _=>?_⟩
 have D_0:=ok_0 (P:=l.prog) (wd:=w) (base:=base) F1 m1 b1 z_int z_len
 have D_1:=ok_1 (P:=l.prog) (wd:=w) (base:=base) F2 m2 b2
 have D_2:=ok_2 F3 m3 b3 z_len z_list z_range D_1
 have D_3:=ok_3 F4 m4 b4 z_range z_tuple D_1 D_2
 have D_4:=ok_4 (P:=l.prog) (wd:=w) (base:=base) F5 m5 b5 z_len z_range z_tuple
 have D_5:=ok_5 F6 m6 b6 z_len z_range z_tuple D_1 D_3 D_4
 have D_6:=ok_6 (P:=l.prog) (wd:=w) (base:=base) F7 m7 b7 z_KC z_sorted z_tuple
 have D_7:=ok_7 (P:=l.prog) (wd:=w) (base:=base) F8 m8 b8 z_sorted z_tuple
 have D_8:=ok_8 F9 m9 b9 D_7
 have D_9:=ok_9 (P:=l.prog) (wd:=w) (base:=base) F10 m10 b10
 have D_10:=zRJ F11 m11 b11 z_reversed D_6 D_7 D_8 D_9
 have D_11:=zQu (P:=l.prog) (wd:=w) (base:=base) F12 m12 b12 z_range z_tuple
 have D_12:=zRM (P:=l.prog) (wd:=w) (base:=base) F13 m13 b13 z_tuple
 have D_13:=zQl F14 m14 b14 D_12
 have D_14:=zQ6 F15 m15 b15 z_tuple D_11 D_13
 have D_15:=zRK (P:=l.prog) (wd:=w) (base:=base) F16 m16 b16
 have D_16:=zQj (P:=l.prog) (wd:=w) (base:=base) F17 m17 b17 z_tuple
 have D_17:=zQq F18 m18 b18 D_6 D_15 D_16
 have D_18:=zQg F19 m19 b19 z_range z_tuple D_10 D_17
 have D_19:=zQr (P:=l.prog) (wd:=w) (base:=base) F20 m20 b20 z_tuple
 have D_20:=zQd F21 m21 b21 z_range z_tuple D_19
 have D_21:=zRF F22 m22 b22 z_isinstance z_len z_tuple D_18 D_20
 have D_22:=zQv (P:=l.prog) (wd:=w) (base:=base) F23 m23 b23
 have D_23:=zQw (P:=l.prog) (wd:=w) (base:=base) F24 m24 b24 z_KC z_sorted z_tuple
 have D_24:=zRI (P:=l.prog) (wd:=w) (base:=base) F25 m25 b25 z_sorted z_tuple
 have D_25:=zQR F26 m26 b26 z_list D_23 D_24
 have D_26:=zQf (P:=l.prog) (wd:=w) (base:=base) F27 m27 b27 z_len z_range z_tuple
 have D_27:=zQ4 F28 m28 b28 z_reversed z_tuple D_26
 have D_28:=zQY F29 m29 b29 D_23 D_24
 have D_29:=zQZ (P:=l.prog) (wd:=w) (base:=base) F30 m30 b30 z_tuple
 have D_30:=zQn F31 m31 b31 D_24
 have D_31:=zRH F32 m32 b32 D_23 D_30
 have D_32:=zQS (P:=l.prog) (wd:=w) (base:=base) F33 m33 b33
 have D_33:=zRL F34 m34 b34 z_tuple D_32
 have D_34:=zQ9 (P:=l.prog) (wd:=w) (base:=base) F35 m35 b35 z_tuple
 have D_35:=zQQ F36 m36 b36 z_int D_23 D_34
 have D_36:=zQ1 F37 m37 b37 D_14 D_22 D_25 D_27 D_28 D_29 D_31 D_33 D_35
 have D_37:=zQ3 F38 m38 b38 z_range z_repr z_tuple D_1 D_5 D_10 D_14 D_18 D_21 D_36
 exact zPh F39 z_len z_max z_min z_range D_0 D_1 D_37
theorem walk{l:FG}{q:Ah}{loose:List Str}{XP:(Str->Option AB)->Heap->Prop}{YP:Aw->Heap->Prop}{d:DefRec}{K:KS->AU}(pure:∀ ns:List Int,ns.length<=63->zCu [.k (intsT ns)]=some (.v (.a (.bl true)),[]))(hn:l.most=some 63)(hdf:d.params.defaults=[])
  (hY:∀ (w:Aw) (h:Heap),YP w h->(K w.params).In h)
  (F:∀ (w:Aw) (mg:Str->Option AB) (fa:Addr) (h:Heap),(K w.params).In h->h.Ns Av mg->mg d.name=some (.ref fa) ->
   ∃ fd:Ai,(∀ (s:AG) (u:AB),Gf s fd ⟨[u],[]⟩ [("_law_script",u)])/\∀ base:Heap,(K w.params).In base->base.Ns Av mg->FnOk l.prog w (K w.params) mg base CX0 7 fa fd ["_law_script"] (spD (K w.params) none 1 zCu)) :
  IF q loose XP YP l.row.toRowW d [] (fun f vs=>HK f vs) :=
 L2.walk_of (n:=63) (k:=7) (x:="_law_script") (CX:=fun _=>CX0) (sp:=fun w=>spD (K w.params) none 1 zCu) hn (by decide) hdf ⟨rfl,by decide,by decide,rfl⟩ hY F (fun w H a ns hl hO hS=>zO5 hO hS (pure ns hl)) fun _ _ _ _ _ z=>z
end Lw
local macro_rules | `(tactic| walk_at "w") => `(tactic| (refine' Lw.wr_mk ?a ?l ?c ?k; (case a=>k_is); (case l=>k_is); (case c=>k_is); (case k=>k_is)))
open PySem PySem.W PyProof.Rows
theorem PySem.W.Fast.tw11860525563152292313:True:=trivial
theorem PySem.W.Fast.tw7439521454688285706:True:=trivial
theorem PySem.W.Fast.tw11674600677830451288:True:=trivial
theorem PySem.W.Fast.tw7214345084959162159:True:=trivial
theorem PySem.W.Fast.tw1321709442539492629:True:=trivial
theorem PySem.W.Fast.tw1122011741205562087:True:=trivial
theorem PySem.W.Fast.tw2263813629108258541:True:=trivial
theorem PySem.W.Fast.tw3650846313494804524:True:=trivial
theorem PySem.W.Fast.tw11192092347130889832:True:=trivial
theorem PySem.W.Fast.tw8623979371493155138:True:=trivial
theorem PySem.W.Fast.tw18193589905943050225:True:=trivial
theorem PySem.W.Fast.tw6209121125642882557:True:=trivial
theorem PySem.W.Fast.tw14809544742828937606:True:=trivial
theorem PySem.W.Fast.tw14261768645292189387:True:=trivial
theorem PySem.W.Fast.tw6905863514071597090:True:=trivial
theorem PySem.W.Fast.tw10535165765856400209:True:=trivial
theorem PySem.W.Fast.tw11208715854378102090:True:=trivial
theorem PySem.W.Fast.tw3472801722014922468:True:=trivial
theorem PySem.W.Fast.tw11673879544391548815:True:=trivial
theorem PySem.W.Fast.tw13624511959253375592:True:=trivial
set_option maxRecDepth 100000 in
set_option maxHeartbeats 0 in
theorem PySem.Challenge.cw_fivecups_k68_whole_sums_of_changed_dance_holds : PySem.Challenge.rw_fivecups_k68_whole_sums_of_changed_dance.Holds := by
 w_on; o_law; k_head; (case hw=>w_witness2)
 k_fill
 refine Lw.walk (l:=PySem.Challenge.rw_fivecups_k68_whole_sums_of_changed_dance) Lw.law_true rfl rfl (fun w h Y=>PySem.W.kIn_of Y) ?F
 case F =>
  intro w mg fa h KX G hmg
  refine' Lw.all_mk KX G hmg ?w1 ?w2 ?w3 ?w4 ?w5 ?w6 ?w7 ?w8 ?w9 ?w10 ?w11 ?w12 ?w13 ?w14 ?w15 ?w16 ?w17 ?w18 ?w19 ?w20 ?w21 ?w22 ?w23 ?w24 ?w25 ?w26 ?w27 ?w28 ?w29 ?w30 ?w31 ?w32 ?w33 ?w34 ?w35 ?w36 ?w37 ?w38 ?a39 ?l39 ?c39 ?k39 ?z1 ?z2 ?z3 ?z4 ?z5 ?z6 ?z7 ?z8 ?z9 ?z10 ?z11 ?kc
  all_goals try walk_at "w"
  (case a39=>k_is); (case l39=>k_is); (case c39=>k_is); (case k39=>k_is)
  (case z1=>k_is); (case z2=>k_is); (case z3=>k_is); (case z4=>k_is); (case z5=>k_is); (case z6=>k_is); (case z7=>k_is); (case z8=>k_is); (case z9=>k_is); (case z10=>k_is); (case z11=>k_is)
  (case kc=>kernel_rfl)
