import PyProof.Rows.All
import Wide.All
import OpenK.AllK
import Wide.FinOn
import Lean
import PyProof.EqAt
import PyProof.EqKinds
import PyProof.TupleCall
import PySem.Challenge.RW_fivecups_k24_what_isn_t_danced
open Array renaming getElem?_eq_some_iff->CB,length_toList->E3,getElem?_toList->G4,toArray_toList->HL,forIn_toList->Hm,toList->JB
open Bool renaming false_ne_true->AU,and_eq_true->Ab,false_eq_true->BP,not_true->Di,true_and->EJ,eq_iff_iff->Ed,not_eq_true'->Fk,or_eq_true->GE,eq_false_iff->IH,noConfusion->IW,or_false->JE
open Except renaming ok->J8
open False renaming elim->Ay
open ForInStep renaming yield->Cz
open Function renaming comp_def->HY
open Iff renaming rfl->KB
open Int renaming toNat_natCast->Bm,toNat->FC,emod_lt_of_pos->Fc,emod_nonneg->GT,sub_zero->HN,le_refl->Ke
open List renaming mem_singleton->AF,mem_cons_of_mem->AK,mem_cons->AO,mem_cons_self->AQ,size_toArray->AS,getElem?_set_ne->AW,getElem?_eq_some_iff->Ac,replicate->Ad,getElem?_map->Ae,map_cons->Ak,mem_append_right->Am,length_append->Aq,getElem?_set_self->Ar,all_eq_true->Ax,range->A5,length_map->A7,not_mem_nil->A8,map_nil->BE,getElem?_append_left->BG,length_cons->BI,append_nil->BY,getElem?_eq_none->Bc,lookup_cons->Bf,nodup_cons->Bp,getElem?_eq_getElem->Bw,replicate_succ->B5,getElem?_append_right->CC,map->CD,find?_cons->CM,length_take->CT,take_of_length_le->Cb,forIn_cons->Cn,flatten_cons->Cs,length_eraseIdx_of_lt->Cy,mem_map->C0,any_cons->C4,mem_append->C6,nil_append->C8,pairwise_cons->C9,append_assoc->DM,forIn_nil->DP,eraseIdx_eq_take_drop_succ->DY,cons_append->Dd,mem_of_getElem?->Dj,mem_filter->Dm,length_pos_iff->Dr,Nodup->D4,getD_eq_getElem?_getD->D5,reverse_cons->EH,getElem?_replicate->EO,length_drop->ER,getElem_mem->ES,of_mem_zip->Ee,length_nil->Ej,map_append->El,length_singleton->Em,dropLast_eq_take->Eo,mem_range->Ey,mem_append_left->Ez,range'->E1,filterMap_cons->E8,set_comm->FG,findIdx?_eq_some_iff_getElem->FU,eraseIdxIfInBounds_toArray->Fp,mem_eraseIdx_iff_getElem?->Fx,nodup_range->Fz,length->GA,getElem?_zip_eq_some->GZ,drop_eq_getElem_cons->Gb,getLast?_eq_none_iff->Gg,getElem?_take_of_lt->Gm,length_eq_zero_iff->Gy,length_eq_one_iff->G7,length_replicate->HF,mem_of_mem_erase->HR,getElem?_reverse->HU,length_dropLast->Ha,mem_of_getLast?->He,mem_filterMap->Hs,foldl->Ht,take_sublist->IB,zipIdx_cons->IS,range'_succ->IT,drop_length->IU,foldl_cons->Ia,zipIdx_nil->Ib,length_zip->Ii,drop_zero->Iv,nodup_nil->Iw,all_cons->JF,map_map->Jc,lookup->Jz,all->LU
open List.Nodup renaming not_mem_erase->LV
open List.Pairwise renaming nil->Jx
open List.Perm renaming swap->Li,append_left->Lj
open Nat renaming le_refl->AL,lt_of_lt_of_le->AV,le_trans->Aa,ne_of_lt->Ah,lt_irrefl->BK,pow_le_pow_right->BN,ne_of_gt->BV,le_add_right->CA,le_of_lt->CN,lt_succ_self->CY,le_max_right->CZ,lt_or_ge->Ci,le_max_left->Cp,zero_le->DG,lt_succ_of_lt->DU,le_of_succ_le->EI,ble->Eh,le_of_ble_eq_true->Es,ble_eq_true_of_le->Et,lt_of_le_of_lt->FW,le_succ->GD,lt_trans->HJ,zero_add->HM,mul_add->Hn,mul_le_mul_left->Hz,not_lt->IG,min_eq_right->Ie,min_eq_left->Iy,mul_le_mul->JO,add_comm->Jv,mul_comm->Jw,le_of_eq->Jy,sub_zero->J1,mul_one->Kp,ble_eq->K1
open Ne renaming symm->Az
open Option renaming bind_some->Av,isSome_iff_exists->C3,getD_none->DW,getD_some->DX,mem_toList->D9,none_or->IV
open Option.some renaming injEq->Al,inj->As
open Or renaming inr->Dw,inl->Ep
open PyProof.Rows renaming callWith_type1->BA,slot_tuple_getitem->Bh,assignInOrder_cons->Cq,boot_tuple->DV,kindOf->D6,AllBare->EF,envOfC->E5,IntsAre->E6,boot_range->Ft,boot_list->Fy,assignInOrder_nil->GJ,subscriptTail->Hg,Call_->Hr,subscriptTail_builtinR->IE,entry_tuple_getitem->Ip,args_tuple_getitem->JC,Subscript_->JD,seqObj->JI,IsTup->JQ,unpackItems_tuple->JS,len_tuple->Ju,boot_repr->KC,callWith_builtin1->KZ,boot_tuple->Kc,getItem_tuple->Kd,boot_dict->Kl,evalArgs_none->Kn,slicePart_none->Ku,boot_min->K7,tupleItemsOf_->LA,boot_reversed->LW
open PyProof.Rows.IsTup renaming new->KE
open PyProof.Rows.LSm renaming kept_iter->Jd
open PySem renaming wpAny_bind->AA,Value->AB,Shared->AD,sizeLine->AE,wpAny_pure->AG,starEach->AI,wpAny->AM,mainGlobals->AR,Program->AY,FuncData->AZ,World->Af,wpAny_field->Ag,Around->Ao,mem_of_lookup->A6,wpAny_setField_rec->A9,wpAny_newObj_type->BB,boot_len->BC,builtinLookup_eq_fast->BD,wpAny_mono->BF,wpAny_callSpecial?_slot->BH,cellsFrom->BJ,wpAny_call_entry->BL,wpAny_holding->BO,typeLookup_type->Ba,backTo->Bd,wpAny_seqItems->Be,compareOp->Bl,wpAny_execs_nil->Bu,sizeLine_eq->Bv,wpAny_Call_Name_kw->Bz,bootBuiltins->B0,wpAny_attempt->B3,rawInt->B4,Scope->B6,wpAny_of_eq->CF,assignEach->CJ,NameKind->CK,wpAny_pyIter_tuple->CL,swapsWith->CO,wpAny_specialOf->CP,wpAny_ite_split->CQ,foldedSetIterable->CS,attributeBase->CU,binaryOp->Cg,wpAny_isInstance->Cj,isSubtype_type->Ck,wpAny_rule->Cr,IsPair->Ct,wpAny_passesOwn->Cu,behindInMarks->Cw,codeAny_mono->C7,wpAny_standAt->DH,codeAny->DK,bindName->De,wpAny_bindName->Df,wpAny_typeOf->Dh,wpAny_execs_cons->Dn,pyNext->Do,typeLookup->Dp,call_meets->Dq,swapsWithSole->Du,swappedStores->Dv,sliceBounds->D3,codeAny_builtin->D8,PyData->EA,sysModules->EK,wpAny_setField->EM,wpAny_truthy_bool->EW,getItem->EY,Paired->Eb,assignInOrder->Ec,wpAny_onRaise->Ef,plainId_quiet->Eg,pushCells->Er,checkBuiltinCall->Ew,wpAny_call->E4,ItemsOf->E7,letOwnedTupleGo->E9,pushCells_keeps->FB,IsPart->FP,compEnvC->FQ,firstArgMember->FR,wpAny_updateSeq_pair->FS,wpAny_letGo->FT,isSubtype_stop->FV,wpAny_pyIter_revIter->FY,codeAny_call_builtin->FZ,seqIndex?->Fd,Keyword->Fe,noteFrame->Ff,IsZip->Fw,isInstance->GC,GenState->GH,wpAny_Assign_Name->GK,BindsTo->GL,callerA->GM,callType_new->GO,setField->GP,valueAt->GQ,wpAny_loadPart_at->GS,KeyKind->GV,noFill_tuple_add->GW,typeOf->GY,entryFor_of_tree->Gc,onTheHeap->Gf,Model->Gj,CmpOp->Gk,seqIndex_of->Gn,keywordEach->Gp,wpAny_mkInt->Gr,excClassObj->Gs,wpAny_updateSeq->Gw,builtinsNs->G8,isTrue->G9,pyIter->HA,recursionLimit->HB,bindL->HD,bindC->HE,wpAny_newFunctionEnv_cells->HH,wpAny_newTuple->HK,IsEnum->HP,entryFor->HQ,getAttr?->HS,codeAny_call_builtin_code->Hd,seq_tuple_add->Hf,call->Hi,signature?_of->Hl,tupleKind->Ho,PassesOwn->Hq,seqItems?->Hu,isSubtype->Hw,standAt->H9,Result->IA,concat_meets->IC,seqIndex_neg->ID,wpAny_Call_method_late->IF,argsOk->IJ,argBest->IL,splitId->IM,codeAny_call_function->IP,backToKw->IZ,atKey->Ig,unbindBehindTheSuite->Ij,builtinKind->Ik,wpAny_Name->JA,typeIs_int->JG,getattributeRaised->JK,call_reversed_list->JM,Drawn->JR,wpAny_sequenceKey->JU,slot_list_getitem->JW,Meets->JZ,wpAny_pyIter_list->Ja,wpAny_pyIter_enum->Jb,OwnTail->Je,OsState->Jg,small_one->Jh,Arguments->Jr,IsEnumOut->J2,getAttrBy->J3,updateSeq->J4,setFlight->J5,callGetattribute->J6,wpAny_lookBehind->J9,pastItsLine_dict->KA,exec_Assign_arm->KD,getAttrByItsOwn->Ko,wpAny_Expr_any->Kq,cLine->Ks,bindArgs->Kt,fitsIndex_both->Kv,Params->Kw,newFunctionEnv->Kx,compPost->Ky,newExc->Kz,newTuple->K0,repr_of_reads'->K2,entryFor_alias->K3,callType_codes->K4,revObj->K6,rangeSize_one->K8,intBits_le_64->K9,evalPart_none->LB,wpAny_handled->LS,AsSuiteRaised->LX,setItem->LZ,call_range_1->La,call_range_2->Lb,name_of_addr->Lc,codeAny_func->Ld,newList->Lg,IsRange->Lh,wpAny_mkText->Lk,ExcBaseFacts->Lm,setAttr->Ln,wpAny_nsSet1->Lo
open PySem.Around renaming under_plainId->Da,under->FM,frames_deeper->G0
open PySem.AutoListH renaming list___mul___list_int_3->Lf
open PySem.Builtin.Dict renaming updateFrom->Fu,addKeywords->Ki,pairItems->Kj,selfAndRest->Kk
open PySem.Builtin.List renaming listTooLong->Bo,listExtendWith->Bx,listLengthHint->By,listFitsIndex->FO,listSameRef->Fj,listItems->F0,listUpdate->Km
open PySem.Builtin.ObjectAttr renaming storeInDict->B9,newKeyGuard->ET
open PySem.Builtin.Range renaming rangeSize->CG,small->EN
open PySem.Builtin.Slice renaming slicePlaces->Cm,sliceAdjust->Dg,sliceApplied->FJ,slicePartIndex->Js,sliceFields->Jt
open PySem.Builtin.SmallTypes renaming ownedTupleIsFree->Aj,nextOf->Ap,ownedTupleHandOut->Bq,newRecord->Ea
open PySem.Builtin.Tuple renaming tupleExact->Bn,tupleItemsOf->FK,tupleIsExact->J0
open PySem.Calls renaming spliced_nil->EC,callWith_builtin->EV,spliced_cons->FI,Name_function_global->GI,evalArgs_plain->HI
open PySem.Code renaming builtin->Dy,isFrame->Gz,quiet_builtin->Hy,isGuard->JT,frames->Jq
open PySem.Data renaming dict->Fv,fields->HZ,seq->Hb,cell->Kr
open PySem.EntryCells renaming newEntry->Gd
open PySem.EqMixed renaming eq_bool_str->Ji,eq_int_str->Jj,eq_str_bool->Jk,eq_str_int->Jl,ne_bool_str->Jm,ne_int_str->Jn,ne_str_bool->Jo,ne_str_int->Jp
open PySem.EqNone renaming eq_none_none->KG,eq_none_bool->KH,eq_none_int->KI,eq_none_str->KJ,eq_bool_none->KM,eq_int_none->KN,eq_str_none->KO,ne_none_none->KP,ne_none_bool->KQ,ne_none_int->KR,ne_none_str->KS,ne_bool_none->KU,ne_int_none->KW,ne_str_none->KY
open PySem.F renaming slot_list_append->Bs,type_list_append->Bt,store_ValueError->CH,slot_tuple_iterator_next->C2,slot_list_pop->DQ,type_list_pop->DR,slot_enumerate_next->Dl,excBase_ValueError->Ds,excAttr_ValueError->Dt,args_tuple_add_2->D7,entry_tuple_add->EG,slot_tuple_add->EL,slot_zip_getattribute->Ek,slot_zip_next->E2,args_object_init_2->FL,plain_extend_loop->GG,plainAttrs_list->GU,args_tuple_iterator_next_1->Ga,entry_tuple_iterator_next->Gq,args_enumerate_next_1->Hc,entry_enumerate_next->Hk,slot_tuple_getitem->IK,plain_list_iadd->Iq,args_zip_next_1->Iz,entry_list_pop->JH,entry_zip_next->JL,slot_list_pop->JX,slot_int_rmul->JY,entry_bexc_ga->Jf,args_bexc_ga->J7
open PySem.Flow renaming next->Gv,ret->LY
open PySem.Heap renaming get?_push_of_some->AC,lt_size->AJ,get?_push_size->AN,get?_update_other->Au,size_push->BS,get?_update_self->BU,SameBut->BZ,get?_none_of_le->Cv,ExtBut->GB,IsTuple->G5
open PySem.Heap.DictOf renaming new->K5
open PySem.Heap.IsSliceOf renaming new->JV
open PySem.Heap.IsTuple renaming push->Kb
open PySem.Heap.SameBut renaming update->GN,refl->Kh
open PySem.IsL renaming update->Le
open PySem.NameKind renaming free->BW,cell->Bg
open PySem.Obj renaming mapSeq->DB,data_mapFields->DC,isFreed_of_fields->DZ,mapFields->Gx,cls_mapFields->IR
open PySem.Paired renaming length->IY
open PySem.PassesOwn renaming never->Bk
open PySem.PyData renaming depthAll->Cd,canLayAll0->Co,eqv->C5,canLay0->Dx,leavesShort->Dz,eqvAll->ED,depth->FN,int->GF,tuple->Gu,noDict_hsm->Hj,showable->II,weight->Il,list->JJ
open PySem.SeqAt renaming EqAt->Hh
open PySem.SeqAt.EqAt renaming int_str->Gh,str_int->Gi,same->LC,none_bool->LD,none_int->LF,none_str->LG,bool_none->LH,bool_bool->LI,bool_int->LJ,bool_str->LK,int_none->LM,int_bool->LN,int_int->LO,str_none->LP,str_bool->LQ,str_str->LR
open PySem.Shared renaming heap->G6,TypeIs->Ih
open PySem.Str renaming ofString->BQ,ofString_eq_toList->HX
open PySem.Value renaming ref->Ai,none->A0,type->BM,int->Bb,builtin->B7,bool->EU,str->Ex,isStrOf->Io,isInt->JP
open PySem.Value.ref renaming inj->Ll
open PySem.W renaming Frag->AH,keepIn->An,nsIn->Aw,codeIn->Bi,findIn->Bj,fnOf->Br,kitOne->B8,callWith_K->CV,cellsFrom_some->CW,subIn->Ce,clsIn->Cf,notCls->DD,excIn->EB,kitAny->Ei,looks_subIn->Eu,methodObj->FE,OpenLaw->Fq,kia_one->Fs,Looks->GR,codeRec_of->HG,isNs_of_in->HV,tail_of_in->HW,kia_tup->Hv,findObj->Hx,WalkO->IQ,KitX->Ic
open PySem.W.Looks renaming ld->Ge
open PySem.Within renaming cons->JN
open Std.Legacy.Range renaming forIn_eq_forIn_range'->Ir,size->Iu
open Sum renaming inl->Fl,inr->Fo
open True renaming intro->EZ
set_option Elab.async false
set_option linter.all false
set_option maxRecDepth 100000
namespace L2
open PySem PySem.Spec PyProof.Rows
abbrev Key:=Sum Int Str
noncomputable def keyIs:Key->AB->Bool
 | .inl k,v=>JP k v
 | .inr x,v=>Io x v
noncomputable def keyH (w:Af):Key->Int
 | .inl k=>hashInt k
 | .inr x=>hashStr w x
theorem zAo:∀ {k:Key} {v:AB},keyIs k v=true->(∃ i t,k=Fl i/\v=Bb i t)\/(∃ x t,k=Fo x/\v=Ex x t)
 | .inl i,v,h=>by
  obtain⟨t,e⟩:=Value.isInt_shape (k:=i) (v:=v) h
  exact .inl ⟨i,t,rfl,e⟩
 | .inr x,v,h=>by
  obtain⟨t,e⟩:=Value.isStrOf_shape (x:=x) (v:=v) h
  exact .inr ⟨x,t,rfl,e⟩
theorem zJL(i:Int)(t:Tok):keyIs (.inl i) (.int i t)=true:=by simp[keyIs,JP]
theorem zJQ(x:Str)(t:Tok):keyIs (.inr x) (.str x t)=true:=by simp[keyIs,Io]
theorem zNd(a b:Int):decide ((Fl a:Key)=Fl b)=(a == b):=by
 by_cases e:a=b
 ·subst e; simp
 ·have h:¬ (Fl a:Key)=Fl b:=fun q=>e (Sum.inl.inj q)
  rw[decide_eq_false h]
  exact (beq_eq_false_iff_ne.mpr e).symm
theorem zNf(a b:Str):decide ((Fo a:Key)=Fo b)=decide (a=b):=by
 by_cases e:a=b
 ·subst e; simp
 ·have h:¬ (Fo a:Key)=Fo b:=fun q=>e (Sum.inr.inj q)
  rw[decide_eq_false h,decide_eq_false e]
theorem zNN(a:Int)(b:Str):decide ((Fl a:Key)=Fo b)=false:=decide_eq_false (fun q=>nomatch q)
theorem zNS(a:Str)(b:Int):decide ((Fo a:Key)=Fl b)=false:=decide_eq_false (fun q=>nomatch q)
noncomputable def mixKind (prog:AY) (w:Af):GV prog w Key where
 is:=keyIs
 hash:=keyH w
 inj:=fun v a b ha hb=>by
  rcases zAo ha with ⟨i,t,rfl,rfl⟩ | ⟨x,t,rfl,rfl⟩
  ·rcases zAo hb with ⟨j,u,rfl,e⟩ | ⟨y,u,rfl,e⟩
   ·injection e with e1 _; rw[e1]
   ·exact nomatch e
  ·rcases zAo hb with ⟨j,u,rfl,e⟩ | ⟨y,u,rfl,e⟩
   ·exact nomatch e
   ·injection e with e1 _; rw[e1]
 byValue:=fun k v h=>by
  rcases zAo h with ⟨i,t,rfl,rfl⟩ | ⟨x,t,rfl,rfl⟩ <;> rfl
 pyHash:=fun hv h=>by
  rcases zAo hv with ⟨i,t,rfl,rfl⟩ | ⟨x,t,rfl,rfl⟩
  ·exact wpAny_pyHash_int h
  ·exact wpAny_pyHash_str h
 eqBool:=fun hu hv h=>by
  rcases zAo hu with ⟨i,t,rfl,rfl⟩ | ⟨x,t,rfl,rfl⟩
  ·rcases zAo hv with ⟨j,u,rfl,rfl⟩ | ⟨y,u,rfl,rfl⟩
   ·rw[zNd]at h; exact wpAny_eqBool_int h
   ·rw[zNN]at h; exact Gh i t y u _ _ _ _ h
  ·rcases zAo hv with ⟨j,u,rfl,rfl⟩ | ⟨y,u,rfl,rfl⟩
   ·rw[zNS]at h; exact Gi x t j u _ _ _ _ h
   ·rw[zNf]at h; exact wpAny_eqBool_str h
 «strs»:=fun k x t v h=>by
  rcases zAo h with ⟨i,u,rfl,e⟩ | ⟨y,u,rfl,e⟩
  ·exact nomatch e
  ·injection e with e1 _
   subst e1
   cases v <;> rfl
theorem zGL(prog:AY)(w:Af)(i:Int)(t:Tok):(mixKind prog w).is (.inl i) (.int i t)=true:=zJL i t
theorem zGF(prog:AY)(w:Af)(x:Str)(t:Tok):(mixKind prog w).is (.inr x) (.str x t)=true:=zJQ x t
inductive V where
 | non | bl (b:Bool) | int (i:Int) | str (x:Str) | byt (b:Array UInt8) | flt (b:UInt64) | ref (a:Addr) | ty (n:String)
 deriving DecidableEq
noncomputable def RelV:V->AB->Prop
 | .non,u=>u=A0
 | .bl b,u=>u=EU b
 | .int i,u=>∃ t,u=Bb i t
 | .str x,u=>∃ t,u=Ex x t
 | .byt b,u=>∃ t,u=Value.bytes b t
 | .flt b,u=>∃ t,u=Value.float b t
 | .ref a,u=>u=Ai a
 | .ty n,u=>u=BM n
noncomputable abbrev Vals:List V->List AB->Prop:=Eb RelV
theorem Vals.length{xs:List V}{us:List AB}(r:Vals xs us):xs.length=us.length:=IY r
theorem Vals.get:∀ {xs:List V} {us:List AB} {i:Nat} {x:V},Vals xs us->xs[i]?=some x->∃ u,us[i]?=some u/\RelV x u
 | _,_,_,_,.nil,e=>by simp at e
 | _,_,0,_,.cons r _,e=>by simp at e; subst e; exact⟨_,rfl,r⟩
 | _,_,i+1,x,.cons _ t,e=>by
  obtain⟨u,h1,h2⟩:=Vals.get (i:=i) (x:=x) t (by simpa using e)
  exact⟨u,by simpa using h1,h2⟩
theorem Vals.set{x:V}{u:AB}(r:RelV x u):∀ {xs:List V} {us:List AB} (i:Nat),Vals xs us->Vals (xs.set i x) (us.set i u)
 | _,_,_,.nil=>.nil
 | _,_,0,.cons _ t=>.cons r t
 | _,_,i+1,.cons q t=>.cons q (Vals.set r i t)
theorem Vals.append:∀ {xs ys:List V} {us ws:List AB},Vals xs us->Vals ys ws->Vals (xs++ys) (us++ws)
 | _,_,_,_,.nil,s=>s
 | _,_,_,_,.cons r t,s=>.cons r (Vals.append t s)
theorem Vals.take:∀ {xs:List V} {us:List AB} (n:Nat),Vals xs us->Vals (xs.take n) (us.take n)
 | _,_,0,_=>.nil
 | _,_,_+1,.nil=>.nil
 | _,_,n+1,.cons r t=>.cons r (Vals.take n t)
theorem Vals.drop:∀ {xs:List V} {us:List AB} (n:Nat),Vals xs us->Vals (xs.drop n) (us.drop n)
 | _,_,0,r=>r
 | _,_,_+1,.nil=>.nil
 | _,_,n+1,.cons _ t=>Vals.drop n t
noncomputable def RelO:Option V->Option AB->Prop
 | some v,some u=>RelV v u
 | none,none=>True
 | _,_=>False
noncomputable def KV {κ:Type}:List (κ×V)->List (κ×AB)->Prop:=Eb fun (p:κ×V) (q:κ×AB)=>p.1=q.1/\RelV p.2 q.2
noncomputable def kV:Key->V
 | .inl i=>.int i
 | .inr x=>.str x
inductive HO where
 | lst (xs:List V)
 | tup (xs:List V)
 | dK (kvs:List (Key×V)) | dT (kvs:List (List Key×V))
 | set (S:Int->Bool) (n:Nat)
 | ins (C dx:Addr) (fs:List (Str×V))
 | own (x:Addr)
 | xd (fs:List (Str×V))
 | met (f x:Addr)
 | rng (lo hi:Int)
 | frz (o:Obj) (u:HO)
 | tbl (ps:Array AB)
 | ext (φ:Heap->Prop)
abbrev Hp:=Addr->Option HO
noncomputable def upd (H:Hp) (a:Addr) (o:HO):Hp:=fun b=>if b=a then some o else H b
theorem zAf{H:Hp}{a:Addr}{o:HO}:upd H a o a=some o:=by unfold upd; rw[if_pos rfl]
theorem zAJ{H:Hp}{a b:Addr}{o:HO}(h:b≠a):upd H a o b=H b:=by unfold upd; rw[if_neg h]
theorem zAY{H:Hp}{a b:Addr}{o:HO}(h:H a=some o)(h':H b=none):a≠b:=by
 intro e; subst e; rw[h]at h'; cases h'
def TupD (h:Heap) (a:Addr) (items:Array AB):Prop:=∃ o,h.get? a=some o/\o.cls=.type "tuple"/\(∃ n,o.data=.seq items n)/\o.dict=none
theorem TupD.tup{h:Heap}{a:Addr}{items:Array AB}(x:TupD h a items):JQ h a items:=let ⟨o,e,c,d,_⟩:=x; ⟨o,e,c,d⟩
theorem TupD.lt{h:Heap}{a:Addr}{items:Array AB}(x:TupD h a items):a < h.objs.size:=let ⟨_,e,_⟩:=x; AJ e
theorem TupD.new(h:Heap)(items:Array AB):TupD (h.push { cls:=.type "tuple",data:=.seq items }) h.objs.size items:=⟨_,AN _ rfl,rfl,⟨_,rfl⟩,rfl⟩
section
variable (P:AY)(w:Af)
noncomputable def ObjOk (H:Hp) (h:Heap) (a:Addr):HO->Prop
 | .lst xs=>xs.length<=AE/\∃ (its:List AB) (n:Nat),Vals xs its/\h.get? a=some { cls:=.type "list",data:=.seq its.toArray n }
 | .tup xs=>xs.length<=AE/\∃ its:List AB,Vals xs its/\TupD h a its.toArray
 | .dK kvs=>kvs.length<=AE/\(a == EK)=false/\∃ vs,KV kvs vs/\h.DictOf (mixKind P w) a vs
 | .dT kvs=>kvs.length<=AE/\(a == EK)=false/\∃ xs:List (List Key×Addr×AB),
   Eb (fun (p:List Key×V) (q:List Key×Addr×AB)=>p.1=q.1/\H q.2.1=some (.tup (p.1.map kV))/\RelV p.2 q.2.2) kvs xs /\
   ∃ o es ep,h.get? a=some o/\o.ExactDict/\o.data=.dict es ep/\es.toList=xs.map (entryOfKey (Ho (mixKind P w)))/\(xs.map (·.1)).Nodup
 | .set S n=>h.SetOf (intKind P w) a S n
 | .ins C dx fs=>H dx=some (.own a)/\fs.length<=1000/\dx≠a/\h.get? a=some (PySem.W.instObj C dx) /\
   ∃ mA,h.Ns1 dx mA/\(∀ f,RelO (fs.lookup f) (mA f))/\PySem.Within mA (fs.map (·.1))
 | .own _=>∃ o,h.get? a=some o
 | .xd fs=>∃ mA,h.Ns1 a mA/\∀ f,RelO (fs.lookup f) (mA f)
 | .rng lo hi=>∃ t u v,h.get? a=some { cls:=.type "range",data:=.fields #[.int lo t,.int hi u,.int 1 v] }
 | .frz o u=>h.get? a=some o/\ObjOk H h a u
 | .tbl ps=>h.get? a=some { cls:=.none,data:=.fields ps }
 | .met f x=>h.get? a=some (FE (.ref f) (.ref x))
 | .ext φ=>φ h/\(∃ o,h.get? a=some o)/\∀ h1 h2:Heap,φ h1->(∀ o,h1.get? a=some o->h2.get? a=some o)->φ h2
def HOk (H:Hp) (h:Heap):Prop:=∀ a o,H a=some o->ObjOk P w H h a o
end
section
variable {P:AY}{w:Af}{H H':Hp}{h h':Heap}{a:Addr}{o:HO}
theorem ObjOk.lt(x:ObjOk P w H h a o):a < h.objs.size:=by
 cases o with
 | lst xs=>obtain⟨_,_,_,_,e⟩:=x; exact AJ e
 | tup xs=>obtain⟨_,_,_,p⟩:=x; exact p.lt
 | dK kvs=>obtain⟨_,_,_,_,o,_,_,e,_⟩:=x; exact AJ e
 | dT kvs=>obtain⟨_,_,_,_,o,_,_,e,_⟩:=x; exact AJ e
 | set S n=>obtain⟨o,_,_,_,e,_⟩:=x; exact AJ e
 | ins C dx fs=>obtain⟨_,_,_,e,_⟩:=x; exact AJ e
 | own y=>obtain⟨_,e⟩:=x; exact AJ e
 | xd fs=>obtain⟨_,⟨_,_,_,e,_⟩,_⟩:=x; exact AJ e
 | rng lo hi=>obtain⟨_,_,_,e⟩:=x; exact AJ e
 | frz ob u=>obtain⟨e,_⟩:=x; exact AJ e
 | tbl ps=>exact AJ (show h.get? a=some _ from x)
 | met f y=>exact AJ (show h.get? a=some _ from x)
 | ext φ=>obtain⟨_,⟨_,e⟩,_⟩:=x; exact AJ e
theorem Paired.mapP{α β:Type}{F G:α->β->Prop}:∀ {l₁:List α} {l₂:List β},Eb F l₁ l₂->(∀ a b,F a b->G a b)->Eb G l₁ l₂
 | _,_,.nil,_=>.nil
 | _,_,.cons r t,f=>.cons (f _ _ r) (Paired.mapP t f)
theorem ObjOk.stay(x:ObjOk P w H h a o)(k:∀ b u,(b=a\/H b=some (.own a))->h.get? b=some u->h'.get? b=some u)
  (ho:∀ b,H b=some (.own a)->H' b=some (.own a)) (ht:∀ b xs,H b=some (.tup xs)->H' b=some (.tup xs)):ObjOk P w H' h' a o:=by
 induction o with
 | lst xs=>obtain⟨z,its,n,r,e⟩:=x; exact⟨z,its,n,r,k _ _ (.inl rfl) e⟩
 | tup xs=>obtain⟨z,its,r,ob,e,c⟩:=x; exact⟨z,its,r,ob,k _ _ (.inl rfl) e,c⟩
 | dK kvs=>obtain⟨z,y,vs,r,ob,es,ep,e,c⟩:=x; exact⟨z,y,vs,r,ob,es,ep,k _ _ (.inl rfl) e,c⟩
 | dT kvs =>
  obtain⟨z,y,xs,r,ob,es,ep,e,c⟩:=x
  exact⟨z,y,xs,Paired.mapP r fun p q z=>⟨z.1,ht _ _ z.2.1,z.2.2⟩,ob,es,ep,k _ _ (.inl rfl) e,c⟩
 | set S n=>obtain⟨ob,es,ep,t,e,c⟩:=x; exact⟨ob,es,ep,t,k _ _ (.inl rfl) e,c⟩
 | ins C dx fs =>
  obtain⟨d,z,ne,e,mA,⟨od,es,ep,e2,c⟩,r⟩:=x
  exact⟨ho _ d,z,ne,k _ _ (.inl rfl) e,mA,⟨od,es,ep,k _ _ (.inr d) e2,c⟩,r⟩
 | own y=>obtain⟨ob,e⟩:=x; exact⟨ob,k _ _ (.inl rfl) e⟩
 | xd fs=>obtain⟨mA,⟨od,es,ep,e,c⟩,r⟩:=x; exact⟨mA,⟨od,es,ep,k _ _ (.inl rfl) e,c⟩,r⟩
 | rng lo hi=>obtain⟨t,u,v,e⟩:=x; exact⟨t,u,v,k _ _ (.inl rfl) e⟩
 | frz ob u ih=>obtain⟨e,q⟩:=x; exact⟨k _ _ (.inl rfl) e,ih q⟩
 | tbl ps =>
  have e:h.get? a=some { cls:=.none,data:=.fields ps }:=x
  show h'.get? a=some { cls:=.none,data:=.fields ps }
  exact k a _ (.inl rfl) e
 | met f y =>
  have e:h.get? a=some (FE (.ref f) (.ref y)):=x
  show h'.get? a=some (FE (.ref f) (.ref y))
  exact k a _ (.inl rfl) e
 | ext φ=>obtain⟨p,⟨o,e⟩,st⟩:=x; exact⟨st _ _ p fun o q=>k _ _ (.inl rfl) q,⟨o,k _ _ (.inl rfl) e⟩,st⟩
theorem HOk.lt(x:HOk P w H h)(e:H a=some o):a < h.objs.size:=(x a o e).lt
theorem HOk.fresh(x:HOk P w H h)(e:h.objs.size<=a):H a=none:=by
 cases q:H a with
 | none=>rfl
 | some u=>exact absurd (AV (x.lt q) e) (BK _)
theorem HOk.kept(x:HOk P w H h)(k:∀ b u,h.get? b=some u->h'.get? b=some u):HOk P w H h':=fun a o e =>
 (x a o e).stay (fun b u _ q=>k b u q) (fun _ q=>q) fun _ _ q=>q
theorem HOk.laid(x:HOk P w H h)(k:∀ b u,h.get? b=some u->h'.get? b=some u)(hp:h.objs.size<=a)(new:ObjOk P w (upd H a o) h' a o):HOk P w (upd H a o) h':=fun b u e=>by
 have hn:=x.fresh hp
 by_cases hb:b=a
 ·subst hb; rw[zAf]at e; cases e; exact new
 ·rw[zAJ hb]at e
  exact (x b u e).stay (fun c v _ q=>k c v q) (fun c q=>by rw[zAJ (zAY q hn)]; exact q) fun c xs q=>by rw[zAJ (zAY q hn)]; exact q
end
def Rd (H:Hp) (a:Addr) (u:HO):Prop:=H a=some u\/∃ o,H a=some (.frz o u)
theorem Rd.ok{P:AY}{w:Af}{H:Hp}{h:Heap}{a:Addr}{u:HO}(r:Rd H a u)(x:HOk P w H h):ObjOk P w H h a u:=by
 rcases r with r | ⟨o,r⟩
 ·exact x a u r
 ·obtain⟨_,q⟩:=x a _ r
  exact q
noncomputable def Mut:Option HO->Prop
 | some (.lst _)=>True
 | some (.dK _)=>True
 | some (.dT _)=>True
 | some (.set _ _)=>True
 | some (.ins _ _ _)=>True
 | some (.ext _)=>True
 | _=>False
section
variable {P:AY}{w:Af}{H:Hp}{h h':Heap}{x e:Addr}{o':HO}
theorem HOk.write(ok:HOk P w H h)(mu:Mut (H x))(he:e=x\/H e=some (.own x))(k:∀ b u,b≠e->h.get? b=some u->h'.get? b=some u)(heo:∃ u,h'.get? e=some u)
  (new:ObjOk P w (upd H x o') h' x o'):HOk P w (upd H x o') h':=fun b u q=>by
 have nown:∀ c y,H c=some (.own y)->c≠x:=fun c y r z=>by subst z; rw[r]at mu; exact mu
 have ntup:∀ c xs,H c=some (.tup xs)->c≠x:=fun c xs r z=>by subst z; rw[r]at mu; exact mu
 by_cases hb:b=x
 ·subst hb; rw[zAf]at q; cases q; exact new
 ·rw[zAJ hb]at q
  by_cases hbe:b=e
  ·have q':H b=some (.own x):=by
    rcases he with z | z
    ·exact absurd (hbe.trans z) hb
    ·rw[hbe]; exact z
   rw[q]at q'; cases q'
   obtain⟨v,hv⟩:=heo
   exact⟨v,by rw[hbe]; exact hv⟩
  ·refine (ok b u q).stay (fun c v hc r=>k c v ?_ r) (fun c r=>by rw[zAJ (nown c b r)]; exact r) fun c xs r=>by rw[zAJ (ntup c xs r)]; exact r
   rcases hc with rfl | hc
   ·exact hbe
   ·rintro rfl
    rcases he with z | z
    ·exact nown c b hc z
    ·rw[hc]at z; cases z; exact hb rfl
end
structure Un(fs ex:List Addr)(H H':Hp)(h h':Heap):Prop where
 keep:∀ b o,h.get? b=some o->H b=none->b∉fs->b∉ex->h'.get? b=some o
 slot:∀ b o,h.get? b=some o->H b=none->b∈fs->b∉ex->∃ sl,h'.get? b=some { o with slots:=sl }
 free:∀ b o,h.get? b=some o->H b=none->b∉ex->H' b=none
 there:∀ b o,h.get? b=some o->b∉ex->∃ o',h'.get? b=some o'
 tups:∀ b xs,H b=some (.tup xs)->H' b=some (.tup xs)
 frzs:∀ b o u,H b=some (.frz o u)->H' b=some (.frz o u)
 tbls:∀ b ps,H b=some (.tbl ps)->∃ more,H' b=some (.tbl (ps++more))
section
variable {fs fs' ex ex':List Addr}{H H1 H2:Hp}{h h1 h2 h':Heap}{a x e:Addr}{o:HO}
theorem Un.any(u:Un fs ex H H1 h h1){b:Addr}{ob:Obj}(q:h.get? b=some ob)(n:H b=none)(hx:b∉ex):∃ sl,h1.get? b=some { ob with slots:=sl }:=by
 by_cases hb:b∈fs
 ·exact u.slot b ob q n hb hx
 ·exact⟨ob.slots,u.keep b ob q n hb hx⟩
theorem Un.kept(k:∀ b u,h.get? b=some u->h'.get? b=some u):Un fs ex H H h h' :=
 ⟨fun b ob q _ _ _=>k b ob q,fun b ob q _ _ _=>⟨ob.slots,k b ob q⟩,fun _ _ _ n _=>n,fun b ob q _=>⟨ob,k b ob q⟩,fun _ _ q=>q,fun _ _ _ q=>q,fun _ ps q=>⟨#[],by rw[q]; simp⟩⟩
theorem Un.refl:Un fs ex H H h h:=Un.kept fun _ _ q=>q
theorem Un.laid(k:∀ b u,h.get? b=some u->h'.get? b=some u)(hp:h.objs.size<=a)(hn:H a=none):Un fs ex H (upd H a o) h h' where
 keep:=fun b u q _ _ _=>k b u q
 slot:=fun b u q _ _ _=>⟨u.slots,k b u q⟩
 free:=fun b u q n _=>by rw[zAJ (Ah (AV (AJ q) hp))]; exact n
 there:=fun b u q _=>⟨u,k b u q⟩
 tups:=fun b xs q=>by rw[zAJ (zAY q hn)]; exact q
 frzs:=fun b u xs q=>by rw[zAJ (zAY q hn)]; exact q
 tbls:=fun b ps q=>⟨#[],by rw[zAJ (zAY q hn),q]; simp⟩
theorem Un.write(mu:Mut (H x))(he:e=x\/H e=some (.own x))(k:∀ b u,b≠e->h.get? b=some u->h'.get? b=some u)(heo:∃ u,h'.get? e=some u):Un fs ex H (upd H x o) h h':=by
 have hx:∀ b,H b=none->b≠x:=fun b n z=>by subst z; rw[n]at mu; exact mu
 have hb:∀ b,H b=none->b≠e:=fun b n z=>by
  subst z
  rcases he with r | r
  ·exact hx b n r
  ·rw[n]at r; cases r
 have hm:∀ b u,H b=some u->¬ Mut (some u)->b≠x:=fun b u q nm z=>by subst z; rw[q]at mu; exact nm mu
 refine⟨fun b u q n _ _=>k b u (hb b n) q,fun b u q n _ _=>⟨u.slots,k b u (hb b n) q⟩,fun b u q n _=>by rw[zAJ (hx b n)]; exact n,fun b u q _=>?_,
  fun b xs q=>by rw[zAJ (hm b _ q fun z=>z)]; exact q,fun b u xs q=>by rw[zAJ (hm b _ q fun z=>z)]; exact q,fun b ps q=>⟨#[],by rw[zAJ (hm b _ q fun z=>z),q]; simp⟩⟩
 by_cases hbe:b=e
 ·subst hbe; exact heo
 ·exact⟨u,k b u hbe q⟩
end
noncomputable def trk (h:Heap) (H:Hp):List Addr:=(A5 h.objs.size).filter fun a=>(H a).isSome
noncomputable def hidT (h:Heap) (H:Hp):Heap:=PySem.W.hideAll h (trk h H)
theorem zJf(h:Heap)(H:Hp):(hidT h H).objs.size=h.objs.size:=PySem.W.hideAll_size _ _
theorem zKZ{h:Heap}{H:Hp}{b:Addr}{o:Obj}(e:h.get? b=some o)(n:H b=none):(hidT h H).get? b=some o :=
 PySem.W.hideAll_get _ e fun hm=>by
  have q:(H b).isSome=true:=(Dm.mp hm).2
  rw[n]at q; simp at q
theorem zLp{h:Heap}{H:Hp}{b:Addr}{o:Obj}(e:(hidT h H).get? b=some o):h.get? b=some o/\H b=none:=by
 have e':h.get? b=some o:=PySem.W.of_hideAll (trk h H) e
 refine⟨e',?_⟩
 cases q:H b with
 | none=>rfl
 | some x =>
  have hm:b∈trk h H:=Dm.mpr ⟨Ey.mpr (AJ e'),by simp[q]⟩
  have z:(hidT h H).get? b=none:=PySem.W.hideAll_none (trk h H) hm
  rw[z]at e; cases e
noncomputable def allNews (g h:Heap) (L:Addr):List (Addr×Obj):=(A5 h.objs.size).filterMap fun a=>if a=L\/(g.get? a).isSome=true then none else (h.get? a).map fun o=>(a,o)
noncomputable def rest (g h:Heap) (L d:Addr):List (Addr×Obj):=(allNews g h L).filter fun p=>decide (p.1≠d)
structure Mod(K:AH)(mg:Str->Option AB)(base:Heap):Prop where
 kin:K.In base
 glob:base.Ns AR mg
 blt:∃ mb,base.Ns G8 mb/\∀ x:Str,x≠"__name__"->mb x=B0 x
 nolimit:base.NoLimit
structure Cx where
 prog:AY
 w:Af
 K:AH
 mg:Str->Option AB
 base:Heap
 A:Ao
 N:List Str
 s₀:AD
 H₀:Hp
 env:Env
 outer:List Env
 stack:List Env
 ex:List Addr
 fn:Str->Bool
 calm:Bool
 pn:List (Addr×Obj)
 xe:AB->AD->Prop
noncomputable def frs (l:List Env):List Addr:=l.filterMap (·.frame)
noncomputable abbrev Cx.fs (X:Cx):List Addr:=frs X.outer
def Vis (sc:B6) (x:Str):Prop:=sc.names.lookup x=some .local\/sc.names.lookup x=some .cell\/sc.names.lookup x=some .free
def Loc (sc:B6) (x:Str):Prop:=sc.names.lookup x=some .local\/sc.names.lookup x=some .cell
noncomputable def Look (env:Env) (h:Heap) (m:Str->Option AB) (x:Str) (u:AB):Prop :=
 (env.kindOf x=some .local/\m x=some u)\/((env.kindOf x=some .cell\/env.kindOf x=some .free)/\∃ c,env.cells.lookup x=some c/\h.IsCell c (some u))
structure Cx.Ok(X:Cx):Prop where
 mod:Mod X.K X.mg X.base
 kind:X.env.scope.kind=.function
 glob:X.env.globals=AR
 blt:X.env.builtins=G8
 above:X.s₀.heap.objs.size<=X.env.locals
 inj:∀ x y c,X.env.cells.lookup x=some c->X.env.cells.lookup y=some c->x=y
 has:∀ x,(X.env.kindOf x=some .cell\/X.env.kindOf x=some .free)->∃ c,X.env.cells.lookup x=some c
 cab:∀ x c,X.fn x=true->X.env.cells.lookup x=some c->X.s₀.heap.objs.size<=c
 hd:X.calm=true->X.A.handled=none
 frames:X.A.frames=some X.stack
 stk:X.stack=X.outer\/(X.stack=X.env::X.outer/\X.env.frame=some X.env.locals)
 exf:∀ b∈X.ex,b≠X.env.locals/\∀ x c,X.env.cells.lookup x=some c->c≠b
 bs:∀ b o,X.base.get? b=some o->X.s₀.heap.get? b=some o/\X.H₀ b=none
 bsz:X.base.objs.size<=X.s₀.heap.objs.size
 noex:∀ b o,X.base.get? b=some o->b∉X.ex
 exfs:∀ b∈X.ex,b∉X.fs
 funs:X.s₀.heap.FunFrames X.base X.outer
 frf:∀ b∈X.fs,X.H₀ b=none
structure Inv(X:Cx)(pins:List (Addr×Obj))(σ:List (Option V))(H:Hp)(s:AD):Prop where
 ok:X.Ok
 os:s.os=X.s₀.os
 bare:EF s.gens
 base:Un X.fs X.ex X.H₀ H X.s₀.heap s.heap
 loc:∃ m,s.heap.Ns X.env.locals m/\∀ (i:Nat) (x:Str) (v:V),X.N[i]?=some x->σ[i]?=some (some v)->Vis X.env.scope x->∃ u,RelV v u/\Look X.env s.heap m x u
 cell:∀ x c,X.env.cells.lookup x=some c->∃ v,s.heap.IsCell c v
 free:H X.env.locals=none
 freeC:∀ x c,X.env.cells.lookup x=some c->H c=none
 pin:∀ p∈X.pn++pins,s.heap.get? p.1=some p.2/\H p.1=none/\p.1≠X.env.locals/\p.1∉X.fs/\∀ v,p.2.data≠.cell v
 hok:HOk X.prog X.w H s.heap
 len:σ.length=X.N.length
section
variable {X:Cx}{pins:List (Addr×Obj)}{σ:List (Option V)}{H H':Hp}{s:AD}{h':Heap}
theorem Cx.Ok.nofr(ok:X.Ok){b:Addr}{o:Obj}(e:X.base.get? b=some o):b∉X.fs:=fun hb=>by
 have:=(ok.funs.mem hb).1
 rw[e]at this; cases this
theorem Inv.bs(I:Inv X pins σ H s):∀ b o,X.base.get? b=some o->s.heap.get? b=some o/\H b=none:=fun b o e =>
 ⟨I.base.keep b o (I.ok.bs b o e).1 (I.ok.bs b o e).2 (I.ok.nofr e) (I.ok.noex b o e),I.base.free b o (I.ok.bs b o e).1 (I.ok.bs b o e).2 (I.ok.noex b o e)⟩
theorem Inv.bk(I:Inv X pins σ H s):∀ b o,X.base.get? b=some o->s.heap.get? b=some o:=fun b o e=>(I.bs b o e).1
theorem Inv.mod(I:Inv X pins σ H s):Mod X.K X.mg X.base:=I.ok.mod
theorem Inv.kIn(I:Inv X pins σ H s):X.K.In s.heap:=I.ok.mod.kin.keeps I.bk
theorem Inv.lt(I:Inv X pins σ H s):X.env.locals < s.heap.objs.size:=let ⟨_,hn,_⟩:=I.loc; hn.lt
theorem Inv.sz(I:Inv X pins σ H s):X.s₀.heap.objs.size<=s.heap.objs.size:=Aa I.ok.above (CN I.lt)
theorem Inv.nofs(I:Inv X pins σ H s){a:Addr}(h:s.heap.objs.size<=a):a∉X.fs:=fun hb=>by
 obtain⟨_,o,ho,_⟩:=I.ok.funs.mem hb
 exact absurd (AV (AJ ho) (Aa I.sz h)) (BK _)
theorem Inv.cne(I:Inv X pins σ H s):∀ x c,X.env.cells.lookup x=some c->c≠X.env.locals:=fun x c e z=>by
 obtain⟨v,o,ho,hd⟩:=I.cell x c e
 obtain⟨m,⟨o',es,ep,ho',hd',_⟩,_⟩:=I.loc
 rw[z,ho']at ho; cases ho; rw[hd']at hd; cases hd
theorem Inv.funs(I:Inv X pins σ H s):s.heap.FunFrames X.base X.outer:=by
 have all:∀ (l:List Env),(∀ b∈frs l,b∈X.fs)->X.s₀.heap.FunFrames X.base l->s.heap.FunFrames X.base l:=by
  intro l
  induction l with
  | nil=>intro _ _; trivial
  | cons env r ih =>
   intro hs hl
   obtain⟨hk,⟨L,o,hf,hn,ho,hd⟩,hr⟩:=hl
   have hL:L∈X.fs:=hs L (by unfold frs; rw[E8,hf]; exact AQ)
   obtain⟨sl,e⟩:=I.base.slot L o ho (I.ok.frf L hL) hL fun z=>I.ok.exfs L z hL
   exact⟨hk,⟨L,_,hf,hn,e,hd⟩,ih (fun b hb=>hs b (by unfold frs; rw[E8,hf]; exact AK _ hb)) hr⟩
 exact all X.outer (fun _ hb=>hb) I.ok.funs
theorem Inv.stack(I:Inv X pins σ H s):s.heap.FunFrames X.base X.stack:=by
 rcases I.ok.stk with e | ⟨e,hf⟩
 ·rw[e]; exact I.funs
 ·rw[e]
  obtain⟨m,hn,_⟩:=I.loc
  refine .cons (by rw[I.ok.kind]; decide) hf hn ?_ I.funs
  exact Cv (Aa I.ok.bsz I.ok.above)
theorem Inv.stkSub(I:Inv X pins σ H s):∀ b∈frs X.stack,b∈X.env.locals::X.fs:=fun b hb=>by
 rcases I.ok.stk with e | ⟨e,hf⟩
 ·rw[e]at hb; exact AK _ hb
 ·rw[e]at hb
  unfold frs at hb
  rw[E8,hf]at hb
  exact hb
theorem Inv.stkFree(I:Inv X pins σ H s):∀ b∈frs X.stack,H b=none:=fun b hb=>by
 rcases AO.mp (I.stkSub b hb) with e | hb
 ·rw[e]; exact I.free
 ·obtain⟨_,o,ho,_⟩:=I.ok.funs.mem hb
  exact I.base.free b o ho (I.ok.frf b hb) fun z=>I.ok.exfs b z hb
theorem Inv.step{g':Array GH}{t':Nat}{d':JR}{ch:List Addr}(I:Inv X pins σ H s)
  (hch:∀ b∈ch,(b∈X.ex\/X.s₀.heap.objs.size<=b)/\b≠X.env.locals/\(∀ x c,X.env.cells.lookup x=some c->c≠b)/\∀ p∈X.pn++pins,p.1≠b)
  (keep:∀ b o,b≠X.env.locals->b∉X.fs->b∉ch->s.heap.get? b=some o->H b=none->h'.get? b=some o)
  (slot:∀ b o,b≠X.env.locals->b∈X.fs->b∉ch->s.heap.get? b=some o->H b=none->∃ sl,h'.get? b=some { o with slots:=sl }) (free:∀ b o,b∉ch->s.heap.get? b=some o->H b=none->H' b=none)
  (there:∀ b o,b∉ch->s.heap.get? b=some o->∃ o',h'.get? b=some o')
  (tups:∀ b xs,H b=some (.tup xs)->H' b=some (.tup xs)) (frzs:∀ b o u,H b=some (.frz o u)->H' b=some (.frz o u)) (tbls:∀ b ps,H b=some (.tbl ps)->∃ more,H' b=some (.tbl (ps++more)))
  (ns:∀ m,s.heap.Ns X.env.locals m->h'.Ns X.env.locals m) (hok:HOk X.prog X.w H' h') (hg:EF g') :
  Inv X pins σ H' { s with heap:=h',gens:=g',drawn:=d',toks:=t' }:=by
 have neL:∀ b o,X.s₀.heap.get? b=some o->b≠X.env.locals:=fun b o e=>Ah (AV (AJ e) I.ok.above)
 have neC:∀ b o,X.s₀.heap.get? b=some o->b∉X.ex->b∉ch:=fun b o e hx hb=>by
  rcases (hch b hb).1 with z | z
  ·exact hx z
  ·exact absurd (AV (AJ e) z) (BK _)
 have cellK:∀ x c,X.env.cells.lookup x=some c->∀ v,s.heap.IsCell c v->h'.IsCell c v:=fun x c e v ⟨o,ho,hd⟩=>by
  have nch:c∉ch:=fun z=>(hch c z).2.2.1 x c e rfl
  by_cases hc:c∈X.fs
  ·obtain⟨sl,q⟩:=slot c o (I.cne x c e) hc nch ho (I.freeC x c e)
   exact⟨_,q,hd⟩
  ·exact⟨o,keep c o (I.cne x c e) hc nch ho (I.freeC x c e),hd⟩
 refine⟨I.ok,I.os,hg,⟨fun b o e n hb hx=>?_,fun b o e n hb hx=>?_,fun b o e n hx=>?_,fun b o e hx=>?_,fun b xs e=>tups b xs (I.base.tups b xs e),fun b o xs e=>frzs b o xs (I.base.frzs b o xs e),fun b ps e=>?_⟩,?_,fun x c e=>?_,?_,fun x c e=>?_,fun p hp=>?_,hok,I.len⟩
 ·exact keep b o (neL b o e) hb (neC b o e hx) (I.base.keep b o e n hb hx) (I.base.free b o e n hx)
 ·obtain⟨sl,e1⟩:=I.base.slot b o e n hb hx
  obtain⟨sl',e2⟩:=slot b _ (neL b o e) hb (neC b o e hx) e1 (I.base.free b o e n hx)
  exact⟨sl',e2⟩
 ·obtain⟨o',e1⟩:=I.base.there b o e hx
  exact free b o' (neC b o e hx) e1 (I.base.free b o e n hx)
 ·obtain⟨o',e1⟩:=I.base.there b o e hx
  exact there b o' (neC b o e hx) e1
 ·obtain⟨m1,e1⟩:=I.base.tbls b ps e
  obtain⟨m2,e2⟩:=tbls b _ e1
  exact⟨m1++m2,by rw[e2,Array.append_assoc]⟩
 ·obtain⟨m,hn,hl⟩:=I.loc
  refine⟨m,ns m hn,fun i x v e1 e2 e3=>?_⟩
  obtain⟨u,r,l⟩:=hl i x v e1 e2 e3
  refine⟨u,r,?_⟩
  rcases l with l | ⟨k,c,e,z⟩
  ·exact .inl l
  ·exact .inr ⟨k,c,e,cellK x c e _ z⟩
 ·obtain⟨v,z⟩:=I.cell x c e
  exact⟨v,cellK x c e v z⟩
 ·obtain⟨m,⟨o,_,_,ho,_⟩,_⟩:=I.loc
  exact free _ o (fun z=>(hch _ z).2.1 rfl) ho I.free
 ·obtain⟨v,o,ho,hd⟩:=I.cell x c e
  exact free c o (fun z=>(hch c z).2.2.1 x c e rfl) ho (I.freeC x c e)
 ·obtain⟨e,n,ne,nf,d⟩:=I.pin p hp
  have nch:p.1∉ch:=fun z=>(hch p.1 z).2.2.2 p hp rfl
  exact⟨keep p.1 p.2 ne nf nch e n,free p.1 p.2 nch e n,ne,nf,d⟩
theorem Inv.un{t':Nat}(I:Inv X pins σ H s)(u:Un X.fs [] H H' s.heap h')(hok:HOk X.prog X.w H' h'):Inv X pins σ H' { s with heap:=h',toks:=t' }:=by
 obtain⟨m,⟨o,es,ep,ho,r⟩,_⟩:=id I.loc
 obtain⟨sl,hL⟩:=u.any ho I.free (by simp)
 exact I.step (g':=s.gens) (d':=s.drawn) (ch:=[]) (fun _ z=>nomatch z) (fun b o _ hb _ e n=>u.keep b o e n hb (by simp)) (fun b o _ hb _ e n=>u.slot b o e n hb (by simp)) (fun b o _ e n=>u.free b o e n (by simp)) (fun b o _ e=>u.there b o e (by simp)) u.tups u.frzs u.tbls (fun m' hm=>by
  obtain⟨o',es',ep',ho',r'⟩:=hm
  rw[ho]at ho'; cases ho'
  exact⟨_,es',ep',hL,r'⟩) hok I.bare
theorem Inv.call{g':Array GH}{t':Nat}{d':JR}{ch:List Addr}(I:Inv X pins σ H s)(u:Un (frs X.stack) ch H H' s.heap h')(hok:HOk X.prog X.w H' h')(hg:EF g')
  (hch:∀ b∈ch,(b∈X.ex\/X.s₀.heap.objs.size<=b)/\b≠X.env.locals/\(∀ x c,X.env.cells.lookup x=some c->c≠b)/\∀ p∈X.pn++pins,p.1≠b) :
  Inv X pins σ H' { s with heap:=h',gens:=g',drawn:=d',toks:=t' }:=by
 obtain⟨m,⟨o,es,ep,ho,r⟩,_⟩:=id I.loc
 obtain⟨sl,hL⟩:=u.any ho I.free fun z=>(hch _ z).2.1 rfl
 exact I.step (ch:=ch) hch (fun b o hL hb hc e n=>u.keep b o e n (fun z=>(AO.mp (I.stkSub b z)).elim hL hb) hc) (fun b o _ _ hc e n=>u.any e n hc) (fun b o hc e n=>u.free b o e n hc) (fun b o hc e=>u.there b o e hc) u.tups u.frzs u.tbls (fun m' hm=>by
  obtain⟨o',es',ep',ho',r'⟩:=hm
  rw[ho]at ho'; cases ho'
  exact⟨_,es',ep',hL,r'⟩) hok hg
theorem Inv.turned{t':Nat}{it:Addr}(I:Inv X pins σ H s)(k:∀ b o,b≠it->s.heap.get? b=some o->h'.get? b=some o)(hn:H it=none)(hL:it≠X.env.locals)
  (h1:it∈X.ex\/X.s₀.heap.objs.size<=it) (h2:∀ x c,X.env.cells.lookup x=some c->c≠it) (h3:∀ p∈X.pn++pins,p.1≠it):Inv X pins σ H { s with heap:=h',toks:=t' }:=by
 have nit:∀ b u,H b=some u->b≠it:=fun b u e z=>by rw[z,hn]at e; cases e
 refine I.step (g':=s.gens) (d':=s.drawn) (ch:=[it]) (fun b hb=>?_) (fun b o _ _ hc e _=>k b o (fun z=>hc (by simp[z])) e) (fun b o _ _ hc e _=>⟨o.slots,k b o (fun z=>hc (by simp[z])) e⟩) (fun _ _ _ _ n=>n)
  (fun b o hc e=>⟨o,k b o (fun z=>hc (by simp[z])) e⟩) (fun _ _ e=>e) (fun _ _ _ e=>e) (fun b ps e=>⟨#[],by rw[e]; simp⟩) (fun m hm=>?_) (fun b u e=>?_) I.bare
 ·have e:b=it:=by simpa using hb
  subst e
  exact⟨h1,hL,h2,h3⟩
 ·obtain⟨o,es,ep,ho,r⟩:=hm
  exact⟨o,es,ep,k _ o (Az hL) ho,r⟩
 ·refine (I.hok b u e).stay (fun c v hc q=>k c v ?_ q) (fun _ q=>q) fun _ _ q=>q
  rcases hc with z | z
  ·rw[z]; exact nit b u e
  ·exact nit c _ z
theorem Inv.tok(I:Inv X pins σ H s)(t:Nat):Inv X pins σ H { s with toks:=t }:=I.un (h':=s.heap) (t':=t) Un.refl I.hok
theorem Inv.kept{t':Nat}(I:Inv X pins σ H s)(k:∀ b u,s.heap.get? b=some u->h'.get? b=some u):Inv X pins σ H { s with heap:=h',toks:=t' }:=I.un (Un.kept k) (I.hok.kept k)
theorem Inv.laid{a:Addr}{o:HO}{t':Nat}(I:Inv X pins σ H s)(k:∀ b u,s.heap.get? b=some u->h'.get? b=some u)(hp:s.heap.objs.size<=a)(new:ObjOk X.prog X.w (upd H a o) h' a o) :
  Inv X pins σ (upd H a o) { s with heap:=h',toks:=t' }:=I.un (Un.laid k hp (I.hok.fresh hp)) (I.hok.laid k hp new)
theorem Inv.write{x e:Addr}{o:HO}{t':Nat}(I:Inv X pins σ H s)(mu:Mut (H x))(he:e=x\/H e=some (.own x))(k:∀ b u,b≠e->s.heap.get? b=some u->h'.get? b=some u)(heo:∃ u,h'.get? e=some u)
  (new:ObjOk X.prog X.w (upd H x o) h' x o):Inv X pins σ (upd H x o) { s with heap:=h',toks:=t' }:=I.un (Un.write mu he k heo) (I.hok.write mu he k heo new)
theorem Inv.pins_of{pins':List (Addr×Obj)}(I:Inv X pins σ H s)(h:∀ p∈pins',s.heap.get? p.1=some p.2/\H p.1=none/\p.1≠X.env.locals/\p.1∉X.fs/\∀ v,p.2.data≠.cell v):Inv X pins' σ H s :=
 ⟨I.ok,I.os,I.bare,I.base,I.loc,I.cell,I.free,I.freeC,fun p hp=>(C6.mp hp).elim (fun z=>I.pin p (Ez _ z)) (h p),I.hok,I.len⟩
theorem zDV{N:List Str}(hN:N.Nodup){i j:Nat}{x:Str}(a:N[i]?=some x)(b:N[j]?=some x):i=j:=by
 obtain⟨h1,e1⟩:=Ac.mp a
 obtain⟨h2,e2⟩:=Ac.mp b
 exact (List.getElem_inj hN).mp (e1.trans e2.symm)
theorem zES{M:Gj}{A:Ao}{E:AB->AD->Prop}{i:Nat}{x:Str}{v:V}{u:AB}{Q:Unit->AD->Prop}(I:Inv X pins σ H s)(hN:X.N.Nodup)(hi:X.N[i]?=some x)(hx:Loc X.env.scope x)(r:RelV v u)
  (h:∀ s',Inv X pins (σ.set i (some v)) H s'->(∃ a,BZ a s.heap s'.heap/\(a=X.env.locals\/X.env.cells.lookup x=some a))->Q () s') (hf:X.fn x=true\/X.env.scope.names.lookup x=some .local:=by first | exact .inl rfl | exact .inr rfl | assumption):AM M A (storeName X.env x u) Q E s:=by
 obtain⟨m,hn,hl⟩:=id I.loc
 have hcls:(X.env.scope.kind == .class || (X.env.scope.kind == .module && X.env.locals != X.env.globals))=false:=by rw[I.ok.kind]; rfl
 have hiσ:i < σ.length:=by rw[I.len]; exact (Ac.mp hi).1
 have cne:=I.cne
 have tracked:∀ {a:Addr} {h':Heap},(∃ o,s.heap.get? a=some o/\H a=none)->BZ a s.heap h'->HOk X.prog X.w H h':=fun {a h'} ha hs b ob e=>by
  obtain⟨_,_,hfree⟩:=ha
  refine (I.hok b ob e).stay (fun c w' hc q=>(hs.2 c ?_).trans q) (fun _ q=>q) fun _ _ q=>q
  rintro rfl
  rcases hc with rfl | hc
  ·rw[hfree]at e; cases e
  ·rw[hfree]at hc; cases hc
 rcases hx with hk | hk
 ·refine wpAny_storeName_local hk hn (fun h' hn' hs=>?_) hcls
  obtain⟨oL,_,_,hoL,_⟩:=id hn
  refine h _ ⟨I.ok,I.os,I.bare,⟨fun b o e n hb hx=>?_,fun b o e n hb hx=>?_,I.base.free,fun b o e hx=>?_,I.base.tups,I.base.frzs,I.base.tbls⟩,⟨_,hn',fun j y v' e1 e2 e3=>?_⟩,fun y c e=>?_,I.free,I.freeC,fun p hp=>?_,tracked ⟨oL,hoL,I.free⟩ hs,by simpa using I.len⟩ ⟨_,hs,.inl rfl⟩
  ·exact (hs.2 b (Ah (AV (AJ e) I.ok.above))).trans (I.base.keep b o e n hb hx)
  ·obtain⟨sl,e1⟩:=I.base.slot b o e n hb hx
   exact⟨sl,(hs.2 b (Ah (AV (AJ e) I.ok.above))).trans e1⟩
  ·obtain⟨o',e1⟩:=I.base.there b o e hx
   exact⟨o',(hs.2 b (Ah (AV (AJ e) I.ok.above))).trans e1⟩
  ·by_cases hj:j=i
   ·subst hj
    rw[hi]at e1; cases e1
    rw[Ar hiσ]at e2
    cases e2
    exact⟨u,r,.inl ⟨hk,by simp⟩⟩
   ·rw[AW (Az hj)]at e2
    obtain⟨u',r',q⟩:=hl j y v' e1 e2 e3
    refine⟨u',r',?_⟩
    rcases q with ⟨k,e⟩ | ⟨k,c,e,z⟩
    ·refine .inl ⟨k,?_⟩
     have:y≠x:=fun e=>hj (zDV hN e1 (e ▸ hi))
     simp[this,e]
    ·exact .inr ⟨k,c,e,z.sameBut hs (cne y c e)⟩
  ·obtain⟨w',z⟩:=I.cell y c e
   exact⟨w',z.sameBut hs (cne y c e)⟩
  ·obtain⟨e,n,ne,nf,d⟩:=I.pin p hp
   exact⟨(hs.2 p.1 ne).trans e,n,ne,nf,d⟩
 ·have hfn:X.fn x=true:=by
   rcases hf with z | z
   ·exact z
   ·rw[z]at hk; cases hk
  obtain⟨c,hc⟩:=I.ok.has x (.inl hk)
  obtain⟨w',z⟩:=I.cell x c hc
  refine wpAny_storeName_cell I.ok.kind hk hc z (fun h' hc' hs=>?_)
  obtain⟨oc,hoc,hocd⟩:=id z
  refine h { s with heap:=h' } ⟨I.ok,I.os,I.bare,⟨fun b o e n hb hx=>?_,fun b o e n hb hx=>?_,I.base.free,fun b o e hx=>?_,I.base.tups,I.base.frzs,I.base.tbls⟩,⟨m,hn.sameBut hs (Az (cne x c hc)),fun j y v' e1 e2 e3=>?_⟩,fun y c' e=>?_,I.free,I.freeC,fun p hp=>?_,tracked ⟨oc,hoc,I.freeC x c hc⟩ hs,by simpa using I.len⟩ ⟨c,hs,.inr hc⟩
  ·exact (hs.2 b (Ah (AV (AJ e) (I.ok.cab x c hfn hc)))).trans (I.base.keep b o e n hb hx)
  ·obtain⟨sl,e1⟩:=I.base.slot b o e n hb hx
   exact⟨sl,(hs.2 b (Ah (AV (AJ e) (I.ok.cab x c hfn hc)))).trans e1⟩
  ·obtain⟨o',e1⟩:=I.base.there b o e hx
   exact⟨o',(hs.2 b (Ah (AV (AJ e) (I.ok.cab x c hfn hc)))).trans e1⟩
  ·by_cases hj:j=i
   ·subst hj
    rw[hi]at e1; cases e1
    rw[Ar hiσ]at e2
    cases e2
    exact⟨u,r,.inr ⟨.inl hk,c,hc,hc'⟩⟩
   ·rw[AW (Az hj)]at e2
    obtain⟨u',r',q⟩:=hl j y v' e1 e2 e3
    refine⟨u',r',?_⟩
    rcases q with q | ⟨k,c',e,z'⟩
    ·exact .inl q
    ·refine .inr ⟨k,c',e,z'.sameBut hs ?_⟩
     rintro rfl
     exact hj (zDV hN e1 (I.ok.inj _ _ _ e hc ▸ hi))
  ·by_cases hcc:c'=c
   ·subst hcc; exact⟨_,hc'⟩
   ·obtain⟨w2,z2⟩:=I.cell y c' e
    exact⟨w2,z2.sameBut hs hcc⟩
  ·obtain⟨e,n,ne,nf,d⟩:=I.pin p hp
   refine⟨(hs.2 p.1 ?_).trans e,n,ne,nf,d⟩
   intro q
   rw[q,hoc]at e
   have q':oc=p.2:=As e
   exact d w' (by rw[← q']; exact hocd)
theorem zAz{M:Gj}{A:Ao}{E:AB->AD->Prop}{i:Nat}{x:Str}{v:V}{u:AB}{Q:Unit->AD->Prop}(I:Inv X pins σ H s)(hN:X.N.Nodup)(hi:X.N[i]?=some x)(hx:Loc X.env.scope x)(r:RelV v u)
  (h:∀ s',Inv X pins (σ.set i (some v)) H s'->Q () s') (hf:X.fn x=true\/X.env.scope.names.lookup x=some .local:=by first | exact .inl rfl | exact .inr rfl | assumption):AM M A (storeName X.env x u) Q E s :=
 zES I hN hi hx r (fun s' I' _=>h s' I') hf
theorem Inv.call'{s':AD}{ch:List Addr}(I:Inv X pins σ H s)(ho:s'.os=s.os)(u:Un (frs X.stack) ch H H' s.heap s'.heap)(hok:HOk X.prog X.w H' s'.heap)(hg:EF s'.gens)
  (hch:∀ b∈ch,(b∈X.ex\/X.s₀.heap.objs.size<=b)/\b≠X.env.locals/\(∀ x c,X.env.cells.lookup x=some c->c≠b)/\∀ p∈X.pn++pins,p.1≠b):Inv X pins σ H' s':=by
 obtain⟨h',g',d',t',o'⟩:=s'
 have e:o'=s.os:=ho
 subst e
 exact I.call (g':=g') (t':=t') (d':=d') u hok hg hch
end
abbrev XK:=AB->Option Addr->Hp->Prop
abbrev St:=List (Option V)
abbrev VK:=V->Hp->Prop
abbrev TE:=St->Hp->VK->Prop
abbrev TT:=St->Hp->(Bool->Hp->Prop)->Prop
abbrev TA:=St->Hp->(List V->Hp->Prop)->Prop
structure Ends where
 nx:St->Hp->Prop
 rt:VK
 bk:St->Hp->Prop:=fun _ _=>False
 ct:St->Hp->Prop:=fun _ _=>False
abbrev TS:=Ends->St->Hp->Prop
def EP (X:Cx) (pins:List (Addr×Obj)) (σ:St) (Q:VK) (u:AB) (s':AD):Prop:=∃ v H',Inv X pins σ H' s'/\RelV v u/\Q v H'
def TP (X:Cx) (pins:List (Addr×Obj)) (σ:St) (Q:Bool->Hp->Prop) (b:Bool) (s':AD):Prop:=∃ H',Inv X pins σ H' s'/\Q b H'
def AP (X:Cx) (pins:List (Addr×Obj)) (σ:St) (Q:List V->Hp->Prop) (us:List AB) (s':AD):Prop:=∃ vs H',Inv X pins σ H' s'/\Vals vs us/\Q vs H'
noncomputable def SP (X:Cx) (pins:List (Addr×Obj)) (D:Ends) (f:Flow) (s':AD):Prop :=
 match f with
 | .next=>∃ σ' H',Inv X pins σ' H' s'/\D.nx σ' H'
 | .brk=>∃ σ' H',Inv X pins σ' H' s'/\D.bk σ' H'
 | .cont=>∃ σ' H',Inv X pins σ' H' s'/\D.ct σ' H'
 | .ret u=>∃ v σ' H',Inv X pins σ' H' s'/\RelV v u/\D.rt v H'
noncomputable def PE (X:Cx) (e:Expr) (t:TE):Prop :=
 ∀ (pins:List (Addr×Obj)) (s:AD) (σ:St) (H:Hp) (Q:VK),Inv X pins σ H s->t σ H Q->AM (model X.prog X.w) X.A (eval e X.env) (EP X pins σ Q) X.xe s
noncomputable def PT (X:Cx) (e:Expr) (t:TT):Prop :=
 ∀ (pins:List (Addr×Obj)) (s:AD) (σ:St) (H:Hp) (Q:Bool->Hp->Prop),Inv X pins σ H s->t σ H Q->AM (model X.prog X.w) X.A (G9 e X.env (eval e X.env)) (TP X pins σ Q) X.xe s
noncomputable def PW (X:Cx) (e:Expr) (t:TT):Prop :=
 ∀ (whole:Sem AB) (pins:List (Addr×Obj)) (s:AD) (σ:St) (H:Hp) (Q:Bool->Hp->Prop),Inv X pins σ H s->t σ H Q->AM (model X.prog X.w) X.A (G9 e X.env whole) (TP X pins σ Q) X.xe s
theorem PW.pt{X:Cx}{e:Expr}{t:TT}(h:PW X e t):PT X e t:=h _
noncomputable def PA (X:Cx) (es:List Expr) (t:TA):Prop :=
 ∀ (pos:Pos) (pins:List (Addr×Obj)) (s:AD) (σ:St) (H:Hp) (Q:List V->Hp->Prop),Inv X pins σ H s->t σ H Q->AM (model X.prog X.w) X.A (spliced (Bd pos (AI es X.env))) (AP X pins σ Q) X.xe s
noncomputable def PS (X:Cx) (st:Stmt) (t:TS):Prop :=
 ∀ (pins:List (Addr×Obj)) (s:AD) (σ:St) (H:Hp) (D:Ends),Inv X pins σ H s->t D σ H->AM (model X.prog X.w) X.A (exec st X.env) (SP X pins D) X.xe s
noncomputable def PSs (X:Cx) (st:List Stmt) (t:TS):Prop :=
 ∀ (pins:List (Addr×Obj)) (s:AD) (σ:St) (H:Hp) (D:Ends),Inv X pins σ H s->t D σ H->AM (model X.prog X.w) X.A (execs st X.env) (SP X pins D) X.xe s
theorem thn{α:Type}{t:Sem α}{Q Q':α->AD->Prop}{M:Gj}{A:Ao}{E:AB->AD->Prop}{s:AD}(h:AM M A t Q E s)(hQ:∀ a s,Q a s->Q' a s):AM M A t Q' E s:=BF h hQ fun _ _ x=>x
section
variable {X:Cx}
theorem bin{a b:Expr}{ta tb:TE}(ha:PE X a ta)(hb:PE X b tb){pins:List (Addr×Obj)}{s:AD}{σ:St}{H:Hp}{R:V->V->Hp->Prop}(I:Inv X pins σ H s)(h:ta σ H fun x H1=>tb σ H1 fun y H2=>R x y H2)
  {α:Type} {Q:α->AD->Prop} {f:AB->AB->Sem α}
  (hf:∀ v u s2 x y H2,Inv X pins σ H2 s2->RelV x v->RelV y u->R x y H2->AM (model X.prog X.w) X.A (f v u) Q X.xe s2) :
  AM (model X.prog X.w) X.A (eval a X.env) (fun v s₁=>AM (model X.prog X.w) X.A (eval b X.env) (fun u s₂=>AM (model X.prog X.w) X.A (f v u) Q X.xe s₂) X.xe s₁) X.xe s:=by
 refine thn (ha pins s σ H _ I h) fun v s1 ⟨x,H1,I1,r1,q1⟩=>?_
 refine thn (hb pins s1 σ H1 _ I1 q1) fun u s2 ⟨y,H2,I2,r2,q2⟩=>?_
 exact hf v u s2 x y H2 I2 r1 r2 q2
noncomputable def tVar (i:Nat):TE:=fun σ H Q=>∃ v,σ[i]?=some (some v)/\Q v H
noncomputable def tC (v:V):TE:=fun _ H Q=>Q v H
theorem zCX{i:Nat}{x:Str}{pos:Pos}(hN:X.N[i]?=some x)(hv:Vis X.env.scope x)(hd:(x == ("__debug__":Str))=false:=by decide)(hcd:(x == ("__classdict__":Str))=false:=by decide):PE X (.Name x pos) (tVar i):=by
 intro pins s σ H Q I h
 obtain⟨v,e,h⟩:=h
 obtain⟨m,hn,hl⟩:=I.loc
 obtain⟨u,r,l⟩:=hl i x v hN e hv
 have fin:EP X pins σ Q u s:=⟨v,H,I,r,h⟩
 rcases l with ⟨hk,hm⟩ | ⟨hk,c,hc,hcell⟩
 ·exact JA (wpAny_loadName_local I.ok.kind hk hn hm fin) hd
 ·rcases hk with hk | hk
  ·exact JA (wpAny_loadName_cell I.ok.kind hk hc hcell fin) hd
  ·exact JA (wpAny_loadName_free I.ok.kind hk hc hcell fin hcd) hd
theorem zNs{i j pos}:PE X (.Constant (.int i) j pos) (tC (.int i)):=fun _ _ _ H _ I h=>wpAny_Constant_int ⟨.int i,H,I.tok _,⟨_,rfl⟩,h⟩
theorem zPC{b j pos}:PE X (.Constant (.bool b) j pos) (tC (.bl b)):=fun _ _ _ H _ I h=>Constant_bool ⟨.bl b,H,I,rfl,h⟩
theorem zNA{j pos}:PE X (.Constant .none j pos) (tC .non):=fun _ _ _ H _ I h=>Constant_none ⟨.non,H,I,rfl,h⟩
theorem zNF{x j pos}:PE X (.Constant (.str x) j pos) (tC (.str x)):=fun _ _ _ H _ I h=>Calls.Constant_str ⟨.str x,H,I.tok _,⟨_,rfl⟩,h⟩
def Gl (X:Cx) (x:Str):Prop:=X.env.kindOf x=some .globalImplicit
theorem zBL{E:AB->AD->Prop}{pins:List (Addr×Obj)}{s:AD}{σ:St}{H:Hp}{x:Str}{u:AB}{pos:Pos}{Q:AB->AD->Prop}(I:Inv X pins σ H s)(hg:Gl X x)(hm:X.mg x=some u)(h:Q u s)
  (hd:(x == ("__debug__":Str))=false:=by decide):AM (model X.prog X.w) X.A (eval (.Name x pos) X.env) Q E s :=
 GI I.ok.kind hg (Calls.loadGlobal_global (by rw[I.ok.glob]; exact I.mod.glob.keeps I.bk) hm h) hd
theorem zA9{E:AB->AD->Prop}{pins:List (Addr×Obj)}{s:AD}{σ:St}{H:Hp}{x:Str}{u:AB}{pos:Pos}{Q:AB->AD->Prop}(I:Inv X pins σ H s)(hg:Gl X x)(hm:X.mg x=none)(hv:B0 x=some u)(h:Q u s)
  (hn:x≠"__name__":=by decide) (hd:(x == ("__debug__":Str))=false:=by decide):AM (model X.prog X.w) X.A (eval (.Name x pos) X.env) Q E s:=by
 obtain⟨mb,h1,h2⟩:=I.mod.blt
 exact GI I.ok.kind hg (Calls.loadGlobal_builtin (by rw[I.ok.glob]; exact I.mod.glob.keeps I.bk) hm (by rw[I.ok.blt]; exact h1.keeps I.bk) ((h2 x hn).trans hv) h) hd
theorem zEI{x:Str}{v:V}{u:AB}{pos:Pos}(hg:Gl X x)(hm:X.mg x=some u)(r:RelV v u)(hd:(x == ("__debug__":Str))=false:=by decide):PE X (.Name x pos) (tC v) :=
 fun _ _ _ H _ I h=>zBL I hg hm ⟨v,H,I,r,h⟩ hd
theorem zL1{x:Str}{v:V}{u:AB}{pos:Pos}(hg:Gl X x)(hm:X.mg x=none)(hv:B0 x=some u)(r:RelV v u)(hn:x≠"__name__":=by decide)(hd:(x == ("__debug__":Str))=false:=by decide):PE X (.Name x pos) (tC v) :=
 fun _ _ _ H _ I h=>zA9 I hg hm hv ⟨v,H,I,r,h⟩ hn hd
variable {a b:Expr}{ta tb:TE}{pos:Pos}
variable {tA tB':TT}{rest:List Expr}
noncomputable def tAnd (t u:TT):TT:=fun σ H Q=>t σ H fun c H1=>if c=true then u σ H1 Q else Q false H1
noncomputable def tOr (t u:TT):TT:=fun σ H Q=>t σ H fun c H1=>if c=true then Q true H1 else u σ H1 Q
noncomputable def tNot (t:TT):TT:=fun σ H Q=>t σ H fun c H1=>Q (!c) H1
theorem zLl(ha:PT X a tA):PW X (.BoolOp .And [a] pos) tA:=by
 intro wh pins s σ H Q I h
 refine isTrue_and (thn (ha pins s σ H Q I h) fun c s1 e=>?_)
 cases c with
 | true=>exact isTrue_and_nil e
 | false=>exact e
theorem zN3(ha:PT X a tA):PW X (.BoolOp .Or [a] pos) tA:=by
 intro wh pins s σ H Q I h
 refine isTrue_or (thn (ha pins s σ H Q I h) fun c s1 e=>?_)
 cases c with
 | false=>exact isTrue_or_nil e
 | true=>exact e
theorem zNn(ha:PT X a tA)(hb:PW X (.BoolOp .And (b::rest) pos) tB'):PW X (.BoolOp .And (a::b::rest) pos) (tAnd tA tB'):=by
 intro wh pins s σ H Q I h
 refine isTrue_and (thn (ha pins s σ H _ I h) fun c s1 ⟨H1,I1,q1⟩=>?_)
 cases c with
 | true=>exact hb wh pins s1 σ H1 Q I1 q1
 | false=>exact⟨H1,I1,q1⟩
theorem zOg(ha:PT X a tA)(hb:PW X (.BoolOp .Or (b::rest) pos) tB'):PW X (.BoolOp .Or (a::b::rest) pos) (tOr tA tB'):=by
 intro wh pins s σ H Q I h
 refine isTrue_or (thn (ha pins s σ H _ I h) fun c s1 ⟨H1,I1,q1⟩=>?_)
 cases c with
 | true=>exact⟨H1,I1,q1⟩
 | false=>exact hb wh pins s1 σ H1 Q I1 q1
theorem zNx(ha:PT X a tA):PT X (.UnaryOp .Not a pos) (tNot tA):=by
 intro pins s σ H Q I h
 exact isTrue_not (ha pins s σ H (fun c H1=>Q (!c) H1) I h)
noncomputable def tAndV (ta tb:TE):TE:=fun σ H Q=>ta σ H fun x H1=>∃ c,x=.bl c/\if c=true then tb σ H1 Q else Q (.bl false) H1
theorem zN4{op}{t:TE}(h:PE X a t):PE X (.BoolOp op [a] pos) t:=fun pins s σ H Q I hw=>BoolOp_one (h pins s σ H Q I hw)
theorem zM1(ha:PE X a ta)(hb:PE X (.BoolOp .And (b::rest) pos) tb):PE X (.BoolOp .And (a::b::rest) pos) (tAndV ta tb):=by
 intro pins s σ H Q I h
 refine BoolOp_and (thn (ha pins s σ H _ I h) fun v s1 ⟨x,H1,I1,r1,q1⟩=>?_)
 obtain⟨c,rfl,q1⟩:=q1
 cases r1
 refine EW ?_
 cases c with
 | true=>exact hb pins s1 σ H1 Q I1 q1
 | false=>exact⟨.bl false,H1,I1,rfl,q1⟩
noncomputable def tIf (t:TT) (ta tb:TE):TE:=fun σ H Q=>t σ H fun c H1=>if c=true then ta σ H1 Q else tb σ H1 Q
theorem zKh{c:Expr}(hc:PT X c tA)(ha:PE X a ta)(hb:PE X b tb):PE X (.IfExp c a b pos) (tIf tA ta tb):=by
 intro pins s σ H Q I h
 refine wpAny_IfExp (thn (hc pins s σ H _ I h) fun d s1 ⟨H1,I1,q1⟩=>?_)
 cases d with
 | true=>exact ha pins s1 σ H1 Q I1 q1
 | false=>exact hb pins s1 σ H1 Q I1 q1
end
noncomputable def SqL (K:AH) (H:Hp) (a:Addr) (xs:List V):Prop :=
 Rd H a (.lst xs) \/
  ∃ (o:Obj) (its:Array AB) (n:Nat),K.lookup a=some o/\o.cls=.type "list"/\o.dict=none/\o.data=.seq its n/\its.size<=AE/\Vals xs its.toList
noncomputable def SqT (K:AH) (H:Hp) (a:Addr) (xs:List V):Prop :=
 Rd H a (.tup xs) \/
  ∃ (o:Obj) (its:Array AB) (n:Nat),K.lookup a=some o/\o.cls=.type "tuple"/\o.data=.seq its n/\its.size<=AE/\Vals xs its.toList
noncomputable def absV:AB->Option V
 | .none=>some .non
 | .bool b=>some (.bl b)
 | .int i _=>some (.int i)
 | .str x _=>some (.str x)
 | .bytes b _=>some (.byt b)
 | .float b _=>some (.flt b)
 | .ref a=>some (.ref a)
 | .type n=>some (.ty n)
 | _=>none
theorem RelV.abs{x:V}{u:AB}(r:RelV x u):absV u=some x:=by
 cases x with
 | non=>cases r; rfl
 | bl _=>cases r; rfl
 | int _=>obtain⟨t,rfl⟩:=r; rfl
 | str _=>obtain⟨t,rfl⟩:=r; rfl
 | byt _=>obtain⟨t,rfl⟩:=r; rfl
 | flt _=>obtain⟨t,rfl⟩:=r; rfl
 | ref _=>cases r; rfl
 | ty _=>cases r; rfl
theorem RelV.inj{x y:V}{u:AB}(r:RelV x u)(q:RelV y u):x=y:=As (r.abs.symm.trans q.abs)
theorem Vals.inj:∀ {xs ys:List V} {us:List AB},Vals xs us->Vals ys us->xs=ys
 | _,_,_,.nil,.nil=>rfl
 | _,_,_,.cons r t,.cons r' t'=>by rw[r.inj r',Vals.inj t t']
section
variable {X:Cx}{pins:List (Addr×Obj)}{σ:St}{H:Hp}{s:AD}{a:Addr}{xs ys:List V}
theorem SqL.of{K:AH}(h:H a=some (.lst xs)):SqL K H a xs:=.inl (.inl h)
theorem SqT.of{K:AH}(h:H a=some (.tup xs)):SqT K H a xs:=.inl (.inl h)
theorem Inv.list(I:Inv X pins σ H s)(h:SqL X.K H a xs):∃ its:List AB,Vals xs its/\PlainL s.heap a its.toArray/\xs.length<=AE:=by
 rcases h with h | ⟨o,its,n,hk,hc,hd,hs,hz,r⟩
 ·obtain⟨z,its,n,r,e⟩:=h.ok I.hok
  exact⟨its,r,⟨_,n,e,rfl,rfl,rfl⟩,z⟩
 ·refine⟨its.toList,r,⟨o,n,I.kIn a o hk,hc,hd,by simpa using hs⟩,?_⟩
  have e:=r.length
  simp only[E3]at e
  omega
theorem Inv.tuple(I:Inv X pins σ H s)(h:SqT X.K H a xs):∃ its:List AB,Vals xs its/\JQ s.heap a its.toArray/\xs.length<=AE:=by
 rcases h with h | ⟨o,its,n,hk,hc,hs,hz,r⟩
 ·obtain⟨z,its,r,p⟩:=h.ok I.hok
  exact⟨its,r,p.tup,z⟩
 ·refine⟨its.toList,r,⟨o,I.kIn a o hk,hc,n,by simpa using hs⟩,?_⟩
  have e:=r.length
  simp only[E3]at e
  omega
theorem Inv.list_inj(I:Inv X pins σ H s)(h:SqL X.K H a xs)(h':SqL X.K H a ys):xs=ys:=by
 obtain⟨its,r,⟨o,n,e,_,_,d⟩,_⟩:=I.list h
 obtain⟨its',r',⟨o',n',e',_,_,d'⟩,_⟩:=I.list h'
 rw[e]at e'; cases e'
 rw[d]at d'
 injection d' with d1 _
 have:its=its':=by simpa using congrArg JB d1
 subst this
 exact r.inj r'
theorem Inv.tuple_inj(I:Inv X pins σ H s)(h:SqT X.K H a xs)(h':SqT X.K H a ys):xs=ys:=by
 obtain⟨its,r,⟨o,e,_,n,d⟩,_⟩:=I.tuple h
 obtain⟨its',r',⟨o',e',_,n',d'⟩,_⟩:=I.tuple h'
 rw[e]at e'; cases e'
 rw[d]at d'
 injection d' with d1 _
 have:its=its':=by simpa using congrArg JB d1
 subst this
 exact r.inj r'
end
noncomputable abbrev Cx.wish (X:Cx) (E:AB->AD->Prop):Cx:={ X with xe:=E }
noncomputable abbrev Cx.nox (X:Cx):Cx:=X.wish fun _ _=>False
theorem Cx.Ok.wish{X:Cx}(ok:X.Ok)(E:AB->AD->Prop):(X.wish E).Ok :=
 ⟨ok.mod,ok.kind,ok.glob,ok.blt,ok.above,ok.inj,ok.has,ok.cab,ok.hd,ok.frames,ok.stk,ok.exf,ok.bs,ok.bsz,ok.noex,ok.exfs,ok.funs,ok.frf⟩
theorem Cx.Ok.unwish{X:Cx}{E:AB->AD->Prop}(ok:(X.wish E).Ok):X.Ok :=
 ⟨ok.mod,ok.kind,ok.glob,ok.blt,ok.above,ok.inj,ok.has,ok.cab,ok.hd,ok.frames,ok.stk,ok.exf,ok.bs,ok.bsz,ok.noex,ok.exfs,ok.funs,ok.frf⟩
section
variable {X:Cx}{pins:List (Addr×Obj)}{σ:St}{H:Hp}{s:AD}{E:AB->AD->Prop}
theorem Inv.wish(I:Inv X pins σ H s)(E:AB->AD->Prop):Inv (X.wish E) pins σ H s:=⟨I.ok.wish E,I.os,I.bare,I.base,I.loc,I.cell,I.free,I.freeC,I.pin,I.hok,I.len⟩
theorem Inv.unwish(I:Inv (X.wish E) pins σ H s):Inv X pins σ H s:=⟨I.ok.unwish,I.os,I.bare,I.base,I.loc,I.cell,I.free,I.freeC,I.pin,I.hok,I.len⟩
theorem SP.unwish{D:Ends}{f:Flow}{s':AD}(h:SP (X.wish E) pins D f s'):SP X pins D f s':=by
 cases f with
 | next=>obtain⟨σ',H',I,q⟩:=h; exact⟨σ',H',I.unwish,q⟩
 | brk=>obtain⟨σ',H',I,q⟩:=h; exact⟨σ',H',I.unwish,q⟩
 | cont=>obtain⟨σ',H',I,q⟩:=h; exact⟨σ',H',I.unwish,q⟩
 | ret u=>obtain⟨v,σ',H',I,r,q⟩:=h; exact⟨v,σ',H',I.unwish,r,q⟩
theorem PSs.nox{st:List Stmt}{t:TS}(h:PSs X.nox st t):PSs X st t:=fun pins s σ H D I hw =>
 BF (h pins s σ H D (I.wish _) hw) (fun _ _ q=>q.unwish) fun _ _ z=>Ay z
end
section
variable {X:Cx}{st:Stmt}{rest:List Stmt}{t u:TS}{e:Expr}{te:TE}{pos:Pos}
noncomputable def tNext:TS:=fun D σ H=>D.nx σ H
noncomputable def tSeq (t u:TS):TS:=fun D σ H=>t { D with nx:=u D } σ H
theorem zGe:PSs X [] tNext:=fun _ _ σ H _ I h=>Bu ⟨σ,H,I,h⟩
theorem zF2(h1:PS X st t)(h2:PSs X rest u):PSs X (st::rest) (tSeq t u):=by
 intro pins s σ H D I h
 refine Dn (thn (h1 pins s σ H { D with nx:=u D } I h) fun f s1 q=>?_)
 cases f with
 | next =>
  obtain⟨σ',H',I',q⟩:=q
  exact h2 pins s1 σ' H' D I' q
 | ret v=>exact q
 | brk=>exact q
 | cont=>exact q
theorem zEM(h1:PS X st t):PSs X [st] t:=by
 intro pins s σ H D I h
 refine Dn (thn (h1 pins s σ H D I h) fun f s1 q=>?_)
 cases f with
 | next=>exact Bu q
 | ret v=>exact q
 | brk=>exact q
 | cont=>exact q
theorem Inv.quiet{pins:List (Addr×Obj)}{σ:St}{H:Hp}{s:AD}(I:Inv X pins σ H s):interactive X.env=false:=by simp[interactive,I.ok.kind]
noncomputable def tDrop (te:TE):TS:=fun D σ H=>te σ H fun _ H1=>D.nx σ H1
theorem zLs(he:PE X e te)(hs:CO e none pos.line X.env=pure false:=by rfl):PS X (.Expr e pos) (tDrop te):=by
 intro pins s σ H D I h
 exact Kq (thn (he pins s σ H _ I h) fun v s1 ⟨x,H1,I1,r1,q1⟩=>⟨σ,H1,I1,q1⟩) I.quiet hs
noncomputable def tRet (te:TE):TS:=fun D σ H=>te σ H D.rt
theorem zNp(he:PE X e te):PS X (.Return (some e) pos) (tRet te):=by
 intro pins s σ H D I h
 exact wpAny_Return_some (thn (he pins s σ H _ I h) fun v s1 ⟨x,H1,I1,r1,q1⟩=>⟨x,σ,H1,I1,r1,q1⟩)
noncomputable def tIfS (c:TT) (t u:TS):TS:=fun D σ H=>c σ H fun b H1=>if b=true then t D σ H1 else u D σ H1
theorem zLa{c:Expr}{a b:List Stmt}{tc:TT}(hc:PT X c tc)(ha:PSs X a t)(hb:PSs X b u):PS X (.If c a b pos) (tIfS tc t u):=by
 intro pins s σ H D I h
 refine wpAny_If (thn (hc pins s σ H _ I h) fun d s1 ⟨H1,I1,q1⟩=>?_)
 cases d with
 | true=>exact ha pins s1 σ H1 D I1 q1
 | false=>exact hb pins s1 σ H1 D I1 q1
end
abbrev TG:=V->St->Hp->(St->Hp->Prop)->Prop
abbrev TGs:=List V->St->Hp->(St->Hp->Prop)->Prop
noncomputable def PG (X:Cx) (target:Expr) (t:TG):Prop :=
 ∀ (pins:List (Addr×Obj)) (s:AD) (σ:St) (H:Hp) (v:V) (u:AB) (Q:St->Hp->Prop),Inv X pins σ H s->RelV v u->t v σ H Q ->
  AM (model X.prog X.w) X.A (assign target X.env u) (fun _ s'=>∃ σ' H',Inv X pins σ' H' s'/\Q σ' H') X.xe s
noncomputable def PGs (X:Cx) (ts:List Expr) (t:TGs):Prop :=
 ∀ (pins:List (Addr×Obj)) (s:AD) (σ:St) (H:Hp) (vs:List V) (us:List AB) (Q:St->Hp->Prop),Inv X pins σ H s->Vals vs us->t vs σ H Q ->
  AM (model X.prog X.w) X.A (Ec ((CJ ts X.env).map (·.2)) us) (fun _ s'=>∃ σ' H',Inv X pins σ' H' s'/\Q σ' H') X.xe s
abbrev TSet:=V->V->V->Hp->(Hp->Prop)->Prop
noncomputable def PSet (X:Cx) (t:TSet):Prop :=
 ∀ (pins:List (Addr×Obj)) (s:AD) (σ:St) (H:Hp) (o i v:V) (ov iv u:AB) (Q:Hp->Prop),Inv X pins σ H s->RelV o ov->RelV i iv->RelV v u->t o i v H Q ->
  AM (model X.prog X.w) X.A (LZ ov iv u) (fun _ s'=>∃ H',Inv X pins σ H' s'/\Q H') X.xe s
section
variable {X:Cx}{pos:Pos}
noncomputable def gName (i:Nat):TG:=fun v σ H Q=>Q (σ.set i (some v)) H
theorem zGw{i:Nat}{x:Str}(hN:X.N.Nodup)(hi:X.N[i]?=some x)(hx:Loc X.env.scope x)(hf:X.fn x=true\/X.env.scope.names.lookup x=some .local:=by first | exact .inl rfl | exact .inr rfl | assumption):PG X (.Name x pos) (gName i):=by
 intro pins s σ H v u Q I r h
 exact wpAny_assign_Name (zAz I hN hi hx r (fun s' I'=>⟨_,H,I',h⟩) hf)
noncomputable def gNil:TGs:=fun vs σ H Q=>vs=[]/\Q σ H
noncomputable def gCons (t:TG) (u:TGs):TGs:=fun vs σ H Q=>∃ v r,vs=v::r/\t v σ H fun σ' H'=>u r σ' H' Q
theorem zMO:PGs X [] gNil:=by
 intro pins s σ H vs us Q I r h
 obtain⟨e,h⟩:=h
 subst e
 cases r
 exact GJ ⟨σ,H,I,h⟩
theorem zKx{e:Expr}{es:List Expr}{t:TG}{u:TGs}(h1:PG X e t)(h2:PGs X es u)
  (hs:(CJ (e::es) X.env).map (·.2)=assign e X.env::(CJ es X.env).map (·.2):=by rfl):PGs X (e::es) (gCons t u):=by
 intro pins s σ H vs us Q I r h
 obtain⟨v,vr,e1,h⟩:=h
 subst e1
 cases r with
 | cons r rr =>
  rw[hs]
  refine Cq (thn (h1 pins s σ H _ _ _ I r h) fun _ s1 ⟨σ1,H1,I1,q1⟩=>?_)
  exact h2 pins s1 σ1 H1 _ _ Q I1 rr q1
noncomputable def gTup (K:AH) (n:Nat) (t:TGs):TG:=fun v σ H Q=>∃ a xs,v=.ref a/\SqT K H a xs/\xs.length=n/\t xs σ H Q
theorem zNX{es:List Expr}{k:Nat}{t:TGs}{n:Nat}(hc:X.calm=true)(h:PGs X es t)
  (hn:(CJ es X.env).length=n:=by rfl) (hst:(CJ es X.env).findIdx? (·.1)=none:=by rfl):PG X (.Tuple es k pos) (gTup X.K n t):=by
 intro pins s σ H v u Q I r hw
 obtain⟨a,xs,e1,hq,hl,hw⟩:=hw
 subst e1
 cases r
 obtain⟨its,rv,ht,hz⟩:=I.tuple hq
 refine assign_Tuple_tuple (I.ok.hd hc) ht (by simp[hn,← hl,rv.length]) hst fun h' hx=>?_
 have I1:Inv X pins σ H { s with heap:=h' }:=I.kept (t':=s.toks) fun b o e=>hx b o (Ah (AJ e)) e
 exact h pins _ σ H xs _ Q I1 (by simpa using rv) hw
noncomputable def gSub (to ti:TE) (t:TSet):TG:=fun v σ H Q=>to σ H fun o H1=>ti σ H1 fun i H2=>t o i v H2 fun H3=>Q σ H3
theorem zNu{o i:Expr}{to ti:TE}{t:TSet}(ho:PE X o to)(hi:PE X i ti)(hs:PSet X t)
  (ha:∀ v,assign (.Subscript o i pos) X.env v=(do
   let ov ← holding [v] (eval o X.env)
   let iv ← holding [v,ov] (eval i X.env)
   H9 pos
   holding [v,ov,iv] (LZ ov iv v)
   release [v,ov,iv] []):=by intro _; rfl):PG X (.Subscript o i pos) (gSub to ti t):=by
 intro pins s σ H v u Q I r h
 rw[ha]
 refine AA (BO (thn (ho pins s σ H _ I h) fun ov s1 ⟨x,H1,I1,r1,q1⟩=>?_))
 refine AA (BO (thn (hi pins s1 σ H1 _ I1 q1) fun iv s2 ⟨y,H2,I2,r2,q2⟩=>?_))
 refine AA (DH (AA (BO (thn (hs pins s2 σ H2 x y v ov iv u _ I2 r1 r2 r q2) fun _ s3 ⟨H3,I3,q3⟩=>?_))))
 exact wpAny_release ⟨σ,H3,I3,q3⟩
noncomputable def tAsg (te:TE) (g:TG):TS:=fun D σ H=>te σ H fun x H1=>g x σ H1 D.nx
theorem zND{tg e:Expr}{te:TE}{g:TG}(he:PE X e te)(hg:PG X tg g)(hs:Du [tg] e pos.line X.env=pure false:=by rfl)(hw:Dv [tg] e X.env=pure none:=by rfl)
  (h1:(CJ [tg] X.env).map (·.2)=[assign tg X.env]:=by rfl):PS X (.Assign [tg] e pos) (tAsg te g):=by
 intro pins s σ H D I h
 refine wpAny_Assign_stores (thn (he pins s σ H _ I h) fun v s1 ⟨x,H1,I1,r1,q1⟩=>?_) hs hw
 rw[h1]
 exact thn (hg pins s1 σ H1 x v _ I1 r1 q1) fun _ s2 q=>q
theorem zJU{i:Nat}{x:Str}{e:Expr}{te:TE}{pos':Pos}(hN:X.N.Nodup)(hi:X.N[i]?=some x)(hx:Loc X.env.scope x)(he:PE X e te)(hs:CO e (some (.Name x pos')) pos.line X.env=pure false:=by rfl)(hf:X.fn x=true\/X.env.scope.names.lookup x=some .local:=by first | exact .inl rfl | exact .inr rfl | assumption) :
  PS X (.Assign [.Name x pos'] e pos) (tAsg te (gName i)):=by
 intro pins s σ H D I h
 refine GK (thn (he pins s σ H _ I h) fun v s1 ⟨y,H1,I1,r1,q1⟩=>?_) hs
 exact zAz I1 hN hi hx r1 (fun s2 I2=>⟨_,H1,I2,q1⟩) hf
noncomputable def tPar (i j:Nat) (ta:TA):TS:=fun D σ H=>ta σ H fun vs H1=>∃ v w,vs=[v,w]/\D.nx ((σ.set i (some v)).set j (some w)) H1
theorem zNP{i j:Nat}{x y:Str}{a b:Expr}{ta:TA}{px py pt:Pos}{kt k2 pt2}(hc:X.calm=true)(hN:X.N.Nodup)(hi:X.N[i]?=some x)(hj:X.N[j]?=some y)(hij:i≠j)
  (hx:X.env.scope.names.lookup x=some .local) (hy:X.env.scope.names.lookup y=some .local) (ha:PA X [a,b] ta)
  (hw:Dv [.Tuple [.Name x px,.Name y py] kt pt] (.Tuple [a,b] k2 pt2) X.env=pure (some [x,y]))
  (hs:Du [.Tuple [.Name x px,.Name y py] kt pt] (.Tuple [a,b] k2 pt2) pos.line X.env=pure false:=by rfl) :
  PS X (.Assign [.Tuple [.Name x px,.Name y py] kt pt] (.Tuple [a,b] k2 pt2) pos) (tPar i j ta):=by
 intro pins s σ H D I h
 rw[KD]
 refine AA (DH ?_)
 rw[hs]
 refine AA (AG ?_)
 rw[if_neg (by decide)]
 refine AA (Tuple_ (thn (ha _ pins s σ H _ I h) fun us s1 ⟨vs,H1,I1,r1,q1⟩=>?_))
 obtain⟨v,w,e1,q1⟩:=q1
 subst e1
 obtain⟨u1,u2,rfl,rv,rw'⟩:∃ u1 u2,us=[u1,u2]/\RelV v u1/\RelV w u2:=by
  cases r1 with
  | cons p q =>
   cases q with
   | cons p' q' =>
    cases q'
    exact⟨_,_,rfl,p,p'⟩
 refine BB ?_ (by show 2<=AE; decide)
 have I2:Inv X pins σ H1 { s1 with heap:=s1.heap.push { cls:=.type "tuple",data:=.seq [u1,u2].toArray } }:=I1.kept (t':=s1.toks) fun b o e=>AC _ e
 rw[hw]
 refine AA (AG ?_)
 show AM (model X.prog X.w) X.A (do rule "assign.swapped-stores"; let items ← unpackItems (.ref s1.heap.objs.size) 2 none; Ec [fun v=>De X.env y v,fun v=>De X.env x v] items.reverse; pure Gv) _ _ _
 refine AA (Cr (AA (JS (items:=#[u1,u2]) (I.ok.hd hc) (KE s1.heap _) fun h' hx'=>?_)))
 have I3:=I2.kept (h':=h') (t':=s1.toks) fun b o e=>hx' b o (Ah (AJ e)) e
 show AM _ _ (Ec [fun v=>De X.env y v,fun v=>De X.env x v] [u2,u1] >>= fun _=>pure Gv) _ _ _
 refine AA (Cq (Df (zAz I3 hN hj (.inl hy) rw' (fun s2 I4=>?_) (.inr hy))))
 refine Cq (Df (zAz I4 hN hi (.inl hx) rv (fun s3 I5=>GJ (AG ?_)) (.inr hx)))
 rw[FG _ _ (Az hij)]at I5
 exact⟨_,H1,I5,q1⟩
end
section
variable {X:Cx}{pos:Pos}
noncomputable def tWhile (c:TT) (tb:TS):TS:=fun D σ H=>∃ W:Nat->St->Hp->Prop,(∃ m,W m σ H)/\∀ m σ H,W m σ H ->
 c σ H fun b H1=>if b=true then ∃ N:St->Hp->Prop,(∀ σ' H',N σ' H'->∃ m',m' < m/\W m' σ' H')/\tb { D with nx:=N,ct:=N,bk:=D.nx } σ H1 else D.nx σ H1
theorem zKA{c:Expr}{body:List Stmt}{tc:TT}{tb:TS}(hp:Hq (model X.prog X.w) X.A X.env X.xe)(hc:PT X c tc)(hb:PSs X body tb):PS X (.While c body [] pos) (tWhile tc tb):=by
 intro pins s σ H D I h
 obtain⟨W,⟨m0,w0⟩,turn⟩:=h
 refine wpAny_While (codeAny_whileLoop (fun n s'=>∃ σ' H',Inv X pins σ' H' s'/\W n σ' H') ?_ m0 ⟨σ,H,I,w0⟩)
 rintro n s1 ⟨σ1,H1,I1,w1⟩
 refine Cu hp (thn (hc pins s1 σ1 H1 _ I1 (turn n σ1 H1 w1)) fun b s2 ⟨H2,I2,q2⟩=>?_)
 cases b with
 | true =>
  obtain⟨N,hN,q2⟩:=q2
  rw[if_pos rfl]
  refine Cu hp (thn (hb pins s2 σ1 H2 _ I2 q2) fun f s3 q3=>?_)
  cases f with
  | next =>
   obtain⟨σ3,H3,I3,n3⟩:=q3
   obtain⟨m',hm,w3⟩:=hN σ3 H3 n3
   exact⟨m',hm,σ3,H3,I3,w3⟩
  | cont =>
   obtain⟨σ3,H3,I3,n3⟩:=q3
   obtain⟨m',hm,w3⟩:=hN σ3 H3 n3
   exact⟨m',hm,σ3,H3,I3,w3⟩
  | brk=>exact q3
  | ret v=>exact q3
 | false =>
  rw[if_neg AU]
  exact Bu ⟨σ1,H2,I2,q2⟩
end
structure It where
 go:Nat->Hp->Prop
 yld:Nat->Hp->V->Hp->Prop
 stop:Nat->Hp->Prop
noncomputable def FpOk (X:Cx) (pins:List (Addr×Obj)) (H:Hp) (b:Addr):Prop :=
 H b=none/\b≠X.env.locals/\b∉X.fs/\(b∈X.ex\/X.s₀.heap.objs.size<=b)/\(∀ x c,X.env.cells.lookup x=some c->c≠b)/\∀ p∈X.pn++pins,p.1≠b
theorem Inv.fpOk{X:Cx}{pins:List (Addr×Obj)}{σ:St}{H H':Hp}{s:AD}{b:Addr}(I:Inv X pins σ H s)(hb:s.heap.objs.size<=b)(hn:H' b=none):FpOk X pins H' b:=by
 refine⟨hn,BV (AV I.lt hb),I.nofs hb,.inr (Aa I.sz hb),fun x c e z=>?_,fun p hp z=>?_⟩
 ·obtain⟨v,q⟩:=I.cell x c e
  exact absurd (AV q.lt (by rw[z]; exact hb)) (BK _)
 ·exact absurd (AV (AJ (I.pin p hp).1) (by rw[z]; exact hb)) (BK _)
structure Turn(P:AY)(w:Af)(K:AH)(tg:Expr)(J:It)(fp:List Addr)(it:Addr)(tn:Nat->Heap->Prop):Prop where
 mem:it∈fp
 obj:∀ i h,tn i h->∀ b∈fp,∃ o,h.get? b=some o/\∀ v,o.data≠.cell v
 keep:∀ i h h',tn i h->(∀ b∈fp,∀ o,h.get? b=some o->h'.get? b=some o)->tn i h'
 item:∀ (X:Cx),X.prog=P->X.w=w->X.K=K->X.calm=true->∀ (i:Nat) (pins:List (Addr×Obj)) (s:AD) (σ:St) (H:Hp) (E:AB->AD->Prop),Inv X pins σ H s->(∀ b∈fp,FpOk X pins H b)->tn i s.heap->J.go i H ->
  AM (model P w) X.A (Do (.ref it)) (fun r s1=>∃ u,r=some u /\
   AM (model P w) X.A (E9 tg (.ref it) u) (fun _ s2=>∃ x H',Inv X pins σ H' s2/\RelV x u/\J.yld i H x H'/\tn (i+1) s2.heap/\∀ b∈fp,H' b=none) E s1) E s
 done:∀ (X:Cx),X.prog=P->X.w=w->X.K=K->X.calm=true->∀ (i:Nat) (pins:List (Addr×Obj)) (s:AD) (σ:St) (H:Hp) (E:AB->AD->Prop),Inv X pins σ H s->(∀ b∈fp,FpOk X pins H b)->tn i s.heap->J.stop i H ->
  AM (model P w) X.A (Do (.ref it)) (fun r s1=>r=none/\Inv X pins σ H s1) E s
 self:∀ (A:Ao) (i:Nat) (s:AD) (Q:AB->AD->Prop) (E:AB->AD->Prop),tn i s.heap->Q (.ref it) s->AM (model P w) A (HA (.ref it)) Q E s
abbrev TI:=St->Hp->(It->Hp->Prop)->Prop
noncomputable def PIE (X:Cx) (pins:List (Addr×Obj)) (σ:St) (tg:Expr) (R:It->Hp->Prop) (itv:AB) (s2:AD):Prop :=
 ∃ (it:Addr) (fp:List Addr) (tn:Nat->Heap->Prop) (J:It) (H':Hp),itv=.ref it/\Inv X pins σ H' s2/\Turn X.prog X.w X.K tg J fp it tn/\tn 0 s2.heap/\(∀ b∈fp,FpOk X pins H' b)/\R J H'
noncomputable def PI (X:Cx) (tg iter:Expr) (wi:TI):Prop :=
 ∀ (pins:List (Addr×Obj)) (s:AD) (σ:St) (H:Hp) (R:It->Hp->Prop),Inv X pins σ H s->wi σ H R ->
  AM (model X.prog X.w) X.A (eval iter X.env) (fun v s1=>AM (model X.prog X.w) X.A (HA v) (PIE X pins σ tg R) X.xe s1) X.xe s
theorem zE8{M:Gj}{A:Ao}{E:AB->AD->Prop}{s:AD}{tg:Expr}{it:Addr}{u:AB}{o:Obj}{n:String}{vs:Array AB}{Q:Unit->AD->Prop}(ho:s.heap.get? it=some o)(hc:o.cls=.type n)(hd:o.data=.fields vs)
  (hn:["enumerate","zip","dict_itemiterator","dict_reverseitemiterator","odict_iterator","itertools.zip_longest","itertools.pairwise"].contains n=false) (hQ:Q () s):AM M A (E9 tg (.ref it) u) Q E s:=by
 unfold E9
 cases tg <;> first
  | exact AG hQ
  | (cases u <;> first
    | exact AG hQ
    | (
      refine AA (wpAny_load ho ?_)
      rw[hc,hd]
      show AM M A (if (["enumerate","zip","dict_itemiterator","dict_reverseitemiterator","odict_iterator","itertools.zip_longest","itertools.pairwise"].contains n && vs[0]? == some (B4 _))=true then _ else _) Q E s
      rw[if_neg (by intro h; rw[hn,Bool.false_and]at h; cases h)]
      exact AG hQ))
noncomputable def Itl (K:AH) (a:Addr):It :=
 ⟨fun i H=>∃ xs x,SqL K H a xs/\xs[i]?=some x,fun i H x H'=>H'=H/\∀ xs,SqL K H a xs->xs[i]?=some x,fun i H=>∃ xs,SqL K H a xs/\xs.length<=i⟩
noncomputable def Itt (K:AH) (a:Addr):It :=
 ⟨fun i H=>∃ xs x,SqT K H a xs/\xs[i]?=some x,fun i H x H'=>H'=H/\∀ xs,SqT K H a xs->xs[i]?=some x,fun i H=>∃ xs,SqT K H a xs/\xs.length<=i⟩
noncomputable def Itr (lo:Int) (n:Nat):It:=⟨fun i _=>i < n,fun i H x H'=>H'=H/\x=.int (lo+i),fun i _=>n<=i⟩
theorem zJj{P:AY}{w:Af}{K:AH}{tg:Expr}(a it:Addr):Turn P w K tg (Itl K a) [it] it (fun i h=>h.IsListIter it a i) where
 mem:=by simp
 obj:=fun i h st b hb=>by
  have e:b=it:=by simpa using hb
  subst e
  obtain⟨o,e,c,d⟩:=st
  exact⟨o,e,fun v z=>by rw[d]at z; cases z⟩
 keep:=fun i h h' st k=>st.at fun o e=>k it (by simp) o e
 item:=by
  intro X hP hw hK hc i pins s σ H E I hf st hg
  subst hP hw hK
  obtain⟨xs,x,hq,hx⟩:=hg
  obtain⟨its,rv,p,hz⟩:=I.list hq
  obtain⟨u,hu,ru⟩:=rv.get hx
  obtain⟨f0,f1,f2,f3,f4,f5⟩:=hf it (by simp)
  refine wpAny_pyNext_list_item st p.isList (x:=u) (by simpa using hu) fun h' st' sb=>?_
  have I1:Inv X pins σ H { s with heap:=h' }:=I.turned (t':=s.toks) (fun b o hb e=>(sb.2 b hb).trans e) f0 f1 f3 f4 f5
  obtain⟨o,e,c,d⟩:=id st'
  exact⟨u,rfl,zE8 (s:={ s with heap:=h' }) e c d (by decide) ⟨x,H,I1,ru,⟨rfl,fun ys hy=>by rw[I.list_inj hy hq]; exact hx⟩,st',fun b hb=>(hf b hb).1⟩⟩
 done:=by
  intro X hP hw hK hc i pins s σ H E I hf st hg
  subst hP hw hK
  obtain⟨xs,hq,hx⟩:=hg
  obtain⟨its,rv,p,hz⟩:=I.list hq
  obtain⟨f0,f1,f2,f3,f4,f5⟩:=hf it (by simp)
  have hl:=rv.length
  exact wpAny_pyNext_list_end (I.ok.hd hc) st p.isList (by simp; omega) fun h' eb=>⟨rfl,I.turned (t':=s.toks) (fun b o hb e=>eb b o hb e) f0 f1 f3 f4 f5⟩
 self:=fun _ _ _ _ _ st h=>wpAny_pyIter_listiter st h
theorem zHz{P:AY}{w:Af}{K:AH}{tg:Expr}(a it:Addr):Turn P w K tg (Itt K a) [it] it (fun i h=>h.IsTupleIter it a i) where
 mem:=by simp
 obj:=fun i h st b hb=>by
  have e:b=it:=by simpa using hb
  subst e
  obtain⟨o,e,c,d⟩:=st
  exact⟨o,e,fun v z=>by rw[d]at z; cases z⟩
 keep:=fun i h h' st k=>st.at fun o e=>k it (by simp) o e
 item:=by
  intro X hP hw hK hc i pins s σ H E I hf st hg
  subst hP hw hK
  obtain⟨xs,x,hq,hx⟩:=hg
  obtain⟨its,rv,p,hz⟩:=I.tuple hq
  obtain⟨u,hu,ru⟩:=rv.get hx
  obtain⟨f0,f1,f2,f3,f4,f5⟩:=hf it (by simp)
  refine wpAny_pyNext_tuple_item st (show s.heap.IsTuple a its.toArray from p) (x:=u) (by simpa using hu) fun h' st' sb=>?_
  have I1:Inv X pins σ H { s with heap:=h' }:=I.turned (t':=s.toks) (fun b o hb e=>(sb.2 b hb).trans e) f0 f1 f3 f4 f5
  obtain⟨o,e,c,d⟩:=id st'
  exact⟨u,rfl,zE8 (s:={ s with heap:=h' }) e c d (by decide) ⟨x,H,I1,ru,⟨rfl,fun ys hy=>by rw[I.tuple_inj hy hq]; exact hx⟩,st',fun b hb=>(hf b hb).1⟩⟩
 done:=by
  intro X hP hw hK hc i pins s σ H E I hf st hg
  subst hP hw hK
  obtain⟨xs,hq,hx⟩:=hg
  obtain⟨its,rv,p,hz⟩:=I.tuple hq
  obtain⟨f0,f1,f2,f3,f4,f5⟩:=hf it (by simp)
  have hl:=rv.length
  exact wpAny_pyNext_tuple_end (I.ok.hd hc) st (show s.heap.IsTuple a its.toArray from p) (by simp; omega) fun h' eb=>⟨rfl,I.turned (t':=s.toks) (fun b o hb e=>eb b o hb e) f0 f1 f3 f4 f5⟩
 self:=fun _ _ _ _ _ st h=>wpAny_pyIter_tupleiter st h
theorem zHR{P:AY}{w:Af}{K:AH}{tg:Expr}(it:Addr)(lo:Int)(n:Nat):Turn P w K tg (Itr lo n) [it] it (fun i h=>IsRangeIter h it (lo+(i:Nat) * 1) ((n:Int) - (i:Nat)) 1) where
 mem:=by simp
 obj:=fun i h st b hb=>by
  have e:b=it:=by simpa using hb
  subst e
  exact⟨_,st,fun v z=>by
   have z':HZ _=Kr v:=z
   cases z'⟩
 keep:=fun i h h' st k=>k it (by simp) _ st
 item:=by
  intro X hP hw hK hc i pins s σ H E I hf st hg
  subst hP hw hK
  obtain⟨f0,f1,f2,f3,f4,f5⟩:=hf it (by simp)
  have W:=Walks.range (prog:=X.prog) (w:=X.w) (I.ok.hd hc) it lo 1 n
  refine W.item i s _ _ hg st fun v h' tk hv st' kk=>?_
  obtain⟨t,rfl⟩:=hv
  have I1:Inv X pins σ H { s with heap:=h',toks:=tk }:=I.turned (fun b o hb e=>kk b o (by simpa using hb) e) f0 f1 f3 f4 f5
  refine⟨_,rfl,zE8 (s:={ s with heap:=h',toks:=tk }) (n:="range_iterator") st' rfl rfl (by decide) ⟨.int (lo+i),H,I1,⟨t,?_⟩,⟨rfl,rfl⟩,st',fun b hb=>(hf b hb).1⟩⟩
  rw[Int.mul_one]
 done:=by
  intro X hP hw hK hc i pins s σ H E I hf st hg
  subst hP hw hK
  obtain⟨f0,f1,f2,f3,f4,f5⟩:=hf it (by simp)
  exact wpAny_pyNext_range_end (I.ok.hd hc) st (by have:n<=i:=hg; omega) fun h' eb=>⟨rfl,I.turned (t':=s.toks) (fun b o hb e=>eb b o hb e) f0 f1 f3 f4 f5⟩
 self:=fun _ _ _ _ _ st h=>wpAny_pyIter_rangeiter st h
section
variable {X:Cx}{tg:Expr}
theorem zFO{pins:List (Addr×Obj)}{σ:St}{H:Hp}{s:AD}{R:It->Hp->Prop}{E:AB->AD->Prop}{lo hi:Int}{t u v:Tok}{tk:Nat}(I:Inv X pins σ H s)(h1:-(2 ^ 62)<=lo)(h2:lo < 2 ^ 62)(h3:-(2 ^ 62)<=hi)(h4:hi < 2 ^ 62)
  (q:R (Itr lo (hi - lo).toNat) H):AM (model X.prog X.w) X.A (HA (.ref s.heap.objs.size)) (PIE X pins σ tg R) E { s with heap:=s.heap.push { cls:=.type "range",data:=.fields #[.int lo t,.int hi u,.int 1 v] },toks:=tk }:=by
 refine wpAny_pyIter_range (IsRange.new ..) (Jh h1 h2 h3 h4) ?_
 have I1:Inv X pins σ H { s with heap:=s.heap.push { cls:=.type "range",data:=.fields #[.int lo t,.int hi u,.int 1 v] },toks:=tk }:=I.kept fun b o e=>AC _ e
 refine⟨(s.heap.push { cls:=.type "range",data:=.fields #[.int lo t,.int hi u,.int 1 v] }).objs.size,[(s.heap.push { cls:=.type "range",data:=.fields #[.int lo t,.int hi u,.int 1 v] }).objs.size],_,_,H,rfl,
  I1.kept (t':=tk) fun b o e=>AC _ e,zHR _ lo (hi - lo).toNat,?_,fun b hb=>?_,q⟩
 ·have e1:lo+((0:Nat):Int) * 1=lo:=by simp
  have e2:(((hi - lo).toNat:Nat):Int) - ((0:Nat):Int)=CG lo hi 1:=by rw[K8]; split <;> omega
  show IsRangeIter _ _ (lo+((0:Nat):Int) * 1) ((((hi - lo).toNat:Nat):Int) - ((0:Nat):Int)) 1
  rw[e1,e2]
  exact AN _ rfl
 ·have e:b=(s.heap.push { cls:=.type "range",data:=.fields #[.int lo t,.int hi u,.int 1 v] }).objs.size:=by simpa using hb
  subst e
  exact I1.fpOk (AL _) (I1.hok.fresh (AL _))
noncomputable def iRng1 (ta:TA):TI:=fun σ H R=>ta σ H fun vs H1=>∃ j:Int,vs=[.int j]/\-(2 ^ 62)<=j/\j < 2 ^ 62/\R (Itr 0 j.toNat) H1
noncomputable def iRng2 (ta:TA):TI:=fun σ H R=>ta σ H fun vs H1=>∃ i j:Int,vs=[.int i,.int j]/\(-(2 ^ 62)<=i/\i < 2 ^ 62/\-(2 ^ 62)<=j/\j < 2 ^ 62)/\R (Itr i (j - i).toNat) H1
theorem zIa{a:Expr}{ta:TA}{p pos:Pos}(hg:Gl X "range")(hm:X.mg "range"=none)(ha:PA X [a] ta)(hs:AI [a] X.env=[(false,eval a X.env)]:=by rfl):PI X tg (.Call (.Name "range" p) [a] [] pos) (iRng1 ta):=by
 intro pins s σ H R I h
 refine Hr (zA9 I hg hm boot_range (BA (thn (ha pos pins s σ H _ I h) fun us s1 ⟨vs,H1,I1,r1,q1⟩=>?_) hs rfl))
 obtain⟨j,e,q1,q2,q⟩:=q1
 subst e
 cases r1 with
 | cons r rr =>
  cases rr
  obtain⟨t,rfl⟩:=r
  exact La (zFO I1 (by omega) (by omega) q1 q2 (by simpa using q))
theorem zId{a b:Expr}{ta:TA}{p pos:Pos}(hg:Gl X "range")(hm:X.mg "range"=none)(ha:PA X [a,b] ta)(hs:AI [a,b] X.env=[(false,eval a X.env),(false,eval b X.env)]:=by rfl)(hs2:AI [b] X.env=[(false,eval b X.env)]:=by rfl) :
  PI X tg (.Call (.Name "range" p) [a,b] [] pos) (iRng2 ta):=by
 intro pins s σ H R I h
 refine Hr (zA9 I hg hm boot_range (BA (thn (ha pos pins s σ H _ I h) fun us s1 ⟨vs,H1,I1,r1,q1⟩=>?_) (by rw[hs,hs2]) (by rw[hs2]; rfl)))
 obtain⟨i,j,e,⟨q1,q2,q3,q4⟩,q⟩:=q1
 subst e
 cases r1 with
 | cons r rr =>
  cases rr with
  | cons r' rr =>
   cases rr
   obtain⟨t,rfl⟩:=r
   obtain⟨t',rfl⟩:=r'
   exact Lb (zFO I1 q1 q2 q3 q4 q)
noncomputable def tFor (wi:TI) (g:TG) (tb:TS):TS:=fun D σ H=>wi σ H fun J H1=>∃ W:Nat->Nat->St->Hp->Prop,(∃ m,W 0 m σ H1)/\∀ i m σ H,W i m σ H ->
 (J.stop i H/\D.nx σ H)\/(J.go i H/\∃ N:St->Hp->Prop,(∀ σ' H',N σ' H'->∃ m',m' < m/\W (i+1) m' σ' H')/\∀ x H',J.yld i H x H'->g x σ H' fun σ2 H2=>tb { D with nx:=N,ct:=N,bk:=D.nx } σ2 H2)
noncomputable def pinsAt (fp:List Addr) (h:Heap):List (Addr×Obj):=fp.filterMap fun b=>(h.get? b).map fun o=>(b,o)
theorem zCL{fp:List Addr}{h:Heap}{b:Addr}{o:Obj}(hb:b∈fp)(e:h.get? b=some o):(b,o)∈pinsAt fp h:=Hs.mpr ⟨b,hb,by rw[e]; rfl⟩
theorem zIp{fp:List Addr}{h:Heap}{p:Addr×Obj}(hp:p∈pinsAt fp h):p.1∈fp/\h.get? p.1=some p.2:=by
 obtain⟨b,hb,e⟩:=Hs.mp hp
 cases q:h.get? b with
 | none=>rw[q]at e; cases e
 | some o =>
  rw[q]at e
  have e':(b,o)=p:=As e
  subst e'
  exact⟨hb,q⟩
theorem Inv.pinned{pins:List (Addr×Obj)}{σ:St}{H:Hp}{s:AD}{fp:List Addr}(I:Inv X pins σ H s)(hf:∀ b∈fp,FpOk X pins H b)(ho:∀ b∈fp,∃ o,s.heap.get? b=some o/\∀ v,o.data≠.cell v):Inv X (pins++pinsAt fp s.heap) σ H s :=
 I.pins_of fun p hp=>(C6.mp hp).elim (fun z=>I.pin p (Am _ z)) fun z=>by
  obtain⟨hb,e⟩:=zIp z
  obtain⟨f0,f1,f2,_⟩:=hf p.1 hb
  obtain⟨o,e',d⟩:=ho p.1 hb
  rw[e]at e'; cases e'
  exact⟨e,f0,f1,f2,d⟩
theorem Inv.unpinned{pins pl:List (Addr×Obj)}{σ:St}{H:Hp}{s:AD}(I:Inv X (pins++pl) σ H s):Inv X pins σ H s:=I.pins_of fun p hp=>I.pin p (Am _ (Ez _ hp))
theorem zNZ{iter:Expr}{body:List Stmt}{wi:TI}{g:TG}{tb:TS}{pos:Pos}(hp:Hq (model X.prog X.w) X.A X.env X.xe)(hc:X.calm=true)(hi:PI X tg iter wi)(hg:PG X tg g)(hb:PSs X body tb)
  (hs:∀ x,CS iter X.env x=pure x:=by intro _; rfl):PS X (.For tg iter body [] pos) (tFor wi g tb):=by
 intro pins s σ H D I h
 refine wpAny_For (thn (hi pins s σ H _ I h) fun v s1 h1=>thn h1 fun itv s2 h2=>?_) hs
 obtain⟨it,fp,tn,J,H2,e,I2,T,st2,f2,W,⟨m0,w0⟩,turn⟩:=h2
 subst e
 have stat:∀ {H':Hp},(∀ b∈fp,H' b=none)->∀ b∈fp,FpOk X pins H' b:=fun hn b hb=>⟨hn b hb,(f2 b hb).2⟩
 refine codeAny_forLoop_any (fun n s'=>∃ i σ' H',Inv X pins σ' H' s'/\tn i s'.heap/\(∀ b∈fp,H' b=none)/\W i n σ' H') ?_ m0 ⟨0,σ,H2,I2,st2,fun b hb=>(f2 b hb).1,w0⟩
 rintro n s3 ⟨i,σ3,H3,I3,st3,fr3,w3⟩
 rcases turn i n σ3 H3 w3 with ⟨stop,qn⟩ | ⟨go,N,hN,step⟩
 ·refine Cu hp (thn (T.done X rfl rfl rfl hc i pins s3 σ3 H3 X.xe I3 (stat fr3) st3 stop) fun r s4 ⟨hr,I4⟩=>?_)
  subst hr
  exact Bu ⟨σ3,H3,I4,qn⟩
 ·refine Cu hp (thn (T.item X rfl rfl rfl hc i pins s3 σ3 H3 X.xe I3 (stat fr3) st3 go) fun r s4 ⟨u,hr,h4⟩=>?_)
  subst hr
  refine Cu hp (thn h4 fun _ s5 ⟨x,H5,I5,r5,y5,st5,fr5⟩=>?_)
  have I5':=I5.pinned (stat fr5) (T.obj _ _ st5)
  refine Cu hp (thn (hg _ s5 σ3 H5 x u _ I5' r5 (step x H5 y5)) fun _ s6 ⟨σ6,H6,I6,q6⟩=>?_)
  refine Cu hp (thn (hb _ s6 σ6 H6 _ I6 q6) fun f s7 q7=>?_)
  have again:∀ {σ7:St} {H7:Hp},Inv X (pins++pinsAt fp s5.heap) σ7 H7 s7->N σ7 H7->∃ m,m < n/\∃ i σ' H',Inv X pins σ' H' s7/\tn i s7.heap/\(∀ b∈fp,H' b=none)/\W i m σ' H':=fun {σ7 H7} I7 n7=>by
   obtain⟨m',hm,w7⟩:=hN σ7 H7 n7
   refine⟨m',hm,i+1,σ7,H7,I7.unpinned,T.keep _ _ _ st5 fun b hb o e=>(I7.pin (b,o) (Am _ (Am _ (zCL hb e)))).1,fun b hb=>?_,w7⟩
   obtain⟨o,e,d⟩:=T.obj _ _ st5 b hb
   exact (I7.pin (b,o) (Am _ (Am _ (zCL hb e)))).2.1
  cases f with
  | next=>obtain⟨σ7,H7,I7,n7⟩:=q7; exact again I7 n7
  | cont=>obtain⟨σ7,H7,I7,n7⟩:=q7; exact again I7 n7
  | brk=>obtain⟨σ7,H7,I7,q7⟩:=q7; exact⟨σ7,H7,I7.unpinned,q7⟩
  | ret v=>obtain⟨x7,σ7,H7,I7,r7,q7⟩:=q7; exact⟨x7,σ7,H7,I7.unpinned,r7,q7⟩
end
abbrev R2:=V->V->Hp->VK->Prop
noncomputable def OpR (X:Cx) (f:AB->AB->Sem AB) (r:R2):Prop :=
 ∀ (pins:List (Addr×Obj)) (s:AD) (σ:St) (H:Hp) (x y:V) (v u:AB) (Q:VK),Inv X pins σ H s->RelV x v->RelV y u->r x y H Q ->
  AM (model X.prog X.w) X.A (f v u) (EP X pins σ Q) X.xe s
noncomputable def UnR (X:Cx) (f:AB->Sem AB) (r:V->Hp->VK->Prop):Prop :=
 ∀ (pins:List (Addr×Obj)) (s:AD) (σ:St) (H:Hp) (x:V) (v:AB) (Q:VK),Inv X pins σ H s->RelV x v->r x H Q ->
  AM (model X.prog X.w) X.A (f v) (EP X pins σ Q) X.xe s
noncomputable def CallR (X:Cx) (f:AB) (r:List V->Hp->VK->Prop):Prop :=
 ∀ (pins:List (Addr×Obj)) (s:AD) (σ:St) (H:Hp) (xs:List V) (us:List AB) (Q:VK),Inv X pins σ H s->Vals xs us->r xs H Q ->
  AM (model X.prog X.w) X.A (call f us) (EP X pins σ Q) X.xe s
noncomputable def TruR (X:Cx) (r:V->Hp->(Bool->Hp->Prop)->Prop):Prop :=
 ∀ (pins:List (Addr×Obj)) (s:AD) (σ:St) (H:Hp) (x:V) (v:AB) (Q:Bool->Hp->Prop),Inv X pins σ H s->RelV x v->r x H Q ->
  AM (model X.prog X.w) X.A (truthy v) (TP X pins σ Q) X.xe s
noncomputable def tOp (r:R2) (ta tb:TE):TE:=fun σ H Q=>ta σ H fun x H1=>tb σ H1 fun y H2=>r x y H2 Q
noncomputable def tUn (r:V->Hp->VK->Prop) (ta:TE):TE:=fun σ H Q=>ta σ H fun x H1=>r x H1 Q
noncomputable def rI (C:Int->Int->Prop) (g:Int->Int->V):R2:=fun x y H Q=>∃ i j,x=.int i/\y=.int j/\C i j/\Q (g i j) H
noncomputable def rI0 (g:Int->Int->V):R2:=fun x y H Q=>∃ i j,x=.int i/\y=.int j/\Q (g i j) H
noncomputable def rU (g:Int->V):V->Hp->VK->Prop:=fun x H Q=>∃ i,x=.int i/\Q (g i) H
section
variable {X:Cx}{a b c:Expr}{ta tb tc:TE}{pos:Pos}
theorem binT(ha:PE X a ta)(hb:PE X b tb){pins:List (Addr×Obj)}{s:AD}{σ:St}{H:Hp}{R:V->V->Hp->Prop}(I:Inv X pins σ H s)
  (h:ta σ H fun x H1=>tb σ H1 fun y H2=>R x y H2) {Q:AB->AD->Prop} {f:AB->AB->Sem AB}
  (hf:∀ v u s2 x y H2,Inv X pins σ H2 s2->RelV x v->RelV y u->R x y H2->AM (model X.prog X.w) X.A (f v u) Q X.xe s2) :
  AM (model X.prog X.w) X.A (eval a X.env) (fun v s₁=>AM (model X.prog X.w) X.A (eval b X.env) (fun u s₂=>AM (model X.prog X.w) X.A (f v u) Q X.xe s₂) X.xe s₁) X.xe s:=by
 refine thn (ha pins s σ H _ I h) fun v s1 ⟨x,H1,I1,r1,q1⟩=>?_
 refine thn (hb pins s1 σ H1 _ I1 q1) fun u s2 ⟨y,H2,I2,r2,q2⟩=>?_
 exact hf v u s2 x y H2 I2 r1 r2 q2
theorem zOl{op:Operator}{r:R2}(ho:OpR X (Cg op) r)(ha:PE X a ta)(hb:PE X b tb):PE X (.BinOp a op b pos) (tOp r ta tb):=by
 intro pins s σ H Q I h
 exact wpAny_BinOp (binT ha hb I h fun v u s2 x y H2 I2 rx ry q=>ho pins s2 σ H2 x y v u Q I2 rx ry q)
theorem zO9{op:UnaryOp}{r:V->Hp->VK->Prop}(ho:UnR X (unaryOp op) r)(ha:PE X a ta):PE X (.UnaryOp op a pos) (tUn r ta):=by
 intro pins s σ H Q I h
 exact UnaryOp_ (thn (ha pins s σ H _ I h) fun v s1 ⟨x,H1,I1,r1,q1⟩=>ho pins s1 σ H1 x v Q I1 r1 q1)
theorem opI{f:AB->AB->Sem AB}{C:Int->Int->Prop}{g:Int->Int->Int}
  (rule:∀ (i j:Int) (t u:Tok) (s:AD) (Q:AB->AD->Prop) (E:AB->AD->Prop),C i j->Q (.int (g i j) s.toks) { s with toks:=s.toks+1 }->AM (model X.prog X.w) X.A (f (.int i t) (.int j u)) Q E s) :
  OpR X f (rI C fun i j=>.int (g i j)):=by
 intro pins s σ H x y v u Q I rx ry h
 obtain⟨i,j,rfl,rfl,hc,q⟩:=h
 obtain⟨t,rfl⟩:=rx
 obtain⟨t',rfl⟩:=ry
 exact rule i j t t' s _ _ hc ⟨.int (g i j),H,I.tok _,⟨_,rfl⟩,q⟩
theorem opI0{f:AB->AB->Sem AB}{g:Int->Int->Int}
  (rule:∀ (i j:Int) (t u:Tok) (s:AD) (Q:AB->AD->Prop) (E:AB->AD->Prop),Q (.int (g i j) s.toks) { s with toks:=s.toks+1 }->AM (model X.prog X.w) X.A (f (.int i t) (.int j u)) Q E s) :
  OpR X f (rI0 fun i j=>.int (g i j)):=by
 intro pins s σ H x y v u Q I rx ry h
 obtain⟨i,j,rfl,rfl,q⟩:=h
 obtain⟨t,rfl⟩:=rx
 obtain⟨t',rfl⟩:=ry
 exact rule i j t t' s _ _ ⟨.int (g i j),H,I.tok _,⟨_,rfl⟩,q⟩
theorem opB0{f:AB->AB->Sem AB}{g:Int->Int->Bool}
  (rule:∀ (i j:Int) (t u:Tok) (s:AD) (Q:AB->AD->Prop) (E:AB->AD->Prop),Q (.bool (g i j)) s->AM (model X.prog X.w) X.A (f (.int i t) (.int j u)) Q E s) :
  OpR X f (rI0 fun i j=>.bl (g i j)):=by
 intro pins s σ H x y v u Q I rx ry h
 obtain⟨i,j,rfl,rfl,q⟩:=h
 obtain⟨t,rfl⟩:=rx
 obtain⟨t',rfl⟩:=ry
 exact rule i j t t' s _ _ ⟨.bl (g i j),H,I,rfl,q⟩
def CDiv (i j:Int):Prop:=0 < j/\j < 1073741824
def CPow (i j:Int):Prop:=0<=j/\j<=1000000/\i.natAbs < 2 ^ 64
def CMul (i j:Int):Prop:=(-(2 ^ 64) < i/\i < 2 ^ 64)\/(-(2 ^ 64) < j/\j < 2 ^ 64)
theorem CMul.ok{i j:Int}(h:CMul i j):IntMulOk i j:=by
 rcases h with ⟨h1,h2⟩ | ⟨h1,h2⟩
 ·exact .of_left (K9 h1 h2)
 ·exact .of_right (K9 h1 h2)
theorem zNl:OpR X (Cg .Add) (rI0 fun i j=>.int (i+j)):=opI0 fun _ _ _ _ _ _ _ q=>add_int q
theorem zNi:OpR X (Cg .Sub) (rI0 fun i j=>.int (i - j)):=opI0 fun _ _ _ _ _ _ _ q=>sub_int q
theorem zNm:OpR X (Cg .Mult) (rI CMul fun i j=>.int (i * j)):=opI fun _ _ _ _ _ _ _ hc q=>mul_int q hc.ok
theorem zLd:OpR X (Cg .FloorDiv) (rI CDiv fun i j=>.int (i / j)):=opI fun i j _ _ _ _ _ hc q=>by
 have h1:(0:Int) < j:=hc.1
 have h2:j < 1073741824:=hc.2
 exact floordiv_int (by omega) (by rw[Int.fdiv_eq_ediv_of_nonneg i (by omega)]; exact q) (.inl (PyProof.noPylong_small (by omega)))
theorem zNT:OpR X (Cg .Mod) (rI (fun _ j=>0 < j) fun i j=>.int (i % j)):=opI fun i j _ _ _ _ _ hc q=>by
 have h1:(0:Int) < j:=hc
 exact mod_int' (by omega) (by rw[Int.fmod_eq_emod_of_nonneg i (by omega)]; exact q)
theorem zNw:OpR X (Cg .Pow) (rI CPow fun i j=>.int (i ^ j.toNat)):=opI fun _ _ _ _ _ _ _ hc q=>pow_int_small hc.1 hc.2.1 hc.2.2 q
theorem unI{f:AB->Sem AB}{g:Int->Int}
  (rule:∀ (i:Int) (t:Tok) (s:AD) (Q:AB->AD->Prop) (E:AB->AD->Prop),Q (.int (g i) s.toks) { s with toks:=s.toks+1 }->AM (model X.prog X.w) X.A (f (.int i t)) Q E s) :
  UnR X f (rU fun i=>.int (g i)):=by
 intro pins s σ H x v Q I rx h
 obtain⟨i,rfl,q⟩:=h
 obtain⟨t,rfl⟩:=rx
 exact rule i t s _ _ ⟨.int (g i),H,I.tok _,⟨_,rfl⟩,q⟩
theorem zNk:UnR X (unaryOp .USub) (rU fun i=>.int (-i)):=unI fun _ _ _ _ _ q=>neg_int q
end
noncomputable def scal:V->V->Bool
 | .non,.non=>true | .non,.int _=>true | .int _,.non=>true | .non,.bl _=>true | .bl _,.non=>true | .non,.str _=>true | .str _,.non=>true
 | .int _,.int _=>true | .bl _,.bl _=>true | .str _,.str _=>true | .byt _,.byt _=>true
 | .int _,.str _=>true | .str _,.int _=>true | .bl _,.str _=>true | .str _,.bl _=>true
 | _,_=>false
noncomputable def rEq:R2:=fun x y H Q=>scal x y=true/\Q (.bl (decide (x=y))) H
noncomputable def rNe:R2:=fun x y H Q=>scal x y=true/\Q (.bl (!decide (x=y))) H
theorem zGc{i j:Int}:decide (V.int i=V.int j)=(i == j):=by
 rw[Ed]
 simp
theorem zJH{i j:Bool}:decide (V.bl i=V.bl j)=(i == j):=by
 rw[Ed]
 simp
theorem zG1{i j:Str}:decide (V.str i=V.str j)=(i == j):=by
 rw[Ed]
 simp
theorem zGv{i j:Array UInt8}:decide (V.byt i=V.byt j)=(i.toList == j.toList):=by
 rw[Ed]
 cases i
 cases j
 simp
section
variable {X:Cx}{a b c:Expr}{ta tb tc:TE}{pos:Pos}
theorem zAR{pins:List (Addr×Obj)}{σ:St}{H:Hp}{s:AD}{Q:VK}{k k':Bool}(I:Inv X pins σ H s)(q:Q (.bl k) H)(e:k=k'):EP X pins σ Q (.bool k') s:=by
 subst e
 exact⟨.bl k,H,I,rfl,q⟩
theorem zLS:OpR X (Bl .Eq) rEq:=by
 intro pins s σ H x y v u Q I rx ry h
 obtain⟨hs,q⟩:=h
 cases x with
 | non =>
  cases rx
  cases y with
  | non=>cases ry; exact KG (zAR I q (by simp))
  | bl j=>cases ry; exact KH (zAR I q (by simp))
  | int j=>obtain⟨t',rfl⟩:=ry; exact KI (zAR I q (by simp))
  | str j=>obtain⟨t',rfl⟩:=ry; exact KJ (zAR I q (by simp))
  | _=>exact absurd (show false=true from hs) AU
 | bl i =>
  cases rx
  cases y with
  | non=>cases ry; exact KM (zAR I q (by simp))
  | bl j=>cases ry; exact eq_bool (zAR I q zJH)
  | str j=>obtain⟨t',rfl⟩:=ry; exact Ji (zAR I q (by simp))
  | _=>exact absurd (show false=true from hs) AU
 | int i =>
  obtain⟨t,rfl⟩:=rx
  cases y with
  | non=>cases ry; exact KN (zAR I q (by simp))
  | int j=>obtain⟨t',rfl⟩:=ry; exact eq_int (zAR I q zGc)
  | str j=>obtain⟨t',rfl⟩:=ry; exact Jj (zAR I q (by simp))
  | _=>exact absurd (show false=true from hs) AU
 | str i =>
  obtain⟨t,rfl⟩:=rx
  cases y with
  | non=>cases ry; exact KO (zAR I q (by simp))
  | bl j=>cases ry; exact Jk (zAR I q (by simp))
  | int j=>obtain⟨t',rfl⟩:=ry; exact Jl (zAR I q (by simp))
  | str j=>obtain⟨t',rfl⟩:=ry; exact eq_str (zAR I q zG1)
  | _=>exact absurd (show false=true from hs) AU
 | byt i =>
  obtain⟨t,rfl⟩:=rx
  cases y with
  | byt j=>obtain⟨t',rfl⟩:=ry; exact PySem.W.eq_bytes (zAR I q zGv)
  | _=>exact absurd (show false=true from hs) AU
 | _=>cases y <;> exact absurd (show false=true from hs) AU
theorem zOD:OpR X (Bl .NotEq) rNe:=by
 intro pins s σ H x y v u Q I rx ry h
 obtain⟨hs,q⟩:=h
 cases x with
 | non =>
  cases rx
  cases y with
  | non=>cases ry; exact KP (zAR I q (by simp))
  | bl j=>cases ry; exact KQ (zAR I q (by simp))
  | int j=>obtain⟨t',rfl⟩:=ry; exact KR (zAR I q (by simp))
  | str j=>obtain⟨t',rfl⟩:=ry; exact KS (zAR I q (by simp))
  | _=>exact absurd (show false=true from hs) AU
 | bl i =>
  cases rx
  cases y with
  | non=>cases ry; exact KU (zAR I q (by simp))
  | bl j=>cases ry; exact ne_bool (zAR I q (congrArg not zJH))
  | str j=>obtain⟨t',rfl⟩:=ry; exact Jm (zAR I q (by simp))
  | _=>exact absurd (show false=true from hs) AU
 | int i =>
  obtain⟨t,rfl⟩:=rx
  cases y with
  | non=>cases ry; exact KW (zAR I q (by simp))
  | int j=>obtain⟨t',rfl⟩:=ry; exact ne_int (zAR I q (congrArg not zGc))
  | str j=>obtain⟨t',rfl⟩:=ry; exact Jn (zAR I q (by simp))
  | _=>exact absurd (show false=true from hs) AU
 | str i =>
  obtain⟨t,rfl⟩:=rx
  cases y with
  | non=>cases ry; exact KY (zAR I q (by simp))
  | bl j=>cases ry; exact Jo (zAR I q (by simp))
  | int j=>obtain⟨t',rfl⟩:=ry; exact Jp (zAR I q (by simp))
  | str j=>obtain⟨t',rfl⟩:=ry; exact ne_str (zAR I q (congrArg not zG1))
  | _=>exact absurd (show false=true from hs) AU
 | byt i =>
  obtain⟨t,rfl⟩:=rx
  cases y with
  | byt j=>obtain⟨t',rfl⟩:=ry; exact PySem.W.ne_bytes (zAR I q (congrArg not zGv))
  | _=>exact absurd (show false=true from hs) AU
 | _=>cases y <;> exact absurd (show false=true from hs) AU
theorem zOE:OpR X (Bl .Lt) (rI0 fun i j=>.bl (decide (i < j))):=opB0 fun _ _ _ _ _ _ _ q=>lt_int q
theorem zOh:OpR X (Bl .LtE) (rI0 fun i j=>.bl (decide (i<=j))):=opB0 fun _ _ _ _ _ _ _ q=>le_int q
theorem zOa:OpR X (Bl .Gt) (rI0 fun i j=>.bl (decide (j < i))):=opB0 fun _ _ _ _ _ _ _ q=>gt_int q
theorem zOI:OpR X (Bl .GtE) (rI0 fun i j=>.bl (decide (j<=i))):=opB0 fun _ _ _ _ _ _ _ q=>ge_int q
theorem zNO:OpR X (Bl .Is) (fun x y H Q=>y=.non/\Q (.bl (decide (x=.non))) H):=by
 intro pins s σ H x y v u Q I rx ry h
 obtain⟨rfl,q⟩:=h
 cases ry
 refine is_none_gen (zAR I q ?_)
 cases x <;> first
  | (cases rx; rfl)
  | (obtain⟨t,rfl⟩:=rx; rfl)
theorem OpR.or{f:AB->AB->Sem AB}{r r':R2}(h:OpR X f r)(h':OpR X f r'):OpR X f (fun x y H Q=>r x y H Q\/r' x y H Q):=by
 intro pins s σ H x y v u Q I rx ry q
 rcases q with q | q
 ·exact h pins s σ H x y v u Q I rx ry q
 ·exact h' pins s σ H x y v u Q I rx ry q
theorem nomark(b:Expr){op:Gk}(h:op≠.In:=by decide)(h2:op≠.NotIn:=by decide):Cw op b=false:=by
 have e1:(op == CmpOp.In)=false:=by cases op <;> first | rfl | exact absurd rfl h
 have e2:(op == CmpOp.NotIn)=false:=by cases op <;> first | rfl | exact absurd rfl h2
 cases b <;> simp[Cw,e1,e2]
theorem zMg{op:Gk}{r:R2}(ho:OpR X (Bl op) r)(ha:PE X a ta)(hb:PE X b tb)(hm:Cw op b=false):PE X (.Compare a [op] [b] pos) (tOp r ta tb):=by
 intro pins s σ H Q I h
 exact wpAny_Compare1 (binT ha hb I h fun v u s2 x y H2 I2 rx ry q=>ho pins s2 σ H2 x y v u Q I2 rx ry q) hm
noncomputable def tTest (t:TE):TT:=fun σ H Q=>t σ H fun x H'=>∃ k,x=.bl k/\Q k H'
theorem zLv{op:Gk}{r:R2}(ho:OpR X (Bl op) r)(ha:PE X a ta)(hb:PE X b tb)(hm:Cw op b=false):PT X (.Compare a [op] [b] pos) (tTest (tOp r ta tb)):=by
 intro pins s σ H Q I h
 refine wpAny_isTrue_Compare1 (thn (ha pins s σ H _ I h) fun v s1 ⟨x,H1,I1,r1,q1⟩=>thn (hb pins s1 σ H1 _ I1 q1) fun u s2 ⟨y,H2,I2,r2,q2⟩ =>
  thn (ho pins s2 σ H2 x y v u _ I2 r1 r2 q2) fun c s3 ⟨z,H3,I3,r3,k,e,q3⟩=>?_) hm
 subst e
 cases r3
 exact EW ⟨H3,I3,q3⟩
noncomputable def tChain (r r':R2) (ta tb tc:TE):TE:=fun σ H Q=>ta σ H fun x H1=>tb σ H1 fun y H2=>r x y H2 fun z H3=>∃ k,z=.bl k /\
 (if k=true then tc σ H3 fun w' H4=>r' y w' H4 Q else Q (.bl false) H3)
theorem zKW{op op':Gk}{r r':R2}(ho:OpR X (Bl op) r)(ho':OpR X (Bl op') r')(ha:PE X a ta)(hb:PE X b tb)(hc:PE X c tc)
  (hm:lastMarks [op,op'] [b,c]=false:=by with_unfolding_all rfl):PE X (.Compare a [op,op'] [b,c] pos) (tChain r r' ta tb tc):=by
 intro pins s σ H Q I h
 refine Compare_chain (thn (ha pins s σ H _ I h) fun v s1 ⟨x,H1,I1,r1,q1⟩=>chain_link (thn (hb pins s1 σ H1 _ I1 q1) fun u s2 ⟨y,H2,I2,r2,q2⟩ =>
  thn (ho pins s2 σ H2 x y v u _ I2 r1 r2 q2) fun d s3 ⟨z,H3,I3,r3,k,e,q3⟩=>?_)) hm
 subst e
 cases r3
 refine EW ?_
 cases k with
 | false=>exact ite_ff ⟨.bl false,H3,I3,rfl,q3⟩
 | true=>exact ite_tt (chain_last (thn (hc pins s3 σ H3 _ I3 q3) fun w' s4 ⟨z',H4,I4,r4,q4⟩=>ho' pins s4 σ H4 y z' u w' Q I4 r2 r4 q4))
noncomputable def TruV (K:AH) (x:V) (H:Hp) (k:Bool):Prop :=
 match x with
 | .non=>k=false
 | .bl b=>k=b
 | .int i=>k=(i != 0)
 | .str y=>y.length<=AE/\k=((y.length:Int) != 0)
 | .byt y=>y.size<=AE/\k=((y.size:Int) != 0)
 | .ref p=>(∃ xs,SqL K H p xs/\k=!xs.isEmpty)\/(∃ xs,SqT K H p xs/\k=!xs.isEmpty)\/∃ kvs,H p=some (.dK kvs)/\k=!kvs.isEmpty
 | _=>False
theorem zHB{κ:Type}{kvs:List (κ×V)}{vs:List (κ×AB)}(r:KV kvs vs):(!vs.isEmpty)=!kvs.isEmpty:=by
 cases r <;> rfl
theorem zDd{xs:List V}{its:List AB}(r:Vals xs its):(!its.toArray.isEmpty)=!xs.isEmpty:=by
 cases r <;> simp
theorem line63:(AE:Nat) < 2 ^ 63:=by rw[Bv]; decide
theorem zM3:TruR X (fun x H Q=>∃ k,TruV X.K x H k/\Q k H):=by
 intro pins s σ H x v Q I rx h
 obtain⟨k,e,q⟩:=h
 have hl:=line63
 have hs:AE=16777216:=Bv
 cases x with
 | non =>
  cases rx
  have e':k=false:=e
  subst e'
  exact truthy_none ⟨H,I,q⟩
 | bl b =>
  cases rx
  have e':k=b:=e
  subst e'
  exact EW ⟨H,I,q⟩
 | int i =>
  obtain⟨t,rfl⟩:=rx
  have e':k=(i != 0):=e
  subst e'
  exact PySem.P.truthy_int ⟨H,I,q⟩
 | str y =>
  obtain⟨t,rfl⟩:=rx
  obtain⟨hy,e'⟩:y.length<=AE/\k=((y.length:Int) != 0):=e
  subst e'
  exact PySem.P.truthy_str (by omega) ⟨H,I.tok _,q⟩
 | byt y =>
  obtain⟨t,rfl⟩:=rx
  obtain⟨hy,e'⟩:y.size<=AE/\k=((y.size:Int) != 0):=e
  subst e'
  exact PySem.W.truthy_bytes (by omega) ⟨H,I.tok _,q⟩
 | ref p =>
  cases rx
  have e':(∃ xs,SqL X.K H p xs/\k=!xs.isEmpty)\/(∃ xs,SqT X.K H p xs/\k=!xs.isEmpty)\/∃ kvs,H p=some (.dK kvs)/\k=!kvs.isEmpty:=e
  rcases e' with ⟨xs,hx,e'⟩ | ⟨xs,hx,e'⟩ | ⟨kvs,hx,e'⟩
  ·subst e'
   obtain⟨its,r,pl,hz⟩:=I.list hx
   have hlen:=r.length
   exact wpAny_truthy_list pl.isList (by simp only[AS]; omega) ⟨H,I.tok _,by rw[zDd r]; exact q⟩
  ·subst e'
   obtain⟨its,r,pl,hz⟩:=I.tuple hx
   have hlen:=r.length
   exact truthy_tuple pl (by simp only[AS]; omega) ⟨H,I.tok _,by rw[zDd r]; exact q⟩
  ·subst e'
   obtain⟨hz,hS,vs,r,m⟩:kvs.length<=AE/\(p == EK)=false/\∃ vs,KV kvs vs/\s.heap.DictOf (mixKind X.prog X.w) p vs:=I.hok p _ hx
   have hlen:kvs.length=vs.length:=IY r
   exact wpAny_truthy_dict hS m (by omega) ⟨H,I.tok _,by rw[zHB r]; exact q⟩
 | _=>exact (show False from e).elim
theorem zFT(ha:PE X a ta)(he:∀ whole,G9 a X.env whole=(do let v ← whole; H9 a.pos; holding [v] (truthy v))) :
  PT X a (fun σ H Q=>ta σ H fun x H'=>∃ k,TruV X.K x H' k/\Q k H'):=by
 intro pins s σ H Q I h
 exact isTrue_plain (thn (ha pins s σ H _ I h) fun v s1 ⟨x,H1,I1,r1,q1⟩=>zM3 pins s1 σ H1 x v Q I1 r1 q1) (he _)
theorem zH0:OpR X (Cg .Add) (fun x y H Q=>∃ i j,x=.str i/\y=.str j/\i.length+j.length<=AE/\Q (.str (i++j)) H):=by
 intro pins s σ H x y v u Q I rx ry h
 obtain⟨i,j,rfl,rfl,hz,q⟩:=h
 obtain⟨t,rfl⟩:=rx
 obtain⟨t',rfl⟩:=ry
 exact add_str (fun t' tk=>⟨.str (i++j),H,I.tok _,⟨_,rfl⟩,q⟩) hz
theorem vals1{x:V}{us:List AB}(r:Vals [x] us):∃ u,us=[u]/\RelV x u:=by
 cases r with
 | cons r1 r2=>cases r2; exact⟨_,rfl,r1⟩
theorem vals2{x y:V}{us:List AB}(r:Vals [x,y] us):∃ u w',us=[u,w']/\RelV x u/\RelV y w':=by
 cases r with
 | cons r1 r2 =>
  cases r2 with
  | cons r3 r4=>cases r4; exact⟨_,_,rfl,r1,r3⟩
theorem zIx(hc:X.calm=true):CallR X (.builtin "max") (fun xs H Q=>∃ i j,xs=[.int i,.int j]/\Q (.int (if j > i then j else i)) H):=by
 intro pins s σ H xs us Q I r h
 obtain⟨i,j,rfl,q⟩:=h
 obtain⟨u,w',rfl,⟨t,rfl⟩,⟨t',rfl⟩⟩:=vals2 r
 refine max_two_ints (I.ok.hd hc) fun h' tk k=>⟨_,H,I.kept k,?_,q⟩
 by_cases hj:j > i
 ·rw[if_pos hj,if_pos hj]; exact⟨_,rfl⟩
 ·rw[if_neg hj,if_neg hj]; exact⟨_,rfl⟩
theorem zJh(hc:X.calm=true):CallR X (.builtin "min") (fun xs H Q=>∃ i j,xs=[.int i,.int j]/\Q (.int (if j < i then j else i)) H):=by
 intro pins s σ H xs us Q I r h
 obtain⟨i,j,rfl,q⟩:=h
 obtain⟨u,w',rfl,⟨t,rfl⟩,⟨t',rfl⟩⟩:=vals2 r
 refine min_two_ints (I.ok.hd hc) fun h' tk k=>⟨_,H,I.kept k,?_,q⟩
 by_cases hj:j < i
 ·rw[if_pos hj,if_pos hj]; exact⟨_,rfl⟩
 ·rw[if_neg hj,if_neg hj]; exact⟨_,rfl⟩
theorem zIY:CallR X (.type "int") (fun xs H Q=>(∃ i,xs=[.int i]/\Q (.int i) H)\/∃ k,xs=[.bl k]/\Q (.int (if k then 1 else 0)) H):=by
 intro pins s σ H xs us Q I r h
 rcases h with ⟨i,rfl,q⟩ | ⟨k,rfl,q⟩
 ·obtain⟨u,rfl,t,rfl⟩:=vals1 r
  exact call_int_int ⟨.int i,H,I,⟨_,rfl⟩,q⟩
 ·obtain⟨u,rfl,r1⟩:=vals1 r
  cases r1
  exact call_int_bool ⟨.int (if k then 1 else 0),H,I.tok _,⟨_,rfl⟩,q⟩
end
theorem RelO.some_of{v:V}{o:Option AB}(r:RelO (some v) o):∃ u,o=some u/\RelV v u:=by
 cases o with
 | none=>exact (show False from r).elim
 | some u=>exact⟨u,rfl,r⟩
section
variable {X:Cx}{pins:List (Addr×Obj)}{σ:St}{H:Hp}{s:AD}{a C dx:Addr}{fs:List (Str×V)}{f:Str}{v:V}{A:Ao}{E:AB->AD->Prop}
theorem zL4{prog:AY}{w:Af}{env:Env}{e:Expr}{f:Str}{pos:Pos}{s:AD}{Q:AB->AD->Prop}(hb:CU e f env (eval e env)=eval e env)
  (h:AM (model prog w) A (eval e env) (fun o s₁=>AM (model prog w) A (getAttr o f true) Q E s₁) E s):AM (model prog w) A (eval (.Attribute e f pos) env) Q E s :=
 Attribute_any_ h (by rw[arm_eval_Attribute,hb])
end
structure Room(k:Nat)(A:Ao):Prop where
 hd:A.handled=none
 dp:A.depth+3 * k+5 < HB
 un:A.units+16 * k+200 < Ks
 gd:A.guards=some []
theorem Room.mono{j k:Nat}{A:Ao}(r:Room k A)(h:j<=k):Room j A:=⟨r.hd,by have:=r.dp; omega,by have:=r.un; omega,r.gd⟩
theorem Room.deeper{k:Nat}{A:Ao}(r:Room (k+1) A)(env:Env):Room k (A.deeper env) :=
 ⟨r.hd,by have:=r.dp; show A.depth+1+3 * k+5 < _; omega,by have:=r.un; show A.units+3+16 * k+200 < _; omega,r.gd⟩
theorem zII{A:Ao}{C:Addr}{us:List AB}{kw:List (Str×AB)}:(A.under (.builtin "type.__call__" ⟨.ref C::us,kw⟩)).depth=A.depth+1:=by
 first | rfl | simp[FM,Code.weight,Code.isCreation,JT,Code.isCaller,Jq,Gz,guardIds]
theorem zHh{A:Ao}{C:Addr}{us:List AB}{kw:List (Str×AB)}:(A.under (.builtin "type.__call__" ⟨.ref C::us,kw⟩)).units=A.units+1:=by
 first | rfl | simp[FM,Code.cUnits,Jq,Gz]
theorem Room.depth{k:Nat}{A:Ao}(r:Room k A):A.depth < HB:=by have:=r.dp; omega
noncomputable def tNil:TA:=fun _ H Q=>Q [] H
noncomputable def tCons (ta:TE) (tr:TA):TA:=fun σ H Q=>ta σ H fun x H1=>tr σ H1 fun xs H2=>Q (x::xs) H2
section
variable {X:Cx}{e:Expr}{es:List Expr}{te:TE}{t:TA}{pos:Pos}
theorem zFx:PA X [] tNil:=fun _ _ _ _ H Q I h=>EC ⟨[],H,I,.nil,h⟩
theorem zC7(ha:PE X e te)(hr:PA X es t)(hs:AI (e::es) X.env=(false,eval e X.env)::AI es X.env:=by rfl):PA X (e::es) (tCons te t):=by
 intro pos pins s σ H Q I h
 rw[hs]
 show AM _ _ (spliced ((false,eval e X.env)::Bd pos (AI es X.env))) _ _ s
 refine FI (thn (ha pins s σ H _ I h) fun u s1 ⟨x,H1,I1,r1,q1⟩=>?_)
 exact thn (hr pos pins s1 σ H1 _ I1 q1) fun us s2 ⟨xs,H2,I2,r2,q2⟩=>⟨x::xs,H2,I2,.cons r1 r2,q2⟩
noncomputable def tTup (t:TA):TE:=fun σ H Q=>t σ H fun xs H1=>xs.length<=AE/\∀ p,H1 p=none->Q (.ref p) (upd H1 p (.tup xs))
noncomputable def tLst (t:TA):TE:=fun σ H Q=>t σ H fun xs H1=>xs.length<=AE/\∀ p,H1 p=none->Q (.ref p) (upd H1 p (.lst xs))
theorem zM8{x1}(h:PA X es t):PE X (.Tuple es x1 pos) (tTup t):=by
 intro pins s σ H Q I hq
 refine wpAny_Tuple_spliced (thn (h pos pins s σ H _ I hq) fun us s1 ⟨xs,H1,I1,r,z,q⟩=>⟨by rw[← r.length]; exact z,?_⟩)
 have hf:H1 s1.heap.objs.size=none:=I1.hok.fresh (AL _)
 refine⟨.ref s1.heap.objs.size,upd H1 s1.heap.objs.size (.tup xs),I1.laid (t':=s1.toks) (fun b u e=>AC _ e) (AL _) ?_,rfl,q _ hf⟩
 exact⟨z,us,r,⟨_,AN _ rfl,rfl,⟨_,rfl⟩,rfl⟩⟩
theorem zNE(h:PA X es t):PE X (.List es pos) (tLst t):=by
 intro pins s σ H Q I hq
 refine wpAny_List_spliced (thn (h pos pins s σ H _ I hq) fun us s1 ⟨xs,H1,I1,r,z,q⟩=>⟨by rw[← r.length]; exact z,?_⟩)
 have hf:H1 s1.heap.objs.size=none:=I1.hok.fresh (AL _)
 refine⟨.ref s1.heap.objs.size,upd H1 s1.heap.objs.size (.lst xs),I1.laid (t':=s1.toks) (fun b u e=>AC _ e) (AL _) ?_,rfl,q _ hf⟩
 exact⟨z,us,0,r,AN _ rfl⟩
end
abbrev Sp:=List V->Hp->VK->XK->Prop
abbrev CXT:=List Env->Hp->AD->XK->AB->AD->Prop
structure Env0(P:AY)(w:Af)(K:AH)(mg:Str->Option AB)(base:Heap)(A:Ao)(outer:List Env)(s:AD)(H:Hp):Prop where
 frames:A.frames=some outer
 mod:Mod K mg base
 bs:∀ b o,base.get? b=some o->s.heap.get? b=some o/\H b=none
 bsz:base.objs.size<=s.heap.objs.size
 funs:s.heap.FunFrames base outer
 frf:∀ b∈frs outer,H b=none
 hok:HOk P w H s.heap
 bare:EF s.gens
noncomputable def CE (outer:List Env) (P:AY) (w:Af) (H:Hp) (s:AD) (Q:VK) (u:AB) (s':AD):Prop :=
 ∃ v H',s'.os=s.os/\EF s'.gens/\Un (frs outer) [] H H' s.heap s'.heap/\HOk P w H' s'.heap/\RelV v u/\Q v H'
noncomputable def CR (CX:CXT) (outer:List Env) (P:AY) (w:Af) (H:Hp) (s:AD) (Q:VK) (E:XK) (r:IA) (s':AD):Prop :=
 match r with
 | .ok (.ret u)=>CE outer P w H s Q u s'
 | .ok _=>False
 | .error e=>CX outer H s E e s'
structure FnOk(P:AY)(w:Af)(K:AH)(mg:Str->Option AB)(base:Heap)(CX:CXT)(k:Nat)(f:Addr)(fd:AZ)(ps:List Str)(sp:Sp):Prop where
 len:∀ vs H Q E,sp vs H Q E->vs.length=ps.length
 run:∀ (A:Ao) (outer:List Env) (s:AD) (H:Hp) (args:Args) (us:List AB) (vs:List V) (Q:VK) (E:XK),Room k A->Env0 P w K mg base A outer s H->GL s fd args (ps.zip us)->Vals vs us->sp vs H Q E ->
  DK (model P w) A (.call (.ref f) args) (CR CX outer P w H s Q E) s
theorem FnOk.mono{P:AY}{w:Af}{K:AH}{mg:Str->Option AB}{base:Heap}{CX:CXT}{j k:Nat}{f:Addr}{fd:AZ}{ps:List Str}{sp:Sp}(F:FnOk P w K mg base CX j f fd ps sp)(h:j<=k) :
  FnOk P w K mg base CX k f fd ps sp:=⟨F.len,fun A outer s H args us vs Q E hr=>F.run A outer s H args us vs Q E (hr.mono h)⟩
section
variable {X:Cx}{pins:List (Addr×Obj)}{σ:St}{H:Hp}{s s':AD}
theorem Inv.env0(I:Inv X pins σ H s):Env0 X.prog X.w X.K X.mg X.base X.A X.stack s H :=
 ⟨I.ok.frames,I.ok.mod,I.bs,Aa I.ok.bsz I.sz,I.stack,I.stkFree,I.hok,I.bare⟩
theorem Inv.after{Q:VK}{u:AB}(I:Inv X pins σ H s)(h:CE X.stack X.prog X.w H s Q u s'):EP X pins σ Q u s':=by
 obtain⟨v,H',os,bare,un,hok,r,q⟩:=h
 obtain⟨hh,g,d,t,os'⟩:=s'
 obtain rfl:os'=s.os:=os
 exact⟨v,H',I.call (h':=hh) (g':=g) (d':=d) (t':=t) (ch:=[]) un hok bare (fun b z=>absurd z (by simp)),r,q⟩
end
noncomputable def tCall (sp:Sp) (dvs:List V) (E:XK) (t:TA):TE:=fun σ H Q=>t σ H fun vs H1=>sp (vs++dvs) H1 Q E
noncomputable def Binds (K:AH) (fd:AZ) (ps:List Str) (ds:List AB):Prop :=
 ∀ (s:AD) (us:List AB),K.In s.heap->(us++ds).length=ps.length->GL s fd ⟨us,[]⟩ (ps.zip (us++ds))
theorem Binds.all{K:AH}{fd:AZ}{ps:List Str}(h:∀ us:List AB,us.length=ps.length->Kt fd ⟨us,[]⟩=pure (ps.zip us)):Binds K fd ps []:=fun s us _ hl=>by
 rw[BY]at hl ⊢
 exact .of_eq (h us hl)
def Passes (CX:CXT) (X:Cx) (E:XK):Prop:=∀ (pins:List (Addr×Obj)) (σ:St) (H:Hp) (s:AD) (e:AB) (s':AD),Inv X pins σ H s->CX X.stack H s E e s'->X.xe e s'
section
variable {X:Cx}{CX:CXT}{k:Nat}{f C:Addr}{fd:AZ}{ps:List Str}{sp:Sp}{dvs:List V}{ds:List AB}{E:XK}{x m:Str}{p pos apos:Pos}{e o:Expr}{es:List Expr}{ta:TE}{t:TA}
theorem zJ3{pins:List (Addr×Obj)}{σ:St}{H:Hp}{s:AD}{Q:VK}{us:List AB}{vs:List V}(F:FnOk X.prog X.w X.K X.mg X.base CX k f fd ps sp)(hr:Room k X.A)(hb:Binds X.K fd ps ds)(hd:Vals dvs ds)(hx:Passes CX X E)
  (I:Inv X pins σ H s) (r:Vals vs us) (h:sp (vs++dvs) H Q E):AM (model X.prog X.w) X.A (call (.ref f) us) (EP X pins σ Q) X.xe s:=by
 have r2:Vals (vs++dvs) (us++ds):=r.append hd
 have hl:(us++ds).length=ps.length:=by rw[← r2.length]; exact F.len _ _ _ _ h
 refine E4 (C7 (F.run X.A X.stack s H ⟨us,[]⟩ (us++ds) (vs++dvs) Q E hr I.env0 (hb s us I.kIn hl) r2 h) fun r s' hq=>?_)
 cases r with
 | error e=>exact hx pins σ H s e s' I hq
 | ok fl =>
  cases fl with
  | ret u=>exact I.after hq
  | next=>exact Ay hq
  | brk=>exact Ay hq
  | cont=>exact Ay hq
theorem zML(F:FnOk X.prog X.w X.K X.mg X.base CX k f fd ps sp)(hr:Room k X.A)(hg:Gl X x)(hm:X.mg x=some (.ref f))(hk:An X.K (.ref f)=true)(hb:Binds X.K fd ps ds)(hd:Vals dvs ds)(hx:Passes CX X E)
  (ha:PA X (e::es) t) (hdb:(x == ("__debug__":Str))=false:=by decide) (he:AI (e::es) X.env=(false,eval e X.env)::AI es X.env:=by rfl) (hpl:(Bd pos (AI es X.env)).any (·.1)=false:=by rfl) :
  PE X (.Call (.Name x p) (e::es) [] pos) (tCall sp dvs E t):=by
 intro pins s σ H Q I h
 refine Bz (zBL I hg hm ?_ hdb)
 refine CV (h₀:=X.base) I.ok.mod.kin hk (thn (ha pos pins s σ H _ I h) fun us s1 ⟨vs,H1,I1,r,q⟩=>⟨I1.kIn,?_⟩) he hpl
 exact zJ3 F hr hb hd hx I1 r q
end
structure FnScope(N P:List Str)(sc:B6):Prop where
 kind:sc.kind=.function
 co:sc.isCoroutine=false
 gen:sc.isGenerator=false
 nd:N.Nodup
 pre:N.take P.length=P
 par:∀ x∈P,sc.names.lookup x=some .local\/sc.names.lookup x=some .cell
 nofree:∀ y∈sc.names,y.2≠.free
theorem zEq{D6:Str->Option CK}{x:Str}:∀ {binds:List (Str×AB)} {m:Str->Option AB},(∀ v,(x,v)∉binds)->HD D6 binds m x=m x
 | [],_,_=>rfl
 | (n,v)::r,m,h=>by
  unfold HD
  rw[zEq fun w hw=>h w (AK _ hw)]
  split
  ·have:x≠n:=by rintro rfl; exact h v AQ
   simp[this]
  ·rfl
theorem zEX{D6:Str->Option CK}{x:Str}:∀ {binds:List (Str×AB)} {m:Str->Option AB},(∀ v,(x,v)∉binds)->HE D6 binds m x=m x
 | [],_,_=>rfl
 | (n,v)::r,m,h=>by
  unfold HE
  rw[zEX fun w hw=>h w (AK _ hw)]
  split
  ·rfl
  ·have:x≠n:=by rintro rfl; exact h v AQ
   simp[this]
theorem zCj{D6:Str->Option CK}{x:Str}{v:AB}:∀ {P:List Str} {vs:List AB} {i:Nat} {m:Str->Option AB},P.Nodup->P[i]?=some x->vs[i]?=some v->D6 x=some .local ->
  HD D6 (P.zip vs) m x=some v
 | [],_,_,_,_,h,_,_=>by simp at h
 | _::_,[],_,_,_,_,h,_=>by simp at h
 | p::P,w::vs,0,m,nd,h1,h2,hk=>by
  simp at h1 h2; subst h1; subst h2
  show HD D6 ((p,w)::P.zip vs) m p=_
  unfold HD
  rw[zEq fun v hv=>(Bp.mp nd).1 (Ee hv).1,if_pos hk]
  simp
 | p::P,w::vs,i+1,m,nd,h1,h2,hk=>by
  show HD D6 ((p,w)::P.zip vs) m x=_
  unfold HD
  exact zCj (i:=i) (Bp.mp nd).2 (by simpa using h1) (by simpa using h2) hk
theorem zCd{D6:Str->Option CK}{x:Str}{v:AB}:∀ {P:List Str} {vs:List AB} {i:Nat} {m:Str->Option AB},P.Nodup->P[i]?=some x->vs[i]?=some v->D6 x≠some .local ->
  HE D6 (P.zip vs) m x=some v
 | [],_,_,_,_,h,_,_=>by simp at h
 | _::_,[],_,_,_,_,h,_=>by simp at h
 | p::P,w::vs,0,m,nd,h1,h2,hk=>by
  simp at h1 h2; subst h1; subst h2
  show HE D6 ((p,w)::P.zip vs) m p=_
  unfold HE
  rw[zEX fun v hv=>(Bp.mp nd).1 (Ee hv).1,if_neg hk]
  simp
 | p::P,w::vs,i+1,m,nd,h1,h2,hk=>by
  show HE D6 ((p,w)::P.zip vs) m x=_
  unfold HE
  exact zCd (i:=i) (Bp.mp nd).2 (by simpa using h1) (by simpa using h2) hk
noncomputable def start (N:List Str) (vs:List V):St:=vs.map some++Ad (N.length - vs.length) none
noncomputable def cxOf (CX:CXT) (P:AY) (w:Af) (K:AH) (mg:Str->Option AB) (base:Heap) (N:List Str) (qual:Str) (scope:B6) (f:Addr) (cd:AB) (A:Ao) (outer:List Env) (s:AD) (H:Hp) (E:XK):Cx where
 prog:=P
 w:=w
 K:=K
 mg:=mg
 base:=base
 A:=A.deeper (E5 qual scope s.heap.objs.size f cd)
 N:=N
 s₀:=s
 H₀:=H
 env:=E5 qual scope s.heap.objs.size f cd
 outer:=outer
 stack:=E5 qual scope s.heap.objs.size f cd::outer
 ex:=[]
 calm:=true
 fn:=fun _=>true
 pn:=[]
 xe:=fun e s'=>AM (model P w) (A.deeper (E5 qual scope s.heap.objs.size f cd)) (leaving (E5 qual scope s.heap.objs.size f cd) e) (fun _ s''=>CX outer H s E e s'') (fun e' s''=>CX outer H s E e' s'') s'
theorem zB9{sc:B6}{n:Nat}{x:Str}(h:sc.names.lookup x=some .cell):∃ c,(BJ n sc.names []).lookup x=some c:=by
 have q:=CW sc.names n [] (.inl h)
 exact C3.mp q
theorem zJA{CX:CXT}{P:AY}{w:Af}{K:AH}{mg:Str->Option AB}{base:Heap}{N ps:List Str}{qual:Str}{scope:B6}{f:Addr}{cd:AB}{A:Ao}{outer:List Env}{s s1:AD}{H:Hp}{E:XK}{us:List AB}{vs:List V}
  (S:FnScope N ps scope) (hd:A.handled=none) (e0:Env0 P w K mg base A outer s H) (hl:vs.length=ps.length) (r:Vals vs us)
  (x:InCallC s s.heap.objs.size (HD (E5 qual scope s.heap.objs.size f cd).kindOf (ps.zip us) fun _=>none) (BJ (s.heap.objs.size+1) scope.names []) (HE (E5 qual scope s.heap.objs.size f cd).kindOf (ps.zip us) fun _=>none) s1) :
  Inv (cxOf CX P w K mg base N qual scope f cd A outer s H E) [] (start N vs) H s1:=by
 have hpl:ps.length<=N.length:=by have:=congrArg GA S.pre; rw[CT]at this; omega
 obtain⟨h1,tk,rfl,hk⟩:=x.done
 have noA:∀ b:Addr,b∉(cxOf CX P w K mg base N qual scope f cd A outer s H E).ex:=fun b z=>absurd (show b∈([]:List Addr) from z) (by simp)
 refine⟨⟨e0.mod,S.kind,rfl,rfl,AL _,fun y z c h1 h2=>?_,fun y hy=>?_,fun y c _ h=>?_,fun _=>hd,G0 e0.frames,.inr ⟨rfl,rfl⟩,fun b z=>absurd z (noA b),e0.bs,e0.bsz,fun b _ _=>noA b,fun b z=>absurd z (noA b),e0.funs,e0.frf⟩,
  rfl,e0.bare,Un.kept hk,⟨_,x.toInCall.ns,fun i y v h1 h2 h3=>?_⟩,fun y c h=>⟨_,x.cell y c h⟩,e0.hok.fresh (AL _),fun y c h=>?_,fun p hp=>absurd (show p∈([]:List (Addr×Obj)) from hp) (by simp),e0.hok.kept hk,?_⟩
 ·exact Lc x.apart (A6 h1) (A6 h2)
 ·have hy:scope.names.lookup y=some .cell\/scope.names.lookup y=some .free:=hy
  rcases hy with hy | hy
  ·exact zB9 hy
  ·exact absurd rfl (S.nofree _ (A6 hy))
 ·exact CN (x.above y c (A6 h))
 ·have hi:i < vs.length:=by
   unfold start at h2
   by_cases hi:i < vs.length
   ·exact hi
   ·rw[CC (by simpa using hi)]at h2
    rw[EO]at h2
    split at h2 <;> cases h2
  have ha:vs[i]?=some v:=by
   unfold start at h2
   rw[BG (by simpa using hi),Ae]at h2
   cases e:vs[i]? with
   | none=>rw[e]at h2; cases h2
   | some a=>rw[e]at h2; cases h2; rfl
  obtain⟨u,hu,rv⟩:=r.get ha
  have hp:ps[i]?=some y:=by
   rw[← S.pre,Gm (by omega)]; exact h1
  have ndP:ps.Nodup:=by rw[← S.pre]; exact S.nd.sublist (IB _ _)
  refine⟨u,rv,?_⟩
  rcases S.par y (Dj hp) with k | k
  ·exact .inl ⟨k,zCj ndP hp hu k⟩
  ·obtain⟨c,e⟩:=zB9 (n:=s.heap.objs.size+1) k
   refine .inr ⟨.inl k,c,e,?_⟩
   have q:=x.cell y c e
   rw[zCd ndP hp hu (by show scope.names.lookup y≠_; rw[k]; decide)]at q
   exact q
 ·exact e0.hok.fresh (CN (x.above y c (A6 h)))
 ·unfold start
  show _=N.length
  rw[Aq,A7,HF]
  omega
theorem zHs{CX:CXT}{P:AY}{w:Af}{K:AH}{mg:Str->Option AB}{base:Heap}{k:Nat}{f:Addr}{name qual:Str}{params:Jr}{body:List Stmt}{scope:B6}{dV kV doc pm cdv ct oc:AB}{an od:Option Addr}
  {osl:Array (Option AB)} {N ps:List Str} {sp:Sp} (lk:K.lookup f=some ⟨oc,od,.func (Br name qual params body scope dV kV doc pm an cdv ct),osl⟩) (hcd:Bi K cdv qual=true) (S:FnScope N ps scope)
  (len:∀ vs H Q E,sp vs H Q E->vs.length=ps.length)
  (hbody:∀ (A:Ao) (outer:List Env) (s:AD) (H:Hp) (vs:List V) (Q:VK) (E:XK),Room k (A.deeper (E5 qual scope s.heap.objs.size f cdv))->sp vs H Q E ->
   ∃ t,PSs (cxOf CX P w K mg base N qual scope f cdv A outer s H E) body t/\t { nx:=fun _ H'=>Q .non H',rt:=Q } (start N vs) H) :
  FnOk P w K mg base CX (k+1) f (Br name qual params body scope dV kV doc pm an cdv ct) ps sp:=by
 refine⟨len,fun A outer s H args us vs Q E hr e0 hb r hsp=>?_⟩
 have hl:=len _ _ _ _ hsp
 have KX:K.In s.heap:=e0.mod.kin.keeps fun b o e=>(e0.bs b o e).1
 have lim:s.heap.NoLimit:=e0.mod.nolimit.keeps fun b o e=>(e0.bs b o e).1
 have hkind:∀ y∈ps.zip us,scope.names.lookup y.1=some .local\/(scope.names.lookup y.1=some .cell/\((BJ (s.heap.objs.size+1) scope.names []).lookup y.1).isSome=true):=fun ⟨n,v⟩ hy=>by
  rcases S.par n (Ee hy).1 with q | q
  ·exact .inl q
  ·exact .inr ⟨q,CW _ _ _ (.inl q)⟩
 refine IP hr.depth (KX _ _ lk) rfl S.co S.gen rfl (HG KX hcd) (hb _ _ _ _ ?_)
 refine HH S.kind hkind fun env he s1 x=>?_
 subst he
 refine⟨lim.keeps x.toInCall.keep,Ld ?_⟩
 obtain⟨t,ht,hq⟩:=hbody A outer s H vs Q E (hr.deeper _) hsp
 have I:Inv (cxOf CX P w K mg base N qual scope f cdv A outer s H E) [] (start N vs) H s1:=zJA S hr.hd e0 hl r x
 refine BF (ht [] s1 (start N vs) H _ I hq) (fun fl s' hs=>?_) fun e s' hs=>hs
 have fin:∀ {σ':St} {H':Hp} {v:V} {u:AB},Inv (cxOf CX P w K mg base N qual scope f cdv A outer s H E) [] σ' H' s'->RelV v u->Q v H'->CE outer P w H s Q u s' :=
  fun {σ' H' v u} J rv q=>⟨v,H',J.os,J.bare,J.base,J.hok,rv,q⟩
 cases fl with
 | ret u =>
  obtain⟨v,σ',H',J,rv,q⟩:=hs
  exact fin J rv q
 | next =>
  obtain⟨σ',H',J,q⟩:=hs
  exact fin (v:=V.non) (u:=A0) J rfl q
 | brk =>
  obtain⟨_,_,_,q⟩:=hs
  exact Ay q
 | cont =>
  obtain⟨_,_,_,q⟩:=hs
  exact Ay q
section
variable {X:Cx}{x:Str}{p pos:Pos}{e:Expr}{es:List Expr}{t:TA}{id T:String}{r:List V->Hp->VK->Prop}
noncomputable def tCB (r:List V->Hp->VK->Prop) (t:TA):TE:=fun σ H Q=>t σ H fun vs H1=>r vs H1 Q
theorem zF6(hc:CallR X (.builtin id) r)(hg:Gl X x)(hm:X.mg x=none)(hv:B0 x=some (.builtin id))(ha:PA X (e::es) t)(hn:x≠"__name__":=by decide)(hdb:(x == ("__debug__":Str))=false:=by decide)
  (he:AI (e::es) X.env=(false,eval e X.env)::AI es X.env:=by rfl) (hpl:(Bd pos (AI es X.env)).any (·.1)=false:=by rfl):PE X (.Call (.Name x p) (e::es) [] pos) (tCB r t):=by
 intro pins s σ H Q I h
 refine Bz (zA9 I hg hm hv ?_ hn hdb)
 exact KZ (thn (ha pos pins s σ H _ I h) fun us s1 ⟨vs,H1,I1,r1,q1⟩=>hc pins s1 σ H1 vs us Q I1 r1 q1) he hpl
theorem zBg(hc:CallR X (.type T) r)(hg:Gl X x)(hm:X.mg x=none)(hv:B0 x=some (.type T))(ha:PA X (e::es) t)(hn:x≠"__name__":=by decide)(hdb:(x == ("__debug__":Str))=false:=by decide)
  (he:AI (e::es) X.env=(false,eval e X.env)::AI es X.env:=by rfl) (hpl:(Bd pos (AI es X.env)).any (·.1)=false:=by rfl):PE X (.Call (.Name x p) (e::es) [] pos) (tCB r t):=by
 intro pins s σ H Q I h
 refine Bz (zA9 I hg hm hv ?_ hn hdb)
 exact BA (thn (ha pos pins s σ H _ I h) fun us s1 ⟨vs,H1,I1,r1,q1⟩=>hc pins s1 σ H1 vs us Q I1 r1 q1) he hpl
end
end L2
namespace HT
open PySem PyProof.Rows
section
open PySem.SeqAt
open PySem.AutoSeq1 (wpAny_loadPart')
open PySem.MeetsSeq PySem.MeetsSeq2 PySem.MeetsSeq3
end
section
variable {prog:AY}{w:Af}{A:Ao}{E:AB->AD->Prop}{s:AD}
theorem cat_tup{t b:Addr}{vs ws:List AB}{Q:AB->AD->Prop}(ht:JQ s.heap t vs.toArray)(hb:JQ s.heap b ws.toArray)(hv:vs≠[])
  (h1:ws=[]->Q (.ref t) s) (h2:ws≠[]->Q (.ref s.heap.objs.size) { s with heap:=s.heap.push { cls:=.type "tuple",data:=.seq (vs++ws).toArray } })
  (hsz:vs.length+ws.length<=AE):AM (model prog w) A (Cg .Add (.ref t) (.ref b)) Q E s:=by
 obtain⟨⟨cls,dd,data,sl⟩,ho,hc,n,hd⟩:=id ht
 obtain⟨⟨cls2,dd2,data2,sl2⟩,ho2,hc2,n2,hd2⟩:=id hb
 simp only at hc hd hc2 hd2
 subst hc hd hc2 hd2
 have e:vs.toArray++ws.toArray=(vs++ws).toArray:=by simp
 by_cases hw:ws=[]
 ·exact IC ⟨_,ho,rfl⟩ ⟨_,ho2,rfl⟩ GW Hf EL EG (D7 _ _)
   (tuple_addW1 t b vs.toArray ws.toArray n n2 dd dd2 sl sl2 (by simpa using hv) (by simp[hw])) ⟨ho,ho2,h1 hw⟩
 ·refine IC ⟨_,ho,rfl⟩ ⟨_,ho2,rfl⟩ GW Hf EL EG (D7 _ _)
   (tuple_addW2 t b vs.toArray ws.toArray n n2 dd dd2 sl sl2 (by simpa using hv) (by simpa using hw) (by rw[AS,AS]; exact hsz)) ⟨ho,ho2,?_⟩
  rw[e]
  exact h2 hw
noncomputable def sIx (n d:Nat):Option Int->Nat
 | none=>d
 | some v=>if v < 0 then (v+(n:Int)).toNat else min v.toNat n
theorem sIx_none(n d:Nat):sIx n d none=d:=rfl
theorem sIx_nat(n d k:Nat):sIx n d (some (k:Int))=min k n:=by
 show (if (k:Int) < 0 then ((k:Int)+(n:Int)).toNat else min (k:Int).toNat n)=min k n
 rw[if_neg (by omega),Bm]
theorem zNW(n d:Nat)(hd:d<=n)(o:Option Int):sIx n d o<=n:=by
 cases o with
 | none=>exact hd
 | some v =>
  show (if v < 0 then (v+(n:Int)).toNat else min v.toNat n)<=n
  by_cases hv:v < 0
  ·rw[if_pos hv]; omega
  ·rw[if_neg hv]; exact Nat.min_le_right _ _
theorem zGV(v:Int)(n d:Nat):(if v < 0 then max (v+(n:Int)) 0 else min v (n:Int))=((sIx n d (some v):Nat):Int):=by
 show (if v < 0 then max (v+(n:Int)) 0 else min v (n:Int))=(((if v < 0 then (v+(n:Int)).toNat else min v.toNat n):Nat):Int)
 by_cases hv:v < 0
 ·simp only[if_pos hv]; omega
 ·simp only[if_neg hv]; omega
theorem zHc(lo hi:Option Int)(n:Nat):Dg lo hi 1 (n:Int)=(((sIx n 0 lo:Nat):Int),((sIx n n hi:Nat):Int)):=by
 have h1:¬ ((1:Int) < 0):=by omega
 unfold Dg
 simp only[h1,if_false]
 refine Prod.ext ?_ ?_
 ·cases lo with
  | none=>rfl
  | some v=>exact zGV v n 0
 ·cases hi with
  | none=>rfl
  | some v=>exact zGV v n n
theorem zIQ(i j:Nat):Cm (i:Int) (j:Int) 1=j - i:=by
 unfold Cm
 have h1:(1:Int) > 0:=by omega
 simp only[h1,if_true,Int.ediv_one]
 split <;> omega
theorem zDy{v:AB}{o:Option Int}{Q:Option Int->AD->Prop}(p:FP v o)(h:Q o s):AM (model prog w) A (Js v) Q E s:=by
 cases p with
 | none=>exact Ku h
 | int i t=>exact slicePart_int h
theorem sliceApplied_gen{sl:Addr}{vl vu:AB}{lo hi:Option Int}{n:Nat}{Q:Int×Int×Nat->AD->Prop}(hs:s.heap.IsSliceOf sl vl vu .none)(pl:FP vl lo)(pu:FP vu hi)
  (h:Q (((sIx n 0 lo:Nat):Int),1,sIx n n hi - sIx n 0 lo) s):AM (model prog w) A (FJ (.ref sl) (pure (n:Int))) Q E s:=by
 obtain⟨os,hos,hcs,hds⟩:=id hs
 unfold FJ Jt
 refine AA (AA (Ag hos hds (x:=vl) rfl (AA (Ag hos hds (x:=vu) rfl (AA (Ag hos hds (x:=.none) rfl (AG ?_)))))))
 refine AA (Ku ?_)
 show AM _ _ (if ((1:Int) == 0)=true then _ else _) _ _ s
 rw[if_neg (by decide)]
 refine AA (zDy pl (AA (zDy pu (AA (AG ?_)))))
 show AM _ _ (match Dg lo hi 1 (n:Int) with | (lo,hi)=>pure (lo,(1:Int),Cm lo hi 1)) _ _ s
 rw[zHc lo hi n]
 show AM _ _ (pure (((sIx n 0 lo:Nat):Int),(1:Int),Cm ((sIx n 0 lo:Nat):Int) ((sIx n n hi:Nat):Int) 1)) _ _ s
 rw[zIQ]
 exact AG h
theorem zKF(xs:Array AB)(i k:Nat):((A5 k).filterMap fun (m:Nat)=>xs[((i:Int)+(m:Int) * 1).toNat]?).toArray=((xs.toList.drop i).take k).toArray:=by
 have e:(fun (m:Nat)=>xs[((i:Int)+(m:Int) * 1).toNat]?)=fun m=>xs[i+m]?:=by
  funext m
  have:((i:Int)+(m:Int) * 1).toNat=i+m:=by omega
  rw[this]
 rw[e]
 have:=pick_run xs i k
 rw[List.filterMap_map]at this
 have e2:((fun x=>xs[x]?) ∘ fun x=>i+x)=fun m=>xs[i+m]?:=rfl
 rw[e2]at this
 rw[this]
theorem qY{t sl:Addr}{items:Array AB}{vl vu:AB}{lo hi:Option Int}{Q:AB->AD->Prop}(ht:JQ s.heap t items)(hs:s.heap.IsSliceOf sl vl vu .none)(pl:FP vl lo)(pu:FP vu hi)
  (hw:¬ (sIx items.size 0 lo=0/\sIx items.size items.size hi=items.size))
  (h:Q (.ref s.heap.objs.size) { s with heap:=s.heap.push { cls:=.type "tuple",data:=.seq ((items.toList.drop (sIx items.size 0 lo)).take (sIx items.size items.size hi - sIx items.size 0 lo)).toArray } })
  (hsz:items.size<=AE):AM (model prog w) A (EY (.ref t) (.ref sl)) Q E s:=by
 have htake:sizeOk (.seq ((items.toList.drop (sIx items.size 0 lo)).take (sIx items.size items.size hi - sIx items.size 0 lo)).toArray):=by
  show ((items.toList.drop (sIx items.size 0 lo)).take (sIx items.size items.size hi - sIx items.size 0 lo)).toArray.size<=AE
  rw[AS,CT,ER,E3]
  omega
 have hj:sIx items.size items.size hi<=items.size:=zNW _ _ (AL _) hi
 obtain⟨os,hos,hcs,hds⟩:=id hs
 have hTs:s.TypeIs (.ref sl) "slice":=⟨os,hos,hcs⟩
 unfold EY
 try with_reducible refine BO ?_
 first | refine AA (AG ?_) | skip
 refine AA (JU ht.typeIs (by decide) ?_)
 refine AA (BH (name:=BQ "__getitem__") ht.typeIs Bh
  (BL Bh ht.typeIs Ip ?_ (JC _ _)))
 show AM _ _ (FK (.ref t) >>= _) _ _ s
 refine AA (LA ht ?_)
 refine AA (Dh hTs ?_)
 rw[if_pos (by decide)]
 refine AA (sliceApplied_gen hs pl pu ?_)
 have hno:¬ ((((sIx items.size 0 lo:Nat):Int) == 0 && (1:Int) == 1 && (sIx items.size items.size hi - sIx items.size 0 lo) == items.size)=true):=by
  intro q
  rw[Ab,Ab]at q
  have q1:((sIx items.size 0 lo:Nat):Int)=0:=eq_of_beq q.1.1
  have q2:sIx items.size items.size hi - sIx items.size 0 lo=items.size:=eq_of_beq q.2
  exact hw ⟨by omega,by omega⟩
 show AM _ _ (if (((sIx items.size 0 lo:Nat):Int) == 0 && (1:Int) == 1 && (sIx items.size items.size hi - sIx items.size 0 lo) == items.size)=true then _ else _) _ _ s
 rw[if_neg hno,zKF]
 first
  | exact AA (m:=Bn _) (BB (AG ⟨_,rfl,AG h⟩) htake)
  | exact AA (m:=Bn _) (BB (AA (AG (AG ⟨_,rfl,AG h⟩))) htake)
  | exact AA (AA (m:=Bn _) (BB (AG (AG ⟨_,rfl,AG h⟩)) htake))
  | exact AA (AA (m:=Bn _) (BB (AG ⟨_,rfl,AG h⟩) htake))
end
end HT
namespace L2
open PySem PySem.Spec PyProof.Rows
abbrev TO:=St->Hp->(Option Int->Hp->Prop)->Prop
noncomputable def PO (X:Cx) (e:Option Expr) (t:TO):Prop :=
 ∀ (pins:List (Addr×Obj)) (s:AD) (σ:St) (H:Hp) (Q:Option Int->Hp->Prop),Inv X pins σ H s->t σ H Q ->
  AM (model X.prog X.w) X.A (evalPart e X.env) (fun u s'=>∃ o H',Inv X pins σ H' s'/\FP u o/\Q o H') X.xe s
noncomputable def tNoPart:TO:=fun _ H Q=>Q none H
noncomputable def tPart (t:TE):TO:=fun σ H Q=>t σ H fun x H1=>∃ i,x=.int i/\Q (some i) H1
theorem zH2{ns:List Int}:∀ {us:List AB},Vals (ns.map V.int) us->E6 us ns:=by
 induction ns with
 | nil=>intro us r; rw[BE]at r; cases r; exact .nil
 | cons n ns ih =>
  intro us r
  rw[Ak]at r
  cases r with
  | cons r1 r2 =>
   obtain⟨t,e⟩:=r1
   subst e
   exact .cons n t (ih r2)
section
variable {X:Cx}{e:Expr}{te:TE}{lo hi:Option Expr}{tl th:TO}{pos p2:Pos}
theorem zMe:PO X none tNoPart:=by
 intro pins s σ H Q I h
 rw[LB]
 exact AG ⟨none,H,I,.none,h⟩
theorem zMF(h:PE X e te):PO X (some e) (tPart te):=by
 intro pins s σ H Q I hw
 rw[evalPart_some]
 refine thn (h pins s σ H _ I hw) fun u s1 ⟨x,H1,I1,r1,q1⟩=>?_
 obtain⟨i,rfl,q⟩:=q1
 obtain⟨t,rfl⟩:=r1
 exact⟨some i,H1,I1,.int i t,q⟩
noncomputable def SlR (X:Cx) (r:V->Option Int->Option Int->Hp->VK->Prop):Prop :=
 ∀ (pins:List (Addr×Obj)) (s:AD) (σ:St) (H:Hp) (x:V) (v vl vu:AB) (lo hi:Option Int) (sl:Addr) (Q:VK),Inv X pins σ H s->RelV x v->s.heap.IsSliceOf sl vl vu .none->FP vl lo->FP vu hi->r x lo hi H Q ->
  ∃ T id,Dp (.type T) "__getitem__"=pure (some (.builtin id))/\s.TypeIs v T/\AM (model X.prog X.w) X.A (EY v (.ref sl)) (EP X pins σ Q) X.xe s
theorem SlR.or{r r':V->Option Int->Option Int->Hp->VK->Prop}(h:SlR X r)(h':SlR X r'):SlR X (fun x lo hi H Q=>r x lo hi H Q\/r' x lo hi H Q):=by
 intro pins s σ H x v vl vu lo hi sl Q I rx hs pl pu q
 rcases q with q | q
 ·exact h pins s σ H x v vl vu lo hi sl Q I rx hs pl pu q
 ·exact h' pins s σ H x v vl vu lo hi sl Q I rx hs pl pu q
noncomputable def tSl (r:V->Option Int->Option Int->Hp->VK->Prop) (te:TE) (tl th:TO):TE:=fun σ H Q=>te σ H fun x H1=>tl σ H1 fun l H2=>th σ H2 fun u H3=>r x l u H3 Q
theorem zKe{r:V->Option Int->Option Int->Hp->VK->Prop}(hr:SlR X r)(he:PE X e te)(hl:PO X lo tl)(hu:PO X hi th):PE X (.Subscript e (.Slice lo hi none p2) pos) (tSl r te tl th):=by
 intro pins s σ H Q I h
 refine JD (thn (he pins s σ H _ I h) fun v s1 ⟨x,H1,I1,r1,q1⟩=>?_)
 refine wpAny_Slice (thn (hl pins s1 σ H1 _ I1 q1) fun vl s2 ⟨l,H2,I2,pl,q2⟩=>thn (hu pins s2 σ H2 _ I2 q2) fun vu s3 ⟨u,H3,I3,pu,q3⟩=>?_)
 rw[LB]
 refine AG ?_
 have I4:Inv X pins σ H3 { s3 with heap:=s3.heap.push { cls:=.type "slice",data:=.fields #[vl,vu,.none] } }:=I3.kept (t':=s3.toks) fun b ob q=>AC _ q
 obtain⟨T,id,hT,ht,hg⟩:=hr pins { s3 with heap:=s3.heap.push { cls:=.type "slice",data:=.fields #[vl,vu,.none] } } σ H3 x v vl vu l u s3.heap.objs.size Q I4 r1 (JV ..) pl pu q3
 show AM (model X.prog X.w) X.A (Hg e (.Slice lo hi none p2) v (.ref s3.heap.objs.size)) (EP X pins σ Q) X.xe { s3 with heap:=s3.heap.push { cls:=.type "slice",data:=.fields #[vl,vu,.none] } }
 exact tail_any (ops:=[.ref s3.heap.objs.size,v]) ht hT hg (by with_unfolding_all rfl)
noncomputable def cutV (xs:List V) (lo hi:Option Int):List V:=(xs.drop (HT.sIx xs.length 0 lo)).take (HT.sIx xs.length xs.length hi - HT.sIx xs.length 0 lo)
theorem zDB(xs:List V)(lo hi:Option Int):(cutV xs lo hi).length<=xs.length:=by
 unfold cutV
 rw[CT,ER]
 omega
end
noncomputable def ixN (n:Nat) (i:Int):Option Nat:=if 0<=i then (if i < n then some i.toNat else none) else if -(n:Int)<=i then some (i+n).toNat else none
noncomputable def atI {α:Type} (xs:List α) (i:Int):Option α:=(ixN xs.length i).bind fun j=>xs[j]?
theorem zEO{n:Nat}{i:Int}{j:Nat}(h:ixN n i=some j):Fd i n=some j/\j < n/\-(n:Int)<=i/\i < n:=by
 unfold ixN at h
 by_cases h0:0<=i
 ·rw[if_pos h0]at h
  by_cases h1:i < n
  ·rw[if_pos h1]at h
   have e:i.toNat=j:=As h
   exact⟨by rw[Gn h0 h1,e],by omega,by omega,h1⟩
  ·rw[if_neg h1]at h; cases h
 ·rw[if_neg h0]at h
  by_cases h1:-(n:Int)<=i
  ·rw[if_pos h1]at h
   have e:(i+n).toNat=j:=As h
   exact⟨by rw[ID (by omega) h1,e],by omega,h1,by omega⟩
  ·rw[if_neg h1]at h; cases h
theorem zED{α:Type}{xs:List α}{i:Int}{v:α}(h:atI xs i=some v):∃ j,Fd i xs.length=some j/\xs[j]?=some v/\j < xs.length/\-(xs.length:Int)<=i/\i < xs.length:=by
 unfold atI at h
 cases e:ixN xs.length i with
 | none=>rw[e]at h; cases h
 | some j =>
  rw[e]at h
  obtain⟨h1,h2,h3,h4⟩:=zEO e
  exact⟨j,h1,h,h2,h3,h4⟩
def PlainIx (b:Expr):Prop:=∀ o i,subscripted b false o i=operate [o,i] (EY o i)
noncomputable def IxR (X:Cx) (r:R2):Prop :=
 ∀ (value slice:Expr) (pins:List (Addr×Obj)) (s:AD) (σ:St) (H:Hp) (x y:V) (v u:AB) (Q:VK),Inv X pins σ H s->RelV x v->RelV y u->r x y H Q ->
  subscripted slice false v u=operate [v,u] (EY v u)->AM (model X.prog X.w) X.A (Hg value slice v u) (EP X pins σ Q) X.xe s
noncomputable def MtR (X:Cx) (id:String) (r:V->List V->Hp->VK->Prop):Prop :=
 ∀ (pins:List (Addr×Obj)) (s:AD) (σ:St) (H:Hp) (x:V) (xs:List V) (v:AB) (us:List AB) (Q:VK),Inv X pins σ H s->RelV x v->Vals xs us->r x xs H Q ->
  AM (model X.prog X.w) X.A (call (.builtin id) (v::us)) (EP X pins σ Q) X.xe s
section
variable {X:Cx}{a b:Expr}{ta tb:TE}{pos:Pos}
theorem IxR.or{r r':R2}(h:IxR X r)(h':IxR X r'):IxR X (fun x y H Q=>r x y H Q\/r' x y H Q):=by
 intro value slice pins s σ H x y v u Q I rx ry q hs
 rcases q with q | q
 ·exact h value slice pins s σ H x y v u Q I rx ry q hs
 ·exact h' value slice pins s σ H x y v u Q I rx ry q hs
theorem zOU{r:R2}(hr:IxR X r)(ha:PE X a ta)(hb:PE X b tb)(hs:PlainIx b):PE X (.Subscript a b pos) (tOp r ta tb):=by
 intro pins s σ H Q I h
 exact JD (binT ha hb I h fun v u s2 x y H2 I2 rx ry q=>hr a b pins s2 σ H2 x y v u Q I2 rx ry q (hs _ _))
noncomputable def rIxL (K:AH):R2:=fun x y H Q=>∃ p xs i v,x=.ref p/\y=.int i/\SqL K H p xs/\atI xs i=some v/\Q v H
noncomputable def rIxT (K:AH):R2:=fun x y H Q=>∃ p xs i v,x=.ref p/\y=.int i/\SqT K H p xs/\atI xs i=some v/\Q v H
noncomputable def rIxS:R2:=fun x y H Q=>∃ z i c,x=.str z/\y=.int i/\z.length<=AE/\atI z.cps.toList i=some c/\Q (.str ⟨#[c]⟩) H
theorem zLq:IxR X (rIxL X.K):=by
 intro value slice pins s σ H x y v u Q I rx ry h hs
 obtain⟨p,xs,i,z,rfl,rfl,hq,he,q⟩:=h
 cases rx
 obtain⟨t,rfl⟩:=ry
 obtain⟨its,r,pl,hz⟩:=I.list hq
 obtain⟨j,h1,h2,h3,h4,h5⟩:=zED he
 obtain⟨w,ew,rw'⟩:=r.get h2
 have hl:=r.length
 have hn:=line63
 have fin:EP X pins σ Q w s:=⟨z,H,I,rw',q⟩
 by_cases h0:0<=i
 ·have hj:i.toNat=j:=by
   rw[Gn h0 h5]at h1
   exact As h1
  exact item_listR pl.isList h0 (by omega) (by rw[hj]; simpa using ew) fin hs
 ·have hj:(i+(its.toArray.size:Int)).toNat=j:=by
   rw[ID (by omega) h4]at h1
   rw[AS,← hl]
   exact As h1
  exact IE (x:=w) pl.isList.typeIs JW.lookup
   (wpAny_getItem_list_neg (Q:=fun r s'=>r=w/\EP X pins σ Q r s') pl.isList (by omega) (by rw[AS] <;> omega) (by omega) (by rw[hj]; simpa using ew) ⟨rfl,fin⟩) hs
theorem zNo:IxR X (rIxT X.K):=by
 intro value slice pins s σ H x y v u Q I rx ry h hs
 obtain⟨p,xs,i,z,rfl,rfl,hq,he,q⟩:=h
 cases rx
 obtain⟨t,rfl⟩:=ry
 obtain⟨its,r,pl,hz⟩:=I.tuple hq
 obtain⟨j,h1,h2,h3,h4,h5⟩:=zED he
 obtain⟨w,ew,rw'⟩:=r.get h2
 have hl:=r.length
 have hn:=line63
 have fin:EP X pins σ Q w s:=⟨z,H,I,rw',q⟩
 exact IE (x:=w) pl.typeIs slot_tuple_getitem.lookup
  (getItem_tuple (j:=j) (Q:=fun r s'=>r=w/\EP X pins σ Q r s') pl (by omega) (by omega) (by rw[AS,← hl]; exact h1) (by simpa using ew) ⟨rfl,fin⟩) hs
theorem zNg:IxR X rIxS:=by
 intro value slice pins s σ H x y v u Q I rx ry h hs
 obtain⟨z,i,c,rfl,rfl,hz,he,q⟩:=h
 obtain⟨t,rfl⟩:=rx
 obtain⟨t',rfl⟩:=ry
 obtain⟨j,h1,h2,h3,h4,h5⟩:=zED he
 have hl:z.cps.toList.length=z.length:=by simp[Str.length]
 rw[hl]at h1 h4 h5
 have hn:=line63
 exact tail_any (typeIs_str s z t) slot_str_getitem.lookup (getItem_str (c:=c) (by
  have e1:decide (i < -(2 ^ 63:Int))=false:=decide_eq_false (by omega)
  have e2:decide (i ≥ 2 ^ 63)=false:=decide_eq_false (by omega)
  rw[e1,e2,JE]) (by rw[h1]; simpa using h2) ⟨.str ⟨#[c]⟩,H,I.tok _,⟨_,rfl⟩,q⟩) hs
noncomputable def rIx (K:AH):R2:=fun x y H Q=>rIxL K x y H Q\/rIxT K x y H Q\/rIxS x y H Q
theorem zM6:IxR X (rIx X.K):=zLq.or (zNo.or zNg)
theorem zH4(its:List AB)(n j:Nat)(u:AB):DB (·.setIfInBounds j u) { cls:=.type "list",data:=.seq its.toArray n }={ cls:=.type "list",data:=.seq (its.set j u).toArray n }:=by
 simp[DB]
theorem Inv.lst{pins:List (Addr×Obj)}{σ:St}{H:Hp}{s:AD}{p:Addr}{xs:List V}(I:Inv X pins σ H s)(h:H p=some (.lst xs)) :
  ∃ (its:List AB) (n:Nat),Vals xs its/\s.heap.get? p=some { cls:=.type "list",data:=.seq its.toArray n }/\xs.length<=AE:=by
 obtain⟨z,its,n,r,e⟩:=I.hok p _ h
 exact⟨its,n,r,e,z⟩
theorem Inv.lstUpd{pins:List (Addr×Obj)}{σ:St}{H:Hp}{s:AD}{p:Addr}{xs ys:List V}{its its':List AB}{n n':Nat}{f:Obj->Obj}(I:Inv X pins σ H s)(h:H p=some (.lst xs))
  (ho:s.heap.get? p=some { cls:=.type "list",data:=.seq its.toArray n }) (hf:f { cls:=.type "list",data:=.seq its.toArray n }={ cls:=.type "list",data:=.seq its'.toArray n' }) (r:Vals ys its') (hz:ys.length<=AE) (t:Nat) :
  Inv X pins σ (upd H p (.lst ys)) { s with heap:=s.heap.update p f,toks:=t }:=by
 have e:(s.heap.update p f).get? p=some { cls:=.type "list",data:=.seq its'.toArray n' }:=by
  rw[BU f ho (by rw[hf] <;> rfl),hf]
 refine I.write (x:=p) (e:=p) (by rw[h]; trivial) (.inl rfl) (fun b u hb q=>(Au _ _ (Az hb)).trans q) ⟨_,e⟩ ?_
 exact⟨hz,its',n',r,e⟩
noncomputable def rSetL:V->V->V->Hp->(Hp->Prop)->Prop:=fun o i v H Q=>∃ p xs k j,o=.ref p/\i=.int k/\H p=some (.lst xs)/\ixN xs.length k=some j/\Q (upd H p (.lst (xs.set j v)))
theorem zKq:PSet X rSetL:=by
 intro pins s σ H o i v ov iv u Q I ro ri rv h
 obtain⟨p,xs,k,j,rfl,rfl,hp,hj,q⟩:=h
 cases ro
 obtain⟨t,rfl⟩:=ri
 obtain⟨its,n,r,ho,hz⟩:=I.lst hp
 obtain⟨h1,h2,h3,h4⟩:=zEO hj
 have hl:=r.length
 have hn:=line63
 have I':Inv X pins σ (upd H p (.lst (xs.set j v))) { s with heap:=s.heap.update p (DB (·.setIfInBounds j u)) } :=
  I.lstUpd hp ho (zH4 its n j u) (r.set rv j) (by rw[List.length_set]; exact hz) s.toks
 by_cases h0:0<=k
 ·have hk:k.toNat=j:=by
   rw[Gn h0 h4]at h1
   exact As h1
  exact PySem.W.ki_setAt ho h0 (by omega) (by rw[AS,← hl]; exact h4) (by rw[hk]; exact⟨_,I',q⟩)
 ·have hk:(k+(its.toArray.size:Int)).toNat=j:=by
   rw[ID (by omega) h3]at h1
   rw[AS,← hl]
   exact As h1
  exact PySem.W.ki_setBack ho (by omega) (by rw[AS,← hl]; exact h3) (by omega) (by rw[hk]; exact⟨_,I',q⟩)
theorem zFS(lo hi:Option Int)(n:Nat):(D3 lo hi none n).1=((HT.sIx n 0 lo:Nat):Int)/\(D3 lo hi none n).2.1=((HT.sIx n n hi:Nat):Int)/\(D3 lo hi none n).2.2=1:=by
 refine⟨?_,?_,rfl⟩
 ·cases lo with
  | none=>simp[D3,HT.sIx]
  | some i =>
   simp only[D3,HT.sIx,DW,show (1:Int) > 0 by decide,if_true]
   by_cases h:i < 0
   ·simp only[h,if_true] <;> omega
   ·simp only[h,if_false] <;> omega
 ·cases hi with
  | none=>simp[D3,HT.sIx]
  | some i =>
   simp only[D3,HT.sIx,DW,show (1:Int) > 0 by decide,if_true]
   by_cases h:i < 0
   ·simp only[h,if_true] <;> omega
   ·simp only[h,if_false] <;> omega
theorem zEy(its:List AB)(lo hi:Option Int):slicePick its.toArray lo hi none=((its.drop (HT.sIx its.length 0 lo)).take (HT.sIx its.length its.length hi - HT.sIx its.length 0 lo)).toArray:=by
 obtain⟨h1,h2,h3⟩:=zFS lo hi its.toArray.size
 unfold slicePick
 rw[h1,h2,h3]
 simp only[sliceRange_one,pick_run,AS] <;> rfl
noncomputable def rSlL (K:AH):V->Option Int->Option Int->Hp->VK->Prop:=fun x lo hi H Q=>∃ a xs,x=.ref a/\SqL K H a xs/\∀ p,H p=none->Q (.ref p) (upd H p (.lst (cutV xs lo hi)))
theorem zLc:SlR X (rSlL X.K):=by
 intro pins s σ H x v vl vu lo hi sl Q I rx hs pl pu h
 obtain⟨a,xs,rfl,hx,q⟩:=h
 cases rx
 obtain⟨its,r,ht,hz⟩:=I.list hx
 have hlen:=r.length
 refine⟨"list",_,JW.lookup,ht.isList.typeIs,?_⟩
 refine wpAny_getItem_list_slice ht.isList hs pl pu .none (by simp) ?_ (by rw[AS] <;> omega)
 rw[zEy,← hlen]
 refine⟨.ref s.heap.objs.size,_,I.laid (t':=s.toks) (o:=.lst (cutV xs lo hi)) (fun b ob q=>AC _ q) (AL _) ?_,rfl,q _ (I.hok.fresh (AL _))⟩
 exact⟨Aa (zDB xs lo hi) hz,_,0,(r.drop (HT.sIx xs.length 0 lo)).take (HT.sIx xs.length xs.length hi - HT.sIx xs.length 0 lo),AN _ rfl⟩
noncomputable def flatV:V->Bool
 | .non=>true
 | .bl _=>true
 | .int _=>true
 | .str _=>true
 | _=>false
noncomputable def eqV:V->V->Bool
 | .non,.non=>true
 | .bl a,.bl b=>a == b
 | .bl a,.int b=>(if a then 1 else 0) == b
 | .int a,.bl b=>a == (if b then 1 else 0)
 | .int a,.int b=>a == b
 | .str a,.str b=>a == b
 | _,_=>false
theorem zNj{A:Ao}{s:AD}{y x:V}{u v:AB}(ry:RelV y u)(rx:RelV x v)(fy:flatV y=true)(fx:flatV x=true):Hh A s u v (eqV y x):=by
 cases y with
 | non =>
  cases ry
  cases x with
  | non=>cases rx; exact LC _
  | bl b=>cases rx; exact LD b
  | int b=>obtain⟨t,rfl⟩:=rx; exact LF b t
  | str b=>obtain⟨t,rfl⟩:=rx; exact LG b t
  | _=>exact absurd (show false=true from fx) AU
 | bl a =>
  cases ry
  cases x with
  | non=>cases rx; exact LH a
  | bl b=>cases rx; exact LI a b
  | int b=>obtain⟨t,rfl⟩:=rx; exact LJ a b t
  | str b=>obtain⟨t,rfl⟩:=rx; exact LK a b t
  | _=>exact absurd (show false=true from fx) AU
 | int a =>
  obtain⟨t',rfl⟩:=ry
  cases x with
  | non=>cases rx; exact LM a t'
  | bl b=>cases rx; exact LN a t' b
  | int b=>obtain⟨t,rfl⟩:=rx; exact LO a t' b t
  | str b=>obtain⟨t,rfl⟩:=rx; exact Gh a t' b t
  | _=>exact absurd (show false=true from fx) AU
 | str a =>
  obtain⟨t',rfl⟩:=ry
  cases x with
  | non=>cases rx; exact LP a t'
  | bl b=>cases rx; exact LQ a t' b
  | int b=>obtain⟨t,rfl⟩:=rx; exact Gi a t' b t
  | str b=>obtain⟨t,rfl⟩:=rx; exact LR a t' b t
  | _=>exact absurd (show false=true from fx) AU
 | _=>exact absurd (show false=true from fy) AU
noncomputable def eqU (x:V) (u:AB):Bool:=match u with
 | .none=>eqV .non x
 | .bool b=>eqV (.bl b) x
 | .int i _=>eqV (.int i) x
 | .str z _=>eqV (.str z) x
 | _=>false
theorem zFv{x y:V}{u:AB}(r:RelV y u)(f:flatV y=true):eqU x u=eqV y x:=by
 cases y with
 | non=>cases r; rfl
 | bl b=>cases r; rfl
 | int i=>obtain⟨t,rfl⟩:=r; rfl
 | str z=>obtain⟨t,rfl⟩:=r; rfl
 | _=>exact absurd (show false=true from f) AU
theorem zEC{x:V}:∀ {xs:List V} {us:List AB},Vals xs us->xs.all flatV=true->us.any (eqU x)=xs.any fun y=>eqV y x
 | _,_,.nil,_=>rfl
 | y::xs,u::us,.cons r t,f=>by
  rw[JF,Ab]at f
  rw[C4,C4,zFv r f.1,zEC t f.2]
theorem zCJ{A:Ao}{s:AD}{x:V}{v:AB}(rx:RelV x v)(fx:flatV x=true):∀ {xs:List V} {us:List AB},Vals xs us->xs.all flatV=true->∀ u∈us,Hh A s u v (eqU x u)
 | _,_,.nil,_=>fun u hu=>by cases hu
 | y::xs,u::us,.cons r t,f=>fun u' hu=>by
  rw[JF,Ab]at f
  rcases AO.mp hu with rfl | hu
  ·rw[zFv r f.1]; exact zNj r rx f.1 fx
  ·exact zCJ rx fx t f.2 u' hu
noncomputable def inV (x:V) (xs:List V):Bool:=xs.any fun y=>eqV y x
noncomputable def rIn (K:AH) (neg:Bool):R2:=fun x y H Q=>∃ p xs,y=.ref p/\(SqL K H p xs\/SqT K H p xs)/\flatV x=true/\xs.all flatV=true/\Q (.bl (if neg then !inV x xs else inV x xs)) H
theorem zIS:OpR X (Bl .In) (rIn X.K false):=by
 intro pins s σ H x y v u Q I rx ry h
 obtain⟨p,xs,rfl,hq,fx,fs,q⟩:=h
 cases ry
 rcases hq with hq | hq
 ·obtain⟨its,r,pl,hz⟩:=I.list hq
  refine SeqAt.in_listAt (eqU x) pl.isList (fun w hw=>zCJ rx fx r fs w (by simpa using hw)) ⟨.bl _,H,I,rfl,?_⟩
  rw[show its.toArray.any (eqU x)=its.any (eqU x) by simp,zEC r fs]
  exact q
 ·obtain⟨its,r,pl,hz⟩:=I.tuple hq
  refine SeqAt.in_tupleAt (eqU x) pl (fun w hw=>zCJ rx fx r fs w (by simpa using hw)) ⟨.bl _,H,I,rfl,?_⟩
  rw[show its.toArray.any (eqU x)=its.any (eqU x) by simp,zEC r fs]
  exact q
theorem zFU:CallR X (.builtin "len") (fun xs H Q=>∃ p ys,xs=[.ref p]/\(SqL X.K H p ys\/SqT X.K H p ys)/\Q (.int ys.length) H):=by
 intro pins s σ H xs us Q I r h
 obtain⟨p,ys,rfl,hq,q⟩:=h
 obtain⟨u,rfl,rx⟩:=vals1 r
 cases rx
 have hn:=line63
 rcases hq with hq | hq
 ·obtain⟨its,r',pl,hz⟩:=I.list hq
  have hlen:=r'.length
  exact Calls.call_len_list pl.isList (by simp only[AS] <;> omega) ⟨.int ys.length,H,I.tok _,⟨s.toks+1,by rw[AS,hlen]⟩,q⟩
 ·obtain⟨its,r',pl,hz⟩:=I.tuple hq
  have hlen:=r'.length
  exact Ju pl (by simp only[AS] <;> omega) ⟨.int ys.length,H,I.tok _,⟨s.toks+1,by rw[AS,hlen]⟩,q⟩
theorem zF3:CallR X (.builtin "len") (fun xs H Q=>∃ z,xs=[.str z]/\z.length<=AE/\Q (.int z.length) H):=by
 intro pins s σ H xs us Q I r h
 obtain⟨z,rfl,hz,q⟩:=h
 obtain⟨u,rfl,t,rfl⟩:=vals1 r
 have hn:=line63
 exact len_str (by omega) ⟨.int z.length,H,I.tok _,⟨_,rfl⟩,q⟩
theorem CallR.or{f:AB}{r r':List V->Hp->VK->Prop}(h:CallR X f r)(h':CallR X f r'):CallR X f (fun xs H Q=>r xs H Q\/r' xs H Q):=by
 intro pins s σ H xs us Q I rs q
 rcases q with q | q
 ·exact h pins s σ H xs us Q I rs q
 ·exact h' pins s σ H xs us Q I rs q
theorem zE1:CallR X (.type "tuple") (fun xs H Q=>∃ p ys,xs=[.ref p]/\((SqL X.K H p ys/\∀ l,H l=none->Q (.ref l) (upd H l (.tup ys)))\/(SqT X.K H p ys/\Q (.ref p) H))):=by
 intro pins s σ H xs us Q I r h
 obtain⟨p,ys,rfl,h⟩:=h
 obtain⟨u,rfl,rx⟩:=vals1 r
 cases rx
 rcases h with ⟨hq,q⟩ | ⟨hq,q⟩
 ·obtain⟨its,r',pl,hz⟩:=I.list hq
  have hlen:=r'.length
  refine call_tuple_list pl.isList (fun h' kp=>?_) (by simp only[AS] <;> omega)
  have I1:Inv X pins σ H { s with heap:=h' }:=I.kept (t':=s.toks) kp
  have I2:Inv X pins σ (upd H h'.objs.size (.tup ys)) { s with heap:=h'.push { cls:=.type "tuple",data:=.seq its.toArray } } :=
   I1.laid (t':=s.toks) (fun b o e=>AC _ e) (AL _) (show ObjOk X.prog X.w _ _ _ (.tup ys) from ⟨hz,its,r',TupD.new _ _⟩)
  exact⟨.ref h'.objs.size,_,I2,rfl,q _ (I1.hok.fresh (AL _))⟩
 ·obtain⟨its,r',pl,hz⟩:=I.tuple hq
  exact call_tuple_same pl ⟨.ref p,H,I,rfl,q⟩
def tyV (K:AH) (T:String) (x:V) (H:Hp):Prop:=match x with
 | .str _=>T="str"
 | .int _=>T="int"
 | .ref p=>(T="list"/\∃ xs,SqL K H p xs)\/(T="tuple"/\∃ o,K.lookup p=some o/\o.cls=.type "tuple"/\o.dict=none) \/
   (T="dict"/\((∃ kvs,H p=some (.dK kvs))\/∃ kvs,H p=some (.dT kvs)))\/(T="set"/\∃ S n,H p=some (.set S n))
 | _=>False
theorem zIn{pins:List (Addr×Obj)}{σ:St}{H:Hp}{s:AD}{T:String}{x:V}{v:AB}(I:Inv X pins σ H s)(r:RelV x v)(ty:tyV X.K T x H) :
  s.TypeIs v T/\∀ a,v=.ref a->∃ ob,s.heap.get? a=some ob/\ob.dict=none:=by
 cases x with
 | str z =>
  obtain⟨t,rfl⟩:=r
  cases (show T="str" from ty)
  exact⟨typeIs_str s z t,fun _ e=>nomatch e⟩
 | int i =>
  obtain⟨t,rfl⟩:=r
  cases (show T="int" from ty)
  exact⟨JG s i t,fun _ e=>nomatch e⟩
 | ref p =>
  cases r
  rcases ty with ⟨rfl,xs,hq⟩ | ⟨rfl,o,hk,hc,hd⟩ | ⟨rfl,hk⟩ | ⟨rfl,S,n,hk⟩
  ·obtain⟨its,_,pl,_⟩:=I.list hq
   refine⟨pl.isList.typeIs,fun a e=>?_⟩
   cases e
   obtain⟨o,n,e,c,hd,_⟩:=pl
   exact⟨o,e,hd⟩
  ·refine⟨⟨o,I.kIn p o hk,hc⟩,fun a e=>?_⟩
   cases e
   exact⟨o,I.kIn _ o hk,hd⟩
  ·have z:∃ o,s.heap.get? p=some o/\o.ExactDict:=by
    rcases hk with ⟨kvs,hk⟩ | ⟨kvs,hk⟩
    ·obtain⟨_,_,_,_,o,_,_,e,ex,_⟩:=I.hok p _ hk
     exact⟨o,e,ex⟩
    ·obtain⟨_,_,_,_,o,_,_,e,ex,_⟩:=I.hok p _ hk
     exact⟨o,e,ex⟩
   obtain⟨o,e,ex⟩:=z
   refine⟨⟨o,e,ex.1⟩,fun a e2=>?_⟩
   cases e2
   exact⟨o,e,ex.2.1⟩
  ·obtain⟨o,_,_,_,e,ex,_⟩:=I.hok p _ hk
   refine⟨⟨o,e,ex.1⟩,fun a e2=>?_⟩
   cases e2
   exact⟨o,e,ex.2.1⟩
 | _=>exact Ay ty
noncomputable def tBM0 (K:AH) (T:String) (r:V->List V->Hp->VK->Prop) (to:TE):TE:=fun σ H Q=>to σ H fun x H1=>tyV K T x H1/\r x [] H1 Q
noncomputable def tBM (K:AH) (T:String) (r:V->List V->Hp->VK->Prop) (to:TE) (t:TA):TE:=fun σ H Q=>to σ H fun x H1=>tyV K T x H1/\t σ H1 fun xs H2=>r x xs H2 Q
variable {o e:Expr}{es:List Expr}{to:TE}{t:TA}{name:Str}{apos cpos:Pos}{T id:String}{r:V->List V->Hp->VK->Prop}
theorem zM4(pa:PlainAttrs T)(slot:Slot T name id)(hty:GY (.builtin id)=pure (.type "method_descriptor"))(hm:MtR X id r)(ho:PE X o to)
  (hbase:CU o name X.env (eval o X.env)=eval o X.env:=by rfl) (hline:(apos.endLine == cpos.line)=true:=by rfl):PE X (.Call (.Attribute o name apos) [] [] cpos) (tBM0 X.K T r to):=by
 intro pins s σ H Q I h
 refine wpAny_Call_method0_late hbase hline (thn (ho pins s σ H _ I h) fun v s1 ⟨x,H1,I1,r1,ty,q1⟩=>?_)
 obtain⟨h1,h2⟩:=zIn I1 r1 ty
 exact⟨T,id,pa,slot,hty,h1,h2,EV rfl (PySem.evalArgs_none (hm pins s1 σ H1 x [] v [] Q I1 r1 .nil q1))⟩
theorem zOf(pa:PlainAttrs T)(slot:Slot T name id)(hty:GY (.builtin id)=pure (.type "method_descriptor"))(hm:MtR X id r)(ho:PE X o to)(ha:PA X (e::es) t)
  (hbase:CU o name X.env (eval o X.env)=eval o X.env:=by rfl)
  (hfew:((Bd cpos (AI (e::es) X.env)).all (fun x=>!x.1) && (IZ cpos (Gp [] X.env)).all (fun x=>x.1.isSome)
   && decide ((e::es).length+([]:List Fe).length+(if ([]:List Fe).isEmpty then 0 else 1) < 30))=true:=by rfl)
  (hline:(apos.endLine == cpos.line)=true:=by rfl) (hs:AI (e::es) X.env=(false,eval e X.env)::AI es X.env:=by rfl) (hplain:(Bd cpos (AI es X.env)).any (·.1)=false:=by rfl) :
  PE X (.Call (.Attribute o name apos) (e::es) [] cpos) (tBM X.K T r to t):=by
 intro pins s σ H Q I h
 refine IF hbase hfew hline rfl (thn (ho pins s σ H _ I h) fun v s1 ⟨x,H1,I1,r1,ty,q1⟩=>?_)
 obtain⟨h1,h2⟩:=zIn I1 r1 ty
 refine⟨T,id,pa,slot,hty,h1,h2,?_⟩
 have hA:=ha cpos pins s1 σ H1 _ I1 q1
 rw[hs]at hA ⊢
 refine EV (by show (false || (Bd cpos (AI es X.env)).any (·.1))=false; rw[hplain] <;> rfl) (HI ?_)
 exact thn hA fun us s2 ⟨vs,H2,I2,r2,q2⟩=>hm pins s2 σ H2 x vs v us Q I2 r1 r2 q2
end
noncomputable def MtM (X:Cx) (id:String) (r:V->List V->Hp->VK->Prop):Prop :=
 ∀ (pins:List (Addr×Obj)) (s:AD) (σ:St) (H:Hp) (x:V) (xs:List V) (v:AB) (us:List AB) (Q:VK),Inv X pins σ H s->RelV x v->Vals xs us->r x xs H Q ->
  AM (model X.prog X.w) X.A (call (.builtin id) (v::us)) (EP X pins σ Q) X.xe s
theorem Vals.one:∀ {x:V} {us:List AB},Vals [x] us->∃ u,us=[u]/\RelV x u
 | _,_,.cons r .nil=>⟨_,rfl,r⟩
theorem Vals.zero:∀ {us:List AB},Vals [] us->us=[]
 | _,.nil=>rfl
theorem Vals.dropLast{xs:List V}{us:List AB}(h:Vals xs us):Vals xs.dropLast us.dropLast:=by
 induction h with
 | nil=>exact .nil
 | cons r t ih =>
  cases t with
  | nil=>exact .nil
  | cons q t'=>exact .cons r ih
theorem Vals.eraseIdx:∀ {xs:List V} {us:List AB} (i:Nat),Vals xs us->Vals (xs.eraseIdx i) (us.eraseIdx i)
 | _,_,_,.nil=>.nil
 | _,_,0,.cons _ t=>t
 | _,_,i+1,.cons r t=>.cons r (Vals.eraseIdx i t)
theorem Vals.rep{xs:List V}{us:List AB}(h:Vals xs us):∀ k:Nat,Vals (Ad k xs).flatten (Ad k us).flatten
 | 0=>.nil
 | k+1=>by
  rw[B5,B5,Cs,Cs]
  exact Vals.append h (Vals.rep h k)
theorem zHC{α:Type}(l:List α):l.eraseIdx (l.length - 1)=l.dropLast:=by
 induction l with
 | nil=>rfl
 | cons a r ih =>
  cases r with
  | nil=>rfl
  | cons b r =>
   have e:(a::b::r).length - 1=((b::r).length - 1)+1:=by
    have h1:(a::b::r).length=r.length+2:=rfl
    have h2:(b::r).length=r.length+1:=rfl
    omega
   rw[e,List.eraseIdx_cons_succ,ih]
   all_goals rfl
theorem zEm{α:Type}:∀ (l:List α) (i:Nat),(l.eraseIdx i).length<=l.length
 | [],_=>AL _
 | _::_,0=>GD _
 | _::r,i+1=>Nat.succ_le_succ (zEm r i)
theorem zER(its:List AB):∀ (k:Nat) (acc:List AB),
  Ht (fun x1 x2=>x1++x2) acc.toArray (Ad k its.toArray)=(acc++(Ad k its).flatten).toArray
 | 0,acc=>by simp
 | k+1,acc=>by
  have e:acc.toArray++its.toArray=(acc++its).toArray:=by simp
  have e2:(acc++its)++(Ad k its).flatten=acc++(Ad (k+1) its).flatten:=by
   rw[B5,Cs,DM]
  rw[← e2,← zER its k (acc++its),← e,B5,Ia]
section
variable {X:Cx}{pins:List (Addr×Obj)}{σ:St}{H:Hp}{s:AD}{l b:Addr}{xs ys zs:List V}
theorem Inv.lset{its its':List AB}{n:Nat}{f:Array AB->Array AB}{t':Nat}(I:Inv X pins σ H s)(hH:H l=some (.lst xs))
  (e:s.heap.get? l=some { cls:=.type "list",data:=.seq its.toArray n }) (hf:f its.toArray=its'.toArray) (hv:Vals ys its') (hz:ys.length<=AE) :
  Inv X pins σ (upd H l (.lst ys)) { s with heap:=s.heap.update l (DB f),toks:=t' }:=by
 have q:=Le e f
 rw[hf]at q
 refine I.write (x:=l) (e:=l) (by rw[hH]; exact trivial) (.inl rfl) (fun b' u hb hu=>(Au s.heap (DB f) (Az hb)).trans hu) ⟨_,q⟩ ?_
 exact⟨hz,its',_,hv,q⟩
theorem Inv.lnew{its:List AB}{t':Nat}(I:Inv X pins σ H s)(hv:Vals ys its)(hz:ys.length<=AE) :
  Inv X pins σ (upd H s.heap.objs.size (.lst ys)) { s with heap:=s.heap.push { cls:=.type "list",data:=.seq its.toArray },toks:=t' } :=
 I.laid (fun _ _ q=>AC _ q) (AL _) ⟨hz,its,0,hv,AN _ rfl⟩
theorem Inv.fresh(I:Inv X pins σ H s):H s.heap.objs.size=none:=I.hok.fresh (AL _)
theorem Inv.lstM(I:Inv X pins σ H s)(hH:H l=some (.lst xs)):xs.length<=AE/\∃ (its:List AB) (n:Nat),Vals xs its/\xs.length=its.length/\s.heap.get? l=some { cls:=.type "list",data:=.seq its.toArray n }:=by
 obtain⟨z,its,n,r,e⟩:=I.hok l _ hH
 exact⟨z,its,n,r,r.length,e⟩
theorem notLongL{n:Nat}(h:n<=AE):Bo n=false:=by
 unfold Bo
 exact decide_eq_false (by omega)
end
section
variable {X:Cx}
noncomputable def rAppend:V->List V->Hp->VK->Prop:=fun x vs H Q=>∃ l xs y,x=.ref l/\vs=[y]/\H l=some (.lst xs)/\xs.length < AE/\Q .non (upd H l (.lst (xs++[y])))
theorem zBN:MtM X "list.append" rAppend:=by
 intro pins s σ H x vs v us Q I rx rv h
 obtain⟨l,xs,y,rfl,rfl,hH,hz,q⟩:=h
 cases rx
 obtain⟨u,rfl,ru⟩:=rv.one
 obtain⟨z,its,n,r,hl,e⟩:=I.lstM hH
 refine Dq F.slot_list_append ⟨_,e,rfl⟩ F.entry_list_append (F.args_list_append_2 _ _) (PySem.list_append l its.toArray n u (by rw[AS]; omega)) ⟨e,?_⟩
 refine⟨.non,_,I.lset (its':=its++[u]) hH e (by simp) (r.append (.cons ru .nil)) ?_,rfl,q⟩
 rw[Aq,Em]
 omega
noncomputable def rExtend:V->List V->Hp->VK->Prop:=fun x vs H Q=>∃ l b xs zs,x=.ref l/\vs=[.ref b]/\H l=some (.lst xs)/\H b=some (.lst zs)/\xs.length+zs.length<=AE/\Q .non (upd H l (.lst (xs++zs)))
theorem zIw:MtM X "list.extend" rExtend:=by
 intro pins s σ H x vs v us Q I rx rv h
 obtain⟨l,b,xs,zs,rfl,rfl,hH,hB,hz,q⟩:=h
 cases rx
 obtain⟨u,rfl,ru⟩:=rv.one
 cases ru
 obtain⟨z,its,n,r,hl,e⟩:=I.lstM hH
 obtain⟨z2,its2,n2,r2,hl2,e2⟩:=I.lstM hB
 have hsz:its.toArray.size+its2.toArray.size<=AE:=by rw[AS,AS]; omega
 have hlong:¬ (!its.toArray.isEmpty && Bo (its.toArray.size+its2.toArray.size))=true:=by
  rw[notLongL hsz,Bool.and_false]
  exact AU
 refine Dq F.slot_list_extend ⟨_,e,rfl⟩ F.entry_list_extend (F.args_list_extend_2 _ _)
  (AutoSeq1.list_extend_list_list_0 l its.toArray n b its2.toArray n2 hlong (by rw[AS]; omega) (by omega)) ⟨e,e2,?_⟩
 refine⟨.non,_,I.lset (its':=its++its2) hH e (by simp) (r.append r2) ?_,rfl,q⟩
 rw[Aq]
 omega
noncomputable def rPop:V->List V->Hp->VK->Prop:=fun x vs H Q=>∃ l xs y,x=.ref l/\vs=[]/\H l=some (.lst xs)/\xs[xs.length - 1]?=some y/\Q y (upd H l (.lst xs.dropLast))
theorem zJE:MtM X "list.pop" rPop:=by
 intro pins s σ H x vs v us Q I rx rv h
 obtain⟨l,xs,y,rfl,rfl,hH,hy,q⟩:=h
 cases rx
 have hus:=rv.zero
 subst hus
 obtain⟨z,its,n,r,hl,e⟩:=I.lstM hH
 obtain⟨u,hu,ru⟩:=r.get hy
 have hy':its.toArray[its.toArray.size - 1]?=some u:=by
  show its.toArray[its.length - 1]?=some u
  rw[← G4,← hl]
  exact hu
 refine Dq JX ⟨_,e,rfl⟩ JH (F.args_list_pop_1 _) (MeetsSeq.list_pop_last l its.toArray n u hy' (by rw[AS]; omega)) ⟨e,?_⟩
 refine⟨y,_,I.lset (its':=its.dropLast) hH e ?_ r.dropLast ?_,ru,q⟩
 ·show its.toArray.eraseIdxIfInBounds (its.toArray.size - 1)=its.dropLast.toArray
  rw[AS,Fp,zHC]
 ·rw[Ha]
  omega
noncomputable def rPopAt:V->List V->Hp->VK->Prop:=fun x vs H Q=>∃ l xs i k y,x=.ref l/\vs=[.int i]/\H l=some (.lst xs)/\-(2 ^ 63)<=i/\i < 2 ^ 63/\Fd i xs.length=some k/\xs[k]?=some y/\Q y (upd H l (.lst (xs.eraseIdx k)))
theorem zFm:MtM X "list.pop" rPopAt:=by
 intro pins s σ H x vs v us Q I rx rv h
 obtain⟨l,xs,i,k,y,rfl,rfl,hH,h1,h2,hk,hy,q⟩:=h
 cases rx
 obtain⟨u,rfl,ru⟩:=rv.one
 obtain⟨t,rfl⟩:=ru
 obtain⟨z,its,n,r,hl,e⟩:=I.lstM hH
 obtain⟨w,hw,rw'⟩:=r.get hy
 refine Dq JX ⟨_,e,rfl⟩ JH (F.args_list_pop_2 _ _)
  (MeetsSeq.list_pop_at l its.toArray n i t k w (Kv h1 h2) (by rw[AS,← hl]; exact hk) (by rw[← G4]; exact hw) (by rw[AS]; omega)) ⟨e,?_⟩
 refine⟨y,_,I.lset (its':=its.eraseIdx k) hH e ?_ (r.eraseIdx k) ?_,rw',q⟩
 ·show its.toArray.eraseIdxIfInBounds k=(its.eraseIdx k).toArray
  rw[Fp]
 ·have:=zEm xs k
  omega
noncomputable def rCat:R2:=fun x y H Q=>∃ l b xs zs,x=.ref l/\y=.ref b/\H l=some (.lst xs)/\H b=some (.lst zs)/\xs.length+zs.length<=AE/\∀ p,H p=none->Q (.ref p) (upd H p (.lst (xs++zs)))
theorem zNc:OpR X (Cg .Add) rCat:=by
 intro pins s σ H x y v u Q I rx ry h
 obtain⟨l,b,xs,zs,rfl,rfl,hH,hB,hz,q⟩:=h
 cases rx
 cases ry
 obtain⟨z,its,n,r,hl,e⟩:=I.lstM hH
 obtain⟨z2,its2,n2,r2,hl2,e2⟩:=I.lstM hB
 refine PySem.P.add_list e e2 ?_ (by rw[AS,AS]; omega)
 have ea:its.toArray++its2.toArray=(its++its2).toArray:=by simp
 rw[ea]
 exact⟨.ref _,_,I.lnew (t':=s.toks) (r.append r2) (by rw[Aq]; omega),rfl,q _ I.fresh⟩
noncomputable def rRep:R2:=fun x y H Q=>∃ l k xs,x=.ref l/\y=.int k/\H l=some (.lst xs)/\-(2 ^ 63)<=k/\k < 2 ^ 63/\xs.length * k.toNat<=AE /\
 ∀ p,H p=none->Q (.ref p) (upd H p (.lst (Ad k.toNat xs).flatten))
theorem zLm{α:Type}(xs:List α)(k:Nat):(Ad k xs).flatten.length=k * xs.length:=by
 induction k with
 | zero=>simp
 | succ k ih=>rw[B5,Cs,Aq,ih,Nat.succ_mul,Jv]
theorem zNJ:OpR X (Cg .Mult) rRep:=by
 intro pins s σ H x y v u Q I rx ry h
 obtain⟨l,k,xs,rfl,rfl,hH,h1,h2,hz,q⟩:=h
 cases rx
 obtain⟨t,rfl⟩:=ry
 obtain⟨z,its,n,r,hl,e⟩:=I.lstM hH
 have hlen:its.toArray.size * k.toNat<=AE:=by rw[AS,← hl]; exact hz
 have hcap:¬ its.toArray.size * k.toNat > (2 ^ 63 - 1) / 8:=by
  have:(AE:Nat)<=(2 ^ 63 - 1) / 8:=by decide
  omega
 have hfit:¬ (!Builtin.List.listFitsIndex k)=true:=by
  rw[Kv h1 h2]
  exact AU
 have hlong:¬ Bo (its.toArray.size * k.toNat)=true:=by
  rw[notLongL hlen]
  exact AU
 have hnew:Ht (fun x1 x2=>x1++x2) #[] (Ad (if its.toArray.isEmpty=true then 0 else k.toNat) its.toArray)=(Ad k.toNat its).flatten.toArray:=by
  have f0:∀ m:Nat,Ht (fun x1 x2=>x1++x2) #[] (Ad m its.toArray)=(Ad m its).flatten.toArray:=fun m=>by
   have:=zER its m []
   rw[C8]at this
   exact this
  rw[f0]
  cases its with
  | nil=>simp
  | cons a r'=>rw[if_neg (by simp)]
 refine wpAny_binaryOp_repeat_ref (T:="list") (U:="int") (by decide) ⟨_,e,rfl⟩ (fun s'=>JG s' k t) noFill_list_mul F.fills_int_mul JY repeat_list F.slot_int_index.lookup
  (Dq JY (JG s k t) F.entry_int_rmul (F.args_int_rmul_2 _ _) (int___rmul___int_list k t l its.toArray n)
   ⟨e,rfl,⟨_,e,rfl⟩,Dq F.slot_list_mul ⟨_,e,rfl⟩ F.entry_list_mul (F.args_list_mul_2 _ _) (Lf l its.toArray n k t hfit hcap hlong) ⟨e,?_⟩⟩)
 rw[hnew]
 exact⟨.ref _,_,I.lnew (t':=s.toks) (r.rep k.toNat) (by rw[zLm,Jw]; exact hz),rfl,q _ I.fresh⟩
end
end L2
namespace Att
open PySem PySem.W PySem.Calls PyProof.Rows
theorem zDo{P:Kw}{h:Heap}:∀ (ns:List Int) (vs:List AB),WellAll P h vs (ns.map WData.int)->E6 vs ns:=by
 intro ns
 induction ns with
 | nil =>
  intro vs w
  rw[BE]at w
  cases w
  exact .nil
 | cons n ns ih =>
  intro vs w
  rw[Ak]at w
  cases w with
  | cons a b =>
   cases a
   exact .cons _ _ (ih _ b)
theorem zJD{l:OpenLaw}{n:Nat}(hn:l.most=some n){P:Kw}{h:Heap}{args:List WData}{vals:List AB}
  (hpre:l.row.toRowW.claim.pre args=true) (hwl:WellAll P h vals args) :
  ∃ a vs ns,vals=[Ai a]/\args=[WData.list (ns.map WData.int)]/\h.get? a=some { cls:=.type "list",data:=.seq vs.toArray }/\E6 vs ns/\ns.length<=n:=by
 have hsh:WShape.hasAll [] args [.list .int]=true:=(pre_splitW hpre).1
 have hc:l.pre.holds [] { args:=args }=true:=(pre_splitW hpre).2
 obtain⟨d,r,rfl,h1,h2⟩:=hasAllW_cons hsh
 obtain rfl:=hasAllW_nil h2
 obtain⟨xs,rfl,h3⟩:=hasW_list h1
 obtain⟨ns,rfl⟩:=items_int h3
 have hlen:ns.length<=n:=by
  unfold OpenLaw.pre at hc
  have h4:(WTm.not (.lt (.lit (.int (n:Int))) (.len (.arg 0)))).holds [] { args:=[.list (ns.map .int)] }=true:=by
   have h4:=(holds_andW hc).1
   rw[hn]at h4
   exact h4
  have h5:=condW_of h4 (w_not (w_lt w_lit (w_len_list (w_arg rfl))))
  rw[A7]at h5
  refine Nat.le_of_not_lt fun q=>?_
  have q':(n:Int) < ((ns.length:Nat):Int):=by omega
  first
   | (rw[decide_eq_true q']at h5; exact absurd h5 (by decide))
   | (simp at h5; omega)
 cases hwl with
 | cons w1 w2 =>
  cases w2
  cases w1 with
  | list ho hall=>exact⟨_,_,ns,rfl,rfl,ho,zDo ns _ hall,hlen⟩
theorem zJg(l:OpenLaw)(args:List WData):l.row.toRowW.claim.post args (.bool true) args=true :=
 postW_of (r:=l.row.toRowW) (X:=(true == true))
  (show WShape.has [] (.bool true) .bool=true by first | rfl | decide | simp[WShape.has,WShape.arms,WShape.armsAll])
  (show (WTm.eq .res (.lit (.bool true))).value [] { args:=args,res:=some (.bool true),after:=args }=some (.bool (true == true)) from w_eq_bool (w_res rfl) w_lit) rfl
theorem attach_call{l:OpenLaw}{n:Nat}{q:AY}{loose:List Str}{XP:(Str->Option AB)->Heap->Prop}{YP:Af->Heap->Prop}{d:DefRec}
  (hn:l.most=some n) (hdf:d.params.defaults=[])
  (call:∀ (w:Af) (s₀ s₁:AD) (mg mb:Str->Option AB) (fa:Addr) (o:Obj) (pm cd doc:AB) (a:Addr) (vs:List AB) (ns:List Int),
   Ground q loose [] XP w s₀ mg mb s₁.heap->YP w s₁.heap ->
   s₁.heap.get? fa=some o->o.data=.func (docDef d.name d.params d.body d.scope pm cd doc)->s₁.heap.CodeRec cd d.name->mg d.name=some (.ref fa) ->
   s₁.heap.get? a=some { cls:=.type "list",data:=.seq vs.toArray }->E6 vs ns->ns.length<=n->s₁.gens=#[] ->
   DK (model l.prog w) GM (.call (.ref fa) ⟨[.ref a],[]⟩) (fun r s'=>r=.ok (.ret (.bool true))/\OldK s₁.heap s'.heap/\s'.os=s₁.os/\EF s'.gens) s₁) :
  WalkO q loose XP YP l.row.toRowW d [] (fun f vs=>Hi f vs):=by
 intro w s₀ s₁ mg mb G Y fa o pm cd doc dV kV ho hd hcd hD hmg hg args vals as hpre hlay hrd hwl hlo
 obtain rfl:dV=.none:=Dflts.none hD hdf
 obtain rfl:kV=.none:=Dflts.noKw hD
 obtain⟨a,vs,ns,rfl,rfl,hobj,hints,hlen⟩:=zJD hn hpre hwl
 refine enter_call (C7 (call w s₀ s₁ mg mb fa o pm cd doc a vs ns G Y ho (fd_plain hd) hcd hmg hobj hints hlen hg) fun r s' hq=>?_)
 obtain⟨rfl,h2,h3,h4⟩:=hq
 exact⟨.inl ⟨.bool true,.bool true,[],rfl,fun _=>rfl,.bool true,zJg l _,fun _=>⟨Jx,fun _ hm=>(nomatch hm)⟩⟩,h2,h3,h4⟩
end Att
namespace L2
open PySem PySem.Spec PyProof.Rows
theorem zEb:∀ {vs:List AB} {ns:List Int},E6 vs ns->Vals (ns.map V.int) vs
 | _,_,.nil=>.nil
 | _,_,.cons n t h=>.cons ⟨t,rfl⟩ (zEb h)
def Only (H:Hp):Prop:=∀ b,H b=none\/∃ o xs,H b=some (.frz o (.lst xs))
theorem zKN{P:AY}{w:Af}{K:AH}{mg mb:Str->Option AB}{CX:CXT}{k:Nat}{fa a:Addr}{fd:AZ}{x:Str}{sp:Sp}{s₁:AD}{vs:List AB}{ns:List Int}
  (KX:K.In s₁.heap) (hns:s₁.heap.Ns AR mg) (hb:s₁.heap.Ns G8 mb) (hbb:∀ x:Str,x≠"__name__"->mb x=B0 x) (hlim:s₁.heap.NoLimit) (hg:s₁.gens=#[])
  (ha:s₁.heap.get? a=some { cls:=.type "list",data:=.seq vs.toArray }) (hi:E6 vs ns) (hl:ns.length<=AE) (hr:Room k GM)
  (F:∀ base:Heap,K.In base->base.Ns AR mg->FnOk P w K mg base CX k fa fd [x] sp) (hbind:∀ (s:AD) (u:AB),GL s fd ⟨[u],[]⟩ [(x,u)])
  (hsp:∀ H:Hp,Only H->SqL K H a (ns.map V.int)->sp [.ref a] H (fun v _=>v=.bl true) fun _ _ _=>False)
  (hCX:∀ H e s',CX [] H s₁ (fun _ _ _=>False) e s'->False) :
  DK (model P w) GM (.call (.ref fa) ⟨[.ref a],[]⟩) (fun r s'=>r=.ok (.ret (.bool true))/\OldK s₁.heap s'.heap/\s'.os=s₁.os/\EF s'.gens) s₁:=by
 have rv:=zEb hi
 have lenV:=hi.length
 have core:∀ H:Hp,Only H->SqL K H a (ns.map V.int)->HOk P w H s₁.heap->(∀ b,H b≠none->b=a)->(H a≠none->K.lookup a=none) ->
   DK (model P w) GM (.call (.ref fa) ⟨[.ref a],[]⟩) (fun r s'=>r=.ok (.ret (.bool true))/\OldK s₁.heap s'.heap/\s'.os=s₁.os/\EF s'.gens) s₁:=by
  intro H hO hS hok hA hK
  have base_of:∀ {b:Addr} {o:Obj},s₁.heap.get? b=some o->H b=none->(hidT s₁.heap H).get? b=some o:=fun e n=>zKZ e n
  have noA:∀ {b:Addr} {o:Obj} {es:Array DictEntry} {ep:Nat},s₁.heap.get? b=some o->o.data=.dict es ep->H b=none:=fun {b o es ep} e d=>by
   cases q:H b with
   | none=>rfl
   | some u =>
    have e':b=a:=hA b (by rw[q]; simp)
    subst e'
    rw[ha]at e; cases e
    have d':Hb vs.toArray _=Fv es ep:=d
    cases d'
  have nsK:∀ {b:Addr} {m:Str->Option AB},s₁.heap.Ns b m->(hidT s₁.heap H).Ns b m:=fun {b m} ⟨o,es,ep,e,d,r⟩=>⟨o,es,ep,base_of e (noA e d),d,r⟩
  have hKb:K.In (hidT s₁.heap H):=fun b o e=>base_of (KX b o e) (by
   cases q:H b with
   | none=>rfl
   | some u =>
    have e':b=a:=hA b (by rw[q]; simp)
    subst e'
    rw[hK (by rw[q]; simp)]at e; cases e)
  have hM:Mod K mg (hidT s₁.heap H):=⟨hKb,nsK hns,⟨mb,nsK hb,hbb⟩,let ⟨mc,h1,h2⟩:=hlim; ⟨mc,nsK h1,h2⟩⟩
  have e0:Env0 P w K mg (hidT s₁.heap H) GM [] s₁ H:=⟨rfl,hM,fun b o e=>zLp e,Jy (zJf _ _),trivial,fun b hb=>absurd (show b∈([]:List Addr) from hb) (by simp),hok,.of_eq hg⟩
  refine C7 ((F _ hKb (nsK hns)).run GM [] s₁ H ⟨[.ref a],[]⟩ [.ref a] [.ref a] _ _ hr e0 (hbind s₁ (.ref a)) (.cons rfl .nil) (hsp H hO hS)) fun r s' h=>?_
  cases r with
  | error e=>exact (hCX H e s' h).elim
  | ok fl =>
   cases fl with
   | next=>exact Ay h
   | brk=>exact Ay h
   | cont=>exact Ay h
   | ret u =>
    obtain⟨v,H',os,bare,un,hok',r',q⟩:=h
    have q':v=.bl true:=q
    subst q'
    obtain rfl:u=EU true:=r'
    refine⟨rfl,OldK.of_keep fun b o e=>?_,os,bare⟩
    cases q:H b with
    | none=>exact un.keep b o e q (by intro z; exact absurd (show b∈([]:List Addr) from z) (by simp)) (by simp)
    | some u =>
     rcases hO b with z | ⟨ob,xs,z⟩
     ·rw[q]at z; cases z
     ·have z2:=un.frzs b ob _ z
      obtain⟨e1,_⟩:=hok b _ z
      obtain⟨e2,_⟩:=hok' b _ z2
      rw[e]at e1; cases e1
      exact e2
 cases hk:K.lookup a with
 | some o =>
  have e:=KX a o hk
  rw[ha]at e
  cases e
  refine core (fun _=>none) (fun _=>.inl rfl) (.inr ⟨_,vs.toArray,_,hk,rfl,rfl,rfl,by rw[AS,lenV]; exact hl,by simpa using rv⟩) (fun b u z=>by have z':(none:Option HO)=some u:=z; cases z') (fun b z=>absurd rfl z) fun z=>absurd rfl z
 | none =>
  refine core (fun b=>if b=a then some (.frz { cls:=.type "list",data:=.seq vs.toArray } (.lst (ns.map V.int))) else none) (fun b=>?_) (.inl (.inr ⟨{ cls:=.type "list",data:=.seq vs.toArray },if_pos rfl⟩)) (fun b u z=>?_) (fun b z=>?_) fun _=>hk
  ·by_cases hb:b=a
   ·exact .inr ⟨_,_,if_pos hb⟩
   ·exact .inl (if_neg hb)
  ·by_cases hb:b=a
   ·have z':=(if_pos hb).symm.trans z
    cases z'
    subst hb
    exact⟨ha,by rw[A7]; exact hl,vs,_,rv,ha⟩
   ·have z':=(if_neg hb).symm.trans z
    cases z'
  ·by_cases hb:b=a
   ·exact hb
   ·exact absurd (if_neg hb) z
theorem walk_of{l:Fq}{n k:Nat}{q:AY}{loose:List Str}{XP:(Str->Option AB)->Heap->Prop}{YP:Af->Heap->Prop}{d:DefRec}{K:Kw->AH}{CX:Af->CXT}{sp:Af->Sp}{x:Str}
  (hn:l.most=some n) (hn2:n<=AE) (hdf:d.params.defaults=[]) (hr:Room k GM)
  (hY:∀ (w:Af) (h:Heap),YP w h->(K w.params).In h)
  (F:∀ (w:Af) (mg:Str->Option AB) (fa:Addr) (h:Heap),(K w.params).In h->h.Ns AR mg->mg d.name=some (.ref fa) ->
   ∃ fd:AZ,(∀ (s:AD) (u:AB),GL s fd ⟨[u],[]⟩ [(x,u)]) /\
    ∀ base:Heap,(K w.params).In base->base.Ns AR mg->FnOk l.prog w (K w.params) mg base (CX w) k fa fd [x] (sp w))
  (hsp:∀ (w:Af) (H:Hp) (a:Addr) (ns:List Int),ns.length<=n->Only H->SqL (K w.params) H a (ns.map V.int)->sp w [.ref a] H (fun v _=>v=.bl true) fun _ _ _=>False)
  (hCX:∀ (w:Af) (H:Hp) (s:AD) (e:AB) (s':AD),CX w [] H s (fun _ _ _=>False) e s'->False) :
  IQ q loose XP YP l.row.toRowW d [] (fun f vs=>Hi f vs):=by
 refine Att.attach_call hn hdf fun w s₀ s₁ mg mb fa o pm cd doc a vs ns G Y ho hd hcd hmg hobj hints hlen hg=>?_
 have KX:=hY w _ Y
 obtain⟨fd,hb,hF⟩:=F w mg fa _ KX G.T.g hmg
 exact zKN KX G.T.g G.T.b G.T.builtins G.T.nolimit hg hobj hints (Aa hlen hn2) hr hF hb (fun H hO hS=>hsp w H a ns hlen hO hS) fun H e s'=>hCX w H s₁ e s'
noncomputable def defArgs (s:Stmt):Jr:=match s with
 | .FunctionDef _ a _ _ _ _ _ _ _ _=>a
 | _=>{ posonlyargs:=[],args:=[],vararg:=none,kwonlyargs:=[],kw_defaults:=[],kwarg:=none,defaults:=[] }
noncomputable def defBody (s:Stmt):List Stmt:=match s with
 | .FunctionDef _ _ b _ _ _ _ _ _ _=>b
 | _=>[]
noncomputable def defScope (s:Stmt):B6:=match s with
 | .FunctionDef _ _ _ _ _ _ sc _ _ _=>sc
 | _=>{ kind:=.function,names:=[],isGenerator:=false,isCoroutine:=false }
noncomputable abbrev CX0:CXT:=fun _ _ _ _ _ _=>False
noncomputable abbrev E0:XK:=fun _ _ _=>False
theorem pass0{X:Cx}:Passes CX0 X E0:=fun _ _ _ _ _ _ _ h=>h.elim
structure Fun(K:AH)(x qual:Str)(st:Stmt)(f:Addr)(fd:AZ):Prop where
 ex:∃ (oc:AB) (od:Option Addr) (kV doc pm:AB) (an:Option Addr) (cdv ct:AB) (osl:Array (Option AB)),
  fd=Br x qual (defArgs st) (defBody st) (defScope st) .none kV doc pm an cdv ct/\K.lookup f=some ⟨oc,od,.func fd,osl⟩/\Bi K cdv qual=true
 kp:An K (.ref f)=true
section
variable {P:AY}{w:Af}{K:AH}{mg:Str->Option AB}{base:Heap}
theorem Fun.ok{x qual:Str}{st:Stmt}{f:Addr}{fd:AZ}{N ps:List Str}{k:Nat}{sp:Sp}(F:Fun K x qual st f fd)(S:FnScope N ps (defScope st))(len:∀ vs H Q E,sp vs H Q E->vs.length=ps.length)
  (hbody:∀ (cdv:AB) (A:Ao) (outer:List Env) (s:AD) (H:Hp) (vs:List V) (Q:VK) (E:XK),Room k (A.deeper (E5 qual (defScope st) s.heap.objs.size f cdv))->sp vs H Q E ->
   ∃ t,PSs (cxOf CX0 P w K mg base N qual (defScope st) f cdv A outer s H E).nox (defBody st) t/\t { nx:=fun _ H'=>Q .non H',rt:=Q } (start N vs) H):FnOk P w K mg base CX0 (k+1) f fd ps sp:=by
 obtain⟨oc,od,kV,doc,pm,an,cdv,ct,osl,rfl,lk,hcd⟩:=F.ex
 refine zHs lk hcd S len fun A outer s H vs Q E hr hsp=>?_
 obtain⟨t,h,q⟩:=hbody cdv A outer s H vs Q E hr hsp
 exact⟨t,h.nox,q⟩
theorem Fun.binds{x qual:Str}{st:Stmt}{f:Addr}{fd:AZ}{ps:List Str}(F:Fun K x qual st f fd)
  (h:∀ (kV doc pm:AB) (an:Option Addr) (cdv ct:AB) (us:List AB),us.length=ps.length->Kt (Br x qual (defArgs st) (defBody st) (defScope st) .none kV doc pm an cdv ct) ⟨us,[]⟩=pure (ps.zip us)):Binds K fd ps []:=by
 obtain⟨oc,od,kV,doc,pm,an,cdv,ct,osl,rfl,lk,hcd⟩:=F.ex
 exact .all (h kV doc pm an cdv ct)
theorem zFh{x qual:Str}{st:Stmt}{f:Addr}{oc:AB}{od an:Option Addr}{osl:Array (Option AB)}{kV doc pm cdv ct:AB}(l:K.lookup f=some ⟨oc,od,.func (Br x qual (defArgs st) (defBody st) (defScope st) .none kV doc pm an cdv ct),osl⟩)
  (c:Bi K cdv qual=true) (k:An K (.ref f)=true):Fun K x qual st f (Br x qual (defArgs st) (defBody st) (defScope st) .none kV doc pm an cdv ct):=⟨⟨oc,od,kV,doc,pm,an,cdv,ct,osl,rfl,l,c⟩,k⟩
end
def Same (H H':Hp):Prop:=∀ b o,H b=some o->H' b=some o
theorem Same.refl(H:Hp):Same H H:=fun _ _ h=>h
end L2
set_option maxHeartbeats 4000000
namespace L2
open PySem PySem.Spec PyProof.Rows
noncomputable def cloOf (cells:List (Str×Addr)):List (Str×CK)->List (Str×Addr)->List (Str×Addr)
 | [],acc=>acc
 | (n,k)::r,acc=>if k == .free then cloOf cells r ((n,(cells.lookup n).getD 0)::acc) else cloOf cells r acc
theorem zEu{scope:B6}{env:Env}(h:∀ x∈scope.names,x.2=.free->∃ c,env.cells.lookup x.1=some c):closureFor scope env=pure (cloOf env.cells scope.names []):=by
 have go:∀ (names:List (Str×CK)) (acc:List (Str×Addr)),(∀ x∈names,x.2=.free->∃ c,env.cells.lookup x.1=some c) ->
   (forIn names acc fun (x:Str×CK) (cs:List (Str×Addr))=>if (x.2 == BW)=true then (do let c ← cellOf env x.1; pure (Cz ((x.1,c)::cs))) else (pure (Cz cs):Sem _))=(pure (cloOf env.cells names acc):Sem _):=by
  intro names
  induction names with
  | nil=>intro acc _; rfl
  | cons x r ih =>
   intro acc hx
   obtain⟨n,k⟩:=x
   rw[Cn]
   have hr:=fun acc=>ih acc fun y hy=>hx y (AK _ hy)
   unfold cloOf
   by_cases hk:(k == BW)=true
   ·obtain⟨c,hc⟩:=hx (n,k) AQ (by simpa using hk)
    have hc':env.cells.lookup n=some c:=hc
    have e:cellOf env n=pure c:=by unfold cellOf; rw[hc']
    simp only[hk,if_true,e,hc',DX,pure_bind]
    exact hr _
   ·simp only[hk,if_false,pure_bind]
    exact hr _
 unfold closureFor
 have:=go scope.names [] h
 simp only[bind_pure]
 exact this
theorem zBW{cells:List (Str×Addr)}{x:Str}{c:Addr}:∀ (names:List (Str×CK)) (acc:List (Str×Addr)),(cloOf cells names acc).lookup x=some c->((x,BW)∈names/\c=(cells.lookup x).getD 0)\/acc.lookup x=some c
 | [],acc,h=>.inr h
 | (n,k)::r,acc,h=>by
  unfold cloOf at h
  by_cases hk:(k == BW)=true
  ·rw[if_pos hk]at h
   have hk':k=.free:=by simpa using hk
   subst hk'
   rcases zBW r _ h with ⟨a,b⟩ | h'
   ·exact .inl ⟨AK _ a,b⟩
   ·clear h
    rw[Bf]at h'
    cases e:x == n with
    | true =>
         rw[e]at h'; have q:x=n:=by simpa using e
         subst q
         have q2:(cells.lookup x).getD 0=c:=As h'
         exact .inl ⟨AQ,q2.symm⟩
    | false=>rw[e]at h'; exact .inr h'
  ·rw[if_neg hk]at h
   rcases zBW r _ h with ⟨a,b⟩ | h
   ·exact .inl ⟨AK _ a,b⟩
   ·exact .inr h
theorem zCB{cells:List (Str×Addr)}{x:Str}:∀ (names:List (Str×CK)) (acc:List (Str×Addr)),((x,BW)∈names\/(acc.lookup x).isSome=true)->((cloOf cells names acc).lookup x).isSome=true
 | [],acc,h=>h.elim (fun z=>nomatch z) id
 | (n,k)::r,acc,h=>by
  unfold cloOf
  by_cases hk:(k == BW)=true
  ·rw[if_pos hk]
   refine zCB r _ ?_
   by_cases e:x=n
   ·subst e; exact .inr (by simp)
   ·rcases h with h | h
    ·rcases AO.mp h with h | h
     ·cases h; exact absurd rfl e
     ·exact .inl h
    ·refine .inr ?_
     rw[Bf]
     have:(x == n)=false:=by simpa using e
     rw[this]; exact h
  ·rw[if_neg hk]
   refine zCB r _ ?_
   rcases h with h | h
   ·rcases AO.mp h with h | h
    ·cases h; exact absurd rfl hk
    ·exact .inl h
   ·exact .inr h
theorem zBf{x:Str}{c:Addr}:∀ (names:List (Str×CK)) (n:Nat) (acc:List (Str×Addr)),(BJ n names acc).lookup x=some c->(n<=c/\(x,Bg)∈names)\/acc.lookup x=some c
 | [],_,acc,h=>.inr h
 | (y,k)::r,n,acc,h=>by
  unfold BJ at h
  by_cases hk:(k == Bg)=true
  ·rw[if_pos hk]at h
   have hk':k=.cell:=by simpa using hk
   subst hk'
   rcases zBf r _ _ h with ⟨a,b⟩ | h'
   ·exact .inl ⟨by omega,AK _ b⟩
   ·clear h
    rw[Bf]at h'
    cases e:x == y with
    | true =>
         rw[e]at h'; have q:x=y:=by simpa using e
         have q2:n=c:=As h'
         subst q q2; exact .inl ⟨AL _,AQ⟩
    | false=>rw[e]at h'; exact .inr h'
  ·rw[if_neg hk]at h
   rcases zBf r _ _ h with ⟨a,b⟩ | h
   ·exact .inl ⟨a,AK _ b⟩
   ·exact .inr h
theorem zF5{x:Str}{c:Addr}:∀ (names:List (Str×CK)) (n:Nat) (acc:List (Str×Addr)),(x,c)∈BJ n names acc->n<=c\/(x,c)∈acc
 | [],_,acc,h=>.inr h
 | (y,k)::r,n,acc,h=>by
  unfold BJ at h
  by_cases hk:(k == Bg)=true
  ·rw[if_pos hk]at h
   rcases zF5 r _ _ h with a | h
   ·exact .inl (by omega)
   ·rcases AO.mp h with h | h
    ·cases h; exact .inl (AL _)
    ·exact .inr h
  ·rw[if_neg hk]at h
   exact zF5 r _ _ h
theorem zFI{x y:Str}{c:Addr}:∀ (names:List (Str×CK)) (n:Nat) (acc:List (Str×Addr)),(∀ p∈acc,p.2 < n)->n<=c->(x,c)∈BJ n names acc->(y,c)∈BJ n names acc->x=y
 | [],n,acc,ha,hc,h1,_=>by have q:c < n:=ha _ h1; exact absurd (AV q hc) (BK _)
 | (z,k)::r,n,acc,ha,hc,h1,h2=>by
  unfold BJ at h1 h2
  by_cases hk:(k == Bg)=true
  ·rw[if_pos hk]at h1 h2
   have ha':∀ p∈(z,n)::acc,p.2 < n+1:=fun p hp=>by
    rcases AO.mp hp with h | h
    ·subst h; exact CY _
    ·exact DU (ha p h)
   by_cases hcn:n+1<=c
   ·exact zFI r _ _ ha' hcn h1 h2
   ·have hcn':c=n:=Nat.le_antisymm (IG.mp hcn) hc
    subst hcn'
    have g:∀ w,(w,c)∈BJ (c+1) r ((z,c)::acc)->w=z:=fun w hw=>by
     rcases zF5 r _ _ hw with a | a
     ·exact absurd a (Nat.not_succ_le_self _)
     ·rcases AO.mp a with a | a
      ·cases a; rfl
      ·have:=ha _ a; exact absurd this (BK _)
    rw[g x h1,g y h2]
  ·rw[if_neg hk]at h1 h2
   exact zFI r _ _ ha hc h1 h2
theorem zEB{x:Str}{c:Addr}:∀ (names:List (Str×CK)) (h:Heap) (acc:List (Str×Addr)),(∀ p∈acc,∃ v,h.IsCell p.2 v)->(x,c)∈BJ h.objs.size names acc->∃ v,(Er h names).IsCell c v
 | [],_,acc,ha,hm=>ha _ hm
 | (z,k)::r,h,acc,ha,hm=>by
  unfold BJ at hm
  unfold Er
  by_cases hk:(k == Bg)=true
  ·rw[if_pos hk]at hm ⊢
   refine zEB r (h.push { cls:=.type "cell",data:=.cell none }) ((z,h.objs.size)::acc) (fun p hp=>?_) (by rw[BS]; exact hm)
   rcases AO.mp hp with e | e
   ·subst e; exact⟨none,_,AN _ rfl,rfl⟩
   ·obtain⟨v,q⟩:=ha p e
    exact⟨v,q.keeps fun b o e=>AC _ e⟩
  ·rw[if_neg hk]at hm ⊢
   exact zEB r h acc ha hm
theorem zGH{M:Gj}{A:Ao}{E:AB->AD->Prop}{s:AD}{scope:B6}{globals:Addr}{cl:List (Str×Addr)}{qual:Str}{env:Env}{Q:Env->AD->Prop}
  (hQ:Q (newEnv scope s.heap.objs.size globals (BJ (s.heap.objs.size+1) scope.names cl) qual none .none (some env) G8) { s with heap:=Er (s.heap.push { cls:=.type "dict",data:=.dict #[] }) scope.names }) :
  AM M A (Kx scope globals cl [] qual none .none (some env)) Q E s:=by
 simp only[Kx,Option.isSome_some,if_true]
 refine AA (wpAny_alloc ?_)
 refine AA (wpAny_layCells _ (fun name kind cells=>by cases hkc:kind == Bg <;> simp[hkc]) _ _ _ _ ?_)
 rw[show ({ s with heap:=s.heap.push { cls:=.type "dict",data:=.dict #[] } }:AD).heap.objs.size=s.heap.objs.size+1 from BS ..]
 refine AA ?_
 rw[DP]
 exact AG (AG hQ)
noncomputable def compOk (N N':List Str) (ix:List (Option Nat)) (outer names:List (Str×CK)):Bool :=
 decide (N'.length=ix.length) && ((N'.zip ix).all fun p=>match p.2 with | none=>true | some j=>decide (N[j]?=some p.1) && names.contains (p.1,BW)) &&
 (names.all fun p=>(p.2 != .free || outer.lookup p.1 == some .cell || outer.lookup p.1 == some .free) && (p.2 != .local || names.lookup p.1 == some .local) && (p.2 != .cell || names.lookup p.1 == some .cell) && (p.2 != .free || names.lookup p.1 == some .free))
noncomputable def frm (ix:List (Option Nat)) (σ:St):St:=ix.map fun o=>o.bind fun j=>(σ[j]?).join
noncomputable def cxC (X:Cx) (N:List Str) (scope:B6) (C:Addr) (cs:List (Str×Addr)) (s:AD) (H:Hp) (ex:List Addr):Cx where
 prog:=X.prog
 w:=X.w
 K:=X.K
 mg:=X.mg
 base:=X.base
 A:=X.A
 N:=N
 s₀:=s
 H₀:=H
 env:=FQ scope cs C X.env
 outer:=X.stack
 stack:=X.stack
 ex:=ex
 fn:=fun x=>scope.names.lookup x == some .cell
 calm:=X.calm
 pn:=[]
 xe:=fun _ _=>False
structure CompOk(X:Cx)(N':List Str)(ix:List (Option Nat))(scope:B6):Prop where
 kind:scope.kind=.function
 ok:compOk X.N N' ix X.env.scope.names scope.names=true
section
variable {X:Cx}{N':List Str}{ix:List (Option Nat)}{scope:B6}
theorem CompOk.len(S:CompOk X N' ix scope):N'.length=ix.length:=by
 have h:=S.ok; unfold compOk at h; simp only[Ab,decide_eq_true_eq]at h; exact h.1.1
theorem CompOk.name(S:CompOk X N' ix scope){p:Str×CK}(hp:p∈scope.names) :
  (p.2=.free->X.env.scope.names.lookup p.1=some .cell\/X.env.scope.names.lookup p.1=some .free)/\(p.2=.local->scope.names.lookup p.1=some .local)/\(p.2=.cell->scope.names.lookup p.1=some .cell)/\(p.2=.free->scope.names.lookup p.1=some .free):=by
 have h:=S.ok; unfold compOk at h; simp only[Ab]at h
 have q:=Ax.mp h.2 p hp
 simp only[Ab,GE,bne_iff_ne,beq_iff_eq,ne_eq]at q
 obtain⟨⟨⟨a,b⟩,c⟩,d⟩:=q
 refine⟨fun e=>?_,fun e=>?_,fun e=>?_,fun e=>?_⟩
 ·rcases a with (a | a) | a
  ·exact absurd e a
  ·exact .inl a
  ·exact .inr a
 ·exact b.resolve_left fun z=>z e
 ·exact c.resolve_left fun z=>z e
 ·exact d.resolve_left fun z=>z e
theorem CompOk.at(S:CompOk X N' ix scope){i j:Nat}{x:Str}(h1:N'[i]?=some x)(h2:ix[i]?=some (some j)):X.N[j]?=some x/\(x,BW)∈scope.names:=by
 have h:=S.ok; unfold compOk at h; simp only[Ab]at h
 have hz:(x,some j)∈N'.zip ix:=by
  have:(N'.zip ix)[i]?=some (x,some j):=by rw[GZ]; exact⟨h1,h2⟩
  exact Dj this
 have q:=Ax.mp h.1.2 _ hz
 simp only[Ab,decide_eq_true_eq,List.contains_iff_mem]at q
 exact q
theorem zNv{σ:St}{i:Nat}{v:V}(h:(frm ix σ)[i]?=some (some v)):∃ j,ix[i]?=some (some j)/\σ[j]?=some (some v):=by
 unfold frm at h
 rw[Ae]at h
 cases e:ix[i]? with
 | none=>rw[e]at h; cases h
 | some o =>
  rw[e]at h
  cases o with
  | none=>cases h
  | some j =>
   have h':(σ[j]?).join=some v:=As h
   refine⟨j,rfl,?_⟩
   cases e2:σ[j]? with
   | none=>rw[e2]at h'; cases h'
   | some w=>rw[e2]at h'; rw[show w=some v from h']
theorem zB7{env:Env}:∀ (names:List (Str×CK)) (x:Str),
  (names.map fun (n,k)=>if (k == BW && env.scope.kind == .function && env.kindOf n == some .cell) then (n,Bg) else (n,k)).lookup x =
   match names.lookup x with
   | some .free=>if (env.scope.kind == .function && env.kindOf x == some .cell) then some Bg else some .free
   | o=>o
 | [],_=>rfl
 | (n,k)::r,x=>by
  have ih:=zB7 (env:=env) r x
  rw[Ak]
  show Jz x ((if (k == BW && env.scope.kind == .function && env.kindOf n == some .cell)=true then (n,Bg) else (n,k))::_)=_
  cases hx:x == n with
  | true =>
   have e:x=n:=by simpa using hx
   subst e
   simp only[Bf,beq_self_eq_true]
   cases k <;> by_cases hc:(env.scope.kind == .function && env.kindOf x == some .cell)=true <;> simp[Bf,hc] <;> simp_all
  | false =>
   simp only[Bf,hx]
   rw[← ih]
   split <;> simp only[Bf,hx]
theorem kindC{cs:List (Str×Addr)}{C:Addr}(x:Str):(FQ scope cs C X.env).kindOf x =
   match scope.names.lookup x with
   | some .free=>if (X.env.scope.kind == .function && X.env.kindOf x == some .cell) then some Bg else some .free
   | o=>o:=zB7 scope.names x
end
theorem zKE{X:Cx}{N':List Str}{ix:List (Option Nat)}{scope:B6}(S:CompOk X N' ix scope){pins:List (Addr×Obj)}{σ:St}{H:Hp}{s:AD}{fp:List Addr}{D:Addr}{o:Obj}
  (I:Inv X pins σ H s) (hf:∀ b∈fp,FpOk X pins H b) (ho:∀ b∈fp,∃ o,s.heap.get? b=some o) (hc:X.calm=true) {h3:Heap} {C:Addr} (hk3:∀ b u,s.heap.get? b=some u->h3.get? b=some u) (hC:C=h3.objs.size) (hs3:s.heap.objs.size<=h3.objs.size) {h4:Heap}
  (h4e:h4=Er (h3.push { cls:=.type "dict",data:=.dict #[] }) scope.names) {t4:Nat} :
  Inv (cxC X N' scope C (BJ (C+1) scope.names (cloOf X.env.cells scope.names [])) s H fp) [] (frm ix σ) H { s with heap:=h4,toks:=t4 }:=by
 have hsz:s.heap.objs.size<=C:=by rw[hC]; exact hs3
 have hk4:∀ b u,h3.get? b=some u->h4.get? b=some u:=fun b u e=>by rw[h4e]; exact FB _ _ b u (AC _ e)
 have hk:∀ b u,s.heap.get? b=some u->h4.get? b=some u:=fun b u e=>hk4 b u (hk3 b u e)
 have hpC:(h3.push { cls:=.type "dict",data:=.dict #[] }).objs.size=C+1:=by rw[hC,BS]
 have clo:∀ x c,(cloOf X.env.cells scope.names []).lookup x=some c->X.env.cells.lookup x=some c:=fun x c h=>by
  rcases zBW scope.names [] h with ⟨hm,e⟩ | h
  ·obtain⟨c',hc'⟩:=I.ok.has x ((S.name hm).1 rfl)
   rw[hc']at e ⊢
   rw[e]; rfl
  ·cases h
 have cloM:∀ p∈cloOf X.env.cells scope.names [],∃ x,(x,BW)∈scope.names/\p.1=x/\X.env.cells.lookup x=some p.2:=by
  have go:∀ (names:List (Str×CK)) (acc:List (Str×Addr)),(∀ q∈names,q∈scope.names)->(∀ p∈acc,∃ x,(x,BW)∈scope.names/\p.1=x/\X.env.cells.lookup x=some p.2) ->
    ∀ p∈cloOf X.env.cells names acc,∃ x,(x,BW)∈scope.names/\p.1=x/\X.env.cells.lookup x=some p.2:=by
   intro names
   induction names with
   | nil=>intro acc _ ha; exact ha
   | cons q r ih =>
    intro acc hn ha
    obtain⟨n,k⟩:=q
    unfold cloOf
    by_cases hkf:(k == BW)=true
    ·rw[if_pos hkf]
     have e:k=.free:=by simpa using hkf
     subst e
     refine ih _ (fun q hq=>hn q (AK _ hq)) fun p hp=>?_
     rcases AO.mp hp with e | hp
     ·subst e
      have hm:=hn (n,.free) AQ
      obtain⟨c',hc'⟩:=I.ok.has n ((S.name hm).1 rfl)
      refine⟨n,hm,rfl,?_⟩
      show Jz n X.env.cells=some ((X.env.cells.lookup n).getD 0)
      rw[hc']; rfl
     ·exact ha p hp
    ·rw[if_neg hkf]
     exact ih _ (fun q hq=>hn q (AK _ hq)) ha
  exact go scope.names [] (fun _ h=>h) fun p hp=>nomatch hp
 have cellLt:∀ x c,X.env.cells.lookup x=some c->c < s.heap.objs.size:=fun x c h=>by
  obtain⟨v,q⟩:=I.cell x c h; exact q.lt
 have split:∀ x c,(BJ (C+1) scope.names (cloOf X.env.cells scope.names [])).lookup x=some c->(C+1<=c/\(x,Bg)∈scope.names)\/X.env.cells.lookup x=some c:=fun x c h=>by
  rcases zBf scope.names _ _ h with h | h
  ·exact .inl h
  ·exact .inr (clo x c h)
 have cells4:∀ x c,(BJ (C+1) scope.names (cloOf X.env.cells scope.names [])).lookup x=some c->∃ v,h4.IsCell c v:=fun x c h=>by
  rw[h4e]
  refine zEB (x:=x) scope.names _ (cloOf X.env.cells scope.names []) (fun p hp=>?_) (by rw[hpC]; exact A6 h)
  obtain⟨y,_,_,e⟩:=cloM p hp
  obtain⟨v,q⟩:=I.cell y p.2 e
  exact⟨v,q.keeps fun b u e=>AC _ (hk3 b u e)⟩
 have bLt:∀ b∈fp,b < s.heap.objs.size:=fun b hb=>by obtain⟨u,e⟩:=ho b hb; exact AJ e
 have nfree:∀ b,s.heap.objs.size<=b->H b=none:=fun b hb=>I.hok.fresh hb
 have HC:C < h4.objs.size:=by
  have:h4.get? C=some { cls:=.type "dict",data:=.dict #[] }:=by
   rw[h4e]; refine FB _ _ _ _ ?_
   rw[hC]; exact AN _ rfl
  exact AJ this
 refine⟨⟨I.ok.mod,?_,I.ok.glob,I.ok.blt,hsz,fun x y c h1 h2=>?_,fun x hx=>?_,fun x c hx h=>?_,fun h=>I.ok.hd hc,I.ok.frames,.inl rfl,fun b hb=>⟨?_,fun x c h=>?_⟩,fun b u e=>I.bs b u e,Aa I.ok.bsz I.sz,fun b u e hb=>?_,fun b hb hz=>?_,I.stack,I.stkFree⟩,
  rfl,I.bare,Un.kept hk,⟨fun _=>none,?_,fun i x v h1 h2 h3=>?_⟩,cells4,?_,fun x c h=>?_,fun p hp=>absurd (show p∈([]:List (Addr×Obj)) from hp) (by simp),I.hok.kept hk,?_⟩
 ·exact S.kind
 ·-- injective
  have m1:=A6 h1
  have m2:=A6 h2
  rcases split x c h1 with ⟨a,_⟩ | a
  ·exact zFI scope.names (C+1) _ (fun p hp=>by obtain⟨y,_,_,e⟩:=cloM p hp; exact DU (AV (cellLt y _ e) hsz)) a m1 m2
  ·rcases split y c h2 with ⟨b,_⟩ | b
   ·exact absurd (AV (cellLt x c a) (Aa hsz (EI b))) (BK _)
   ·exact I.ok.inj x y c a b
 ·-- has
  have hx':(FQ scope (BJ (C+1) scope.names (cloOf X.env.cells scope.names [])) C X.env).kindOf x=some .cell\/(FQ scope (BJ (C+1) scope.names (cloOf X.env.cells scope.names [])) C X.env).kindOf x=some .free:=hx
  rw[kindC]at hx'
  have key:scope.names.lookup x=some .cell\/scope.names.lookup x=some .free:=by
   cases e:scope.names.lookup x with
   | none=>rw[e]at hx'; rcases hx' with z | z <;> cases z
   | some k =>
    rw[e]at hx'
    cases k <;> first | exact .inl rfl | exact .inr rfl | (rcases hx' with z | z <;> cases z)
  refine C3.mp (CW scope.names _ _ ?_)
  rcases key with k | k
  ·exact .inl k
  ·exact .inr (zCB scope.names [] (.inl (A6 k)))
 ·-- own cells are new
  have hx':(scope.names.lookup x == some Bg)=true:=hx
  have hx'':scope.names.lookup x=some .cell:=by simpa using hx'
  rcases zBf scope.names _ _ h with ⟨a,_⟩ | a
  ·exact Aa hsz (EI a)
  ·rcases zBW scope.names [] a with ⟨hm,_⟩ | z
   ·have:=(S.name hm).2.2.2 rfl
    rw[hx'']at this; cases this
   ·cases z
 ·exact Ah (AV (bLt b hb) hsz)
 ·rcases split x c h with ⟨a,_⟩ | a
  ·exact BV (AV (bLt b hb) (Aa hsz (EI a)))
  ·exact (hf b hb).2.2.2.2.1 x c a
 ·rcases (hf b hb).2.2.2.1 with z | z
  ·exact I.ok.noex b u e z
  ·exact absurd (AV (AJ e) (Aa I.ok.bsz z)) (BK _)
 ·rcases AO.mp (I.stkSub b hz) with e | e
  ·exact (hf b hb).2.1 e
  ·exact (hf b hb).2.2.1 e
 ·-- the block's names
  rw[h4e]
  show (Er (h3.push { cls:=.type "dict",data:=.dict #[] }) scope.names).Ns C (fun _=>none)
  rw[hC]
  exact (Heap.Ns.new h3 (.type "dict")).keeps (FB _ _)
 ·obtain⟨j,e1,e2⟩:=zNv h2
  obtain⟨hn,hm⟩:=S.at h1 e1
  have hkx:=(S.name hm).2.2.2 rfl
  have hox:=(S.name hm).1 rfl
  obtain⟨m,hns,hl⟩:=I.loc
  have vis:Vis X.env.scope x:=by rcases hox with z | z; exact .inr (.inl z); exact .inr (.inr z)
  obtain⟨u,r,l⟩:=hl j x v hn e2 vis
  refine⟨u,r,.inr ⟨?_,?_⟩⟩
  ·show (FQ scope _ C X.env).kindOf x=some .cell\/(FQ scope _ C X.env).kindOf x=some .free
   rw[kindC,hkx]
   dsimp only
   split
   ·exact .inl rfl
   ·exact .inr rfl
  ·rcases l with ⟨k,_⟩ | ⟨_,c,hc',hcell⟩
   ·have k':X.env.scope.names.lookup x=some .local:=k
    rcases hox with z | z <;> rw[z]at k' <;> cases k'
   ·have hs:((BJ (C+1) scope.names (cloOf X.env.cells scope.names [])).lookup x).isSome=true:=CW scope.names _ _ (.inr (zCB scope.names [] (.inl hm)))
    obtain⟨c',e'⟩:=C3.mp hs
    have:c'=c:=by
     rcases split x c' e' with ⟨_,q⟩ | q
     ·have:=(S.name q).2.2.1 rfl
      rw[show scope.names.lookup x=some .free from hkx]at this; cases this
     ·rw[hc']at q; exact (As q).symm
    subst this
    exact⟨c',e',hcell.keeps hk⟩
 ·exact nfree C hsz
 ·rcases split x c h with ⟨a,_⟩ | a
  ·exact nfree c (Aa hsz (EI a))
  ·exact I.freeC x c a
 ·show (frm ix σ).length=N'.length
  unfold frm; rw[A7,S.len]
theorem zFd{prog:AY}{w:Af}{A:Ao}{R:IA->AD->Prop}{s:AD}{elt target iter:Expr}{ifs:List Expr}{scope:B6}{pos:Pos}{it acc:AB}{env:Env}(I:Nat->AD->Prop)
  (turn:∀ n s,I n s->AM (model prog w) A (Do it) (fun r s₁=>match r with
   | none=>R (.ok .next) s₁
   | some v=>AM (model prog w) A (E9 target it v) (fun _ s₁'=>AM (model prog w) A (assign target env v) (fun _ s₂ =>
     AM (model prog w) A (forIn ifs true fun c r=>if r=true then do let ok ← G9 c env (eval c env); pure (Cz ok) else pure (Cz r)) (fun ok s₃ =>
      if ok=true then AM (model prog w) A (eval elt env) (fun x s₄ =>
       AM (model prog w) A (call (.builtin "list.append") [acc,x]) (fun _ s₅=>∃ m,m < n/\I m s₅) (fun _ _=>False) s₄) (fun _ _=>False) s₃
      else ∃ m,m < n/\I m s₃) (fun _ _=>False) s₂) (fun _ _=>False) s₁') (fun _ _=>False) s₁) (fun _ _=>False) s)
  (n:Nat) (h:I n s) :
  DK (model prog w) A (.compLoop (.ListComp elt [⟨target,iter,ifs,0⟩] scope pos) 0 it acc env) R s:=by
 refine codeAny_loop rfl I (fun n s hI=>?_) n h
 show AM _ A ((compTurn (.ListComp elt [⟨target,iter,ifs,0⟩] scope pos) 0 it acc env).onRaise (fun x=>do Ff x env; theTreesLotGoes x)) _ _ s
 refine wpAny_noted ?_
 rw[compTurn_list]
 refine AA (DH (AA (BF (turn n s hI) (fun r s₁ h₁=>?_) fun _ _ h'=>h'.elim)))
 cases r with
 | none=>exact AG h₁
 | some v =>
  refine AA (BF h₁ (fun _ s₁' h₁'=>?_) fun _ _ h'=>h'.elim)
  refine AA (BF h₁' (fun _ s₂ h₂=>AA (BF h₂ (fun ok s₃ h₃=>?_) fun _ _ h'=>h'.elim)) fun _ _ h'=>h'.elim)
  cases ok with
  | false=>exact AG ⟨rfl,h₃⟩
  | true =>
   exact AA (AA (BF h₃ (fun x s₄ h₄=>AA (BF h₄ (fun _ s₅ h₅=>AG (AG ⟨rfl,h₅⟩)) fun _ _ h'=>h'.elim)) fun _ _ h'=>h'.elim))
noncomputable def PTs (X:Cx) (ifs:List Expr) (t:TT):Prop :=
 ∀ (pins:List (Addr×Obj)) (s:AD) (σ:St) (H:Hp) (Q:Bool->Hp->Prop),Inv X pins σ H s->t σ H Q ->
  AM (model X.prog X.w) X.A (forIn ifs true fun c r=>if r=true then do let ok ← G9 c X.env (eval c X.env); pure (Cz ok) else pure (Cz r)) (TP X pins σ Q) X.xe s
noncomputable def tYes:TT:=fun _ H Q=>Q true H
theorem zM0{X:Cx}:PTs X [] tYes:=fun _ _ _ H _ I h=>wpAny_tests_nil ⟨H,I,h⟩
theorem zMy{X:Cx}{c:Expr}{t:TT}(h:PT X c t):PTs X [c] t:=fun pins s σ H Q I hw=>wpAny_tests_one (h pins s σ H Q I hw)
def CompW (J:It) (ix:List (Option Nat)) (g:TG) (tc:TT) (te:TE) (σ:St) (H1:Hp) (Q:VK):Prop:=∃ W:Nat->Nat->List V->St->Hp->Prop,(∃ m,W 0 m [] (frm ix σ) H1) /\
 ∀ i m ys σ' H',W i m ys σ' H' ->
  (J.stop i H'/\ys.length<=AE/\∀ D,H' D=none->Q (.ref D) (upd H' D (.lst ys))) \/
  (J.go i H'/\ys.length < AE/\∃ N:List V->St->Hp->Prop,(∀ ys' σ2 H2,N ys' σ2 H2->∃ m',m' < m/\W (i+1) m' ys' σ2 H2) /\
   ∀ x H2,J.yld i H' x H2->g x σ' H2 fun σ2 H3=>tc σ2 H3 fun b H4=>if b=true then te σ2 H4 fun v H5=>N (ys++[v]) σ2 H5 else N ys σ2 H4)
noncomputable def tComp (wi:TI) (ix:List (Option Nat)) (g:TG) (tc:TT) (te:TE):TE:=fun σ H Q=>wi σ H fun J H1=>CompW J ix g tc te σ H1 Q
theorem HOk.adopt{P:AY}{w:Af}{H:Hp}{h:Heap}{a:Addr}{o:HO}(x:HOk P w H h)(hn:H a=none)(new:ObjOk P w (upd H a o) h a o):HOk P w (upd H a o) h:=fun b u e=>by
 by_cases hb:b=a
 ·subst hb; rw[zAf]at e; cases e; exact new
 ·rw[zAJ hb]at e
  exact (x b u e).stay (fun c v _ q=>q) (fun c q=>by rw[zAJ (zAY q hn)]; exact q) fun c xs q=>by rw[zAJ (zAY q hn)]; exact q
section
variable {X:Cx}{N':List Str}{ix:List (Option Nat)}{scope:B6}{elt tg iter:Expr}{ifs:List Expr}{pos:Pos}{wi:TI}{g:TG}{tc:TT}{te:TE}
theorem zEi{use:Option (AB->Sem Unit)}{QQ:AB->AD->Prop}(S:CompOk X N' ix scope)(hc:X.calm=true)(hi:PI X tg iter wi)
  (hg:∀ C cs s H ex,PG (cxC X N' scope C cs s H ex) tg g) (ht:∀ C cs s H ex,PTs (cxC X N' scope C cs s H ex) ifs tc) (he:∀ C cs s H ex,PE (cxC X N' scope C cs s H ex) elt te)
  {pins:List (Addr×Obj)} {s:AD} {σ:St} {H:Hp} {Q:VK} (I:Inv X pins σ H s) (hw:tComp wi ix g tc te σ H Q)
  (fin:∀ (D C:Addr) (o:Obj) (H':Hp) (s':AD),Inv X (pins++[(C,o)]) σ H' s'->(∃ m,s'.heap.Ns C m)->(X.s₀.heap.objs.size<=C)->(∀ x c,X.env.cells.lookup x=some c->c≠C)->(∀ p∈X.pn++pins,p.1≠C)->Q (.ref D) H'->Ky (model X.prog X.w) X.A X.xe use QQ (.ref D) C (.ok .next) s')
  (hs:∀ x,CS iter X.env x=pure x:=by intro _; rfl) :
  AM (model X.prog X.w) X.A (comprehension (.ListComp elt [⟨tg,iter,ifs,0⟩] scope pos) scope X.env (firstIterPos [⟨tg,iter,ifs,0⟩] pos) (Lg []) false (eval iter X.env) use) QQ X.xe s:=by
 refine wpAny_comprehension_free (cl:=cloOf X.env.cells scope.names []) rfl hs (zEu fun x hx hk=>I.ok.has x.1 ((S.name hx).1 hk)) S.kind (fun x hx hl=>(S.name hx).2.1 hl) ?_
 refine thn (hi pins s σ H _ I hw) fun v s1 h1=>thn h1 fun itv s2 h2=>?_
 obtain⟨it,fp,tn,J,H2,e,I2,T,st2,f2,W,⟨m0,w0⟩,turn⟩:=h2
 subst e
 refine BB ?_
 refine zGH ?_
 generalize hH3:s2.heap.push { cls:=.type "list",dict:=none,data:=.seq ([]:List AB).toArray }=h3
 have hD3:h3.get? s2.heap.objs.size=some { cls:=.type "list",dict:=none,data:=.seq ([]:List AB).toArray }:=by rw[← hH3]; exact AN _ rfl
 have hk3:∀ b u,s2.heap.get? b=some u->h3.get? b=some u:=fun b u e=>by rw[← hH3]; exact AC _ e
 have hz3:h3.objs.size=s2.heap.objs.size+1:=by rw[← hH3,BS]
 have ho2:∀ b∈fp,∃ o,s2.heap.get? b=some o:=fun b hb=>by obtain⟨o,e,_⟩:=T.obj _ _ st2 b hb; exact⟨o,e⟩
 show DK (model X.prog X.w) X.A (.compStart (.ListComp elt [⟨tg,iter,ifs,0⟩] scope pos) 0 (.ref it) (.ref s2.heap.objs.size) (FQ scope (BJ (h3.objs.size+1) scope.names (cloOf X.env.cells scope.names [])) h3.objs.size X.env)) (Ky (model X.prog X.w) X.A X.xe use QQ (.ref s2.heap.objs.size) h3.objs.size) { s2 with heap:=Er (h3.push { cls:=.type "dict",data:=.dict #[] }) scope.names }
 generalize hD:s2.heap.objs.size=D at hD3 hz3 ⊢
 generalize hC:h3.objs.size=C at hz3 ⊢
 generalize h4e:Er (h3.push { cls:=.type "dict",data:=.dict #[] }) scope.names=h4
 have hk4:∀ b u,h3.get? b=some u->h4.get? b=some u:=fun b u e=>by rw[← h4e]; exact FB _ _ b u (AC _ e)
 have I4:Inv (cxC X N' scope C (BJ (C+1) scope.names (cloOf X.env.cells scope.names [])) s2 H2 fp) [] (frm ix σ) H2 { s2 with heap:=h4,toks:=s2.toks } :=
  zKE (D:=D) (o:={ cls:=.none,data:=.dict #[] }) S I2 f2 ho2 hc hk3 hC.symm (by rw[hC,hz3,hD]; exact GD _) h4e.symm
 have hcellD:∀ x c,(BJ (C+1) scope.names (cloOf X.env.cells scope.names [])).lookup x=some c->c≠D:=fun x c h z=>by
  rcases zBf scope.names _ _ h with ⟨a,_⟩ | a
  ·rw[z,hz3]at a; omega
  ·rcases zBW scope.names [] a with ⟨hm,e⟩ | a
   ·obtain⟨c',hc'⟩:=I2.ok.has x ((S.name hm).1 rfl)
    rw[hc']at e
    obtain⟨v,q⟩:=I2.cell x c' hc'
    have e':c=c':=e
    rw[← e',z,← hD]at q
    exact absurd q.lt (BK _)
   ·cases a
 have hDC:D≠C:=by rw[hz3]; exact Ah (CY _)
 have hDfp:D∉fp:=fun hb=>by obtain⟨o,e⟩:=ho2 D hb; exact absurd (hD ▸ AJ e) (BK _)
 generalize hX':cxC X N' scope C (BJ (C+1) scope.names (cloOf X.env.cells scope.names [])) s2 H2 fp=X' at I4
 have hfpX:∀ {H':Hp} {oD:Obj},(∀ b∈fp,H' b=none)->∀ b∈fp,FpOk X' [(D,oD)] H' b:=fun {H' oD} hn b hb=>by
  rw[← hX']
  refine⟨hn b hb,fun z=>?_,fun z=>?_,.inl hb,fun x c h z=>?_,fun p hp=>?_⟩
  rotate_right
  ·have hp':p∈[(D,oD)]:=hp
   have e:p=(D,oD):=by simpa using hp'
   subst e
   exact fun z=>hDfp (by rw[show D=b from z]; exact hb)
  ·obtain⟨o,e⟩:=ho2 b hb
   have z':b=C:=z
   have q:=AJ e
   rw[z',hz3,hD]at q
   exact absurd (HJ (CY D) q) (BK _)
  ·have z':b∈frs X.stack:=z
   rcases AO.mp (I2.stkSub b z') with e | e
   ·exact (f2 b hb).2.1 e
   ·exact (f2 b hb).2.2.1 e
  ·rw[← hX']at I4
   exact (I4.ok.exf b hb).2 x c h z
 have HDnone:H2 D=none:=I2.hok.fresh (by rw[hD]; exact AL _)
 have key:∀ (s':AD),s'={ s2 with heap:=h4,toks:=s2.toks } ->
   DK (model X.prog X.w) X.A (.compLoop (.ListComp elt [⟨tg,iter,ifs,0⟩] scope pos) 0 (.ref it) (.ref D) X'.env) (Ky (model X.prog X.w) X.A X.xe use QQ (.ref D) C) s':=by
  rintro s' rfl
  refine zFd (fun n s'=>∃ i ys σ' H' its,Inv X' [] σ' H' s'/\tn i s'.heap/\(∀ b∈fp,H' b=none)/\H' D=none/\s'.heap.PlainList D its/\Vals ys its.toList/\W i n ys σ' H') ?_ m0
   ⟨0,[],frm ix σ,H2,#[],I4,T.keep _ _ _ st2 fun b hb o e=>hk4 b o (hk3 b o e),fun b hb=>(f2 b hb).1,HDnone,⟨_,hk4 _ _ hD3⟩,.nil,w0⟩
  rintro n s3 ⟨i,ys,σ3,H3,its,I3,st3,fr3,hD3n,hpl,hv,w3⟩
  have hc':X'.calm=true:=by rw[← hX']; exact hc
  have xe':∀ e s,X'.xe e s->False:=by rw[← hX']; exact fun _ _ z=>z
  have pr:X'.prog=X.prog:=by rw[← hX']; rfl
  have pw:X'.w=X.w:=by rw[← hX']; rfl
  have pK:X'.K=X.K:=by rw[← hX']; rfl
  have pA:X'.A=X.A:=by rw[← hX']; rfl
  have p0:X'.s₀=s2:=by rw[← hX']; rfl
  have pH:X'.H₀=H2:=by rw[← hX']; rfl
  have px:X'.ex=fp:=by rw[← hX']; rfl
  have pf:X'.fs=frs X.stack:=by rw[← hX']; rfl
  have pL:X'.env.locals=C:=by rw[← hX']; rfl
  have pn0:X'.pn=[]:=by rw[← hX']; rfl
  have pcs:X'.env.cells=BJ (C+1) scope.names (cloOf X.env.cells scope.names []):=by rw[← hX']; rfl
  obtain⟨nD,hoD⟩:=id hpl
  have Dfs:D∉X'.fs:=fun z=>by
   rw[pf]at z
   rcases AO.mp (I2.stkSub D z) with e | e
   ·have q:=I2.lt; rw[← e,hD]at q; exact BK _ q
   ·exact I2.nofs (by rw[hD]; exact AL _) e
  have I3':Inv X' [(D,_)] σ3 H3 s3:=I3.pins_of fun p hp=>by
   have e:p=(D,_):=AF.mp hp
   subst e
   exact⟨hoD,hD3n,by rw[pL]; exact hDC,Dfs,fun v z=>by cases z⟩
  have hg':PG X' tg g:=hX' ▸ hg _ _ _ _ _
  have ht':PTs X' ifs tc:=hX' ▸ ht _ _ _ _ _
  have he':PE X' elt te:=hX' ▸ he _ _ _ _ _
  have hsizes:its.toList.length=ys.length:=hv.length.symm
  rcases turn i n ys σ3 H3 w3 with ⟨stop,hlen,qn⟩ | ⟨go,hlt,N,hN,step⟩
  ·-- the end
   have T':=T.done X' pr pw pK hc' i _ s3 σ3 H3 (fun _ _=>False) I3' (hfpX fr3) st3 stop
   rw[pA]at T'
   refine thn T' fun r s4 ⟨hr,I5⟩=>?_
   subst hr
   obtain⟨gD,nDn,_,_,_⟩:=I5.pin (D,_) (Am _ (AF.mpr rfl))
   have gD':s4.heap.get? D=some { cls:=.type "list",data:=.seq its nD }:=gD
   obtain⟨m,hns,_⟩:=I5.loc
   rw[pL]at hns
   obtain⟨oC,es,ep,hoC,hdC,_⟩:=id hns
   have ub:Un (frs X.stack) fp H2 H3 s2.heap s4.heap:=by
    have q:=I5.base
    rw[px,pH,p0]at q
    rw[← pf]; exact q
   have bLt:∀ b u,s2.heap.get? b=some u->b≠D:=fun b u e z=>by have q:=AJ e; rw[z,hD]at q; exact BK _ q
   have u':Un (frs X.stack) fp H2 (upd H3 D (.lst ys)) s2.heap s4.heap :=
    ⟨ub.keep,ub.slot,fun b o e n hx=>by rw[zAJ (bLt b o e)]; exact ub.free b o e n hx,ub.there,fun b xs e=>by rw[zAJ (zAY (ub.tups b xs e) hD3n)]; exact ub.tups b xs e,
     fun b o u e=>by rw[zAJ (zAY (ub.frzs b o u e) hD3n)]; exact ub.frzs b o u e,fun b ps e=>by obtain⟨more,q⟩:=ub.tbls b ps e; exact⟨more,by rw[zAJ (zAY q hD3n)]; exact q⟩⟩
   have hok':HOk X.prog X.w (upd H3 D (.lst ys)) s4.heap:=by
    have q:=I5.hok
    rw[pr,pw]at q
    exact q.adopt hD3n ⟨hlen,its.toList,nD,hv,by simpa using gD'⟩
   have os':s4.os=s2.os:=by have q:=I5.os; rw[p0]at q; exact q
   have Iend:Inv X pins σ (upd H3 D (.lst ys)) s4:=I2.call' (ch:=fp) os' u' hok' I5.bare fun b hb=>⟨(f2 b hb).2.2.2.1,(f2 b hb).2.1,(f2 b hb).2.2.2.2.1,(f2 b hb).2.2.2.2.2⟩
   have hsC:s2.heap.objs.size<=C:=by rw[hz3,hD]; exact GD _
   have freeC:upd H3 D (.lst ys) C=none:=by rw[zAJ (Az hDC)]; have q:=I5.free; rw[pL]at q; exact q
   have Iend':Inv X (pins++[(C,oC)]) σ (upd H3 D (.lst ys)) s4:=Iend.pins_of fun p hp=>by
    rcases C6.mp hp with hp | hp
    ·exact Iend.pin p (Am _ hp)
    ·have e:p=(C,oC):=AF.mp hp
     subst e
     exact⟨hoC,freeC,BV (AV I2.lt hsC),I2.nofs hsC,fun v z=>by rw[show oC.data=Kr v from z]at hdC; cases hdC⟩
   exact fin D C oC _ s4 Iend' ⟨m,hns⟩ (Aa I2.sz hsC) (fun x c h z=>by obtain⟨v,q⟩:=I2.cell x c h; exact absurd (AV q.lt hsC) (by rw[z]; exact BK _))
    (fun p hp z=>by have q:=AJ (I2.pin p hp).1; exact absurd (AV q hsC) (by rw[z]; exact BK _)) (qn D hD3n)
  ·have T':=T.item X' pr pw pK hc' i _ s3 σ3 H3 (fun _ _=>False) I3' (hfpX fr3) st3 go
   rw[pA]at T'
   refine thn T' fun r s4 ⟨u,hr,h4'⟩=>?_
   subst hr
   refine thn h4' fun _ s5 ⟨x,H5,I5,r5,y5,st5,fr5⟩=>?_
   have I5':=I5.pinned (hfpX fr5) (T.obj _ _ st5)
   have A1:=hg' _ s5 σ3 H5 x u _ I5' r5 (step x H5 y5)
   rw[pr,pw,pA]at A1
   refine BF A1 (fun _ s6 ⟨σ6,H6,I6,q6⟩=>?_) xe'
   have A2:=ht' _ s6 σ6 H6 _ I6 q6
   rw[pr,pw,pA]at A2
   refine BF A2 (fun b s7 ⟨H7,I7,q7⟩=>?_) xe'
   have pinD:∀ {σ':St} {H':Hp} {s':AD},Inv X' ([(D,{ cls:=.type "list",data:=.seq its nD })]++pinsAt fp s5.heap) σ' H' s'->s'.heap.get? D=some { cls:=.type "list",data:=.seq its nD }/\H' D=none/\(∀ b∈fp,∀ o,s5.heap.get? b=some o->s'.heap.get? b=some o/\H' b=none):=fun {σ' H' s'} J=>by
    obtain⟨a1,a2,_⟩:=J.pin (D,_) (Am _ (Ez _ (AF.mpr rfl)))
    refine⟨a1,a2,fun b hb o e=>?_⟩
    obtain⟨b1,b2,_⟩:=J.pin (b,o) (Am _ (Am _ (zCL hb e)))
    exact⟨b1,b2⟩
   have frOf:∀ {σ':St} {H':Hp} {s':AD},Inv X' ([(D,{ cls:=.type "list",data:=.seq its nD })]++pinsAt fp s5.heap) σ' H' s'->∀ b∈fp,H' b=none:=fun {σ' H' s'} J b hb=>by
    obtain⟨o,e,_⟩:=T.obj _ _ st5 b hb
    exact ((pinD J).2.2 b hb o e).2
   have bare:∀ {σ':St} {H':Hp} {s':AD},Inv X' ([(D,{ cls:=.type "list",data:=.seq its nD })]++pinsAt fp s5.heap) σ' H' s'->Inv X' [] σ' H' s':=fun {σ' H' s'} J=>J.pins_of fun p hp=>nomatch hp
   cases b with
   | false =>
    obtain⟨m',hm,w'⟩:=hN ys σ6 H7 q7
    exact⟨m',hm,i+1,ys,σ6,H7,its,bare I7,T.keep _ _ _ st5 fun b hb o e=>((pinD I7).2.2 b hb o e).1,frOf I7,(pinD I7).2.1,⟨nD,(pinD I7).1⟩,hv,w'⟩
   | true =>
    have A3:=he' _ s7 σ6 H7 _ I7 q7
    rw[pr,pw,pA]at A3
    refine BF A3 (fun v s8 ⟨x8,H8,I8,r8,q8⟩=>?_) xe'
    refine wpAny_list_append_plain (items:=its) ⟨nD,(pinD I8).1⟩ (fun h9 hl9 hs9=>?_) (by
     have:its.size=its.toList.length:=by simp
     rw[this,hsizes]; exact CN hlt)
    obtain⟨m',hm,w'⟩:=hN (ys++[x8]) σ6 H8 q8
    have I9:Inv X' [] σ6 H8 { s8 with heap:=h9,toks:=s8.toks }:=(bare I8).turned (t':=s8.toks) (it:=D) (fun b o hb e=>(hs9.2 b hb).trans e) (pinD I8).2.1 (by rw[pL]; exact hDC) (.inr (by rw[p0,hD]; exact AL _)) (by rw[pcs]; exact hcellD) (fun p hp=>by rw[pn0]at hp; exact nomatch hp)
    refine⟨m',hm,i+1,ys++[x8],σ6,H8,its.push v,I9,T.keep _ _ _ st5 fun b hb o e=>(hs9.2 b fun z=>hDfp (z ▸ hb)).trans ((pinD I8).2.2 b hb o e).1,frOf I8,(pinD I8).2.1,hl9,?_,w'⟩
    rw[Array.toList_push]
    exact hv.append (.cons r8 .nil)
 rw[← hX']at key
 exact codeAny_compStart_list (key _ rfl) (T.self _ 0 _ _ _ (T.keep _ _ _ st2 fun b hb o e=>hk4 b o (hk3 b o e)) (key _ rfl))
theorem zMM(S:CompOk X N' ix scope)(hc:X.calm=true)(hi:PI X tg iter wi)
  (hg:∀ C cs s H ex,PG (cxC X N' scope C cs s H ex) tg g) (ht:∀ C cs s H ex,PTs (cxC X N' scope C cs s H ex) ifs tc) (he:∀ C cs s H ex,PE (cxC X N' scope C cs s H ex) elt te)
  (hs:∀ x,CS iter X.env x=pure x:=by intro _; rfl):PE X (.ListComp elt [⟨tg,iter,ifs,0⟩] scope pos) (tComp wi ix g tc te):=by
 intro pins s σ H Q I h
 rw[eval_ListComp]
 refine zEi (use:=none) (QQ:=EP X pins σ Q) S hc hi hg ht he I h (fun D C o H' s' I' hns h1 h2 h3 q=>?_) hs
 obtain⟨m,hns⟩:=hns
 refine⟨m,hns,fun h' hs'=>⟨.ref D,H',?_,rfl,q⟩⟩
 obtain⟨a1,a2,a3,a4,_⟩:=I'.pin (C,o) (Am _ (Am _ (AF.mpr rfl)))
 exact I'.unpinned.turned (t':=s'.toks) (it:=C) (fun b u hb e=>(hs'.2 b hb).trans e) a2 a3 (.inr h1) h2 h3
theorem zMC{i:Nat}{x:Str}{pos' spos:Pos}(hN:X.N.Nodup)(hi':X.N[i]?=some x)(hx:Loc X.env.scope x)(S:CompOk X N' ix scope)(hc:X.calm=true)(hi:PI X tg iter wi)
  (hg:∀ C cs s H ex,PG (cxC X N' scope C cs s H ex) tg g) (ht:∀ C cs s H ex,PTs (cxC X N' scope C cs s H ex) ifs tc) (he:∀ C cs s H ex,PE (cxC X N' scope C cs s H ex) elt te)
  (hsw:CO (.ListComp elt [⟨tg,iter,ifs,0⟩] scope pos) (some (.Name x pos')) spos.line X.env=pure true:=by rfl)
  (hf:X.fn x=true\/X.env.scope.names.lookup x=some .local:=by first | exact .inl rfl | exact .inr rfl | assumption)
  (hs:∀ x,CS iter X.env x=pure x:=by intro _; rfl):PS X (.Assign [.Name x pos'] (.ListComp elt [⟨tg,iter,ifs,0⟩] scope pos) spos) (tAsg (tComp wi ix g tc te) (gName i)):=by
 intro pins s σ H D I h
 rw[exec_Assign_Name_used _ _ _ _ hsw]
 refine AA (DH (AA ?_))
 show AM _ X.A (do let _ ← comprehension (.ListComp elt [⟨tg,iter,ifs,0⟩] scope pos) scope X.env _ (Lg []) false (eval iter X.env) (some (assign (.Name x pos') X.env))) _ _ s
 refine AA (thn (zEi (use:=some (assign (.Name x pos') X.env)) (QQ:=fun _ s'=>SP X pins D .next s') S hc hi hg ht he I h (fun E C o H' s' I' hns h1 h2 h3 q=>?_) hs) fun _ s' q=>AG (AG q))
 obtain⟨m,hns⟩:=hns
 have P:=zGw (pos:=pos') hN hi' hx hf
 refine thn (P _ s' σ H' (.ref E) (.ref E) _ I' rfl q) fun _ s2 ⟨σ2,H2,I2,q2⟩=>?_
 obtain⟨a1,_⟩:=I'.pin (C,o) (Am _ (Am _ (AF.mpr rfl)))
 obtain⟨b1,b2,b3,b4,_⟩:=I2.pin (C,o) (Am _ (Am _ (AF.mpr rfl)))
 refine⟨m,?_,fun h' hs'=>⟨σ2,H2,I2.unpinned.turned (t':=s2.toks) (it:=C) (fun b u hb e=>(hs'.2 b hb).trans e) b2 b3 (.inr h1) h2 h3,q2⟩⟩
 obtain⟨oC,es,ep,hoC,r⟩:=hns
 have e:oC=o:=by
  have q:=hoC.symm.trans a1
  exact As q
 subst e
 exact⟨oC,es,ep,b1,r⟩
end
structure Drawer(prog:AY)(w:Af)(it l:Addr)(xs:Array AB)(St:Nat->Heap->Prop):Prop where
 keep:∀ k h h',St k h->(∀ o,h.get? it=some o->h'.get? it=some o)->(∀ o,h.get? l=some o->h'.get? l=some o)->St k h'
 live:∀ k h,St k h->∃ o,h.get? it=some o/\∀ v,o.data≠.cell v
 item:∀ (A:Ao) (k:Nat) (s:AD) (x:AB) (Q:AB->AD->Prop) (E:AB->AD->Prop),St k s.heap->xs[k]?=some x ->
  (∀ h',St (k+1) h'->BZ it s.heap h'->Q x { s with heap:=h' })->AM (model prog w) A (Ap (.ref it)) Q E s
 fini:∀ (A:Ao) (k:Nat) (s:AD) (Q:AB->AD->Prop) (E:AB->AD->Prop),A.handled=none->St k s.heap->xs[k]?=none ->
  (∀ h' e,GB it s.heap h'->(∃ o,h'.get? e=some o/\o.cls=.type "StopIteration")->E (.ref e) { s with heap:=h' })->AM (model prog w) A (Ap (.ref it)) Q E s
section
variable {prog:AY}{w:Af}{A:Ao}{E:AB->AD->Prop}{s:AD}
theorem zGP(it l:Addr)(xs:Array AB)(hne:l≠it):Drawer prog w it l xs (fun k h=>h.IsListIter it l k/\h.IsList l xs) where
 keep:=fun k h h' st k1 k2=>⟨st.1.at k1,st.2.at k2⟩
 live:=fun k h st=>by obtain⟨⟨o,e,_,d⟩,_⟩:=st; exact⟨o,e,fun v z=>by rw[d]at z; cases z⟩
 item:=fun A k s x Q E st hx hQ=>wpAny_nextOf_list_item st.1 st.2 hx fun h' st' sb=>hQ h' ⟨st',st.2.extBut sb.extBut hne⟩ sb
 fini:=fun A k s Q E hh st hx hE=>wpAny_nextOf_list_end hh st.1 st.2 hx hE
theorem zHH{it t:Addr}{i:Nat}{items:Array AB}{x:AB}{Q:AB->AD->Prop}(hit:s.heap.IsTupleIter it t i)(ht:s.heap.IsTuple t items)(hx:items[i]?=some x)
  (hQ:∀ h',h'.IsTupleIter it t (i+1)->BZ it s.heap h'->Q x { s with heap:=h' }):AM (model prog w) A (Ap (.ref it)) Q E s:=by
 obtain⟨oi,hoi,hci,hdi⟩:=id hit; obtain⟨ot,hot,_,nt,hdt⟩:=ht
 unfold Ap; refine AA (BH (name:=BQ "__next__") hit.typeIs C2 (BL C2 hit.typeIs Gq ?_ (Ga _)))
 show AM _ _ (field (.ref it) 0 >>= _) _ _ s; refine AA (Ag hoi hdi (x:=.ref t) rfl ?_)
 show AM _ _ (if (Ai t == A0)=true then _ else _) _ _ s; rw[if_neg (show ¬ ((Ai t == A0)=true) from AU)]
 show AM _ _ (field (.ref it) 1 >>= _) _ _ s; refine AA (Ag hoi hdi (x:=.int i 0) rfl ?_)
 show AM _ _ (Hu (.ref t) >>= _) _ _ s; refine AA (Be hot hdt ?_); simp only[Bm,hx]
 refine AA (EM hoi hdi (by simp) (AG ⟨x,rfl,AG (hQ _ ?_ (GN ..))⟩))
 exact⟨_,BU _ hoi (DZ (DC hdi _)),(IR ..).trans hci,by rw[DC hdi]; simp[B4]⟩
theorem zE2{it t:Addr}{i:Nat}{items:Array AB}{Q:AB->AD->Prop}(hh:A.handled=none)(hit:s.heap.IsTupleIter it t i)(ht:s.heap.IsTuple t items)(hx:items[i]?=none)
  (hE:∀ h' e,GB it s.heap h'->(∃ o,h'.get? e=some o/\o.cls=.type "StopIteration")->E (.ref e) { s with heap:=h' }):AM (model prog w) A (Ap (.ref it)) Q E s:=by
 obtain⟨oi,hoi,hci,hdi⟩:=id hit; obtain⟨ot,hot,_,nt,hdt⟩:=ht
 unfold Ap; refine AA (BH (name:=BQ "__next__") hit.typeIs C2 (BL C2 hit.typeIs Gq ?_ (Ga _)))
 show AM _ _ (field (.ref it) 0 >>= _) _ _ s; refine AA (Ag hoi hdi (x:=.ref t) rfl ?_)
 show AM _ _ (if (Ai t == A0)=true then _ else _) _ _ s; rw[if_neg (show ¬ ((Ai t == A0)=true) from AU)]
 show AM _ _ (field (.ref it) 1 >>= _) _ _ s; refine AA (Ag hoi hdi (x:=.int i 0) rfl ?_)
 show AM _ _ (Hu (.ref t) >>= _) _ _ s; refine AA (Be hot hdt ?_); simp only[Bm,hx]
 refine AA (Cr (AA (EM hoi hdi (by simp) ?_))); show AM _ _ (Kz (.type "StopIteration") [] >>= _) _ _ _
 refine AA ?_; simp only[Kz,K0]; refine AA (BB ?_ (by size_fits)); refine AA (m:=FR _ _) (CF (a:=A0) (by first | rfl | (simp only[FR]; rfl)) ?_)
 refine BB ?_ (by size_fits); simp only[raiseNew]; refine AA (LS ?_); (first | rw[show A.in1.handled=none from hh] | rw[hh]); refine AA (AG (wpAny_throw ?_))
 exact hE _ _ (((GN ..).extBut.push _).push _) ⟨_,AN _ rfl,rfl⟩
theorem zAy(it l:Addr)(xs:Array AB)(hne:l≠it):Drawer prog w it l xs (fun k h=>h.IsTupleIter it l k/\h.IsTuple l xs) where
 keep:=fun k h h' st k1 k2=>⟨let ⟨o,e,r⟩:=st.1; ⟨o,k1 o e,r⟩,let ⟨o,e,r⟩:=st.2; ⟨o,k2 o e,r⟩⟩
 live:=fun k h st=>by obtain⟨⟨o,e,_,d⟩,_⟩:=st; exact⟨o,e,fun v z=>by rw[d]at z; cases z⟩
 item:=fun A k s x Q E st hx hQ=>zHH st.1 st.2 hx fun h' st' sb=>hQ h' ⟨st',st.2.extBut sb.extBut hne⟩ sb
 fini:=fun A k s Q E hh st hx hE=>zE2 hh st.1 st.2 hx hE
structure ZAp(z TI TO i1 i2 l1 l2:Addr):Prop where
 a:ZipApart z TI TO i1 i2 l1 l2
 l1TI:l1≠TI
 l2TI:l2≠TI
structure ZSt(z TI TO i1 i2:Addr)(S1 S2:Nat->Heap->Prop)(k:Nat)(f0:AB)(h:Heap):Prop where
 z:Fw h z TI TO f0
 ti:Ct h TI (.ref i1) (.ref i2)
 to:∃ a b,Ct h TO a b
 s1:S1 k h
 s2:S2 k h
variable {z TI TO i1 i2 l1 l2:Addr}{S1 S2:Nat->Heap->Prop}{xs ys:Array AB}{k:Nat}
theorem zIP{x y:AB}{Q:AB->AD->Prop}(D:ZAp z TI TO i1 i2 l1 l2)(D1:Drawer prog w i1 l1 xs S1)(D2:Drawer prog w i2 l2 ys S2)(st:ZSt z TI TO i1 i2 S1 S2 k .none s.heap)(hx:xs[k]?=some x)(hy:ys[k]?=some y)
  (hQ:∀ h',ZSt z TI TO i1 i2 S1 S2 (k+1) (B4 s.heap.objs.size) h'->Ct h' s.heap.objs.size x y ->
   (∀ c o,c≠z->c≠TO->c≠i1->c≠i2->s.heap.get? c=some o->h'.get? c=some o)->Q (.ref s.heap.objs.size) { s with heap:=h' }) :
  AM (model prog w) A (Builtin.«zip.__next__» ⟨[.ref z],[]⟩) (fun fin s'=>∃ v,fin=.done (.ret v)/\Q v s') E s:=by
 obtain⟨hz,hTI,⟨a,b,hTO⟩,st1,st2⟩:=st
 obtain⟨⟨TIz,TOz,i1z,i2z,TITO,TIi1,TIi2,TOi1,TOi2,i12,l1z,l1TO,l1i1,l1i2,l2z,l2TO,l2i1,l2i2⟩,_,_⟩:=D
 show AM _ _ (field (.ref z) 2 >>= _) _ _ _; refine AA (Ag hz rfl (x:=.bool false) rfl ?_)
 show AM _ _ (field (.ref z) 3 >>= _) _ _ _; refine AA (Ag hz rfl (x:=.ref TI) rfl (AA (Be hTI rfl ?_)))
 show AM _ _ (Aj (.ref z) >>= _) _ _ _; refine AA ?_; unfold Aj
 refine AA (Ag hz rfl (x:=.none) rfl (AG ?_)); simp only[if_true]
 refine AA (Cr (AA (Ag hz rfl (x:=.ref TO) rfl (AA (A9 hz (by simp) fun h1 z1 b1=>?_)))))
 have z1':Fw h1 z TI TO .ellipsis:=z1
 refine AA ?_; simp only[IS,Ib,Cn,DP]
 refine AA (AA (Ef ?_)); show AM _ _ (Ap (.ref i1) >>= _) _ _ _
 refine AA (D1.item _ k _ x _ _ (D1.keep _ _ _ st1 (fun o e=>b1.extBut _ _ i1z e) fun o e=>b1.extBut _ _ l1z e) hx fun h2 t1 b2=>AG ?_)
 have o2:Ct h2 TO a b:=b2.extBut _ _ TOi1 (b1.extBut _ _ TOz hTO)
 refine AA (Be o2 rfl (AA (FS o2 fun h3 o3 b3=>?_)))
 have o3':Ct h3 TO x b:=o3
 refine AA (FT (AG (AA (AA (Ef ?_))))); show AM _ _ (Ap (.ref i2) >>= _) _ _ _
 have s2':S2 k h3:=D2.keep _ _ _ st2 (fun o e=>b3.extBut _ _ TOi2.symm (b2.extBut _ _ i12.symm (b1.extBut _ _ i2z e))) fun o e=>b3.extBut _ _ l2TO (b2.extBut _ _ l2i1 (b1.extBut _ _ l2z e))
 refine AA (D2.item _ k _ y _ _ s2' hy fun h4 t2 b4=>AG ?_)
 have o4:Ct h4 TO x b:=b4.extBut _ _ TOi2 o3'
 refine AA (Be o4 rfl (AA (FS o4 fun h5 o5 b5=>?_)))
 have o5':Ct h5 TO x y:=o5
 refine AA (FT (AG (AG (AA (Be o5' rfl (AA (HK ?_)))))))
 have hsz:h5.objs.size=s.heap.objs.size:=by rw[b5.1,b4.1,b3.1,b2.1,b1.1]
 have z5:Fw h5 z TI TO .ellipsis:=b5.extBut _ _ TOz.symm (b4.extBut _ _ i2z.symm (b3.extBut _ _ TOz.symm (b2.extBut _ _ i1z.symm z1')))
 have k5:∀ c o,c≠z->c≠TO->c≠i1->c≠i2->s.heap.get? c=some o->h5.get? c=some o:=fun c o c1 c2 c3 c4 e=>b5.extBut _ _ c2 (b4.extBut _ _ c4 (b3.extBut _ _ c2 (b2.extBut _ _ c3 (b1.extBut _ _ c1 e))))
 have t1':S1 (k+1) h5:=D1.keep _ _ _ t1 (fun o e=>b5.extBut _ _ TOi1.symm (b4.extBut _ _ i12 (b3.extBut _ _ TOi1.symm e))) fun o e=>b5.extBut _ _ l1TO (b4.extBut _ _ l1i2 (b3.extBut _ _ l1TO e))
 have t2':S2 (k+1) h5:=D2.keep _ _ _ t2 (fun o e=>b5.extBut _ _ TOi2.symm e) fun o e=>b5.extBut _ _ l2TO e
 have hzlt:z < h5.objs.size:=AJ z5
 show AM _ _ (Bq (.ref z) (.ref h5.objs.size) >>= _) _ _ _; refine AA ?_; unfold Bq
 have z6:Fw (h5.push { cls:=.type "tuple",data:=.seq #[x,y] }) z TI TO .ellipsis:=AC _ z5
 refine AA (A9 z6 (by simp) fun h7 z7 b7=>?_)
 have z7':Fw h7 z TI TO (B4 h5.objs.size):=z7
 refine A9 z7' (by simp) fun h8 z8 b8=>?_
 have z8':Fw h8 z TI TO (B4 h5.objs.size):=z8
 have up:∀ c o,c≠z->h5.get? c=some o->h8.get? c=some o:=fun c o c1 e=>b8.extBut _ _ c1 (b7.extBut _ _ c1 (AC _ e))
 have p8:Ct h8 h5.objs.size x y:=b8.extBut _ _ (BV hzlt) (b7.extBut _ _ (BV hzlt) (AN _ rfl))
 rw[hsz]at z8' p8
 refine AG ⟨_,rfl,?_⟩
 show Q (.ref h5.objs.size) _
 rw[hsz]
 have uu:∀ c o,c≠z->c≠TO->c≠i1->c≠i2->s.heap.get? c=some o->h8.get? c=some o:=fun c o c1 c2 c3 c4 e=>up c o c1 (k5 c o c1 c2 c3 c4 e)
 exact hQ h8 ⟨z8',uu _ _ TIz TITO TIi1 TIi2 hTI,⟨x,y,up _ _ TOz o5'⟩,D1.keep _ _ _ t1' (fun o e=>up _ o i1z e) (fun o e=>up _ o l1z e),D2.keep _ _ _ t2' (fun o e=>up _ o i2z e) (fun o e=>up _ o l2z e)⟩ p8 uu
theorem zIU{Q:Fin->AD->Prop}(hh:A.handled=none)(D:ZAp z TI TO i1 i2 l1 l2)(D1:Drawer prog w i1 l1 xs S1)(D2:Drawer prog w i2 l2 ys S2)(st:ZSt z TI TO i1 i2 S1 S2 k .none s.heap)(hend:xs[k]?=none\/ys[k]?=none)
  (hE:∀ h' e,(∀ c o,c≠z->c≠TO->c≠i1->c≠i2->s.heap.get? c=some o->h'.get? c=some o)->(∃ o,h'.get? e=some o/\o.cls=.type "StopIteration")->E (.ref e) { s with heap:=h' }) :
  AM (model prog w) A (Builtin.«zip.__next__» ⟨[.ref z],[]⟩) Q E s:=by
 obtain⟨hz,hTI,⟨a,b,hTO⟩,st1,st2⟩:=st
 obtain⟨⟨TIz,TOz,i1z,i2z,TITO,TIi1,TIi2,TOi1,TOi2,i12,l1z,l1TO,l1i1,l1i2,l2z,l2TO,l2i1,l2i2⟩,_,_⟩:=D
 show AM _ _ (field (.ref z) 2 >>= _) _ _ _; refine AA (Ag hz rfl (x:=.bool false) rfl ?_)
 show AM _ _ (field (.ref z) 3 >>= _) _ _ _; refine AA (Ag hz rfl (x:=.ref TI) rfl (AA (Be hTI rfl ?_)))
 show AM _ _ (Aj (.ref z) >>= _) _ _ _; refine AA ?_; unfold Aj
 refine AA (Ag hz rfl (x:=.none) rfl (AG ?_)); simp only[if_true]
 refine AA (Cr (AA (Ag hz rfl (x:=.ref TO) rfl (AA (A9 hz (by simp) fun h1 z1 b1=>?_)))))
 have z1':Fw h1 z TI TO .ellipsis:=z1
 refine AA ?_; simp only[IS,Ib,Cn,DP]
 refine AA (AA (Ef ?_)); show AM _ _ (Ap (.ref i1) >>= _) _ _ _
 have s1':S1 k h1:=D1.keep _ _ _ st1 (fun o e=>b1.extBut _ _ i1z e) fun o e=>b1.extBut _ _ l1z e
 cases hx:xs[k]? with
 | none =>
  refine AA (D1.fini _ k _ _ _ hh s1' hx fun h2 e b2 he=>?_)
  obtain⟨oe,hoe,hce⟩:=he
  have z2:Fw h2 z TI TO .ellipsis:=b2 _ _ i1z.symm z1'
  have ez:e≠z:=fun q=>by subst q; rw[z2]at hoe; cases hoe; simp at hce
  exact A9 z2 (by simp) fun h3 _ b3=>hE h3 e (fun c o c1 _ c3 _ q=>b3.extBut _ _ c1 (b2 _ _ c3 (b1.extBut _ _ c1 q))) ⟨oe,b3.extBut _ _ ez hoe,hce⟩
 | some x =>
  have hy:ys[k]?=none:=by rcases hend with q | q; (rw[hx]at q; cases q); exact q
  refine AA (D1.item _ k _ x _ _ s1' hx fun h2 t1 b2=>AG ?_)
  have o2:Ct h2 TO a b:=b2.extBut _ _ TOi1 (b1.extBut _ _ TOz hTO)
  refine AA (Be o2 rfl (AA (FS o2 fun h3 o3 b3=>?_)))
  refine AA (FT (AG (AA (AA (Ef ?_))))); show AM _ _ (Ap (.ref i2) >>= _) _ _ _
  have s2':S2 k h3:=D2.keep _ _ _ st2 (fun o e=>b3.extBut _ _ TOi2.symm (b2.extBut _ _ i12.symm (b1.extBut _ _ i2z e))) fun o e=>b3.extBut _ _ l2TO (b2.extBut _ _ l2i1 (b1.extBut _ _ l2z e))
  refine AA (D2.fini _ k _ _ _ hh s2' hy fun h4 e b4 he=>?_)
  obtain⟨oe,hoe,hce⟩:=he
  have z4:Fw h4 z TI TO .ellipsis:=b4 _ _ i2z.symm (b3.extBut _ _ TOz.symm (b2.extBut _ _ i1z.symm z1'))
  have ez:e≠z:=fun q=>by subst q; rw[z4]at hoe; cases hoe; simp at hce
  exact A9 z4 (by simp) fun h5 _ b5=>hE h5 e (fun c o c1 c2 c3 c4 q=>b5.extBut _ _ c1 (b4 _ _ c4 (b3.extBut _ _ c2 (b2.extBut _ _ c3 (b1.extBut _ _ c1 q))))) ⟨oe,b5.extBut _ _ ez hoe,hce⟩
end
def Sq (b:Bool) (K:AH) (H:Hp) (a:Addr) (xs:List V):Prop:=if b then SqT K H a xs else SqL K H a xs
def SIt (b:Bool) (it l:Addr) (k:Nat) (h:Heap):Prop:=if b then h.IsTupleIter it l k else h.IsListIter it l k
def SOb (b:Bool) (l:Addr) (its:Array AB) (h:Heap):Prop:=if b then h.IsTuple l its else h.IsList l its
theorem SIt.keep{b:Bool}{it l:Addr}{k:Nat}{h h':Heap}(st:SIt b it l k h)(e:∀ o,h.get? it=some o->h'.get? it=some o):SIt b it l k h':=by
 cases b with
 | false=>exact (show h.IsListIter it l k from st).at e
 | true=>obtain⟨o,q,r⟩:=(show h.IsTupleIter it l k from st); exact⟨o,e o q,r⟩
theorem SIt.live{b:Bool}{it l:Addr}{k:Nat}{h:Heap}(st:SIt b it l k h):∃ o,h.get? it=some o/\∀ v,o.data≠.cell v:=by
 cases b with
 | false=>obtain⟨o,q,_,d⟩:=(show h.IsListIter it l k from st); exact⟨o,q,fun v z=>by rw[d]at z; cases z⟩
 | true=>obtain⟨o,q,_,d⟩:=(show h.IsTupleIter it l k from st); exact⟨o,q,fun v z=>by rw[d]at z; cases z⟩
theorem zEj{prog:AY}{w:Af}(b:Bool)(it l:Addr)(xs:Array AB)(hne:l≠it):Drawer prog w it l xs (fun k h=>SIt b it l k h/\SOb b l xs h):=by
 cases b with
 | false=>exact zGP it l xs hne
 | true=>exact zAy it l xs hne
section
variable {X:Cx}{pins:List (Addr×Obj)}{σ:St}{H:Hp}{s:AD}
theorem Inv.sq{b:Bool}{a:Addr}{xs:List V}(I:Inv X pins σ H s)(h:Sq b X.K H a xs):∃ its:List AB,Vals xs its/\SOb b a its.toArray s.heap/\xs.length<=AE:=by
 cases b with
 | false=>obtain⟨its,r,p,z⟩:=I.list h; exact⟨its,r,p.isList,z⟩
 | true=>obtain⟨its,r,p,z⟩:=I.tuple h; exact⟨its,r,p,z⟩
theorem Inv.sq_inj{b:Bool}{a:Addr}{xs ys:List V}(I:Inv X pins σ H s)(h:Sq b X.K H a xs)(h':Sq b X.K H a ys):xs=ys:=by
 cases b with
 | false=>exact I.list_inj h h'
 | true=>exact I.tuple_inj h h'
end
structure ZTn(b:Bool)(z TI TO i1 i2 a1 a2:Addr)(k:Nat)(h:Heap):Prop where
 z:Fw h z TI TO .none
 ti:Ct h TI (.ref i1) (.ref i2)
 to:∃ a b,Ct h TO a b
 s1:SIt b i1 a1 k h
 s2:SIt b i2 a2 k h
section
variable {prog:AY}{w:Af}{A:Ao}{E:AB->AD->Prop}{s:AD}
noncomputable abbrev zT1 (h:Heap) (l1:Addr):Heap:=h.push { cls:=.type "tuple_iterator",data:=.fields #[.ref l1,.int 0 0] }
noncomputable abbrev zT2 (h:Heap) (l1 l2:Addr):Heap:=(zT1 h l1).push { cls:=.type "tuple_iterator",data:=.fields #[.ref l2,.int 0 0] }
noncomputable abbrev zT3 (h:Heap) (l1 l2:Addr):Heap:=(zT2 h l1 l2).push { cls:=.type "tuple",data:=.seq #[.ref h.objs.size,.ref (zT1 h l1).objs.size] }
noncomputable abbrev zT4 (h:Heap) (l1 l2:Addr):Heap:=(zT3 h l1 l2).push { cls:=.type "tuple",data:=.seq #[.none,.none] }
noncomputable abbrev zT5 (h:Heap) (l1 l2:Addr):Heap:=(zT4 h l1 l2).push { cls:=.type "zip",data:=.fields #[.none,.bool false,.bool false,.ref (zT2 h l1 l2).objs.size,.ref (zT3 h l1 l2).objs.size] }
theorem zHp(l1 l2:Addr)(xs ys:Array AB) :
  JZ (Builtin.«zip.__new__» ⟨[.type "zip",.ref l1,.ref l2],[]⟩) (fun _ R s=>s.heap.IsTuple l1 xs/\s.heap.IsTuple l2 ys/\R (.ok (.ret (.ref (zT4 s.heap l1 l2).objs.size))) { s with heap:=zT5 s.heap l1 l2 }) :=
 .of_wp fun prog w A R s h=>by
  obtain⟨hp,g,d,tk,os⟩:=s; obtain⟨hl1,hl2,h⟩:=h
  have sub0:=sub_zip
  have T1:G5 (G6 ⟨hp,g,d,tk,os⟩) l1 xs:=hl1
  have T2:G5 (G6 ⟨hp.push { cls:=.type "tuple_iterator",data:=.fields #[.ref l1,.int 0 0] },g,d,tk,os⟩) l2 ys:=Kb hl2 _
  wp_walk using CL T1,CL T2
  exact⟨_,rfl,h⟩
theorem zIR{l1 l2:Addr}{xs ys:Array AB}{Q:AB->AD->Prop}(hl1:s.heap.IsTuple l1 xs)(hl2:s.heap.IsTuple l2 ys)
  (h:∀ h',ZTn true (s.heap.objs.size+4) (s.heap.objs.size+2) (s.heap.objs.size+3) s.heap.objs.size (s.heap.objs.size+1) l1 l2 0 h'->(∀ c o,s.heap.get? c=some o->h'.get? c=some o)->Q (.ref (s.heap.objs.size+4)) { s with heap:=h' }) :
  AM (model prog w) A (call (.type "zip") [.ref l1,.ref l2]) Q E s:=by
 refine GO F.called_zip (by decide) (F.typeCall_zip_2 _ _) (F.newCall_zip_2 _ _) (fun obj=>F.args_object_init_3 obj _ _) F.entry_zip_new (zHp l1 l2 xs ys) ⟨hl1,hl2,?_⟩
 have z1:(zT1 s.heap l1).objs.size=s.heap.objs.size+1:=BS ..
 have z2:(zT2 s.heap l1 l2).objs.size=s.heap.objs.size+2:=by rw[BS,z1]
 have z3:(zT3 s.heap l1 l2).objs.size=s.heap.objs.size+3:=by rw[BS,z2]
 have z4:(zT4 s.heap l1 l2).objs.size=s.heap.objs.size+4:=by rw[BS,z3]
 have up:∀ c o,(zT4 s.heap l1 l2).get? c=some o->(zT5 s.heap l1 l2).get? c=some o:=fun c o e=>AC _ e
 have g5:(zT5 s.heap l1 l2).get? (zT4 s.heap l1 l2).objs.size=some _:=AN _ rfl
 have g4:(zT5 s.heap l1 l2).get? (zT3 s.heap l1 l2).objs.size=some _:=up _ _ (AN _ rfl)
 have g3:(zT5 s.heap l1 l2).get? (zT2 s.heap l1 l2).objs.size=some _:=up _ _ (AC _ (AN _ rfl))
 have g2:(zT5 s.heap l1 l2).get? (zT1 s.heap l1).objs.size=some _:=up _ _ (AC _ (AC _ (AN _ rfl)))
 have g1:(zT5 s.heap l1 l2).get? s.heap.objs.size=some _:=up _ _ (AC _ (AC _ (AC _ (AN _ rfl))))
 show _/\_
 rw[z2,z3,z4]at g5
 rw[z1,z2]at g3
 rw[z3]at g4
 rw[z1]at g2
 rw[z4]
 exact⟨⟨_,g5,rfl⟩,h _ ⟨g5,g3,⟨_,_,g4⟩,⟨_,g1,rfl,rfl⟩,⟨_,g2,rfl,rfl⟩⟩ fun c o x=>up _ _ (AC _ (AC _ (AC _ (AC _ x))))⟩
end
open AutoSeq1 (wpAny_loadPart')
noncomputable def rngV (lo:Int) (n:Nat):List V:=(A5 n).map fun (i:Nat)=>V.int (lo+(i:Int))
theorem zDL(lo:Int)(n:Nat):(rngV lo n).length=n:=by simp[rngV]
theorem zFQ{lo:Int}{n:Nat}{acc:Array AB}(h:E7 (fun i v=>∃ t,v=.int (lo+i * 1) t) acc n):Vals (rngV lo n) acc.toList:=by
 obtain⟨hn,hi⟩:=h
 have key:∀ (xs:List V) (us:List AB),xs.length=us.length->(∀ (i:Nat) (x:V) (u:AB),xs[i]?=some x->us[i]?=some u->RelV x u)->Vals xs us:=by
  intro xs
  induction xs with
  | nil=>intro us hl _; cases us with
   | nil=>exact .nil
   | cons _ _=>cases hl
  | cons x xs ih=>intro us hl hr; cases us with
   | nil=>cases hl
   | cons u us=>exact .cons (hr 0 x u rfl rfl) (ih us (by simpa using hl) fun i y v e1 e2=>hr (i+1) y v (by simpa using e1) (by simpa using e2))
 refine key _ _ (by rw[zDL]; simp[hn]) fun i x u e1 e2=>?_
 unfold rngV at e1
 rw[Ae]at e1
 cases e3:(A5 n)[i]? with
 | none=>rw[e3]at e1; cases e1
 | some j =>
  rw[e3]at e1
  have hj:j=i/\i < n:=by
   obtain⟨h1,h2⟩:=Ac.mp e3
   rw[List.getElem_range]at h2
   exact⟨h2.symm,by simpa using h1⟩
  obtain⟨rfl,hjn⟩:=hj
  have e1':x=V.int (lo+(j:Int)):=(As e1).symm
  subst e1'
  obtain⟨t,ht⟩:=hi j u (by simpa using e2)
  exact⟨t,by rw[ht]; simp⟩
section
variable {prog:AY}{w:Af}{A:Ao}{E:AB->AD->Prop}{s:AD}
theorem zGJ{Q:List AB->AD->Prop}{r:Addr}{a b c:Int}{t u v:Tok}{n:Nat}(hh:A.handled=none)(hr:Lh s.heap r a b c t u v)(hsmall:EN a b c=true)(hn:CG a b c=n)(hlen:n<=2 ^ 24)
  (hQ:∀ h' tk acc,(∀ b o,s.heap.get? b=some o->h'.get? b=some o)->E7 (fun i v=>∃ t,v=.int (a+i * c) t) acc n->Q acc.toList { s with heap:=h',toks:=tk }) :
  AM (model prog w) A (collect (.ref r)) Q E s:=by
 unfold collect
 refine AA (wpAny_runValue (D8 F.entry_proto_collect ?_)); rw[Da F.plain_proto_collect _]
 show AM _ A.in1 (Lg [] >>= fun l=>again (.builtin "list.__iadd__" ⟨[l,.ref r],[]⟩)) _ _ s
 refine AA (BB (AG ⟨Eg Iq _,D8 F.entry_list_iadd ?_⟩)); rw[Da Iq _]
 show AM _ A.in1 (Bx (.ref s.heap.objs.size) (.ref r) (.ref s.heap.objs.size)) _ _ _
 have hS:(s.heap.push { cls:=.type "list",data:=.seq ([]:List AB).toArray }).get? s.heap.objs.size=some { cls:=.type "list",data:=.seq ([]:List AB).toArray }:=AN _ rfl
 have hr2:Lh (s.heap.push { cls:=.type "list",data:=.seq ([]:List AB).toArray }) r a b c t u v:=AC _ hr
 let RR:IA->AD->Prop:=fun r s'=>match r with
  | .ok (.ret v)=>v=.ref s.heap.objs.size/\∃ h' tk acc c',s'={ s with heap:=h',toks:=tk }/\(∀ b o,s.heap.get? b=some o->h'.get? b=some o)/\h'.get? s.heap.objs.size=some { cls:=.type "list",dict:=none,data:=.seq acc c',slots:=#[] }/\E7 (fun i v=>∃ t,v=.int (a+i * c) t) acc n
  | _=>False
 have go:∀ (v:AB) (s':AD),RR (.ok (.ret v)) s'->AM (model prog w) A (match v with | .ref a=>(do match (← load a).data with | .seq xs _=>pure xs.toList | _=>unsupported "internal:collect") | _=>unsupported "internal:collect") Q E s':=fun v s' hR=>by
  obtain⟨rfl,h',tk,acc,c',rfl,hk,hS',hacc⟩:=hR
  show AM _ A (load s.heap.objs.size >>= _) _ _ _
  exact AA (wpAny_load hS' (AG (hQ h' tk acc hk hacc)))
 have base:=wpAny_extend_range (prog:=prog) (w:=w) (A:=A) (R:=RR) (s:={ s with heap:=s.heap.push { cls:=.type "list",data:=.seq ([]:List AB).toArray } }) hh hr2 hsmall hn hlen _ (.ref s.heap.objs.size) _ hS fun h' tk acc' c' hk hS' hacc =>
  ⟨rfl,h',tk,acc',c',rfl,fun b o e=>hk b o (Ah (AJ e)) (AC _ e),hS',hacc⟩
 refine BF base (fun fin s' h=>?_) (fun e s' h=>Ay h)
 cases fin with
 | done f=>cases f with
  | ret v=>exact go v s' h
  | next=>exact Ay h
  | brk=>exact Ay h
  | cont=>exact Ay h
 | again c' =>
  refine⟨h.1,C7 h.2 fun r s'' hr=>?_⟩
  cases r with
  | error e=>exact Ay hr
  | ok f=>cases f with
   | ret v=>exact go v s'' hr
   | next=>exact Ay hr
   | brk=>exact Ay hr
   | cont=>exact Ay hr
theorem zFK(r:Addr){a b c:Int}{t u v:Tok}{n:Nat}(hsmall:EN a b c=true)(hn:CG a b c=n)(hlen:n<=2 ^ 24) :
  JZ (Builtin.«tuple.__new__» ⟨[.type "tuple",.ref r],[]⟩) (fun A R s=>A.handled=none/\s.heap.get? r=some { cls:=.type "range",data:=.fields #[.int a t,.int b u,.int c v] }/\∀ (h':Heap) (tk:Nat) (acc:Array AB),(∀ b o,s.heap.get? b=some o->h'.get? b=some o) ->
   E7 (fun i v=>∃ t,v=.int (a+i * c) t) acc n->R (.ok (.ret (.ref h'.objs.size))) { s with heap:=h'.push { cls:=.type "tuple",data:=.seq acc },toks:=tk }) :=
 .of_wp fun prog w A R s h=>by
  obtain⟨hh,hr,h⟩:=h
  have s1:=sub_tuple_self
  have s2:=init_tuple_lookup
  have s3:=madeHere_tuple
  have hT:s.TypeIs (.ref r) "range":=⟨_,hr,rfl⟩
  have hh1:A.in1.handled=none:=hh
  have hr':Lh s.heap r a b c t u v:=hr
  wp_walk using Dh hT,zGJ hh1 hr' hsmall hn hlen
  intro h' tk acc hk hacc
  show AM _ _ (Bn acc.toList.toArray >>= fun v=>ret v) _ _ _; unfold Bn
  refine AA (BB ?_ (show acc.toList.toArray.size<=AE by simp only[HL]; rw[hacc.1,Bv]; omega)); refine AG ⟨_,rfl,?_⟩
  rw[show acc.toList.toArray=acc by simp]
  exact h h' tk acc hk hacc
theorem zGN{Q:AB->AD->Prop}{r:Addr}{a b c:Int}{t u v:Tok}{n:Nat}(hh:A.handled=none)(hr:s.heap.get? r=some { cls:=.type "range",data:=.fields #[.int a t,.int b u,.int c v] })(hsmall:EN a b c=true)
  (hn:CG a b c=n) (hlen:n<=2 ^ 24)
  (h:∀ (h':Heap) (tk:Nat) (acc:Array AB),(∀ b o,s.heap.get? b=some o->h'.get? b=some o)->E7 (fun i v=>∃ t,v=.int (a+i * c) t) acc n->Q (.ref h'.objs.size) { s with heap:=h'.push { cls:=.type "tuple",data:=.seq acc },toks:=tk }) :
  AM (model prog w) A (call (.type "tuple") [.ref r]) Q E s :=
 GO F.called_tuple (by decide) (F.typeCall_tuple_1 _) (F.newCall_tuple_1 _) (fun obj=>FL obj _) F.entry_tuple_new (zFK r hsmall hn hlen) ⟨hh,hr,fun h' tk acc hk hacc=>⟨⟨_,AN _ rfl,rfl⟩,h h' tk acc hk hacc⟩⟩
end
section
variable {X:Cx}
theorem zIz:CallR X (.type "range") (fun xs H Q=>∃ j:Int,xs=[.int j]/\∀ p,H p=none->Q (.ref p) (upd H p (.rng 0 j))):=by
 intro pins s σ H xs us Q I r h
 obtain⟨j,rfl,q⟩:=h
 obtain⟨u,rfl,t,rfl⟩:=vals1 r
 refine La ⟨.ref s.heap.objs.size,_,I.laid (fun b o e=>AC _ e) (AL _) (show ObjOk X.prog X.w _ _ _ (.rng 0 j) from ⟨_,_,_,AN _ rfl⟩),rfl,q _ (I.hok.fresh (AL _))⟩
theorem zJl:CallR X (.type "range") (fun xs H Q=>∃ i j:Int,xs=[.int i,.int j]/\∀ p,H p=none->Q (.ref p) (upd H p (.rng i j))):=by
 intro pins s σ H xs us Q I r h
 obtain⟨i,j,rfl,q⟩:=h
 obtain⟨u,u',rfl,⟨t,rfl⟩,⟨t',rfl⟩⟩:=vals2 r
 refine Lb ⟨.ref s.heap.objs.size,_,I.laid (fun b o e=>AC _ e) (AL _) (show ObjOk X.prog X.w _ _ _ (.rng i j) from ⟨_,_,_,AN _ rfl⟩),rfl,q _ (I.hok.fresh (AL _))⟩
theorem rsz{lo hi:Int}:CG lo hi 1=(((hi - lo).toNat:Nat):Int):=by rw[K8]; split <;> omega
theorem zFW(hc:X.calm=true):CallR X (.type "list") (fun xs H Q=>∃ p lo hi,xs=[.ref p]/\H p=some (.rng lo hi)/\(-(2 ^ 62)<=lo/\lo < 2 ^ 62/\-(2 ^ 62)<=hi/\hi < 2 ^ 62)/\(hi - lo).toNat<=2 ^ 24/\∀ l,H l=none->Q (.ref l) (upd H l (.lst (rngV lo (hi - lo).toNat)))):=by
 intro pins s σ H xs us Q I r h
 obtain⟨p,lo,hi,rfl,hp,⟨b1,b2,b3,b4⟩,hl,q⟩:=h
 obtain⟨u,rfl,rx⟩:=vals1 r
 cases rx
 obtain⟨t,t',t'',ho⟩:=(show ObjOk X.prog X.w H s.heap p (.rng lo hi) from I.hok p _ hp)
 refine call_list_range (n:=(hi - lo).toNat) (I.ok.hd hc) ho (Jh b1 b2 b3 b4) rsz hl fun h' tk acc c' hk e hacc=>?_
 exact⟨.ref s.heap.objs.size,_,I.laid hk (AL _) (show ObjOk X.prog X.w _ h' _ (.lst _) from ⟨by rw[zDL,Bv]; omega,acc.toList,c',zFQ hacc,by simpa using e⟩),rfl,q _ (I.hok.fresh (AL _))⟩
theorem zEt(hc:X.calm=true):CallR X (.type "tuple") (fun xs H Q=>∃ p lo hi,xs=[.ref p]/\H p=some (.rng lo hi)/\(-(2 ^ 62)<=lo/\lo < 2 ^ 62/\-(2 ^ 62)<=hi/\hi < 2 ^ 62)/\(hi - lo).toNat<=2 ^ 24/\∀ l,H l=none->Q (.ref l) (upd H l (.tup (rngV lo (hi - lo).toNat)))):=by
 intro pins s σ H xs us Q I r h
 obtain⟨p,lo,hi,rfl,hp,⟨b1,b2,b3,b4⟩,hl,q⟩:=h
 obtain⟨u,rfl,rx⟩:=vals1 r
 cases rx
 obtain⟨t,t',t'',ho⟩:=(show ObjOk X.prog X.w H s.heap p (.rng lo hi) from I.hok p _ hp)
 refine zGN (n:=(hi - lo).toNat) (I.ok.hd hc) ho (Jh b1 b2 b3 b4) rsz hl fun h' tk acc hk hacc=>?_
 have I1:Inv X pins σ H { s with heap:=h',toks:=tk }:=I.kept hk
 exact⟨.ref h'.objs.size,_,I1.laid (t':=tk) (fun b o e=>AC _ e) (AL _) (show ObjOk X.prog X.w _ _ _ (.tup _) from ⟨by rw[zDL,Bv]; omega,acc.toList,zFQ hacc,by simpa using TupD.new h' acc⟩),rfl,q _ (I1.hok.fresh (AL _))⟩
end
theorem zEG(t:Addr)(items:Array AB)(n:Nat)(dd:Option Addr)(sl:Array (Option AB))(x:AB)(e:AB->Bool)(j:Nat)(hj:j < items.size)(hit:e items[j]=true)(hno:∀ m (hm:m < items.size),m < j->e items[m]=false) :
  JZ (Builtin.«tuple.index» ⟨[.ref t,x],[]⟩) (fun A R s=>s.heap.get? t=some { cls:=.type "tuple",dict:=dd,data:=.seq items n,slots:=sl }/\(∀ y,y∈items->Hh A.in1 s y x (e y))/\R (.ok (.ret (.int j s.toks))) { s with toks:=s.toks+1 }) :=
 .of_wp fun prog w A R s h=>by
  obtain⟨hp,g,d,tk,os⟩:=s; obtain⟨hl,he,h⟩:=h
  wp_walk using wpAny_loadPart' hl
  show AM _ _ (forIn (m:=Sem) (β:=Option Fin×PUnit) [:min items.size items.size] (none,()) _) _ _ _
  rw[Ir]
  refine wpAny_forIn_list _ (fun rest b s'=>b=(none,())/\s'=⟨hp,g,d,tk,os⟩/\∃ i,i<=j/\rest=E1 i (items.size - i) 1) _ ?_ ?_ _ _ ?_
  ·rintro i rest b s' ⟨rfl,rfl,k,hk,hr⟩
   have hlt:k < items.size:=by omega
   obtain⟨m,hm⟩:∃ m,items.size - k=m+1:=⟨items.size - k - 1,by omega⟩
   rw[hm,IT]at hr
   injection hr with h1 h2
   subst h1
   have hi:items[i]?=some items[i]:=by simp[hlt]
   simp only[hi]
   refine AA (he items[i] (Array.getElem_mem hlt) prog w _ _ ?_)
   by_cases hij:i=j
   ·subst hij
    rw[hit]
    simp only[if_true]
    refine AA ?_
    show AM _ _ (do let v ← mkInt i; ret v) _ _ _
    exact AA (Gr (AG (AG (AG ⟨_,rfl,h⟩))))
   ·rw[hno i hlt (by omega)]
    simp only[BP,if_false]
    exact AG ⟨rfl,rfl,i+1,by omega,by rw[h2]; congr 1; omega⟩
  ·rintro b s' ⟨rfl,rfl,k,hk,hr⟩
   have q:items.size - k=0:=by have q:=congrArg GA hr; simp at q; omega
   omega
  ·refine⟨rfl,rfl,0,DG _,?_⟩
   simp[Iu]
section
variable {X:Cx}
noncomputable def rTupIndex (K:AH):V->List V->Hp->VK->Prop:=fun x vs H Q=>∃ t xs y j,x=.ref t/\vs=[y]/\SqT K H t xs/\flatV y=true/\xs.all flatV=true/\(xs.findIdx? fun z=>eqV z y)=some j/\Q (.int (j:Nat)) H
theorem zGO:MtM X "tuple.index" (rTupIndex X.K):=by
 intro pins s σ H x vs v us Q I rx rv h
 obtain⟨t,xs,y,j,rfl,rfl,hq,fy,fx,hj,q⟩:=h
 cases rx
 obtain⟨u,rfl,ru⟩:=rv.one
 obtain⟨its,r,⟨⟨cls,dd,data,sl⟩,ho,hc,n,hd⟩,hz⟩:=I.tuple hq
 simp only at hc hd
 subst hc hd
 have hlen:=r.length
 obtain⟨hjl,hjt,hjn⟩:=FU.mp hj
 have hiU:∀ m (hm:m < its.length),eqU y its[m]=eqV (xs[m]'(by omega)) y:=fun m hm=>by
  have e1:xs[m]?=some (xs[m]'(by omega)):=by simp
  obtain⟨u',hu',ru'⟩:=r.get e1
  have e2:its[m]=u':=by rw[Bw hm]at hu'; exact As hu'
  rw[e2]
  exact zFv ru' (Ax.mp fx _ (ES _))
 refine Dq F.slot_tuple_index ⟨_,ho,rfl⟩ F.entry_tuple_index (F.args_tuple_index_2 _ _)
  (zEG t its.toArray n dd sl u (eqU y) j (by simp; omega) (by show eqU y its[j]=true; rw[hiU j (by omega)]; exact hjt) (fun m hm hmj=>by
   show eqU y its[m]=false
   rw[hiU m (by simpa using hm)]
   exact IH.mpr (hjn m hmj))) ⟨ho,?_,?_⟩
 ·intro z hzm
  exact zCJ ru fy r fx z (by simpa using hzm)
 ·exact⟨.int (j:Nat),H,I.tok _,⟨_,rfl⟩,q⟩
end
section
variable {X:Cx}
theorem Same.upd{H:Hp}{p:Addr}{o:HO}(h:H p=none):Same H (upd H p o):=fun b u e=>by rw[zAJ (zAY e h)]; exact e
end
theorem zLG{X:Cx}{x:Str}{T:String}{pos:Pos}(hg:Gl X x)(hm:X.mg x=none)(hv:B0 x=some (.type T))(hn:x≠"__name__":=by decide)(hd:(x == ("__debug__":Str))=false:=by decide):PE X (.Name x pos) (tC (.ty T)):=zL1 (v:=.ty T) hg hm hv rfl hn hd
theorem zLj{X:Cx}(K:AH)(hK:X.K=K){es:List Expr}{k:Nat}{pos:Pos}{t:TGs}{n:Nat}(hc:X.calm=true)(h:PGs X es t)(hn:(CJ es X.env).length=n:=by rfl)(hst:(CJ es X.env).findIdx? (·.1)=none:=by rfl):PG X (.Tuple es k pos) (gTup K n t):=by
 subst hK
 exact zNX hc h hn hst
section
variable {prog:AY}{w:Af}{A:Ao}{E:AB->AD->Prop}{s:AD}
theorem zHD{it:Addr}{T:String}{o:Obj}{vs:List AB}{ns:List Int}{n:Nat}{Q:AB->AD->Prop}(hT:T="list"\/T="tuple")(ho:s.heap.get? it=some o)(hc:o.cls=.type T)(hd:o.data=.seq vs.toArray n)(hI:E6 vs ns)(h64:vs.length < 64)
  (h:∀ (h1 h':Heap) (out:Array AB) (e:Nat) (ns':List Int),(∀ b o,s.heap.get? b=some o->h1.get? b=some o)->(∀ b o,h1.get? b=some o->h'.get? b=some o)->h'.get? h1.objs.size=some (JI "list" out e)->E6 out.toList ns'->ns'.Perm ns->ns'.Pairwise (·<=·)->Q (.ref h1.objs.size) { s with heap:=h' }) :
  AM (model prog w) A (call (.builtin "sorted") [.ref it]) Q E s:=by
 refine Calls.call_function_entry kind_sorted plain_sorted entry_sorted (args_sorted1 _) ?_; unfold Builtin.«sorted»; refine AA (m:=checkCount "sorted" 1 1 _) (AG ?_)
 refine AA (wpAny_collect_seq it hT ho hc hd (fun h1 hk1=>?_) (by rw[AS,Bv]; omega))
 refine AA (wpAny_newList ?_)
 have hoL:(h1.push (JI "list" vs.toArray 0)).get? h1.objs.size=some (JI "list" vs.toArray 0):=AN _ rfl
 show AM _ _ _ _ _ { s with heap:=h1.push (JI "list" vs.toArray 0) }
 refine AA (BO (BL slot_list_sort ⟨_,hoL,rfl⟩ entry_list_sort (list_sort_tree hoL hI h64 fun out ns' a1 a2 a3=>⟨_,rfl,?_⟩) (args_list_sort _)))
 obtain⟨e,he⟩:=sortedHeap_at (out:=out) hoL
 refine AG ⟨_,rfl,h h1 _ out e ns' hk1 (fun b ob q=>?_) he a1 a2 a3⟩
 have hlt:=AJ q
 rw[sortedHeap_old (Ah hlt) (by rw[size_push']; exact DU hlt)]
 exact AC _ q
end
theorem zCZ:∀ {us:List AB} {ns:List Int},E6 us ns->Vals (ns.map V.int) us
 | _,_,.nil=>.nil
 | _,_,.cons _ t r=>.cons ⟨t,rfl⟩ (zCZ r)
section
variable {X:Cx}
theorem zGI:CallR X (.builtin "sorted") (fun xs H Q=>∃ (p:Addr) (ns:List Int),xs=[.ref p]/\(SqL X.K H p (ns.map V.int)\/SqT X.K H p (ns.map V.int))/\ns.length < 64/\∀ (l:Addr) (ns':List Int),H l=none->ns'.Perm ns->ns'.Pairwise (·<=·)->Q (.ref l) (upd H l (.lst (ns'.map V.int)))):=by
 intro pins s σ H xs us Q I r h
 obtain⟨p,ns,rfl,hq,hl,q⟩:=h
 obtain⟨u,rfl,rx⟩:=vals1 r
 cases rx
 have go:∀ (T:String) (o:Obj) (its:List AB) (n:Nat),(T="list"\/T="tuple")->s.heap.get? p=some o->o.cls=.type T->o.data=.seq its.toArray n->Vals (ns.map V.int) its->AM (model X.prog X.w) X.A (call (.builtin "sorted") [.ref p]) (EP X pins σ Q) X.xe s:=fun T o its n hT ho hc hd rv=>by
  have hlen:=rv.length
  rw[A7]at hlen
  refine zHD hT ho hc hd (zH2 rv) (by omega) fun h1 h' out e ns' k1 k2 he hI hp hs=>?_
  have I1:Inv X pins σ H { s with heap:=h1 }:=I.kept (t':=s.toks) k1
  have hl':ns'.length < 64:=by rw[hp.length_eq]; exact hl
  exact⟨.ref h1.objs.size,_,I1.laid (t':=s.toks) k2 (AL _) (show ObjOk X.prog X.w _ h' _ (.lst _) from ⟨by rw[A7,Bv]; omega,out.toList,e,zCZ hI,by simpa [JI] using he⟩),rfl,q _ ns' (I1.hok.fresh (AL _)) hp hs⟩
 rcases hq with hq | hq
 ·obtain⟨its,rv,⟨o,n,e,c,_,d⟩,_⟩:=I.list hq
  exact go "list" o its n (.inl rfl) e c d rv
 ·obtain⟨its,rv,⟨o,e,c,n,d⟩,_⟩:=I.tuple hq
  exact go "tuple" o its n (.inr rfl) e c d rv
end
section
variable {prog:AY}{w:Af}{A:Ao}{E:AB->AD->Prop}{s:AD}
theorem zCQ{t sl:Addr}{items:Array AB}{vl vu:AB}{lo hi:Option Int}{Q:AB->AD->Prop}(ht:JQ s.heap t items)(hs:s.heap.IsSliceOf sl vl vu .none)(pl:FP vl lo)(pu:FP vu hi)
  (hw:HT.sIx items.size 0 lo=0/\HT.sIx items.size items.size hi=items.size) (h:Q (.ref t) s):AM (model prog w) A (EY (.ref t) (.ref sl)) Q E s:=by
 obtain⟨os,hos,hcs,hds⟩:=id hs
 have hTs:s.TypeIs (.ref sl) "slice":=⟨os,hos,hcs⟩
 unfold EY; try with_reducible refine BO ?_
 first | refine AA (AG ?_) | skip
 refine AA (JU ht.typeIs (by decide) ?_); refine AA (BH (name:=BQ "__getitem__") ht.typeIs Bh (BL Bh ht.typeIs Ip ?_ (JC _ _)))
 show AM _ _ (FK (.ref t) >>= _) _ _ s; refine AA (LA ht ?_); refine AA (Dh hTs ?_)
 rw[if_pos (by decide)]; refine AA (HT.sliceApplied_gen hs pl pu ?_)
 have hyes:((((HT.sIx items.size 0 lo:Nat):Int) == 0 && (1:Int) == 1 && (HT.sIx items.size items.size hi - HT.sIx items.size 0 lo) == items.size)=true):=by
  rw[hw.1,hw.2]; simp
 show AM _ _ (if (((HT.sIx items.size 0 lo:Nat):Int) == 0 && (1:Int) == 1 && (HT.sIx items.size items.size hi - HT.sIx items.size 0 lo) == items.size)=true then _ else _) _ _ s
 rw[if_pos hyes]
 refine AA ?_
 unfold J0
 refine AA (Dh ht.typeIs (AG ?_))
 rw[if_pos (by decide)]
 exact AA (Cr (AG ⟨_,rfl,AG h⟩))
end
end L2
namespace D
open PySem L2
abbrev Fg:=AH
inductive T where
 | a (v:V)
 | t (xs:List T)
 | l (xs:List T)
 | f (n:Str)
 | x (c:Str) (fs:List (Str×V))
abbrev Dk:=Sum (List (Key×T)) (List (List Key×T))
inductive G where
 | v (t:T)
 | l (xs:List T)
 | r (xs:List T)
 | k (xs:List T)
 | d (kvs:Dk)
 | e (kvs:Dk)
noncomputable def isMut:G->Bool
 | .l _=>true
 | .d _=>true
 | _=>false
inductive S where
 | v (t:T)
 | l (xs:List T)
 | s (i:Nat)
 | d (kvs:Dk)
abbrev En:=List (Option G)
abbrev DE:=En->Option (S×En)
abbrev DT:=En->Option (Bool×En)
abbrev DA:=En->Option (List S×En)
inductive O where
 | nx (g:En) | rt (s:S) (g:En) | bk (g:En) | ct (g:En)
abbrev DS:=En->Option O
noncomputable def cOk:List V->Bool
 | .int _::_=>true
 | .ref _::_=>true
 | [.str x]=>decide (x="yes") || decide (x="no")
 | _=>false
def KT (K:Fg) (a:Addr) (xs:List V):Prop:=∃ (o:Obj) (its:Array AB) (n:Nat),K.lookup a=some o/\o.cls=.type "tuple"/\o.dict=none/\o.data=.seq its n/\its.size<=AE/\Vals xs its.toList/\cOk xs=true
def Tp (K:Fg) (H:Hp) (p:Addr) (vs:List V):Prop:=H p=some (.tup vs)\/KT K p vs
theorem Tp.sq{K:Fg}{H:Hp}{p:Addr}{vs:List V}(h:Tp K H p vs):SqT K H p vs:=by
 rcases h with h | ⟨o,its,n,a,b,c,d,e,f,_⟩
 ·exact SqT.of h
 ·exact .inr ⟨o,its,n,a,b,d,e,f⟩
theorem Tp.of{K:Fg}{H:Hp}{p:Addr}{vs:List V}(h:H p=some (.tup vs)):Tp K H p vs:=.inl h
def KL (K:Fg) (a:Addr) (xs:List V):Prop:=∃ (o:Obj) (its:Array AB) (n:Nat),K.lookup a=some o/\o.cls=.type "list"/\o.dict=none/\o.data=.seq its n/\its.size<=AE/\Vals xs its.toList
def KF (K:Fg) (H:Hp) (p:Addr) (vs:List V):Prop:=(∃ o,H p=some (.frz o (.lst vs)))\/KL K p vs
def XOk (K:Fg) (H:Hp) (p:Addr) (c:Str) (fs:List (Str×V)):Prop:=∃ (C:Addr) (d:Option Addr),Aw K AR c=some (some (.ref C)) /\
 H p=some (.ext fun h=>∃ o,h.get? p=some o/\o.cls=.ref C/\o.dict=d/\DD o=true)/\((d=none/\fs=[])\/∃ dx,d=some dx/\H dx=some (.xd fs))
def FOk (K:Fg) (v:V) (n:Str):Prop:=∃ p,v=.ref p/\Aw K AR n=some (some (.ref p))
mutual
noncomputable def Im (K:Fg) (H:Hp):V->T->Prop
 | v,.a u=>v=u
 | v,.t ts=>∃ p vs,v=.ref p/\Tp K H p vs/\Ims K H vs ts
 | v,.l ts=>∃ p vs,v=.ref p/\KF K H p vs/\Ims K H vs ts
 | v,.f n=>FOk K v n
 | v,.x c fs=>∃ p,v=.ref p/\XOk K H p c fs
noncomputable def Ims (K:Fg) (H:Hp):List V->List T->Prop
 | vs,[]=>vs=[]
 | vs,t::ts=>∃ v r,vs=v::r/\Im K H v t/\Ims K H r ts
end
structure W where
 L:List Addr
 R:Addr->Prop
structure Fr where
 H0:Hp
 fx:List Addr
 pins:List (Nat×Addr)
def Evo (L:List Addr) (H H':Hp):Prop:=∀ b o,H b=some o->b∉L->H' b=some o
noncomputable def Mu:HO->Prop
 | .lst _=>True
 | .dK _=>True
 | .dT _=>True
 | _=>False
def LL (L:List Addr) (H:Hp):Prop:=∀ p∈L,∃ o,H p=some o/\Mu o
theorem Evo.refl{L:List Addr}{H:Hp}:Evo L H H:=fun _ _ h _=>h
theorem Evo.trans{L:List Addr}{H H1 H2:Hp}(a:Evo L H H1)(b:Evo L H1 H2):Evo L H H2:=fun c o h n=>b c o (a c o h n) n
theorem Evo.wide{L L':List Addr}{H H':Hp}(a:Evo L' H H')(h:∀ p∈L',p∈L):Evo L H H':=fun c o e n=>a c o e fun z=>n (h c z)
theorem Evo.new{L:List Addr}{H:Hp}{p:Addr}{o:HO}(h:H p=none):Evo L H (upd H p o):=fun b u e _=>by rw[zAJ (zAY e h)]; exact e
theorem Evo.of_same{L:List Addr}{H H':Hp}(h:Same H H'):Evo L H H':=fun b u e _=>h b u e
theorem zFV{K:Fg}{L:List Addr}{H H':Hp}{p:Addr}{vs:List V}(e:Evo L H H')(hL:LL L H)(h:Tp K H p vs):Tp K H' p vs:=by
 rcases h with h | h
 ·refine .inl (e _ _ h fun z=>?_)
  obtain⟨o,q,m⟩:=hL p z
  rw[h]at q; cases q; exact m
 ·exact .inr h
theorem KF.evo{K:Fg}{L:List Addr}{H H':Hp}{p:Addr}{vs:List V}(e:Evo L H H')(hL:LL L H)(h:KF K H p vs):KF K H' p vs:=by
 rcases h with ⟨o,h⟩ | h
 ·refine .inl ⟨o,e _ _ h fun z=>?_⟩
  obtain⟨o,q,m⟩:=hL p z
  rw[h]at q; cases q; exact m
 ·exact .inr h
theorem XOk.evo{K:Fg}{L:List Addr}{H H':Hp}{p:Addr}{c:Str}{fs:List (Str×V)}(e:Evo L H H')(hL:LL L H)(h:XOk K H p c fs):XOk K H' p c fs:=by
 obtain⟨C,d,h1,h2,h3⟩:=h
 refine⟨C,d,h1,e _ _ h2 fun z=>?_,h3.imp id fun ⟨dx,a,b⟩=>⟨dx,a,e _ _ b fun z=>?_⟩⟩
 ·obtain⟨o,q,m⟩:=hL p z
  rw[h2]at q; cases q; exact m
 ·obtain⟨o,q,m⟩:=hL dx z
  rw[b]at q; cases q; exact m
mutual
theorem Im.evo{K:Fg}{L:List Addr}{H H':Hp}(e:Evo L H H')(hL:LL L H):∀ {v:V} {t:T},Im K H v t->Im K H' v t
 | _,.a _,h=>h
 | _,.t _,h=>by
  unfold Im at h ⊢
  obtain⟨p,vs,rfl,hs,hi⟩:=h
  exact⟨p,vs,rfl,zFV e hL hs,Ims.evo e hL hi⟩
 | _,.l _,h=>by
  unfold Im at h ⊢
  obtain⟨p,vs,rfl,hs,hi⟩:=h
  exact⟨p,vs,rfl,hs.evo e hL,Ims.evo e hL hi⟩
 | _,.f _,h=>by
  unfold Im at h ⊢
  exact h
 | _,.x _ _,h=>by
  unfold Im at h ⊢
  obtain⟨p,rfl,hs⟩:=h
  exact⟨p,rfl,hs.evo e hL⟩
theorem Ims.evo{K:Fg}{L:List Addr}{H H':Hp}(e:Evo L H H')(hL:LL L H):∀ {vs:List V} {ts:List T},Ims K H vs ts->Ims K H' vs ts
 | _,[],h=>h
 | _,_::_,h=>by
  unfold Ims at h ⊢
  obtain⟨v,r,rfl,h1,h2⟩:=h
  exact⟨v,r,rfl,Im.evo e hL h1,Ims.evo e hL h2⟩
end
section
variable {K:Fg}{H H':Hp}
theorem Ims.nil:Ims K H [] []:=by unfold Ims; rfl
theorem Ims.cons{v:V}{vs:List V}{t:T}{ts:List T}(h:Im K H v t)(hs:Ims K H vs ts):Ims K H (v::vs) (t::ts):=by unfold Ims; exact⟨v,vs,rfl,h,hs⟩
theorem Ims.inv{vs:List V}{t:T}{ts:List T}(h:Ims K H vs (t::ts)):∃ v r,vs=v::r/\Im K H v t/\Ims K H r ts:=by unfold Ims at h; exact h
theorem Ims.inv0{vs:List V}(h:Ims K H vs []):vs=[]:=by unfold Ims at h; exact h
theorem Ims.len:∀ {vs:List V} {ts:List T},Ims K H vs ts->vs.length=ts.length
 | _,[],h=>by rw[h.inv0]; rfl
 | _,_::_,h=>by obtain⟨v,r,rfl,_,h2⟩:=h.inv; simp[h2.len]
theorem Ims.app:∀ {vs us:List V} {ts ss:List T},Ims K H vs ts->Ims K H us ss->Ims K H (vs++us) (ts++ss)
 | _,_,[],_,h,h'=>by rw[h.inv0]; exact h'
 | _,_,_::_,_,h,h'=>by obtain⟨v,r,rfl,h1,h2⟩:=h.inv; exact .cons h1 (h2.app h')
theorem Ims.one{v:V}{t:T}(h:Im K H v t):Ims K H [v] [t]:=.cons h .nil
theorem Ims.get:∀ {vs:List V} {ts:List T} {i:Nat} {t:T},Ims K H vs ts->ts[i]?=some t->∃ v,vs[i]?=some v/\Im K H v t
 | _,[],_,_,_,e=>by simp at e
 | _,_::_,0,_,h,e=>by obtain⟨v,r,rfl,h1,h2⟩:=h.inv; simp at e; subst e; exact⟨v,rfl,h1⟩
 | _,_::_,i+1,_,h,e=>by obtain⟨v,r,rfl,h1,h2⟩:=h.inv; simpa using h2.get (i:=i) (by simpa using e)
theorem Ims.take:∀ (n:Nat) {vs:List V} {ts:List T},Ims K H vs ts->Ims K H (vs.take n) (ts.take n)
 | 0,_,_,_=>by simp; exact .nil
 | _+1,_,[],h=>by rw[h.inv0]; exact .nil
 | n+1,_,_::_,h=>by obtain⟨v,r,rfl,h1,h2⟩:=h.inv; exact .cons h1 (h2.take n)
theorem Ims.drop:∀ (n:Nat) {vs:List V} {ts:List T},Ims K H vs ts->Ims K H (vs.drop n) (ts.drop n)
 | 0,_,_,h=>h
 | _+1,_,[],h=>by rw[h.inv0]; exact .nil
 | n+1,_,_::_,h=>by obtain⟨v,r,rfl,h1,h2⟩:=h.inv; exact h2.drop n
theorem Ims.set:∀ {vs:List V} {ts:List T} (i:Nat) {v:V} {t:T},Ims K H vs ts->Im K H v t->Ims K H (vs.set i v) (ts.set i t)
 | _,[],_,_,_,h,_=>by rw[h.inv0]; exact .nil
 | _,_::_,0,_,_,h,h'=>by obtain⟨v,r,rfl,h1,h2⟩:=h.inv; exact .cons h' h2
 | _,_::_,i+1,_,_,h,h'=>by obtain⟨v,r,rfl,h1,h2⟩:=h.inv; exact .cons h1 (h2.set i h')
theorem Ims.erase:∀ {vs:List V} {ts:List T} (i:Nat),Ims K H vs ts->Ims K H (vs.eraseIdx i) (ts.eraseIdx i)
 | _,[],_,h=>by rw[h.inv0]; exact .nil
 | _,_::_,0,h=>by obtain⟨v,r,rfl,h1,h2⟩:=h.inv; exact h2
 | _,_::_,i+1,h=>by obtain⟨v,r,rfl,h1,h2⟩:=h.inv; exact .cons h1 (h2.erase i)
theorem Ims.rev:∀ {vs:List V} {ts:List T},Ims K H vs ts->Ims K H vs.reverse ts.reverse
 | _,[],h=>by rw[h.inv0]; exact .nil
 | _,_::_,h=>by obtain⟨v,r,rfl,h1,h2⟩:=h.inv; simp only[EH]; exact h2.rev.app (.one h1)
theorem Ims.atoms:∀ (vs:List V),Ims K H vs (vs.map T.a)
 | []=>.nil
 | v::r=>.cons (by unfold Im; rfl) (Ims.atoms r)
theorem Ims.of_atoms:∀ {vs:List V} {us:List V},Ims K H vs (us.map T.a)->vs=us
 | _,[],h=>h.inv0
 | _,_::_,h=>by obtain⟨v,r,rfl,h1,h2⟩:=h.inv; unfold Im at h1; rw[h1,Ims.of_atoms h2]
theorem Im.atom{v:V}:Im K H v (.a v):=by unfold Im; rfl
theorem Im.tup{p:Addr}{vs:List V}{ts:List T}(h:H p=some (.tup vs))(hs:Ims K H vs ts):Im K H (.ref p) (.t ts):=by unfold Im; exact⟨p,vs,rfl,Tp.of h,hs⟩
theorem Im.inv{v:V}{ts:List T}(h:Im K H v (.t ts)):∃ p vs,v=.ref p/\Tp K H p vs/\Ims K H vs ts:=by unfold Im at h; exact h
theorem Im.invl{v:V}{ts:List T}(h:Im K H v (.l ts)):∃ p vs,v=.ref p/\KF K H p vs/\Ims K H vs ts:=by unfold Im at h; exact h
theorem Im.fn{v:V}{n:Str}(h:FOk K v n):Im K H v (.f n):=by unfold Im; exact h
theorem Im.invf{v:V}{n:Str}(h:Im K H v (.f n)):FOk K v n:=by unfold Im at h; exact h
theorem Im.exc{p:Addr}{c:Str}{fs:List (Str×V)}(h:XOk K H p c fs):Im K H (.ref p) (.x c fs):=by unfold Im; exact⟨p,rfl,h⟩
theorem Im.invx{v:V}{c:Str}{fs:List (Str×V)}(h:Im K H v (.x c fs)):∃ p,v=.ref p/\XOk K H p c fs:=by unfold Im at h; exact h
theorem Im.inva{v u:V}(h:Im K H v (.a u)):v=u:=by unfold Im at h; exact h
end
theorem KF.sq{K:Fg}{H:Hp}{p:Addr}{vs:List V}(h:KF K H p vs):SqL K H p vs:=by
 rcases h with h | h
 ·exact .inl (.inr h)
 ·exact .inr h
theorem KF.of{K:Fg}{H:Hp}{p:Addr}{vs:List V}(h:SqL K H p vs)(n:∀ us,H p≠some (.lst us)):KF K H p vs:=by
 rcases h with (h | h) | h
 ·exact absurd h (n vs)
 ·exact .inl h
 ·exact .inr h
noncomputable def DOk (K:Fg) (H:Hp):HO->Dk->Prop
 | .dK l,.inl kvs=>Eb (fun (a:Key×V) (b:Key×T)=>a.1=b.1/\Im K H a.2 b.2) l kvs
 | .dT l,.inr kvs=>Eb (fun (a:List Key×V) (b:List Key×T)=>a.1=b.1/\Im K H a.2 b.2) l kvs
 | _,_=>False
theorem DOk.mu{K:Fg}{H:Hp}{o:HO}{kvs:Dk}(h:DOk K H o kvs):Mu o:=by
 unfold DOk at h
 split at h
 ·trivial
 ·trivial
 ·exact h.elim
theorem DOk.evo{K:Fg}{L:List Addr}{H H':Hp}{o:HO}{kvs:Dk}(e:Evo L H H')(hL:LL L H)(h:DOk K H o kvs):DOk K H' o kvs:=by
 unfold DOk at h ⊢
 split at h
 ·exact Paired.mapP h fun _ _ z=>⟨z.1,z.2.evo e hL⟩
 ·exact Paired.mapP h fun _ _ z=>⟨z.1,z.2.evo e hL⟩
 ·exact h.elim
noncomputable def GOk (K:Fg) (w:W) (H:Hp) (v:V):G->Prop
 | .v t=>Im K H v t
 | .l xs=>∃ p vs,v=.ref p/\p∈w.L/\H p=some (.lst vs)/\Ims K H vs xs
 | .r xs=>∃ p vs,v=.ref p/\Ims K H vs xs/\H p=some (.lst vs)/\p∉w.L/\w.R p
 | .k xs=>∃ p vs,v=.ref p/\Ims K H vs xs/\KF K H p vs
 | .d kvs=>∃ p o,v=.ref p/\p∈w.L/\H p=some o/\DOk K H o kvs
 | .e kvs=>∃ p o,v=.ref p/\DOk K H o kvs/\H p=some o/\p∉w.L/\w.R p
theorem GOk.own{K:Fg}{w:W}{H:Hp}{v:V}{g:G}(m:isMut g=true)(h:GOk K w H v g):∃ p,v=.ref p/\p∈w.L:=by
 cases g with
 | l xs=>obtain⟨p,vs,e,m,_⟩:=h; exact⟨p,e,m⟩
 | d xs=>obtain⟨p,vs,e,m,_⟩:=h; exact⟨p,e,m⟩
 | v _=>cases m
 | r _=>cases m
 | k _=>cases m
 | e _=>cases m
def Ow (C:Fr) (p:Addr):Prop:=p∈C.fx\/C.H0 p=none
structure Rep(K:Fg)(C:Fr)(w:W)(Γ:En)(σ:St)(H:Hp):Prop where
 len:σ.length=Γ.length
 val:∀ (i:Nat) g,Γ[i]?=some (some g)->∃ v,σ[i]?=some (some v)/\GOk K w H v g
 apart:∀ (i j:Nat) p g g',isMut g=true->isMut g'=true->Γ[i]?=some (some g)->Γ[j]?=some (some g')->σ[i]?=some (some (.ref p))->σ[j]?=some (some (.ref p))->i=j
 lst:LL w.L H
 own:∀ p∈w.L,Ow C p
 ra:∀ p,w.R p->∃ o,H p=some o
 rl:∀ p,w.R p->p∉w.L
 frame:∀ b o,C.H0 b=some o->b∉C.fx->H b=some o
 pin:∀ q∈C.pins,σ[q.1]?=some (some (.ref q.2))/\∃ xs,Γ[q.1]?=some (some (.l xs))
noncomputable def SOk (K:Fg) (C:Fr) (w:W) (σ:St) (H:Hp) (v:V):S->Prop
 | .v t=>Im K H v t
 | .l xs=>∃ p vs,v=.ref p/\p∉w.L/\¬ w.R p/\Ow C p/\H p=some (.lst vs)/\Ims K H vs xs
 | .s i=>σ[i]?=some (some v)
 | .d kvs=>∃ p o,v=.ref p/\p∉w.L/\¬ w.R p/\Ow C p/\H p=some o/\DOk K H o kvs
section
variable {K:Fg}{C:Fr}{w:W}{Γ Γ':En}{σ:St}{H H':Hp}
theorem GOk.evo{v:V}{g:G}(e:Evo w.L H H')(hL:LL w.L H)(hl:isMut g=false)(h:GOk K w H v g):GOk K w H' v g:=by
 cases g with
 | v t=>exact Im.evo e hL h
 | l xs=>cases hl
 | d xs=>cases hl
 | e kvs =>
  obtain⟨p,o,rfl,hi,h⟩:=h
  exact⟨p,o,rfl,hi.evo e hL,e _ _ h.1 h.2.1,h.2⟩
 | r xs =>
  obtain⟨p,vs,rfl,hi,h⟩:=h
  exact⟨p,vs,rfl,hi.evo e hL,e _ _ h.1 h.2.1,h.2⟩
 | k xs =>
  obtain⟨p,vs,rfl,hi,h⟩:=h
  exact⟨p,vs,rfl,hi.evo e hL,h.evo e hL⟩
theorem SOk.evo{v:V}{s:S}(e:Evo w.L H H')(hL:LL w.L H)(h:SOk K C w σ H v s):SOk K C w σ H' v s:=by
 cases s with
 | v t=>exact Im.evo e hL h
 | l xs =>
  obtain⟨p,vs,rfl,n1,n2,o,h1,h2⟩:=h
  exact⟨p,vs,rfl,n1,n2,o,e _ _ h1 n1,h2.evo e hL⟩
 | s i=>exact h
 | d kvs =>
  obtain⟨p,o,rfl,n1,n2,ow,h1,h2⟩:=h
  exact⟨p,o,rfl,n1,n2,ow,e _ _ h1 n1,h2.evo e hL⟩
theorem SOk.atom{v:V}:SOk K C w σ H v (.v (.a v)):=by show Im K H v (.a v); exact Im.atom
theorem SOk.inva{v u:V}(h:SOk K C w σ H v (.v (.a u))):v=u:=by
 have h':Im K H v (.a u):=h
 exact h'.inva
theorem SOk.invt{v:V}{ts:List T}(h:SOk K C w σ H v (.v (.t ts))):∃ p vs,v=.ref p/\Tp K H p vs/\Ims K H vs ts:=by
 have h':Im K H v (.t ts):=h
 exact h'.inv
theorem Rep.evo0(r:Rep K C w Γ σ H)(e:∀ b o,H b=some o->H' b=some o):Rep K C w Γ σ H' where
 len:=r.len
 val:=fun i g h=>by
  obtain⟨v,e1,e2⟩:=r.val i g h
  refine⟨v,e1,?_⟩
  cases g with
  | l xs =>
   obtain⟨p,vs,rfl,hp,h1,h2⟩:=e2
   exact⟨p,vs,rfl,hp,e _ _ h1,h2.evo (L:=w.L) (fun b o h _=>e b o h) r.lst⟩
  | d xs =>
   obtain⟨p,o,rfl,hp,h1,h2⟩:=e2
   exact⟨p,o,rfl,hp,e _ _ h1,h2.evo (L:=w.L) (fun b o h _=>e b o h) r.lst⟩
  | v t=>exact GOk.evo (fun b o h _=>e b o h) r.lst rfl e2
  | r xs=>exact GOk.evo (fun b o h _=>e b o h) r.lst rfl e2
  | k xs=>exact GOk.evo (fun b o h _=>e b o h) r.lst rfl e2
  | e xs=>exact GOk.evo (fun b o h _=>e b o h) r.lst rfl e2
 apart:=r.apart
 lst:=fun p hp=>by obtain⟨o,h,m⟩:=r.lst p hp; exact⟨o,e _ _ h,m⟩
 own:=r.own
 ra:=fun p hp=>by obtain⟨o,h⟩:=r.ra p hp; exact⟨o,e _ _ h⟩
 rl:=r.rl
 frame:=fun b o h n=>e _ _ (r.frame b o h n)
 pin:=r.pin
theorem Rep.same(r:Rep K C w Γ σ H)(e:Same H H'):Rep K C w Γ σ H':=r.evo0 e
theorem Rep.new{p:Addr}{o:HO}(r:Rep K C w Γ σ H)(h:H p=none):Rep K C w Γ σ (upd H p o):=r.evo0 fun b u e=>by rw[zAJ (zAY e h)]; exact e
theorem Rep.fresh{p:Addr}(r:Rep K C w Γ σ H)(h:H p=none):p∉w.L/\¬ w.R p/\Ow C p:=by
 refine⟨fun z=>?_,fun z=>?_,?_⟩
 ·obtain⟨vs,e,_⟩:=r.lst p z; rw[h]at e; cases e
 ·obtain⟨o,e⟩:=r.ra p z; rw[h]at e; cases e
 ·by_cases q:p∈C.fx
  ·exact .inl q
  ·refine .inr ?_
   cases e:C.H0 p with
   | none=>rfl
   | some o=>rw[r.frame p o e q]at h; cases h
theorem Rep.newl{p:Addr}{vs:List V}{ts:List T}(r:Rep K C w Γ σ H)(h:H p=none)(hi:Ims K H vs ts):SOk K C w σ (upd H p (.lst vs)) (.ref p) (.l ts):=by
 obtain⟨a,b,c⟩:=r.fresh h
 exact⟨p,vs,rfl,a,b,c,zAf,hi.evo (Evo.new h) r.lst⟩
theorem Rep.newt{p:Addr}{vs:List V}{ts:List T}(r:Rep K C w Γ σ H)(h:H p=none)(hi:Ims K H vs ts):SOk K C w σ (upd H p (.tup vs)) (.ref p) (.v (.t ts)):=by
 exact Im.tup zAf (hi.evo (L:=w.L) (Evo.new h) r.lst)
theorem Rep.put3{i:Nat}{p:Addr}{g0 g1:G}{ob:HO}(r:Rep K C w Γ σ H)(m0:isMut g0=true)(m1:isMut g1=true)(hpin:∀ xs,g0=.l xs->∃ ys,g1=.l ys)(hi:Γ[i]?=some (some g0))(hp:σ[i]?=some (some (.ref p)))(ev1:Evo [p] H H')(hp':H' p=some ob)(mb:Mu ob)(hq:p∈w.L)(hu:GOk K w H' (.ref p) g1) :
  Rep K C w (Γ.set i (some g1)) σ H'/\Evo w.L H H':=by
 have hiΓ:i < Γ.length:=(Ac.mp hi).1
 have ev:Evo w.L H H':=ev1.wide fun q hq'=>AF.mp hq' ▸ hq
 have ne:∀ {c:Addr} {o:HO},c≠p->H c=some o->H' c=some o:=fun n e=>ev1 _ _ e fun z=>n (AF.mp z)
 refine⟨⟨by simpa using r.len,fun j g h=>?_,fun j k c g g' mg mg' h1 h2 h3 h4=>?_,fun c hc=>?_,r.own,fun c hc=>?_,r.rl,fun b o h n=>?_,fun c hc=>?_⟩,ev⟩
 ·by_cases hj:j=i
  ·subst hj
   rw[Ar hiΓ]at h
   cases h
   exact⟨_,hp,hu⟩
  ·rw[AW (Az hj)]at h
   obtain⟨v,e1,e2⟩:=r.val j g h
   refine⟨v,e1,?_⟩
   cases g with
   | l zs =>
    obtain⟨c,vs',rfl,hc,h1,h2⟩:=e2
    have:c≠p:=fun z=>hj (r.apart j i p _ _ rfl m0 h hi (z ▸ e1) hp)
    exact⟨c,vs',rfl,hc,ne this h1,h2.evo ev r.lst⟩
   | d zs =>
    obtain⟨c,vs',rfl,hc,h1,h2⟩:=e2
    have:c≠p:=fun z=>hj (r.apart j i p _ _ rfl m0 h hi (z ▸ e1) hp)
    exact⟨c,vs',rfl,hc,ne this h1,h2.evo ev r.lst⟩
   | v t=>exact GOk.evo ev r.lst rfl e2
   | r zs=>exact GOk.evo ev r.lst rfl e2
   | k zs=>exact GOk.evo ev r.lst rfl e2
   | e zs=>exact GOk.evo ev r.lst rfl e2
 ·have back:∀ (m:Nat) (g:G),isMut g=true->(Γ.set i (some g1))[m]?=some (some g)->∃ g',isMut g'=true/\Γ[m]?=some (some g'):=fun m g mg h=>by
   by_cases hm:m=i
   ·subst hm; exact⟨g0,m0,hi⟩
   ·rw[AW (Az hm)]at h; exact⟨g,mg,h⟩
  obtain⟨z1,y1,g1⟩:=back j g mg h1
  obtain⟨z2,y2,g2⟩:=back k g' mg' h2
  exact r.apart j k c z1 z2 y1 y2 g1 g2 h3 h4
 ·by_cases hcp:c=p
  ·subst hcp; exact⟨ob,hp',mb⟩
  ·obtain⟨o,e,m⟩:=r.lst c hc; exact⟨o,ne hcp e,m⟩
 ·have:c≠p:=fun z=>r.rl c hc (z ▸ hq)
  obtain⟨o,e⟩:=r.ra c hc
  exact⟨o,ne this e⟩
 ·by_cases hb:b=p
  ·subst hb
   rcases r.own b hq with z | z
   ·exact absurd z n
   ·rw[z]at h; cases h
  ·exact ne hb (r.frame b o h n)
 ·obtain⟨h1,zs,h2⟩:=r.pin c hc
  refine⟨h1,?_⟩
  by_cases hm:c.1=i
  ·rw[hm,hi]at h2
   cases h2
   obtain⟨ys,e⟩:=hpin zs rfl
   exact⟨ys,by rw[hm,Ar hiΓ,e]⟩
  ·exact⟨zs,by rw[AW (Az hm)]; exact h2⟩
theorem Rep.put2{i:Nat}{p:Addr}{xs ys:List T}{us:List V}(r:Rep K C w Γ σ H)(hi:Γ[i]?=some (some (.l xs)))(hp:σ[i]?=some (some (.ref p)))(ev1:Evo [p] H H')(hp':H' p=some (.lst us))(hu:Ims K H' us ys) :
  Rep K C w (Γ.set i (some (.l ys))) σ H'/\Evo w.L H H':=by
 obtain⟨v,e1,q,vs,rfl,hq,hv,_⟩:=r.val i _ hi
 rw[hp]at e1; cases e1
 exact r.put3 rfl rfl (fun _ _=>⟨ys,rfl⟩) hi hp ev1 hp' trivial hq ⟨p,us,rfl,hq,hp',hu⟩
theorem Rep.put{i:Nat}{p:Addr}{xs ys:List T}{us:List V}(r:Rep K C w Γ σ H)(hi:Γ[i]?=some (some (.l xs)))(hp:σ[i]?=some (some (.ref p)))(hu:Ims K H us ys) :
  Rep K C w (Γ.set i (some (.l ys))) σ (upd H p (.lst us))/\Evo w.L H (upd H p (.lst us)):=by
 obtain⟨v,e1,q,vs,rfl,hq,hv,_⟩:=r.val i _ hi
 rw[hp]at e1; cases e1
 have ev1:Evo [p] H (upd H p (.lst us)):=fun b o e n=>by rw[zAJ (show b≠p from fun z=>n (AF.mpr z))]; exact e
 exact r.put2 hi hp ev1 zAf (hu.evo (ev1.wide fun q hq'=>AF.mp hq' ▸ hq) r.lst)
theorem Rep.temp{p:Addr}(r:Rep K C w Γ σ H)(n1:p∉w.L)(n2:¬ w.R p)(ow:Ow C p)(hl:∃ o,H p=some o/\Mu o)(ev1:Evo [p] H H'):Rep K C w Γ σ H':=by
 have ne:∀ {c:Addr} {o:HO},c≠p->H c=some o->H' c=some o:=fun n e=>ev1 _ _ e fun z=>n (AF.mp z)
 have hL:LL [p] H:=fun q hq=>by rw[AF.mp hq]; exact hl
 refine⟨r.len,fun j g h=>?_,r.apart,fun c hc=>?_,r.own,fun c hc=>?_,r.rl,fun b o h n=>?_,r.pin⟩
 ·obtain⟨v,e1,e2⟩:=r.val j g h
  refine⟨v,e1,?_⟩
  cases g with
  | v t=>exact Im.evo ev1 hL e2
  | l zs =>
   obtain⟨c,vs',rfl,hc,h1,h2⟩:=e2
   exact⟨c,vs',rfl,hc,ne (fun z=>n1 (z ▸ hc)) h1,h2.evo ev1 hL⟩
  | r zs =>
   obtain⟨c,vs',rfl,h1,h2⟩:=e2
   exact⟨c,vs',rfl,h1.evo ev1 hL,ne (fun z=>n2 (z ▸ h2.2.2)) h2.1,h2.2⟩
  | k zs =>
   obtain⟨c,vs',rfl,h1,h2⟩:=e2
   exact⟨c,vs',rfl,h1.evo ev1 hL,h2.evo ev1 hL⟩
  | d zs =>
   obtain⟨c,vs',rfl,hc,h1,h2⟩:=e2
   exact⟨c,vs',rfl,hc,ne (fun z=>n1 (z ▸ hc)) h1,h2.evo ev1 hL⟩
  | e zs =>
   obtain⟨c,vs',rfl,h1,h2⟩:=e2
   exact⟨c,vs',rfl,h1.evo ev1 hL,ne (fun z=>n2 (z ▸ h2.2.2)) h2.1,h2.2⟩
 ·obtain⟨o,e,m⟩:=r.lst c hc; exact⟨o,ne (fun z=>n1 (z ▸ hc)) e,m⟩
 ·obtain⟨o,e⟩:=r.ra c hc; exact⟨o,ne (fun z=>n2 (z ▸ hc)) e⟩
 ·by_cases hb:b=p
  ·subst hb
   rcases ow with z | z
   ·exact absurd z n
   ·rw[z]at h; cases h
  ·exact ne hb (r.frame b o h n)
theorem Rep.setv{i:Nat}{v:V}{g:G}(r:Rep K C w Γ σ H)(hg:isMut g=false)(h:GOk K w H v g)(hn:∀ q∈C.pins,q.1≠i):Rep K C w (Γ.set i (some g)) (σ.set i (some v)) H where
 len:=by simpa using r.len
 val:=fun j g' hj=>by
  by_cases hji:j=i
  ·subst hji
   have hjl:j < Γ.length:=by
    rcases Ci j Γ.length with z | z
    ·exact z
    ·rw[Bc (by simpa using z)]at hj; cases hj
   rw[Ar hjl]at hj
   cases hj
   exact⟨v,by rw[Ar (by rw[r.len]; exact hjl)],h⟩
  ·rw[AW (Az hji)]at hj
   rw[AW (Az hji)]
   exact r.val j g' hj
 apart:=fun j k p ga gb ma mb h1 h2 h3 h4=>by
  have ne:∀ (m:Nat) (gc:G),isMut gc=true->(Γ.set i (some g))[m]?=some (some gc)->m≠i/\Γ[m]?=some (some gc):=fun m gc mc hm=>by
   by_cases e:m=i
   ·subst e
    rcases Ci m Γ.length with z | z
    ·rw[Ar z]at hm; cases hm; rw[hg]at mc; cases mc
    ·rw[Bc (by simpa using z)]at hm; cases hm
   ·rw[AW (Az e)]at hm; exact⟨e,hm⟩
  obtain⟨n1,g1⟩:=ne j ga ma h1
  obtain⟨n2,g2⟩:=ne k gb mb h2
  rw[AW (Az n1)]at h3
  rw[AW (Az n2)]at h4
  exact r.apart j k p ga gb ma mb g1 g2 h3 h4
 lst:=r.lst
 own:=r.own
 ra:=r.ra
 rl:=r.rl
 frame:=r.frame
 pin:=fun q hq=>by
  obtain⟨h1,xs,h2⟩:=r.pin q hq
  have:=hn q hq
  exact⟨by rw[AW (Az this)]; exact h1,xs,by rw[AW (Az this)]; exact h2⟩
theorem Rep.setm{i:Nat}{p:Addr}{ob:HO}{g:G}(r:Rep K C w Γ σ H)(mg:isMut g=true)(n1:p∉w.L)(n2:¬ w.R p)(ow:Ow C p)(hp:H p=some ob)(mb:Mu ob)(hv:GOk K ⟨p::w.L,w.R⟩ H (.ref p) g)(hn:∀ q∈C.pins,q.1≠i) :
  Rep K C ⟨p::w.L,w.R⟩ (Γ.set i (some g)) (σ.set i (some (.ref p))) H where
 len:=by simpa using r.len
 val:=fun j g' hj=>by
  by_cases hji:j=i
  ·subst hji
   have hjl:j < Γ.length:=by
    rcases Ci j Γ.length with z | z
    ·exact z
    ·rw[Bc (by simpa using z)]at hj; cases hj
   rw[Ar hjl]at hj
   cases hj
   exact⟨_,by rw[Ar (by rw[r.len]; exact hjl)],hv⟩
  ·rw[AW (Az hji)]at hj
   rw[AW (Az hji)]
   obtain⟨v,e1,e2⟩:=r.val j g' hj
   refine⟨v,e1,?_⟩
   cases g' with
   | v t=>exact e2
   | l ys=>obtain⟨c,us,rfl,hc,h1,h2⟩:=e2; exact⟨c,us,rfl,AK _ hc,h1,h2⟩
   | d ys=>obtain⟨c,us,rfl,hc,h1,h2⟩:=e2; exact⟨c,us,rfl,AK _ hc,h1,h2⟩
   | r ys =>
    obtain⟨c,us,rfl,hi,h⟩:=e2
    refine⟨c,us,rfl,hi,h.1,fun z=>?_,h.2.2⟩
    rcases AO.mp z with z | z
    ·exact n2 (z ▸ h.2.2)
    ·exact h.2.1 z
   | e ys =>
    obtain⟨c,us,rfl,hi,h⟩:=e2
    refine⟨c,us,rfl,hi,h.1,fun z=>?_,h.2.2⟩
    rcases AO.mp z with z | z
    ·exact n2 (z ▸ h.2.2)
    ·exact h.2.1 z
   | k ys=>exact e2
 apart:=fun j k c ga gb ma mb' h1 h2 h3 h4=>by
  have ne:∀ (m:Nat) (gc:G),isMut gc=true->m≠i->(Γ.set i (some g))[m]?=some (some gc)->(σ.set i (some (.ref p)))[m]?=some (some (.ref c))->Γ[m]?=some (some gc)/\σ[m]?=some (some (.ref c))/\c≠p:=fun m gc mc e h h'=>by
   rw[AW (Az e)]at h
   rw[AW (Az e)]at h'
   refine⟨h,h',fun z=>?_⟩
   obtain⟨v,e1,hg⟩:=r.val m _ h
   obtain⟨q,rfl,hq⟩:=hg.own mc
   rw[h']at e1; cases e1
   exact n1 (z ▸ hq)
  have at_i:∀ (m:Nat),m=i->(σ.set i (some (.ref p)))[m]?=some (some (.ref c))->c=p:=fun m e h=>by
   subst e
   rcases Ci m σ.length with z | z
   ·rw[Ar z]at h; cases h; rfl
   ·rw[Bc (by simpa using z)]at h; cases h
  by_cases e1:j=i
  ·by_cases e2:k=i
   ·rw[e1,e2]
   ·obtain⟨_,_,n⟩:=ne k gb mb' e2 h2 h4
    exact absurd (at_i j e1 h3) n
  ·obtain⟨g1,s1,n⟩:=ne j ga ma e1 h1 h3
   by_cases e2:k=i
   ·exact absurd (at_i k e2 h4) n
   ·obtain⟨g2,s2,_⟩:=ne k gb mb' e2 h2 h4
    exact r.apart j k c ga gb ma mb' g1 g2 s1 s2
 lst:=fun c hc=>by
  rcases AO.mp hc with e | e
  ·subst e; exact⟨ob,hp,mb⟩
  ·exact r.lst c e
 own:=fun c hc=>by
  rcases AO.mp hc with e | e
  ·subst e; exact ow
  ·exact r.own c e
 ra:=r.ra
 rl:=fun c hc z=>by
  rcases AO.mp z with e | e
  ·subst e; exact n2 hc
  ·exact r.rl c hc e
 frame:=r.frame
 pin:=fun q hq=>by
  obtain⟨h1,xs',h2⟩:=r.pin q hq
  have:=hn q hq
  exact⟨by rw[AW (Az this)]; exact h1,xs',by rw[AW (Az this)]; exact h2⟩
theorem Rep.setl{i:Nat}{p:Addr}{vs:List V}{xs:List T}(r:Rep K C w Γ σ H)(n1:p∉w.L)(n2:¬ w.R p)(ow:Ow C p)(hp:H p=some (.lst vs))(hv:Ims K H vs xs)(hn:∀ q∈C.pins,q.1≠i) :
  Rep K C ⟨p::w.L,w.R⟩ (Γ.set i (some (.l xs))) (σ.set i (some (.ref p))) H :=
 r.setm rfl n1 n2 ow hp trivial ⟨p,vs,rfl,AQ,hp,hv⟩ hn
theorem Rep.setd{i:Nat}{p:Addr}{ob:HO}{kvs:Dk}(r:Rep K C w Γ σ H)(n1:p∉w.L)(n2:¬ w.R p)(ow:Ow C p)(hp:H p=some ob)(hv:DOk K H ob kvs)(hn:∀ q∈C.pins,q.1≠i) :
  Rep K C ⟨p::w.L,w.R⟩ (Γ.set i (some (.d kvs))) (σ.set i (some (.ref p))) H :=
 r.setm rfl n1 n2 ow hp hv.mu ⟨p,ob,rfl,AQ,hp,hv⟩ hn
theorem Rep.newd{p:Addr}{ob:HO}{kvs:Dk}(r:Rep K C w Γ σ H)(h:H p=none)(hi:DOk K H ob kvs):SOk K C w σ (upd H p ob) (.ref p) (.d kvs):=by
 obtain⟨a,b,c⟩:=r.fresh h
 exact⟨p,ob,rfl,a,b,c,zAf,hi.evo (Evo.new h) r.lst⟩
end
noncomputable def SOks (K:Fg) (C:Fr) (w:W) (σ:St) (H:Hp):List V->List S->Prop
 | [],[]=>True
 | v::vs,s::ss=>SOk K C w σ H v s/\SOks K C w σ H vs ss
 | _,_=>False
noncomputable def Nw (H:Hp) (v:V):S->Prop
 | .l _=>∃ p,v=.ref p/\H p=none
 | .d _=>∃ p,v=.ref p/\H p=none
 | _=>True
noncomputable def Nws (H:Hp):List V->List S->Prop
 | v::vs,s::ss=>Nw H v s/\Nws H vs ss
 | _,_=>True
theorem zAv{L:List Addr}{H H':Hp}{p:Addr}(e:Evo L H H')(hL:LL L H')(h:H' p=none):H p=none:=by
 cases q:H p with
 | none=>rfl
 | some o =>
  by_cases z:p∈L
  ·obtain⟨vs,u,_⟩:=hL p z; rw[h]at u; cases u
  ·rw[e p o q z]at h; cases h
theorem Nw.back{L:List Addr}{H H':Hp}{v:V}{s:S}(n:Nw H' v s)(e:Evo L H H')(hL:LL L H'):Nw H v s:=by
 cases s with
 | l xs=>obtain⟨p,a,b⟩:=n; exact⟨p,a,zAv e hL b⟩
 | d xs=>obtain⟨p,a,b⟩:=n; exact⟨p,a,zAv e hL b⟩
 | v t=>trivial
 | s i=>trivial
theorem Nws.back{L:List Addr}{H H':Hp}(e:Evo L H H')(hL:LL L H'):∀ {vs:List V} {ss:List S},Nws H' vs ss->Nws H vs ss
 | [],[],_=>trivial
 | [],_::_,_=>trivial
 | _::_,[],_=>trivial
 | _::_,_::_,h=>⟨h.1.back e hL,Nws.back e hL h.2⟩
theorem Nws.get{H:Hp}:∀ {vs:List V} {ss:List S} {k:Nat} {v:V} {s:S},Nws H vs ss->vs[k]?=some v->ss[k]?=some s->Nw H v s
 | [],_,_,_,_,_,e,_=>by simp at e
 | _::_,[],_,_,_,_,_,e=>by simp at e
 | _::_,_::_,0,_,_,h,e,e'=>by simp at e e'; subst e e'; exact h.1
 | _::_,_::_,k+1,_,_,h,e,e'=>Nws.get (k:=k) h.2 (by simpa using e) (by simpa using e')
def SimE (K:Fg) (te:TE) (f:DE):Prop:=∀ (C:Fr) (w:W) (Γ:En) (σ:St) (H:Hp) (s:S) (Γ':En) (Q:VK),Rep K C w Γ σ H->f Γ=some (s,Γ') ->
 (∀ v H',Rep K C w Γ' σ H'->Evo w.L H H'->SOk K C w σ H' v s->Nw H v s->Q v H')->te σ H Q
def SimT (K:Fg) (tt:TT) (f:DT):Prop:=∀ (C:Fr) (w:W) (Γ:En) (σ:St) (H:Hp) (b:Bool) (Γ':En) (Q:Bool->Hp->Prop),Rep K C w Γ σ H->f Γ=some (b,Γ') ->
 (∀ H',Rep K C w Γ' σ H'->Evo w.L H H'->Q b H')->tt σ H Q
def SimA (K:Fg) (ta:TA) (f:DA):Prop:=∀ (C:Fr) (w:W) (Γ:En) (σ:St) (H:Hp) (ss:List S) (Γ':En) (Q:List V->Hp->Prop),Rep K C w Γ σ H->f Γ=some (ss,Γ') ->
 (∀ vs H',Rep K C w Γ' σ H'->Evo w.L H H'->SOks K C w σ H' vs ss->Nws H vs ss->Q vs H')->ta σ H Q
noncomputable def OkO (K:Fg) (C:Fr) (D:Ends):O->Prop
 | .nx Γ=>∀ w σ H,Rep K C w Γ σ H->D.nx σ H
 | .rt s Γ=>∀ w σ H v,Rep K C w Γ σ H->SOk K C w σ H v s->D.rt v H
 | .bk Γ=>∀ w σ H,Rep K C w Γ σ H->D.bk σ H
 | .ct Γ=>∀ w σ H,Rep K C w Γ σ H->D.ct σ H
def SimS (K:Fg) (ip:Option Nat) (ts:TS) (g:DS):Prop:=∀ (C:Fr) (w:W) (Γ:En) (σ:St) (H:Hp) (D:Ends) (o:O),C.pins.map (·.1)=ip.toList->Rep K C w Γ σ H->g Γ=some o->OkO K C D o->ts D σ H
def SimR2 (K:Fg) (r:R2) (h:En->S->S->Option S):Prop:=∀ (C:Fr) (w:W) (Γ:En) (σ:St) (H:Hp) (x y:V) (a b s:S) (Q:VK),Rep K C w Γ σ H->SOk K C w σ H x a->SOk K C w σ H y b->h Γ a b=some s ->
 (∀ v H',Rep K C w Γ σ H'->Evo w.L H H'->SOk K C w σ H' v s->Nw H v s->Q v H')->r x y H Q
def SimR1 (K:Fg) (r:V->Hp->VK->Prop) (h:En->S->Option S):Prop:=∀ (C:Fr) (w:W) (Γ:En) (σ:St) (H:Hp) (x:V) (a s:S) (Q:VK),Rep K C w Γ σ H->SOk K C w σ H x a->h Γ a=some s ->
 (∀ v H',Rep K C w Γ σ H'->Evo w.L H H'->SOk K C w σ H' v s->Nw H v s->Q v H')->r x H Q
def SimRs (K:Fg) (r:List V->Hp->VK->Prop) (h:En->List S->Option S):Prop:=∀ (C:Fr) (w:W) (Γ:En) (σ:St) (H:Hp) (xs:List V) (as:List S) (s:S) (Q:VK),Rep K C w Γ σ H->SOks K C w σ H xs as->h Γ as=some s ->
 (∀ v H',Rep K C w Γ σ H'->Evo w.L H H'->SOk K C w σ H' v s->Nw H v s->Q v H')->r xs H Q
noncomputable def jV (i:Nat):DE:=fun Γ=>match Γ[i]? with
 | some (some (.v t))=>some (.v t,Γ)
 | some (some (.l _))=>some (.s i,Γ)
 | some (some (.r _))=>some (.s i,Γ)
 | some (some (.k _))=>some (.s i,Γ)
 | some (some (.d _))=>some (.s i,Γ)
 | some (some (.e _))=>some (.s i,Γ)
 | _=>none
noncomputable def dC (v:V):DE:=fun Γ=>some (.v (.a v),Γ)
noncomputable def dOp (h:En->S->S->Option S) (fa fb:DE):DE:=fun Γ=>(fa Γ).bind fun p=>(fb p.2).bind fun q=>(h q.2 p.1 q.1).map fun s=>(s,q.2)
noncomputable def dUn (h:En->S->Option S) (fa:DE):DE:=fun Γ=>(fa Γ).bind fun p=>(h p.2 p.1).map fun s=>(s,p.2)
noncomputable def dCB (h:En->List S->Option S) (fa:DA):DE:=fun Γ=>(fa Γ).bind fun p=>(h p.2 p.1).map fun s=>(s,p.2)
noncomputable def qQ:DA:=fun Γ=>some ([],Γ)
noncomputable def jW (fa:DE) (fr:DA):DA:=fun Γ=>(fa Γ).bind fun p=>(fr p.2).bind fun q=>some (p.1::q.1,q.2)
noncomputable def S.tree:S->Option T
 | .v t=>some t
 | _=>none
noncomputable def trees:List S->Option (List T)
 | []=>some []
 | s::r=>s.tree.bind fun t=>(trees r).map fun ts=>t::ts
noncomputable def gd {α:Type} (n:Nat) (x:α):Option α:=if n<=AE then some x else none
theorem zBX{α:Type}{n:Nat}{x y:α}(h:gd n x=some y):n<=AE/\x=y:=by
 unfold gd at h; split at h
 ·exact⟨by assumption,As h⟩
 ·cases h
noncomputable def dTup (fa:DA):DE:=fun Γ=>(fa Γ).bind fun p=>(trees p.1).bind fun ts=>gd ts.length (.v (.t ts),p.2)
noncomputable def dLst (fa:DA):DE:=fun Γ=>(fa Γ).bind fun p=>(trees p.1).bind fun ts=>gd ts.length (.l ts,p.2)
noncomputable def dTest (f:DE):DT:=fun Γ=>(f Γ).bind fun p=>match p.1 with
 | .v (.a (.bl b))=>some (b,p.2)
 | _=>none
noncomputable def dAnd (f g:DT):DT:=fun Γ=>(f Γ).bind fun p=>if p.1=true then g p.2 else some (false,p.2)
noncomputable def dOr (f g:DT):DT:=fun Γ=>(f Γ).bind fun p=>if p.1=true then some (true,p.2) else g p.2
noncomputable def dNot (f:DT):DT:=fun Γ=>(f Γ).bind fun p=>some (!p.1,p.2)
noncomputable def dAndV (f g:DE):DE:=fun Γ=>(dTest f Γ).bind fun p=>if p.1=true then g p.2 else some (.v (.a (.bl false)),p.2)
noncomputable def dIfE (c:DT) (f g:DE):DE:=fun Γ=>(c Γ).bind fun p=>if p.1=true then f p.2 else g p.2
noncomputable def dChain (h h':En->S->S->Option S) (fa fb fc:DE):DE:=fun Γ=>(fa Γ).bind fun p=>(fb p.2).bind fun q=>(h q.2 p.1 q.1).bind fun z=>match z with
 | .v (.a (.bl k))=>if k=true then (fc q.2).bind fun u=>(h' u.2 q.1 u.1).map fun s=>(s,u.2) else some (.v (.a (.bl false)),q.2)
 | _=>none
section
variable {K:Fg}{ip:Option Nat}
theorem bind_some{α β:Type}{x:Option α}{f:α->Option β}{y:β}(h:x.bind f=some y):∃ a,x=some a/\f a=some y:=by
 cases x with
 | none=>cases h
 | some a=>exact⟨a,rfl,h⟩
theorem zAE{α β:Type}{x:Option α}{f:α->β}{y:β}(h:x.map f=some y):∃ a,x=some a/\f a=y:=by
 cases x with
 | none=>cases h
 | some a=>exact⟨a,rfl,As h⟩
theorem zLx{i:Nat}:SimE K (tVar i) (jV i):=by
 intro C w Γ σ H s Γ' Q R h k
 unfold jV at h
 split at h
 ·rename_i t e
  cases h
  obtain⟨v,e1,e2⟩:=R.val i _ e
  exact⟨v,e1,k v H R .refl e2 trivial⟩
 ·rename_i xs e
  cases h
  obtain⟨v,e1,e2⟩:=R.val i _ e
  exact⟨v,e1,k v H R .refl e1 trivial⟩
 ·rename_i xs e
  cases h
  obtain⟨v,e1,e2⟩:=R.val i _ e
  exact⟨v,e1,k v H R .refl e1 trivial⟩
 ·rename_i xs e
  cases h
  obtain⟨v,e1,e2⟩:=R.val i _ e
  exact⟨v,e1,k v H R .refl e1 trivial⟩
 ·rename_i xs e
  cases h
  obtain⟨v,e1,e2⟩:=R.val i _ e
  exact⟨v,e1,k v H R .refl e1 trivial⟩
 ·rename_i xs e
  cases h
  obtain⟨v,e1,e2⟩:=R.val i _ e
  exact⟨v,e1,k v H R .refl e1 trivial⟩
 ·cases h
theorem zCy{v:V}:SimE K (tC v) (dC v):=by
 intro C w Γ σ H s Γ' Q R h k
 cases h
 exact k v H R .refl SOk.atom trivial
theorem zCk{r:R2}{h:En->S->S->Option S}{ta tb:TE}{fa fb:DE}(hr:SimR2 K r h)(ha:SimE K ta fa)(hb:SimE K tb fb):SimE K (tOp r ta tb) (dOp h fa fb):=by
 intro C w Γ σ H s Γ' Q R e k
 obtain⟨p,e1,e⟩:=bind_some e
 obtain⟨q,e2,e⟩:=bind_some e
 obtain⟨z,e3,e⟩:=zAE e
 cases e
 refine ha C w Γ σ H p.1 p.2 _ R e1 fun v1 H1 R1 ev1 o1 n1=>?_
 refine hb C w p.2 σ H1 q.1 q.2 _ R1 e2 fun v2 H2 R2 ev2 o2 n2=>?_
 exact hr C w q.2 σ H2 v1 v2 _ _ _ Q R2 (o1.evo ev2 R1.lst) o2 e3 fun v H3 R3 ev3 o3 n3=>k v H3 R3 ((ev1.trans ev2).trans ev3) o3 (n3.back (ev1.trans ev2) R2.lst)
theorem zN5{r:V->Hp->VK->Prop}{h:En->S->Option S}{ta:TE}{fa:DE}(hr:SimR1 K r h)(ha:SimE K ta fa):SimE K (tUn r ta) (dUn h fa):=by
 intro C w Γ σ H s Γ' Q R e k
 obtain⟨p,e1,e⟩:=bind_some e
 obtain⟨z,e3,e⟩:=zAE e
 cases e
 refine ha C w Γ σ H p.1 p.2 _ R e1 fun v1 H1 R1 ev1 o1 n1=>?_
 exact hr C w p.2 σ H1 v1 _ _ Q R1 o1 e3 fun v H3 R3 ev3 o3 n3=>k v H3 R3 (ev1.trans ev3) o3 (n3.back ev1 R1.lst)
theorem zFk{r:List V->Hp->VK->Prop}{h:En->List S->Option S}{ta:TA}{fa:DA}(hr:SimRs K r h)(ha:SimA K ta fa):SimE K (tCB r ta) (dCB h fa):=by
 intro C w Γ σ H s Γ' Q R e k
 obtain⟨p,e1,e⟩:=bind_some e
 obtain⟨z,e3,e⟩:=zAE e
 cases e
 refine ha C w Γ σ H p.1 p.2 _ R e1 fun v1 H1 R1 ev1 o1 n1=>?_
 exact hr C w p.2 σ H1 v1 _ _ Q R1 o1 e3 fun v H3 R3 ev3 o3 n3=>k v H3 R3 (ev1.trans ev3) o3 (n3.back ev1 R1.lst)
theorem zGx:SimA K tNil qQ:=by
 intro C w Γ σ H s Γ' Q R e k
 cases e
 exact k [] H R .refl trivial trivial
theorem zKc{ta:TE}{tr:TA}{fa:DE}{fr:DA}(ha:SimE K ta fa)(hr:SimA K tr fr):SimA K (tCons ta tr) (jW fa fr):=by
 intro C w Γ σ H s Γ' Q R e k
 obtain⟨p,e1,e⟩:=bind_some e
 obtain⟨q,e2,e⟩:=bind_some e
 cases e
 refine ha C w Γ σ H p.1 p.2 _ R e1 fun v1 H1 R1 ev1 o1 n1=>?_
 exact hr C w p.2 σ H1 q.1 q.2 _ R1 e2 fun vs H2 R2 ev2 o2 n2=>k (v1::vs) H2 R2 (ev1.trans ev2) ⟨o1.evo ev2 R1.lst,o2⟩ ⟨n1,n2.back ev1 R1.lst⟩
theorem zDG{C:Fr}{w:W}{σ:St}{H:Hp}:∀ {vs:List V} {ss:List S} {ts:List T},SOks K C w σ H vs ss->trees ss=some ts->Ims K H vs ts
 | [],[],_,_,e=>by cases e; exact .nil
 | v::vs,s::ss,_,h,e=>by
  obtain⟨t,e1,e⟩:=bind_some e
  obtain⟨ts,e2,e⟩:=zAE e
  cases e
  cases s with
  | v t'=>cases e1; exact .cons h.1 (zDG h.2 e2)
  | l _=>cases e1
  | s _=>cases e1
  | d _=>cases e1
 | [],_::_,_,h,_=>h.elim
 | _::_,[],_,h,_=>h.elim
theorem zMn{ta:TA}{fa:DA}(ha:SimA K ta fa):SimE K (tTup ta) (dTup fa):=by
 intro C w Γ σ H s Γ' Q R e k
 obtain⟨p,e1,e⟩:=bind_some e
 obtain⟨ts,e2,e⟩:=bind_some e
 obtain⟨hn,e⟩:=zBX e
 cases e
 refine ha C w Γ σ H p.1 p.2 _ R e1 fun vs H1 R1 ev1 o1 _=>?_
 have hi:=zDG o1 e2
 exact⟨by rw[hi.len]; exact hn,fun q hq=>k _ _ (R1.new hq) (ev1.trans (Evo.new hq)) (R1.newt hq hi) trivial⟩
theorem zMN{ta:TA}{fa:DA}(ha:SimA K ta fa):SimE K (tLst ta) (dLst fa):=by
 intro C w Γ σ H s Γ' Q R e k
 obtain⟨p,e1,e⟩:=bind_some e
 obtain⟨ts,e2,e⟩:=bind_some e
 obtain⟨hn,e⟩:=zBX e
 cases e
 refine ha C w Γ σ H p.1 p.2 _ R e1 fun vs H1 R1 ev1 o1 _=>?_
 have hi:=zDG o1 e2
 exact⟨by rw[hi.len]; exact hn,fun q hq=>k _ _ (R1.new hq) (ev1.trans (Evo.new hq)) (R1.newl hq hi) ⟨_,rfl,zAv ev1 R1.lst hq⟩⟩
theorem zFw{ta:TE}{fa:DE}(ha:SimE K ta fa):SimT K (tTest ta) (dTest fa):=by
 intro C w Γ σ H s Γ' Q R e k
 obtain⟨p,e1,e⟩:=bind_some e
 obtain⟨p1,p2⟩:=p
 dsimp only at e
 split at e
 ·cases e
  refine ha C w Γ σ H _ _ _ R e1 fun v H1 R1 ev1 o1 _=>?_
  exact⟨_,SOk.inva o1,k H1 R1 ev1⟩
 ·cases e
theorem zL9{ta tb:TT}{fa fb:DT}(ha:SimT K ta fa)(hb:SimT K tb fb):SimT K (tAnd ta tb) (dAnd fa fb):=by
 intro C w Γ σ H s Γ' Q R e k
 obtain⟨⟨p,G1⟩,e1,e⟩:=bind_some e
 refine ha C w Γ σ H p G1 _ R e1 fun H1 R1 ev1=>?_
 cases p with
 | true=>exact (if_pos rfl).mpr (hb C w G1 σ H1 s Γ' Q R1 (by simpa using e) fun H2 R2 ev2=>k H2 R2 (ev1.trans ev2))
 | false =>
  have e':(false,G1)=(s,Γ'):=by simpa using e
  cases e'
  exact (if_neg AU).mpr (k H1 R1 ev1)
theorem zM7{ta tb:TT}{fa fb:DT}(ha:SimT K ta fa)(hb:SimT K tb fb):SimT K (tOr ta tb) (dOr fa fb):=by
 intro C w Γ σ H s Γ' Q R e k
 obtain⟨⟨p,G1⟩,e1,e⟩:=bind_some e
 refine ha C w Γ σ H p G1 _ R e1 fun H1 R1 ev1=>?_
 cases p with
 | false=>exact (if_neg AU).mpr (hb C w G1 σ H1 s Γ' Q R1 (by simpa using e) fun H2 R2 ev2=>k H2 R2 (ev1.trans ev2))
 | true =>
  have e':(true,G1)=(s,Γ'):=by simpa using e
  cases e'
  exact (if_pos rfl).mpr (k H1 R1 ev1)
theorem zLg{ta:TT}{fa:DT}(ha:SimT K ta fa):SimT K (tNot ta) (dNot fa):=by
 intro C w Γ σ H s Γ' Q R e k
 obtain⟨p,e1,e⟩:=bind_some e
 cases e
 exact ha C w Γ σ H p.1 p.2 _ R e1 fun H1 R1 ev1=>k H1 R1 ev1
theorem zJ8{ta tb:TE}{fa fb:DE}(ha:SimE K ta fa)(hb:SimE K tb fb):SimE K (tAndV ta tb) (dAndV fa fb):=by
 intro C w Γ σ H s Γ' Q R e k
 obtain⟨⟨p,G1⟩,e1,e⟩:=bind_some e
 refine (zFw ha) C w Γ σ H p G1 (fun c H1=>if c=true then tb σ H1 Q else Q (.bl false) H1) R e1 fun H1 R1 ev1=>?_
 cases p with
 | true=>exact (if_pos rfl).mpr (hb C w G1 σ H1 s Γ' Q R1 (by simpa using e) fun v H2 R2 ev2 o n=>k v H2 R2 (ev1.trans ev2) o (n.back ev1 R1.lst))
 | false =>
  have e':(S.v (.a (.bl false)),G1)=(s,Γ'):=by simpa using e
  cases e'
  exact (if_neg AU).mpr (k _ H1 R1 ev1 SOk.atom trivial)
theorem zLw{tc:TT}{ta tb:TE}{fc:DT}{fa fb:DE}(hc:SimT K tc fc)(ha:SimE K ta fa)(hb:SimE K tb fb):SimE K (tIf tc ta tb) (dIfE fc fa fb):=by
 intro C w Γ σ H s Γ' Q R e k
 obtain⟨⟨p,G1⟩,e1,e⟩:=bind_some e
 refine hc C w Γ σ H p G1 _ R e1 fun H1 R1 ev1=>?_
 cases p with
 | true=>exact (if_pos rfl).mpr (ha C w G1 σ H1 s Γ' Q R1 (by simpa using e) fun v H2 R2 ev2 o n=>k v H2 R2 (ev1.trans ev2) o (n.back ev1 R1.lst))
 | false=>exact (if_neg AU).mpr (hb C w G1 σ H1 s Γ' Q R1 (by simpa using e) fun v H2 R2 ev2 o n=>k v H2 R2 (ev1.trans ev2) o (n.back ev1 R1.lst))
theorem zIX{r r':R2}{h h':En->S->S->Option S}{ta tb tc:TE}{fa fb fc:DE}(hr:SimR2 K r h)(hr':SimR2 K r' h')(ha:SimE K ta fa)(hb:SimE K tb fb)(hc:SimE K tc fc):SimE K (tChain r r' ta tb tc) (dChain h h' fa fb fc):=by
 intro C w Γ σ H s Γ' Q R e k
 obtain⟨⟨p,G1⟩,e1,e⟩:=bind_some e
 obtain⟨⟨q,G2⟩,e2,e⟩:=bind_some e
 obtain⟨z,e3,e⟩:=bind_some e
 dsimp only at e3 e
 refine ha C w Γ σ H p G1 _ R e1 fun v1 H1 R1 ev1 o1 n1=>?_
 refine hb C w G1 σ H1 q G2 _ R1 e2 fun v2 H2 R2 ev2 o2 n2=>?_
 refine hr C w G2 σ H2 v1 v2 _ _ _ _ R2 (o1.evo ev2 R1.lst) o2 e3 fun v H3 R3 ev3 o3 n3=>?_
 split at e
 ·rename_i c
  refine⟨c,SOk.inva o3,?_⟩
  cases c with
  | true =>
   rw[if_pos rfl]at e ⊢
   obtain⟨⟨u,G3⟩,e4,e⟩:=bind_some e
   obtain⟨z,e5,e⟩:=zAE e
   cases e
   refine hc C w G2 σ H3 u G3 _ R3 e4 fun v4 H4 R4 ev4 o4 _=>?_
   exact hr' C w G3 σ H4 v2 v4 _ _ _ Q R4 ((o2.evo ev3 R2.lst).evo ev4 R3.lst) o4 e5 fun v H5 R5 ev5 o5 n5=>k v H5 R5 ((((ev1.trans ev2).trans ev3).trans ev4).trans ev5) o5 (n5.back (((ev1.trans ev2).trans ev3).trans ev4) R4.lst)
  | false =>
   rw[if_neg AU]at e ⊢
   cases e
   exact k _ H3 R3 ((ev1.trans ev2).trans ev3) SOk.atom trivial
 ·cases e
end
noncomputable def dNext:DS:=fun Γ=>some (.nx Γ)
noncomputable def dSeq (f g:DS):DS:=fun Γ=>(f Γ).bind fun o=>match o with
 | .nx Γ'=>g Γ'
 | o=>some o
noncomputable def dDrop (f:DE):DS:=fun Γ=>(f Γ).map fun p=>.nx p.2
noncomputable def dRet (f:DE):DS:=fun Γ=>(f Γ).map fun p=>.rt p.1 p.2
noncomputable def dIf (c:DT) (f g:DS):DS:=fun Γ=>(c Γ).bind fun p=>if p.1=true then f p.2 else g p.2
noncomputable def setS (i:Nat) (s:S) (Γ:En):Option En:=match s with
 | .v t=>some (Γ.set i (some (.v t)))
 | .l xs=>some (Γ.set i (some (.l xs)))
 | .d xs=>some (Γ.set i (some (.d xs)))
 | .s j=>match Γ[j]? with
  | some (some (.r xs))=>some (Γ.set i (some (.r xs)))
  | _=>none
noncomputable def dSet (i:Nat) (f:DE):DS:=fun Γ=>(f Γ).bind fun p=>(setS i p.1 p.2).map .nx
noncomputable def dWhile (c:DT) (b:DS):Nat->DS
 | 0=>fun _=>none
 | n+1=>fun Γ=>(c Γ).bind fun p=>if p.1=true then (b p.2).bind fun o=>match o with
   | .nx Γ'=>dWhile c b n Γ'
   | .ct Γ'=>dWhile c b n Γ'
   | .bk Γ'=>some (.nx Γ')
   | .rt s Γ'=>some (.rt s Γ')
  else some (.nx p.2)
section
variable {K:Fg}{ip:Option Nat}
theorem zI0:SimS K ip tNext dNext:=fun C w Γ σ H D o _ R e k=>by cases e; exact k w σ H R
theorem zK8{t u:TS}{f g:DS}(h1:SimS K ip t f)(h2:SimS K ip u g):SimS K ip (tSeq t u) (dSeq f g):=by
 intro C w Γ σ H D o hp R e k
 obtain⟨o1,e1,e⟩:=bind_some e
 refine h1 C w Γ σ H _ o1 hp R e1 ?_
 cases o1 with
 | nx Γ1=>exact fun w' σ' H' R'=>h2 C w' Γ1 σ' H' D o hp R' e k
 | rt s Γ1=>cases e; exact k
 | bk Γ1=>cases e; exact k
 | ct Γ1=>cases e; exact k
theorem zIW{te:TE}{f:DE}(h:SimE K te f):SimS K ip (tDrop te) (dDrop f):=by
 intro C w Γ σ H D o hp R e k
 obtain⟨p,e1,e⟩:=zAE e
 subst e
 exact h C w Γ σ H p.1 p.2 _ R e1 fun v H1 R1 _ _ _=>k w σ H1 R1
theorem zLA{te:TE}{f:DE}(h:SimE K te f):SimS K ip (tRet te) (dRet f):=by
 intro C w Γ σ H D o hp R e k
 obtain⟨p,e1,e⟩:=zAE e
 subst e
 exact h C w Γ σ H p.1 p.2 _ R e1 fun v H1 R1 _ o _=>k w σ H1 v R1 o
theorem zMf{tc:TT}{t u:TS}{c:DT}{f g:DS}(hc:SimT K tc c)(h1:SimS K ip t f)(h2:SimS K ip u g):SimS K ip (tIfS tc t u) (dIf c f g):=by
 intro C w Γ σ H D o hp R e k
 obtain⟨⟨p,G1⟩,e1,e⟩:=bind_some e
 refine hc C w Γ σ H p G1 _ R e1 fun H1 R1 _=>?_
 cases p with
 | true=>exact (if_pos rfl).mpr (h1 C w G1 σ H1 D o hp R1 (by simpa using e) k)
 | false=>exact (if_neg AU).mpr (h2 C w G1 σ H1 D o hp R1 (by simpa using e) k)
theorem zA3{C:Fr}{i:Nat}(hp:C.pins.map (·.1)=ip.toList)(hi:ip≠some i):∀ q∈C.pins,q.1≠i:=fun q hq e=>by
 have:q.1∈ip.toList:=hp ▸ C0.mpr ⟨q,hq,rfl⟩
 rw[D9]at this
 exact hi (by rw[this,e])
theorem zD1{C:Fr}{w:W}{Γ Γ':En}{σ:St}{H:Hp}{v:V}{s:S}{i:Nat}(R:Rep K C w Γ σ H)(o:SOk K C w σ H v s)(e:setS i s Γ=some Γ')(hn:∀ q∈C.pins,q.1≠i):∃ w',Rep K C w' Γ' (σ.set i (some v)) H:=by
 cases s with
 | v t=>cases e; exact⟨w,R.setv rfl o hn⟩
 | d xs =>
  cases e
  obtain⟨p,vs,rfl,n1,n2,ow,h1,h2⟩:=o
  exact⟨_,R.setd n1 n2 ow h1 h2 hn⟩
 | l xs =>
  cases e
  obtain⟨p,vs,rfl,n1,n2,ow,h1,h2⟩:=o
  exact⟨_,R.setl n1 n2 ow h1 h2 hn⟩
 | s j =>
  unfold setS at e
  dsimp only at e
  split at e
  ·rename_i xs he
   cases e
   obtain⟨v',e1,e2⟩:=R.val j _ he
   have o':σ[j]?=some (some v):=o
   rw[o']at e1; cases e1
   exact⟨w,R.setv rfl e2 hn⟩
  ·cases e
theorem zFe{te:TE}{f:DE}{i:Nat}(h:SimE K te f)(hi:ip≠some i):SimS K ip (tAsg te (gName i)) (dSet i f):=by
 intro C w Γ σ H D o hp R e k
 obtain⟨p,e1,e⟩:=bind_some e
 obtain⟨Γ1,e2,e⟩:=zAE e
 subst e
 refine h C w Γ σ H p.1 p.2 _ R e1 fun v H1 R1 _ o1 _=>?_
 obtain⟨w',R'⟩:=zD1 R1 o1 e2 (zA3 hp hi)
 exact k w' _ H1 R'
theorem zIK{tc:TT}{tb:TS}{c:DT}{b:DS}(n:Nat)(hc:SimT K tc c)(hb:SimS K ip tb b):SimS K ip (tWhile tc tb) (dWhile c b n):=by
 intro C w Γ σ H D o hp R e k
 refine⟨fun m σ H=>∃ w Γ,Rep K C w Γ σ H/\dWhile c b m Γ=some o,⟨n,w,Γ,R,e⟩,?_⟩
 rintro m σ1 H1 ⟨w1,Γ1,R1,e1⟩
 cases m with
 | zero=>cases e1
 | succ m =>
  unfold dWhile at e1
  obtain⟨⟨p,G2⟩,e2,e1⟩:=bind_some e1
  refine hc C w1 Γ1 σ1 H1 p G2 _ R1 e2 fun H2 R2 _=>?_
  cases p with
  | false =>
   rw[if_neg AU]at e1 ⊢
   cases e1
   exact k w1 σ1 H2 R2
  | true =>
   rw[if_pos rfl]at e1 ⊢
   obtain⟨o2,e3,e1⟩:=bind_some e1
   refine⟨fun σ' H'=>∃ w Γ,Rep K C w Γ σ' H'/\dWhile c b m Γ=some o,fun σ' H' ⟨w',Γ',R',e'⟩=>⟨m,CY _,w',Γ',R',e'⟩,?_⟩
   refine hb C w1 G2 σ1 H2 _ o2 hp R2 e3 ?_
   cases o2 with
   | nx Γ'=>exact fun w' σ' H' R'=>⟨w',Γ',R',e1⟩
   | ct Γ'=>exact fun w' σ' H' R'=>⟨w',Γ',R',e1⟩
   | bk Γ'=>cases e1; exact k
   | rt s Γ'=>cases e1; exact k
end
section
variable {K:Fg}{C:Fr}{w:W}{Γ Γ':En}{σ:St}{H H':Hp}
theorem Rep.base(R:Rep K C w Γ σ H):Rep K ⟨H,w.L,C.pins⟩ w Γ σ H :=
 ⟨R.len,R.val,R.apart,R.lst,fun p hp=>.inl hp,R.ra,R.rl,fun b o h _=>h,R.pin⟩
theorem Rep.back{C1:Fr}{w1:W}{Γ1:En}{σ1:St}{H1:Hp}(R:Rep K C w Γ σ H)(hC:C1=⟨H,w.L,C.pins⟩)(R1:Rep K C1 w1 Γ1 σ1 H1):Rep K C w1 Γ1 σ1 H1:=by
 subst hC
 refine⟨R1.len,R1.val,R1.apart,R1.lst,fun p hp=>?_,R1.ra,R1.rl,fun b o h n=>R1.frame b o (R.frame b o h n) fun z=>?_,R1.pin⟩
 ·rcases R1.own p hp with z | z
  ·exact R.own p z
  ·exact (R.fresh z).2.2
 ·rcases R.own b z with q | q
  ·exact n q
  ·rw[q]at h; cases h
theorem Ow.back{C1:Fr}{p:Addr}(R:Rep K C w Γ σ H)(hC:C1=⟨H,w.L,C.pins⟩)(h:Ow C1 p):Ow C p:=by
 subst hC
 rcases h with z | z
 ·exact R.own p z
 ·exact (R.fresh z).2.2
theorem SOk.back{C1:Fr}{w1:W}{σ1:St}{H1:Hp}{v:V}{s:S}(R:Rep K C w Γ σ H)(hC:C1=⟨H,w.L,C.pins⟩)(o:SOk K C1 w1 σ1 H1 v s):SOk K C w1 σ1 H1 v s:=by
 cases s with
 | v t=>exact o
 | s i=>exact o
 | l xs =>
  obtain⟨p,vs,e,n1,n2,ow,h1,h2⟩:=o
  exact⟨p,vs,e,n1,n2,Ow.back R hC ow,h1,h2⟩
 | d xs =>
  obtain⟨p,vs,e,n1,n2,ow,h1,h2⟩:=o
  exact⟨p,vs,e,n1,n2,Ow.back R hC ow,h1,h2⟩
theorem Rep.freeze{i:Nat}{xs:List T}{p:Addr}(R:Rep K C w Γ σ H)(hi:Γ[i]?=some (some (.l xs)))(hp:σ[i]?=some (some (.ref p)))(hn:∀ q∈C.pins,q.1≠i) :
  Rep K C ⟨w.L.filter (fun q=>decide (q≠p)),fun q=>q=p\/w.R q⟩ (Γ.set i (some (.r xs))) σ H:=by
 have hiΓ:i < Γ.length:=(Ac.mp hi).1
 obtain⟨v0,e0,q0,vs0,rfl,hq0,hv0,hi0⟩:=R.val i _ hi
 rw[hp]at e0; cases e0
 have mem:∀ {q:Addr},q∈w.L.filter (fun q=>decide (q≠p)) ↔ q∈w.L/\q≠p:=by intro q; simp
 have back:∀ (m:Nat) (g:G),isMut g=true->(Γ.set i (some (.r xs)))[m]?=some (some g)->m≠i/\Γ[m]?=some (some g):=fun m g mg h=>by
  by_cases hm:m=i
  ·subst hm; rw[Ar hiΓ]at h; cases h; cases mg
  ·rw[AW (Az hm)]at h; exact⟨hm,h⟩
 refine⟨by simpa using R.len,fun j g h=>?_,fun j k c ga gb ma mb h1 h2 h3 h4=>?_,fun c hc=>R.lst c (mem.mp hc).1,fun c hc=>R.own c (mem.mp hc).1,fun c hc=>?_,fun c hc z=>?_,R.frame,fun q hq=>?_⟩
 ·by_cases hj:j=i
  ·subst hj
   rw[Ar hiΓ]at h
   cases h
   exact⟨_,hp,p,vs0,rfl,hi0,hv0,fun z=>(mem.mp z).2 rfl,.inl rfl⟩
  ·rw[AW (Az hj)]at h
   obtain⟨v,e1,e2⟩:=R.val j g h
   refine⟨v,e1,?_⟩
   cases g with
   | v t=>exact e2
   | l ys =>
    obtain⟨c,us,rfl,hc,h1,h2⟩:=e2
    exact⟨c,us,rfl,mem.mpr ⟨hc,fun z=>hj (R.apart j i p _ _ rfl rfl h hi (z ▸ e1) hp)⟩,h1,h2⟩
   | d ys =>
    obtain⟨c,us,rfl,hc,h1,h2⟩:=e2
    exact⟨c,us,rfl,mem.mpr ⟨hc,fun z=>hj (R.apart j i p _ _ rfl rfl h hi (z ▸ e1) hp)⟩,h1,h2⟩
   | r ys =>
    obtain⟨c,us,rfl,h1,h2⟩:=e2
    exact⟨c,us,rfl,h1,h2.1,fun z=>h2.2.1 (mem.mp z).1,.inr h2.2.2⟩
   | e ys =>
    obtain⟨c,us,rfl,h1,h2⟩:=e2
    exact⟨c,us,rfl,h1,h2.1,fun z=>h2.2.1 (mem.mp z).1,.inr h2.2.2⟩
   | k ys=>exact e2
 ·obtain⟨_,g1⟩:=back j ga ma h1
  obtain⟨_,g2⟩:=back k gb mb h2
  exact R.apart j k c ga gb ma mb g1 g2 h3 h4
 ·rcases hc with e | e
  ·subst e; exact⟨_,hv0⟩
  ·exact R.ra c e
 ·rcases hc with e | e
  ·exact (mem.mp z).2 e
  ·exact R.rl c e (mem.mp z).1
 ·obtain⟨h1,zs,h2⟩:=R.pin q hq
  exact⟨h1,zs,by rw[AW (Az (hn q hq))]; exact h2⟩
noncomputable def frz1 (Γ:En) (i:Nat):En:=match Γ[i]? with
 | some (some (.l xs))=>Γ.set i (some (.r xs))
 | _=>Γ
noncomputable def frz (Γ:En) (src:List Nat):En:=src.foldl frz1 Γ
theorem Rep.frz:∀ (src:List Nat) {w:W} {Γ:En},Rep K C w Γ σ H->(∀ i∈src,∀ q∈C.pins,q.1≠i) ->
  ∃ w',Rep K C w' (frz Γ src) σ H/\(∀ p∈w'.L,p∈w.L)/\∀ i∈src,∀ p,σ[i]?=some (some (.ref p))->(∃ xs,Γ[i]?=some (some (.l xs)))->p∉w'.L:=by
 intro src
 induction src with
 | nil=>intro w Γ R _; exact⟨w,R,fun p h=>h,fun i hi=>nomatch hi⟩
 | cons i r ih =>
  intro w Γ R hn
  have step:∃ w1,Rep K C w1 (frz1 Γ i) σ H/\(∀ p∈w1.L,p∈w.L)/\(∀ p,σ[i]?=some (some (.ref p))->(∃ xs,Γ[i]?=some (some (.l xs)))->p∉w1.L):=by
   unfold frz1
   split
   ·rename_i xs e
    obtain⟨v,e1,p,vs,rfl,_⟩:=R.val i _ e
    refine⟨_,R.freeze e e1 (hn i AQ),fun q hq=>(Dm.mp hq).1,fun q hq _ z=>?_⟩
    rw[e1]at hq; cases hq
    have:=(Dm.mp z).2
    simp at this
   ·rename_i e
    exact⟨w,R,fun p h=>h,fun p _ ⟨xs,h⟩=>absurd h (e xs)⟩
  obtain⟨w1,R1,s1,n1⟩:=step
  obtain⟨w2,R2,s2,n2⟩:=ih R1 (fun j hj=>hn j (AK _ hj))
  refine⟨w2,R2,fun p h=>s1 p (s2 p h),fun j hj p hp hx=>?_⟩
  rcases AO.mp hj with e | e
  ·subst e; exact fun z=>n1 p hp hx (s2 p z)
  ·by_cases hji:j=i
   ·subst hji; exact fun z=>n1 p hp hx (s2 p z)
   ·refine n2 j e p hp ?_
    obtain⟨xs,hx⟩:=hx
    refine⟨xs,?_⟩
    unfold frz1
    split
    ·rw[AW (Az hji)]; exact hx
    ·exact hx
end
abbrev DI:=En->Option ((List T×List Nat)×En)
def ItOk (K:Fg) (w:W) (Γ:En) (σ:St) (J:It) (H:Hp) (its:List T) (src:List Nat):Prop:=its.length<=AE/\∀ L',(∀ p∈L',p∈w.L)->(∀ i∈src,∀ p,σ[i]?=some (some (.ref p))->(∃ xs,Γ[i]?=some (some (.l xs)))->p∉L')->∀ H2,Evo L' H H2 ->
 (∀ (i:Nat) t,its[i]?=some t->J.go i H2/\∀ x H3,J.yld i H2 x H3->(∀ b o,H2 b=some o->H3 b=some o)/\Im K H3 x t)/\J.stop its.length H2
def SimI (K:Fg) (wi:TI) (di:DI):Prop:=∀ (C:Fr) (w:W) (Γ:En) (σ:St) (H:Hp) (its:List T) (src:List Nat) (Γ':En) (R:It->Hp->Prop),Rep K C w Γ σ H->di Γ=some ((its,src),Γ') ->
 (∀ J H',Rep K C w Γ' σ H'->Evo w.L H H'->ItOk K w Γ' σ J H' its src->R J H')->wi σ H R
def SimG (K:Fg) (ip:Option Nat) (g:TG) (tg:En->T->Option En):Prop:=∀ (C:Fr) (w:W) (Γ:En) (σ:St) (H:Hp) (v:V) (t:T) (Γ':En) (Q:St->Hp->Prop),C.pins.map (·.1)=ip.toList->Rep K C w Γ σ H->Im K H v t->tg Γ t=some Γ' ->
 (∀ σ',Rep K C w Γ' σ' H->Q σ' H)->g v σ H Q
def SimGs (K:Fg) (ip:Option Nat) (g:TGs) (tg:En->List T->Option En):Prop:=∀ (C:Fr) (w:W) (Γ:En) (σ:St) (H:Hp) (vs:List V) (ts:List T) (Γ':En) (Q:St->Hp->Prop),C.pins.map (·.1)=ip.toList->Rep K C w Γ σ H->Ims K H vs ts->tg Γ ts=some Γ' ->
 (∀ σ',Rep K C w Γ' σ' H->Q σ' H)->g vs σ H Q
noncomputable def gdName (i:Nat):En->T->Option En:=fun Γ t=>some (Γ.set i (some (.v t)))
noncomputable def gdNil:En->List T->Option En:=fun Γ ts=>match ts with
 | []=>some Γ
 | _=>none
noncomputable def gdCons (f:En->T->Option En) (g:En->List T->Option En):En->List T->Option En:=fun Γ ts=>match ts with
 | []=>none
 | t::r=>(f Γ t).bind fun Γ1=>g Γ1 r
noncomputable def gdTup (n:Nat) (g:En->List T->Option En):En->T->Option En:=fun Γ t=>match t with
 | .t ts=>if ts.length=n then g Γ ts else none
 | _=>none
section
variable {K:Fg}{ip:Option Nat}
theorem zJk{i:Nat}(hi:ip≠some i):SimG K ip (gName i) (gdName i):=by
 intro C w Γ σ H v t Γ' Q hp R h e k
 cases e
 exact k _ (R.setv rfl h (zA3 hp hi))
theorem zIy:SimGs K ip gNil gdNil:=by
 intro C w Γ σ H vs ts Γ' Q hp R h e k
 cases ts with
 | nil=>cases e; exact⟨h.inv0,k σ R⟩
 | cons t r=>cases e
theorem zHT{g:TG}{gs:TGs}{f:En->T->Option En}{fs:En->List T->Option En}(h1:SimG K ip g f)(h2:SimGs K ip gs fs):SimGs K ip (gCons g gs) (gdCons f fs):=by
 intro C w Γ σ H vs ts Γ' Q hp R h e k
 cases ts with
 | nil=>cases e
 | cons t r =>
  obtain⟨Γ1,e1,e2⟩:=bind_some e
  obtain⟨v,us,rfl,i1,i2⟩:=h.inv
  exact⟨v,us,rfl,h1 C w Γ σ H v t Γ1 _ hp R i1 e1 fun σ1 R1=>h2 C w Γ1 σ1 H us r Γ' Q hp R1 i2 e2 k⟩
theorem zKV{n:Nat}{gs:TGs}{fs:En->List T->Option En}(h:SimGs K ip gs fs):SimG K ip (gTup K n gs) (gdTup n fs):=by
 intro C w Γ σ H v t Γ' Q hp R hi e k
 cases t with
 | a u=>cases e
 | l u=>cases e
 | f u=>cases e
 | x u v=>cases e
 | t ts =>
  unfold gdTup at e
  dsimp only at e
  split at e
  ·rename_i hn
   obtain⟨p,us,rfl,h1,h2⟩:=hi.inv
   exact⟨p,us,rfl,h1.sq,by rw[h2.len]; exact hn,h C w Γ σ H us ts Γ' Q hp R h2 e k⟩
  ·cases e
end
noncomputable def forD (tg:En->T->Option En) (b:DS):List T->DS
 | []=>fun Γ=>some (.nx Γ)
 | t::r=>fun Γ=>(tg Γ t).bind fun Γ1=>(b Γ1).bind fun o=>match o with
  | .nx Γ'=>forD tg b r Γ'
  | .ct Γ'=>forD tg b r Γ'
  | .bk Γ'=>some (.nx Γ')
  | .rt s Γ'=>some (.rt s Γ')
noncomputable def dFor (ip:Option Nat) (di:DI) (tg:En->T->Option En) (b:DS):DS:=fun Γ=>(di Γ).bind fun p=>if p.1.2.all (fun i=>decide (ip≠some i))=true then forD tg b p.1.1 (frz p.2 p.1.2) else none
theorem zKB{K:Fg}{ip:Option Nat}{wi:TI}{g:TG}{tb:TS}{di:DI}{tg:En->T->Option En}{b:DS}(hi:SimI K wi di)(hg:SimG K ip g tg)(hb:SimS K ip tb b):SimS K ip (tFor wi g tb) (dFor ip di tg b):=by
 intro C w Γ σ H D o hp R e k
 obtain⟨⟨⟨its,src⟩,Γ1⟩,e1,e⟩:=bind_some e
 dsimp only at e
 split at e
 rotate_left
 ·cases e
 rename_i hsrc
 refine hi C w Γ σ H its src Γ1 _ R e1 fun J H1 R1 _ ⟨hl,hJ⟩=>?_
 have hs:∀ i∈src,∀ q∈C.pins,q.1≠i:=fun i hi'=>zA3 hp (by have:=Ax.mp hsrc i hi'; simpa using this)
 obtain⟨w2,R2,sub,avoid⟩:=R1.frz src hs
 have hC:∃ C1:Fr,C1=⟨H1,w2.L,C.pins⟩:=⟨_,rfl⟩
 obtain⟨C1,hC⟩:=hC
 have R3:Rep K C1 w2 (frz Γ1 src) σ H1:=hC ▸ R2.base
 have hp1:C1.pins.map (·.1)=ip.toList:=by rw[hC]; exact hp
 refine⟨fun i m σ H=>m=its.length - i/\i<=its.length/\∃ w Γ,Rep K C1 w Γ σ H/\forD tg b (its.drop i) Γ=some o,⟨_,rfl,DG _,w2,_,R3,e⟩,?_⟩
 rintro i m σ' H' ⟨rfl,hi',w',Γ',R',e'⟩
 have ev:Evo w2.L H1 H':=fun b o h n=>R'.frame b o (by rw[hC]; exact h) (by rw[hC]; exact n)
 obtain⟨go,stop⟩:=hJ w2.L sub avoid H' ev
 by_cases hlt:i < its.length
 ·obtain⟨t,ht⟩:∃ t,its[i]?=some t:=⟨its[i],by simp[hlt]⟩
  have hd:its.drop i=t::its.drop (i+1):=by
   obtain⟨h1,h2⟩:=Ac.mp ht
   rw[← h2]; exact Gb h1
  rw[hd]at e'
  unfold forD at e'
  obtain⟨Γ2,e2,e'⟩:=bind_some e'
  obtain⟨o2,e3,e'⟩:=bind_some e'
  obtain⟨g1,g2⟩:=go i t ht
  refine .inr ⟨g1,fun σ H=>∃ w Γ,Rep K C1 w Γ σ H/\forD tg b (its.drop (i+1)) Γ=some o,fun σ2 H2 ⟨w2,Γ2,R2,e2⟩=>⟨_,by omega,rfl,hlt,w2,Γ2,R2,e2⟩,fun x H3 hx=>?_⟩
  obtain⟨k1,k2⟩:=g2 x H3 hx
  refine hg C1 w' Γ' σ' H3 x t Γ2 _ hp1 (R'.evo0 k1) k2 e2 fun σ4 R4=>?_
  refine hb C1 w' Γ2 σ4 H3 _ o2 hp1 R4 e3 ?_
  cases o2 with
  | nx Γ5=>exact fun w5 σ5 H5 R5=>⟨w5,Γ5,R5,e'⟩
  | ct Γ5=>exact fun w5 σ5 H5 R5=>⟨w5,Γ5,R5,e'⟩
  | bk Γ5=>cases e'; exact fun w5 σ5 H5 R5=>k w5 σ5 H5 (R2.back hC R5)
  | rt s Γ5=>cases e'; exact fun w5 σ5 H5 v R5 o5=>k w5 σ5 H5 v (R2.back hC R5) (o5.back R2 hC)
 ·have:i=its.length:=by omega
  subst this
  rw[IU]at e'
  cases e'
  exact .inl ⟨stop,k w' σ' H' (R2.back hC R')⟩
noncomputable def pick1 (mu:Option Nat) (k:Nat):Option G->Option G
 | some (.l xs)=>if mu=some k then some (.l xs) else some (.r xs)
 | some (.d xs)=>some (.e xs)
 | o=>o
noncomputable def pick (mu:Option Nat) (ix:List (Option Nat)) (Γ:En):En:=ix.map fun o=>o.bind fun k=>pick1 mu k (Γ[k]?).join
noncomputable def compD (tg:En->T->Option En) (dc:DT) (de:DE):List T->En->Option (List T×En)
 | [],Γ=>some ([],Γ)
 | t::r,Γ=>(tg Γ t).bind fun Γ1=>(dc Γ1).bind fun p=>if p.1=true then (de p.2).bind fun q=>q.1.tree.bind fun t'=>(compD tg dc de r q.2).map fun z=>(t'::z.1,z.2) else compD tg dc de r p.2
noncomputable def cback (mu:Option (Nat×Nat)) (Γ Γo:En):En:=match mu with
 | none=>Γ
 | some (j,i)=>match Γo[j]? with
  | some (some (.l xs))=>Γ.set i (some (.l xs))
  | _=>Γ
noncomputable def dComp (mu:Option (Nat×Nat)) (ix:List (Option Nat)) (di:DI) (tg:En->T->Option En) (dc:DT) (de:DE):DE:=fun Γ=>(di Γ).bind fun p =>
 match mu with
 | none=>(compD tg dc de p.1.1 (pick none ix p.2)).map fun z=>(.l z.1,p.2)
 | some (j,i)=>if i∈p.1.2 then none else match p.2[i]? with
  | some (some (.l _))=>(compD tg dc de p.1.1 (pick (some i) ix p.2)).map fun z=>(.l z.1,cback mu p.2 z.2)
  | _=>none
section
variable {K:Fg}
theorem zDc{C1:Fr}{w1:W}{J:It}{H1:Hp}{its:List T}{ix:List (Option Nat)}{g:TG}{tc:TT}{te:TE}{tg:En->T->Option En}{dc:DT}{de:DE}{jp:Option Nat}{σ:St}{Γ0 Γe:En}{ts:List T}{Q:VK}
  (hp:C1.pins.map (·.1)=jp.toList) (hg:SimG K jp g tg) (hc:SimT K tc dc) (he:SimE K te de) (hl:its.length<=AE) (hC:C1.H0=H1)
  (hJ:∀ H2,Evo C1.fx H1 H2->(∀ (i:Nat) t,its[i]?=some t->J.go i H2/\∀ x H3,J.yld i H2 x H3->(∀ b o,H2 b=some o->H3 b=some o)/\Im K H3 x t)/\J.stop its.length H2)
  (hfx:∀ p,p∈w1.L->p∈C1.fx)
  (R:Rep K C1 w1 Γ0 (frm ix σ) H1) (e:compD tg dc de its Γ0=some (ts,Γe))
  (k:∀ σ' H' ys,Rep K C1 w1 Γe σ' H'->Ims K H' ys ts->ys.length<=AE->∀ D,H' D=none->Q (.ref D) (upd H' D (.lst ys))):CompW J ix g tc te σ H1 Q:=by
 refine⟨fun i m ys σ' H'=>m=its.length - i/\i<=its.length/\ys.length<=i/\∃ Γ pre post,Rep K C1 w1 Γ σ' H'/\Ims K H' ys pre/\compD tg dc de (its.drop i) Γ=some (post,Γe)/\ts=pre++post,⟨_,rfl,DG _,DG _,Γ0,[],ts,R,.nil,e,rfl⟩,?_⟩
 rintro i m ys σ' H' ⟨rfl,hi,hy,Γ,pre,post,R',hpre,e',rfl⟩
 have ev:Evo C1.fx H1 H':=fun b o h n=>R'.frame b o (by rw[hC]; exact h) n
 obtain⟨go,stop⟩:=hJ H' ev
 by_cases hlt:i < its.length
 ·obtain⟨t,ht⟩:∃ t,its[i]?=some t:=⟨its[i],by simp[hlt]⟩
  have hd:its.drop i=t::its.drop (i+1):=by
   obtain⟨h1,h2⟩:=Ac.mp ht
   rw[← h2]; exact Gb h1
  rw[hd]at e'
  unfold compD at e'
  obtain⟨Γ1,e1,e'⟩:=bind_some e'
  obtain⟨⟨b,Γ2⟩,e2,e'⟩:=bind_some e'
  obtain⟨g1,g2⟩:=go i t ht
  refine .inr ⟨g1,by omega,fun ys' σ2 H2=>ys'.length<=i+1/\∃ Γ pre' post',Rep K C1 w1 Γ σ2 H2/\Ims K H2 ys' pre'/\compD tg dc de (its.drop (i+1)) Γ=some (post',Γe)/\pre++post=pre'++post',fun ys' σ2 H2 ⟨a,b⟩=>⟨_,by omega,rfl,hlt,a,b⟩,fun x H2 hx=>?_⟩
  obtain⟨k1,k2⟩:=g2 x H2 hx
  have ev1:Evo w1.L H' H2:=fun b o h _=>k1 b o h
  have R2:=R'.evo0 k1
  refine hg C1 w1 Γ σ' H2 x t Γ1 _ hp R2 k2 e1 fun σ3 R3=>?_
  refine hc C1 w1 Γ1 σ3 H2 b Γ2 _ R3 e2 fun H4 R4 ev4=>?_
  have hpre4:Ims K H4 ys pre:=(hpre.evo ev1 R'.lst).evo ev4 R3.lst
  cases b with
  | true =>
   rw[if_pos rfl]at e' ⊢
   obtain⟨⟨s,Γ3⟩,e3,e'⟩:=bind_some e'
   obtain⟨t',e4,e'⟩:=bind_some e'
   obtain⟨⟨ts',Γ4⟩,e5,e'⟩:=zAE e'
   cases e'
   refine he C1 w1 Γ2 σ3 H4 s Γ3 _ R4 e3 fun v H5 R5 ev5 o5 _=>?_
   cases s with
   | l _=>cases e4
   | s _=>cases e4
   | d _=>cases e4
   | v t'' =>
    cases e4
    exact⟨by simp; omega,Γ3,pre++[t'],ts',R5,(hpre4.evo ev5 R4.lst).app (.one o5),e5,by simp⟩
  | false =>
   rw[if_neg AU]at e' ⊢
   exact⟨by omega,Γ2,pre,post,R4,hpre4,e',rfl⟩
 ·have:i=its.length:=by omega
  subst this
  rw[IU]at e'
  cases e'
  rw[BY]at k
  exact .inl ⟨stop,by omega,k σ' H' ys R' hpre (by omega)⟩
theorem zCA{mu:Option Nat}{ix:List (Option Nat)}{Γ:En}{j:Nat}{g:G}(h:(pick mu ix Γ)[j]?=some (some g)):∃ k g',ix[j]?=some (some k)/\Γ[k]?=some (some g')/\pick1 mu k (some g')=some g:=by
 unfold pick at h
 rw[Ae]at h
 cases e:ix[j]? with
 | none=>rw[e]at h; cases h
 | some o =>
  rw[e]at h
  cases o with
  | none=>cases h
  | some k =>
   have h':pick1 mu k (Γ[k]?).join=some g:=As h
   cases e2:Γ[k]? with
   | none=>rw[e2]at h'; cases h'
   | some o2 =>
    cases o2 with
    | none=>rw[e2]at h'; cases h'
    | some g'=>rw[e2]at h'; exact⟨k,g',rfl,e2,h'⟩
theorem zD9{ix:List (Option Nat)}{σ:St}{j k:Nat}{v:V}(h:ix[j]?=some (some k))(hv:σ[k]?=some (some v)):(frm ix σ)[j]?=some (some v):=by
 unfold frm
 rw[Ae,h]
 show some ((σ[k]?).join)=_
 rw[hv]; rfl
theorem zGC{mu:Option (Nat×Nat)}{ix:List (Option Nat)}{wi:TI}{g:TG}{tc:TT}{te:TE}{di:DI}{tg:En->T->Option En}{dc:DT}{de:DE}(hi:SimI K wi di)(hg:SimG K (mu.map (·.1)) g tg)(hc:SimT K tc dc)(he:SimE K te de)
  (hmu:∀ j i,mu=some (j,i)->ix[j]?=some (some i)) (hix:∀ (j j' i:Nat),mu.map (·.2)=some i->ix[j]?=some (some i)->ix[j']?=some (some i)->j=j'):SimE K (tComp wi ix g tc te) (dComp mu ix di tg dc de):=by
 intro C w Γ σ H s Γ' Q R e k
 obtain⟨⟨⟨its,src⟩,Γ1⟩,e1,e⟩:=bind_some e
 refine hi C w Γ σ H its src Γ1 _ R e1 fun J H1 R1 ev1 ⟨hl,hJ⟩=>?_
 cases mu with
 | none =>
  obtain⟨⟨ts,Γe⟩,e2,e⟩:=zAE e
  cases e
  have Rin:Rep K ⟨H1,[],[]⟩ ⟨[],fun q=>w.R q\/q∈w.L⟩ (pick none ix Γ1) (frm ix σ) H1:=by
   refine⟨by simp[pick,frm],fun j g h=>?_,fun i j p ga gb ma mb h1 h2 h3 h4=>?_,fun p hp=>(nomatch hp),fun p hp=>(nomatch hp),fun p hp=>?_,fun p hp=>(nofun),fun b o h _=>h,fun q hq=>(nomatch hq)⟩
   ·obtain⟨k',g',a1,a2,a3⟩:=zCA h
    obtain⟨v,b1,b2⟩:=R1.val k' g' a2
    refine⟨v,zD9 a1 b1,?_⟩
    cases g' with
    | v t=>cases a3; exact b2
    | l xs =>
     have:g=.r xs:=by simpa [pick1] using a3.symm
     subst this
     obtain⟨p,vs,rfl,c1,c2,c3⟩:=b2
     exact⟨p,vs,rfl,c3,c2,nofun,.inr c1⟩
    | r xs =>
     cases a3
     obtain⟨p,vs,rfl,c1,c2⟩:=b2
     exact⟨p,vs,rfl,c1,c2.1,nofun,.inl c2.2.2⟩
    | d xs =>
     cases a3
     obtain⟨p,vs,rfl,c1,c2,c3⟩:=b2
     exact⟨p,vs,rfl,c3,c2,nofun,.inr c1⟩
    | e xs =>
     cases a3
     obtain⟨p,vs,rfl,c1,c2⟩:=b2
     exact⟨p,vs,rfl,c1,c2.1,nofun,.inl c2.2.2⟩
    | k xs=>cases a3; exact b2
   ·obtain⟨k',g',a1,a2,a3⟩:=zCA h1
    cases g' with
    | v t=>cases a3; cases ma
    | l xs =>
     have:ga=.r xs:=by simpa [pick1] using a3.symm
     subst this; cases ma
    | r xs=>cases a3; cases ma
    | k xs=>cases a3; cases ma
    | d xs=>cases a3; cases ma
    | e xs=>cases a3; cases ma
   ·rcases hp with z | z
    ·exact R1.ra p z
    ·obtain⟨o,z,_⟩:=R1.lst p z; exact⟨o,z⟩
  refine zDc (jp:=none) (C1:=⟨H1,[],[]⟩) rfl hg hc he hl rfl (fun H2 ev=>hJ [] (fun p hp=>nomatch hp) (fun _ _ _ _ _=>nofun) H2 ev) (fun p hp=>hp) Rin e2 fun σ' H' ys R' hy hz D hD=>?_
  have R2:Rep K C w Γ1 σ H':=R1.evo0 fun b o h=>R'.frame b o h nofun
  exact k _ _ (R2.new hD) ((ev1.trans fun b o h _=>R'.frame b o h nofun).trans (Evo.new hD)) (R2.newl hD hy) ⟨_,rfl,zAv (L:=w.L) (ev1.trans fun b o h _=>R'.frame b o h nofun) R2.lst hD⟩
 | some m =>
  obtain⟨j,i⟩:=m
  dsimp only at e
  split at e
  ·cases e
  rename_i hsrc
  split at e
  rotate_left
  ·cases e
  rename_i xs0 hx0
  obtain⟨⟨ts,Γe⟩,e2,e⟩:=zAE e
  cases e
  obtain⟨v0,s0,p,vs0,rfl,m0,h0,i0⟩:=R1.val i _ hx0
  have hij:=hmu j i rfl
  have Rin:Rep K ⟨H1,[p],[(j,p)]⟩ ⟨[p],fun q=>w.R q\/(q∈w.L/\q≠p)⟩ (pick (some i) ix Γ1) (frm ix σ) H1:=by
   refine⟨by simp[pick,frm],fun j' g h=>?_,fun i1 i2 p' ga gb ma mb h1 h2 h3 h4=>?_,fun q hq=>?_,fun q hq=>.inl hq,fun q hq=>?_,fun q hq z=>?_,fun b o h _=>h,fun q hq=>?_⟩
   ·obtain⟨k',g',a1,a2,a3⟩:=zCA h
    obtain⟨v,b1,b2⟩:=R1.val k' g' a2
    refine⟨v,zD9 a1 b1,?_⟩
    cases g' with
    | v t=>cases a3; exact b2
    | l xs =>
     obtain⟨p',vs,rfl,c1,c2,c3⟩:=b2
     by_cases hk:i=k'
     ·subst hk
      have:g=.l xs:=by simpa [pick1] using a3.symm
      subst this
      rw[s0]at b1; cases b1
      exact⟨p,vs,rfl,AF.mpr rfl,c2,c3⟩
     ·have:g=.r xs:=by simpa [pick1,hk] using a3.symm
      subst this
      have hne:p'≠p:=fun z=>hk (R1.apart i k' p _ _ rfl rfl hx0 a2 s0 (z ▸ b1))
      exact⟨p',vs,rfl,c3,c2,fun z=>hne (AF.mp z),.inr ⟨c1,hne⟩⟩
    | d xs =>
     cases a3
     obtain⟨p',o',rfl,c1,c2,c3⟩:=b2
     have hne:p'≠p:=fun z=>by
      subst z
      rw[h0]at c2; cases c2
      exact c3
     exact⟨p',o',rfl,c3,c2,fun z=>hne (AF.mp z),.inr ⟨c1,hne⟩⟩
    | r xs =>
     cases a3
     obtain⟨p',vs,rfl,c1,c2⟩:=b2
     exact⟨p',vs,rfl,c1,c2.1,fun z=>c2.2.1 (AF.mp z ▸ m0),.inl c2.2.2⟩
    | e xs =>
     cases a3
     obtain⟨p',vs,rfl,c1,c2⟩:=b2
     exact⟨p',vs,rfl,c1,c2.1,fun z=>c2.2.1 (AF.mp z ▸ m0),.inl c2.2.2⟩
    | k xs=>cases a3; exact b2
   ·have only:∀ (n:Nat) (gc:G),isMut gc=true->(pick (some i) ix Γ1)[n]?=some (some gc)->ix[n]?=some (some i):=fun n gc mc h=>by
     obtain⟨k',g',a1,a2,a3⟩:=zCA h
     cases g' with
     | v t=>cases a3; cases mc
     | l xs =>
      by_cases hk:i=k'
      ·subst hk; exact a1
      ·have:gc=.r xs:=by simpa [pick1,hk] using a3.symm
       subst this; cases mc
     | r xs=>cases a3; cases mc
     | k xs=>cases a3; cases mc
     | d xs=>cases a3; cases mc
     | e xs=>cases a3; cases mc
    exact hix i1 i2 i rfl (only i1 ga ma h1) (only i2 gb mb h2)
   ·rw[AF.mp hq]; exact⟨_,h0,trivial⟩
   ·rcases hq with z | z
    ·exact R1.ra q z
    ·obtain⟨o,z,_⟩:=R1.lst q z.1; exact⟨o,z⟩
   ·have e:=AF.mp z
    rcases hq with z | z
    ·exact R1.rl q z (e ▸ m0)
    ·exact z.2 e
   ·rw[AF.mp hq]
    refine⟨zD9 hij s0,xs0,?_⟩
    unfold pick
    rw[Ae,hij]
    show some (pick1 (some i) i (Γ1[i]?).join)=_
    rw[hx0]; simp[pick1,Option.join]
  have av:∀ i'∈src,∀ q,σ[i']?=some (some (.ref q))->(∃ xs,Γ1[i']?=some (some (.l xs)))->q∉[p]:=fun i' hi' q hq ⟨xs,hx⟩ z=>by
   rw[AF.mp z]at hq
   have:=R1.apart i i' p _ _ rfl rfl hx0 hx s0 hq
   subst this
   exact hsrc hi'
  refine zDc (jp:=some j) (C1:=⟨H1,[p],[(j,p)]⟩) rfl hg hc he hl rfl (fun H2 ev=>hJ [p] (fun q hq=>AF.mp hq ▸ m0) av H2 ev) (fun p hp=>hp) Rin e2 fun σ' H' ys R' hy hz D hD=>?_
  obtain⟨q1,xs',q2⟩:=R'.pin (j,p) (AF.mpr rfl)
  obtain⟨v',s',p',us',rfl,_,h',i'⟩:=R'.val j _ q2
  have s'':σ'[j]?=some (some (.ref p)):=q1
  rw[s'']at s'; cases s'
  have evp:Evo [p] H1 H':=fun b o h n=>R'.frame b o h n
  have R2:Rep K C w (Γ1.set i (some (.l xs'))) σ H':=(R1.put2 hx0 s0 evp h' i').1
  have eb:cback (some (j,i)) Γ1 Γe=Γ1.set i (some (.l xs')):=by unfold cback; dsimp only; rw[q2]
  rw[eb]at k
  exact k _ _ (R2.new hD) ((ev1.trans (evp.wide fun q hq=>AF.mp hq ▸ m0)).trans (Evo.new hD)) (R2.newl hD hy) ⟨_,rfl,zAv (L:=w.L) (ev1.trans (evp.wide fun q hq=>AF.mp hq ▸ m0)) R2.lst hD⟩
end
abbrev DF:=List G->Option (G×List T)
noncomputable def ROk (K:Fg) (H H':Hp) (v:V):G->Prop
 | .v t=>Im K H' v t
 | .l xs=>∃ p us,v=.ref p/\H p=none/\H' p=some (.lst us)/\Ims K H' us xs
 | .r _=>False
 | .k _=>False
 | .d kvs=>∃ p o,v=.ref p/\H p=none/\H' p=some o/\DOk K H' o kvs
 | .e _=>False
theorem zEH{K:Fg}{H:Hp}{vs:List V}{kvs:Dk}(h:DOk K H (.lst vs) kvs):False:=h
noncomputable def pinsG (ip:Option Nat) (vs:List V):List (Nat×Addr):=match ip with
 | none=>[]
 | some k=>match vs[k]? with
  | some (.ref p)=>[(k,p)]
  | _=>[]
noncomputable def spD (K:Fg) (ip:Option Nat) (n:Nat) (F:DF):Sp:=fun vs H Q _=>vs.length=n/\∃ (w:W) (gs:List G) (r:G) (ys:List T),F gs=some (r,ys)/\Rep K ⟨H,w.L,pinsG ip vs⟩ w (gs.map some) (vs.map some) H /\
 (pinsG ip vs).map (·.1)=ip.toList/\(∀ p∈w.L,p∈(pinsG ip vs).map (·.2)) /\
 ∀ v H',Evo w.L H H'->(∀ q∈pinsG ip vs,∃ us,H' q.2=some (.lst us)/\Ims K H' us ys)->ROk K H H' v r->Q v H'
noncomputable def outl (ip:Option Nat) (Γ:En):List T:=match ip with
 | none=>[]
 | some k=>match Γ[k]? with
  | some (some (.l xs))=>xs
  | _=>[]
noncomputable def resG (ip:Option Nat) (Γ:En):S->Option G
 | .v t=>some (.v t)
 | .l xs=>some (.l xs)
 | .s i=>if ip=some i then none else match Γ[i]? with
  | some (some (.l xs))=>some (.l xs)
  | some (some (.d xs))=>some (.d xs)
  | _=>none
 | .d xs=>some (.d xs)
noncomputable def fnD (ip:Option Nat) (np nN:Nat) (g:DS):DF:=fun gs=>if gs.length=np then (g (gs.map some++Ad (nN - np) none)).bind fun o=>match o with
  | .nx Γ=>some (.v (.a .non),outl ip Γ)
  | .rt s Γ=>(resG ip Γ s).map fun r=>(r,outl ip Γ)
  | _=>none
 else none
section
variable {K:Fg}
theorem Rep.more{C:Fr}{w:W}{Γ:En}{σ:St}{H:Hp}(R:Rep K C w Γ σ H)(n:Nat):Rep K C w (Γ++Ad n none) (σ++Ad n none) H:=by
 have get:∀ {j:Nat} {g:G},(Γ++Ad n none)[j]?=some (some g)->Γ[j]?=some (some g):=fun {j g} h=>by
  rcases Ci j Γ.length with z | z
  ·rw[BG z]at h; exact h
  ·rw[CC z,EO]at h; split at h <;> cases h
 have put:∀ {j:Nat} {o:Option V},j < σ.length->(σ++Ad n none)[j]?=σ[j]?:=fun z=>BG z
 have lt:∀ {j:Nat} {g:G},Γ[j]?=some (some g)->j < σ.length:=fun h=>by rw[R.len]; exact (Ac.mp h).1
 refine⟨by simp[R.len],fun i g h=>?_,fun i j p ga gb ma mb h1 h2 h3 h4=>?_,R.lst,R.own,R.ra,R.rl,R.frame,fun q hq=>?_⟩
 ·have h':=get h
  obtain⟨v,e1,e2⟩:=R.val i g h'
  exact⟨v,by rw[put (o:=none) (lt h')]; exact e1,e2⟩
 ·have g1:=get h1
  have g2:=get h2
  rw[put (o:=none) (lt g1)]at h3
  rw[put (o:=none) (lt g2)]at h4
  exact R.apart i j p ga gb ma mb g1 g2 h3 h4
 ·obtain⟨h1,xs,h2⟩:=R.pin q hq
  exact⟨by rw[put (o:=none) (lt h2)]; exact h1,xs,by rw[BG (Ac.mp h2).1]; exact h2⟩
theorem zC2{ip:Option Nat}{ts:TS}{g:DS}{N:List Str}{np:Nat}{vs:List V}{H:Hp}{Q:VK}{E:XK}(hb:SimS K ip ts g)(h:spD K ip np (fnD ip np N.length g) vs H Q E):ts { nx:=fun _ H'=>Q .non H',rt:=Q } (L2.start N vs) H:=by
 obtain⟨hn,w,gs,r,ys,e,R,hp,hL,k⟩:=h
 unfold fnD at e
 have hg:gs.length=np:=by
  have:=R.len
  simp at this
  omega
 rw[if_pos hg]at e
 obtain⟨o,e1,e⟩:=bind_some e
 have R0:Rep K ⟨H,w.L,pinsG ip vs⟩ w (gs.map some++Ad (N.length - np) none) (L2.start N vs) H:=by
  unfold L2.start
  rw[hn]
  exact R.more _
 have fin:∀ {w':W} {Γ':En} {σ':St} {H':Hp},Rep K ⟨H,w.L,pinsG ip vs⟩ w' Γ' σ' H'->outl ip Γ'=ys->∀ v,ROk K H H' v r->Q v H':=fun {w' Γ' σ' H'} R' eo v hr=>by
  refine k v H' (fun b o h n=>R'.frame b o h n) (fun q hq=>?_) hr
  obtain⟨h1,xs,h2⟩:=R'.pin q hq
  obtain⟨v',e1,p,us,rfl,_,h3,h4⟩:=R'.val q.1 _ h2
  rw[h1]at e1; cases e1
  refine⟨us,h3,?_⟩
  have hq1:q.1∈ip.toList:=hp ▸ C0.mpr ⟨q,hq,rfl⟩
  rw[D9]at hq1
  unfold outl at eo
  rw[hq1]at eo
  dsimp only at eo
  rw[h2]at eo
  dsimp only at eo
  rw[← eo]; exact h4
 have notpin:∀ {w':W} {Γ':En} {σ':St} {H':Hp} {p:Addr},Rep K ⟨H,w.L,pinsG ip vs⟩ w' Γ' σ' H'->(∀ q∈pinsG ip vs,q.2≠p)->Ow ⟨H,w.L,pinsG ip vs⟩ p->H p=none:=fun {w' Γ' σ' H' p} R' hne ow=>by
  rcases ow with z | z
  ·obtain⟨q,hq,e⟩:=C0.mp (hL p z)
   exact absurd e (hne q hq)
  ·exact z
 refine hb _ w _ _ H _ o hp R0 e1 ?_
 cases o with
 | nx Γ' =>
  cases e
  exact fun w' σ' H' R'=>fin R' rfl _ (by show Im K H' V.non (.a .non); exact Im.atom)
 | rt s Γ' =>
  obtain⟨r',e2,e⟩:=zAE e
  cases e
  refine fun w' σ' H' v R' o'=>fin R' rfl v ?_
  have inL:∀ q∈pinsG ip vs,q.2∈w'.L:=fun q hq=>by
   obtain⟨h1,xs,h2⟩:=R'.pin q hq
   obtain⟨v',e1,p,us,rfl,h3,_⟩:=R'.val q.1 _ h2
   rw[h1]at e1; cases e1
   exact h3
  cases s with
  | v t=>cases e2; exact o'
  | l xs =>
   cases e2
   obtain⟨p,us,rfl,n1,n2,ow,h1,h2⟩:=o'
   exact⟨p,us,rfl,notpin R' (fun q hq z=>n1 (z ▸ inL q hq)) ow,h1,h2⟩
  | d xs =>
   cases e2
   obtain⟨p,us,rfl,n1,n2,ow,h1,h2⟩:=o'
   exact⟨p,us,rfl,notpin R' (fun q hq z=>n1 (z ▸ inL q hq)) ow,h1,h2⟩
  | s i =>
   unfold resG at e2
   dsimp only at e2
   split at e2
   ·cases e2
   rename_i hi
   split at e2
   ·rename_i xs hx
    cases e2
    obtain⟨v',e3,p,us,rfl,h3,h4,h5⟩:=R'.val i _ hx
    have o'':σ'[i]?=some (some v):=o'
    rw[o'']at e3; cases e3
    refine⟨p,us,rfl,notpin R' (fun q hq z=>?_) (R'.own p h3),h4,h5⟩
    obtain⟨h1,ys',h2⟩:=R'.pin q hq
    have:=R'.apart q.1 i q.2 _ _ rfl rfl h2 hx h1 (z ▸ o'')
    have hq1:q.1∈ip.toList:=hp ▸ C0.mpr ⟨q,hq,rfl⟩
    rw[D9]at hq1
    exact hi (by rw[hq1,this])
   ·rename_i xs hx
    cases e2
    obtain⟨v',e3,p,us,rfl,h3,h4,h5⟩:=R'.val i _ hx
    have o'':σ'[i]?=some (some v):=o'
    rw[o'']at e3; cases e3
    refine⟨p,us,rfl,notpin R' (fun q hq z=>?_) (R'.own p h3),h4,h5⟩
    obtain⟨h1,ys',h2⟩:=R'.pin q hq
    have:=R'.apart q.1 i q.2 _ _ rfl rfl h2 hx h1 (z ▸ o'')
    have hq1:q.1∈ip.toList:=hp ▸ C0.mpr ⟨q,hq,rfl⟩
    rw[D9]at hq1
    exact hi (by rw[hq1,this])
   ·cases e2
 | bk Γ'=>cases e
 | ct Γ'=>cases e
noncomputable def argG (ip:Option Nat) (Γ:En) (k:Nat):S->Option G
 | .v t=>some (.v t)
 | .l xs=>some (if ip=some k then .l xs else .r xs)
 | .s i=>match Γ[i]? with
  | some (some (.l xs))=>some (if ip=some k then .l xs else .r xs)
  | some (some (.r xs))=>if ip=some k then none else some (.r xs)
  | some (some (.k xs))=>if ip=some k then none else some (.k xs)
  | some (some (.d xs))=>if ip=some k then none else some (.e xs)
  | some (some (.e xs))=>if ip=some k then none else some (.e xs)
  | _=>none
 | .d xs=>if ip=some k then none else some (.e xs)
noncomputable def argsG (ip:Option Nat) (Γ:En):Nat->List S->Option (List G)
 | _,[]=>some []
 | k,s::r=>(argG ip Γ k s).bind fun g=>(argsG ip Γ (k+1) r).map fun gs=>g::gs
noncomputable def isSl (i:Nat):S->Bool
 | .s j=>j == i
 | _=>false
noncomputable def isTmp:S->Bool
 | .l _=>true
 | _=>false
noncomputable def onceS (ip:Option Nat) (ss:List S):Bool:=match ip with
 | none=>true
 | some k=>match ss[k]? with
  | some (.s i)=>(ss.eraseIdx k).all fun s=>!isSl i s
  | some (.l _)=>(ss.eraseIdx k).all fun s=>!isTmp s
  | _=>false
noncomputable def backS (ip:Option Nat) (Γ:En) (ss:List S) (ys:List T):En:=match ip with
 | none=>Γ
 | some k=>match ss[k]? with
  | some (.s i)=>Γ.set i (some (.l ys))
  | _=>Γ
noncomputable def toS:G->S
 | .v t=>.v t
 | .l xs=>.l xs
 | .r xs=>.l xs
 | .k xs=>.l xs
 | .d xs=>.d xs
 | .e xs=>.d xs
noncomputable def dCall (ip:Option Nat) (F:DF) (ds:List V) (fa:DA):DE:=fun Γ=>(fa Γ).bind fun p=>if onceS ip p.1=true then (argsG ip p.2 0 (p.1++ds.map fun v=>.v (.a v))).bind fun gs=>(F gs).map fun q=>(toS q.1,backS ip p.2 p.1 q.2) else none
theorem SOks.app{C:Fr}{w:W}{σ:St}{H:Hp}:∀ {vs:List V} {ss:List S},SOks K C w σ H vs ss->∀ ds:List V,SOks K C w σ H (vs++ds) (ss++ds.map fun v=>.v (.a v))
 | [],[],_,[]=>trivial
 | [],[],_,d::ds=>⟨SOk.atom,SOks.app (vs:=[]) (ss:=[]) trivial ds⟩
 | _::_,_::_,h,ds=>⟨h.1,SOks.app h.2 ds⟩
 | [],_::_,h,_=>h.elim
 | _::_,[],h,_=>h.elim
theorem SOks.len{C:Fr}{w:W}{σ:St}{H:Hp}:∀ {vs:List V} {ss:List S},SOks K C w σ H vs ss->vs.length=ss.length
 | [],[],_=>rfl
 | _::_,_::_,h=>by simp[SOks.len h.2]
 | [],_::_,h=>h.elim
 | _::_,[],h=>h.elim
theorem SOks.get{C:Fr}{w:W}{σ:St}{H:Hp}:∀ {vs:List V} {ss:List S} {k:Nat} {s:S},SOks K C w σ H vs ss->ss[k]?=some s->∃ v,vs[k]?=some v/\SOk K C w σ H v s
 | [],[],_,_,_,e=>by simp at e
 | v::_,_::_,0,_,h,e=>by simp at e; subst e; exact⟨v,rfl,h.1⟩
 | _::_,_::_,k+1,_,h,e=>by simpa using SOks.get (k:=k) h.2 (by simpa using e)
 | [],_::_,_,_,h,_=>h.elim
 | _::_,[],_,_,h,_=>h.elim
theorem zBQ{ip:Option Nat}{Γ:En}:∀ {ss:List S} {k:Nat} {gs:List G},argsG ip Γ k ss=some gs->gs.length=ss.length
 | [],_,_,e=>by cases e; rfl
 | s::r,k,_,e=>by
  obtain⟨g,e1,e⟩:=bind_some e
  obtain⟨gs,e2,e⟩:=zAE e
  cases e
  simp[zBQ e2]
theorem zA4{ip:Option Nat}{Γ:En}:∀ {ss:List S} {k:Nat} {gs:List G} {j:Nat} {g:G},argsG ip Γ k ss=some gs->gs[j]?=some g->∃ s,ss[j]?=some s/\argG ip Γ (k+j) s=some g
 | [],_,_,_,_,e,h=>by cases e; simp at h
 | s::r,k,_,j,g,e,h=>by
  obtain⟨g',e1,e⟩:=bind_some e
  obtain⟨gs,e2,e⟩:=zAE e
  cases e
  cases j with
  | zero=>simp at h; subst h; exact⟨s,rfl,e1⟩
  | succ j =>
   obtain⟨s',a,b⟩:=zA4 (j:=j) e2 (by simpa using h)
   exact⟨s',by simpa using a,by rw[← b]; congr 1; omega⟩
theorem zDF{ip:Option Nat}{n:Nat}{F:DF}{ds:List V}{E:XK}{ta:TA}{fa:DA}(hF:∀ gs r,F gs=some r->gs.length=n)(ha:SimA K ta fa):SimE K (tCall (spD K ip n F) ds E ta) (dCall ip F ds fa):=by
 intro C w Γ σ H s Γ' Q R e k
 obtain⟨⟨ss,Γ1⟩,e1,e⟩:=bind_some e
 dsimp only at e
 split at e
 rotate_left
 ·cases e
 rename_i honce
 obtain⟨gs,e2,e⟩:=bind_some e
 obtain⟨⟨r,ys⟩,e3,e⟩:=zAE e
 cases e
 refine ha C w Γ σ H ss Γ1 _ R e1 fun vs0 H1 R1 ev1 o0 n0=>?_
 have o1:=o0.app ds
 have hl0:=o0.len
 generalize hvs:vs0++ds=vs at o1 ⊢
 generalize hss:ss++(ds.map fun v=>S.v (.a v))=ss' at o1 e2
 have hl:=o1.len
 have hgl:=zBQ e2
 have hn:vs.length=n:=by rw[hl,← hgl]; exact hF _ _ e3
 have resOk:∀ {H2:Hp} {v:V} {L:List Addr},Evo L H1 H2->ROk K H1 H2 v r->Rep K C w Γ1 σ H1->SOk K C w σ H2 v (toS r):=fun {H2 v L} ev hr R=>by
  cases r with
  | v t=>exact hr
  | l xs =>
   obtain⟨p,us,rfl,h1,h2,h3⟩:=hr
   obtain⟨a,b,c⟩:=R.fresh h1
   exact⟨p,us,rfl,a,b,c,h2,h3⟩
  | r xs=>exact hr.elim
  | k xs=>exact hr.elim
  | d xs =>
   obtain⟨p,us,rfl,h1,h2,h3⟩:=hr
   obtain⟨a,b,c⟩:=R.fresh h1
   exact⟨p,us,rfl,a,b,c,h2,h3⟩
  | e xs=>exact hr.elim
 have resNew:∀ {H2:Hp} {v:V},ROk K H1 H2 v r->Nw H v (toS r):=fun {H2 v} hr=>by
  cases r with
  | v t=>trivial
  | l xs =>
   obtain⟨p,us,rfl,h1,h2,h3⟩:=hr
   exact⟨p,rfl,zAv ev1 R1.lst h1⟩
  | r xs=>exact hr.elim
  | k xs=>exact hr.elim
  | d xs =>
   obtain⟨p,us,rfl,h1,h2,h3⟩:=hr
   exact⟨p,rfl,zAv ev1 R1.lst h1⟩
  | e xs=>exact hr.elim
 cases ip with
 | none =>
  have Rc:Rep K ⟨H1,[],[]⟩ ⟨[],fun q=>∃ o,H1 q=some o⟩ (gs.map some) (vs.map some) H1:=by
   refine⟨by simp[hl,hgl],fun j g h=>?_,fun i j p ga gb ma mb h1 h2 h3 h4=>?_,fun p hp=>(nomatch hp),fun p hp=>(nomatch hp),fun p hp=>hp,fun p hp=>nofun,fun b o h _=>h,fun q hq=>(nomatch hq)⟩
   ·rw[Ae]at h
    obtain⟨g',h',h⟩:=zAE h
    cases h
    obtain⟨s,a1,a2⟩:=zA4 e2 h'
    obtain⟨v,b1,b2⟩:=o1.get a1
    refine⟨v,by rw[Ae,b1]; rfl,?_⟩
    cases s with
    | v t=>cases a2; exact b2
    | l xs =>
     simp only[argG,reduceCtorEq,if_false,Al]at a2
     subst a2
     obtain⟨p,us,rfl,n1,n2,ow,h1,h2⟩:=b2
     exact⟨p,us,rfl,h2,h1,nofun,⟨_,h1⟩⟩
    | d xs =>
     simp only[argG,reduceCtorEq,if_false,Al]at a2
     subst a2
     obtain⟨p,us,rfl,n1,n2,ow,h1,h2⟩:=b2
     exact⟨p,us,rfl,h2,h1,nofun,⟨_,h1⟩⟩
    | s i =>
     unfold argG at a2
     dsimp only at a2
     split at a2
     ·rename_i xs hx
      simp only[reduceCtorEq,if_false,Al]at a2
      subst a2
      obtain⟨v',c1,p,us,rfl,c2,c3,c4⟩:=R1.val i _ hx
      have b2':σ[i]?=some (some v):=b2
      rw[b2']at c1; cases c1
      exact⟨p,us,rfl,c4,c3,nofun,⟨_,c3⟩⟩
     ·rename_i xs hx
      simp only[reduceCtorEq,if_false,Al]at a2
      subst a2
      obtain⟨v',c1,p,us,rfl,c2,c3⟩:=R1.val i _ hx
      have b2':σ[i]?=some (some v):=b2
      rw[b2']at c1; cases c1
      exact⟨p,us,rfl,c2,c3.1,nofun,R1.ra p c3.2.2⟩
     ·rename_i xs hx
      simp only[reduceCtorEq,if_false,Al]at a2
      subst a2
      obtain⟨v',c1,c2⟩:=R1.val i _ hx
      have b2':σ[i]?=some (some v):=b2
      rw[b2']at c1; cases c1
      exact c2
     ·rename_i xs hx
      simp only[reduceCtorEq,if_false,Al]at a2
      subst a2
      obtain⟨v',c1,p,us,rfl,c2,c3,c4⟩:=R1.val i _ hx
      have b2':σ[i]?=some (some v):=b2
      rw[b2']at c1; cases c1
      exact⟨p,us,rfl,c4,c3,nofun,⟨_,c3⟩⟩
     ·rename_i xs hx
      simp only[reduceCtorEq,if_false,Al]at a2
      subst a2
      obtain⟨v',c1,p,us,rfl,c2,c3⟩:=R1.val i _ hx
      have b2':σ[i]?=some (some v):=b2
      rw[b2']at c1; cases c1
      exact⟨p,us,rfl,c2,c3.1,nofun,R1.ra p c3.2.2⟩
     ·cases a2
   ·rw[Ae]at h1
    obtain⟨g',h',h⟩:=zAE h1
    cases h
    obtain⟨s,a1,a2⟩:=zA4 e2 h'
    cases s with
    | v t=>cases a2; cases ma
    | l xs=>simp[argG]at a2; subst a2; cases ma
    | d xs=>simp[argG]at a2; subst a2; cases ma
    | s i =>
     unfold argG at a2
     dsimp only at a2
     split at a2 <;> simp at a2 <;> (subst a2; cases ma)
  refine⟨hn,⟨[],fun q=>∃ o,H1 q=some o⟩,gs,r,ys,e3,Rc,rfl,(fun p hp=>nomatch hp),fun v H2 ev _ hr=>?_⟩
  have R2:Rep K C w Γ1 σ H2:=R1.evo0 fun b o h=>ev b o h nofun
  exact k v H2 R2 (ev1.trans fun b o h _=>ev b o h nofun) (resOk ev hr R1) (resNew hr)
 | some kk =>
  have hkk:∃ s,ss[kk]?=some s:=by
   unfold onceS at honce
   dsimp only at honce
   cases z:ss[kk]? with
   | none=>rw[z]at honce; cases honce
   | some s=>exact⟨s,rfl⟩
  obtain⟨sk,hsk⟩:=hkk
  have hkl:kk < ss.length:=(Ac.mp hsk).1
  have hsk':ss'[kk]?=some sk:=by rw[← hss,BG hkl]; exact hsk
  obtain⟨vk,hvk,ok⟩:=o1.get hsk'
  have at_k:∃ p us xs,vk=.ref p/\H1 p=some (.lst us)/\Ims K H1 us xs/\argG (some kk) Γ1 kk sk=some (.l xs)/\((∃ i,sk=.s i/\Γ1[i]?=some (some (.l xs))/\σ[i]?=some (some (.ref p))/\p∈w.L)\/(sk=.l xs/\p∉w.L/\¬ w.R p/\Ow C p)):=by
   obtain⟨gk,hgk⟩:∃ g,gs[kk]?=some g:=⟨gs[kk]'(by rw[hgl,← hss]; simp; omega),by simp⟩
   obtain⟨s,a1,a2⟩:=zA4 e2 hgk
   rw[hsk']at a1; cases a1
   rw[HM]at a2
   cases sk with
   | v t=>unfold onceS at honce; dsimp only at honce; rw[hsk]at honce; cases honce
   | l xs =>
    obtain⟨p,us,rfl,n1,n2,ow,h1,h2⟩:=ok
    exact⟨p,us,xs,rfl,h1,h2,by simp[argG],.inr ⟨rfl,n1,n2,ow⟩⟩
   | s i =>
    unfold argG at a2
    dsimp only at a2
    have ok':σ[i]?=some (some vk):=ok
    split at a2
    ·rename_i xs hx
     obtain⟨v',c1,p,us,rfl,c2,c3,c4⟩:=R1.val i _ hx
     rw[ok']at c1; cases c1
     exact⟨p,us,xs,rfl,c3,c4,by simp[argG,hx],.inl ⟨i,rfl,hx,ok',c2⟩⟩
    ·rw[if_pos rfl]at a2; cases a2
    ·rw[if_pos rfl]at a2; cases a2
    ·rw[if_pos rfl]at a2; cases a2
    ·rw[if_pos rfl]at a2; cases a2
    ·cases a2
   | d xs=>unfold onceS at honce; dsimp only at honce; rw[hsk]at honce; cases honce
  obtain⟨p,us,xs,rfl,hpu,hus,hag,hsort⟩:=at_k
  have other:∀ (j:Nat) s,j≠kk->ss'[j]?=some s->(∀ i xs',s=.s i->Γ1[i]?=some (some (.l xs'))->σ[i]?≠some (some (.ref p)))/\(∀ xs' q,s=.l xs'->SOk K C w σ H1 (.ref q) s->q≠p):=fun j s hj hs=>by
   rcases hsort with ⟨i0,rfl,g0,s0,m0⟩ | ⟨rfl,n1,n2,ow⟩
   ·refine⟨fun i xs' e hx z=>?_,fun xs' q e h z=>?_⟩
    ·subst e
     have:=R1.apart i0 i p _ _ rfl rfl g0 hx s0 z
     subst this
     have hjl:j < ss.length:=by
      rcases Ci j ss.length with z | z
      ·exact z
      ·rw[← hss,CC z,Ae]at hs
       obtain⟨d,_,hs⟩:=zAE hs
       cases hs
     rw[← hss,BG hjl]at hs
     unfold onceS at honce
     dsimp only at honce
     rw[hsk]at honce
     have:=Ax.mp honce (.s i0) (Fx.mpr ⟨j,hj,hs⟩)
     simp[isSl]at this
    ·subst e
     obtain⟨q',us'',e,n1,_⟩:=h
     cases e
     exact n1 (z ▸ m0)
   ·refine⟨fun i xs' e hx z=>?_,fun xs' q e h z=>?_⟩
    ·obtain⟨v',c1,p',us2,rfl,c2,_⟩:=R1.val i _ hx
     rw[z]at c1; cases c1
     exact n1 c2
    ·subst e
     have hjl:j < ss.length:=by
      rcases Ci j ss.length with z | z
      ·exact z
      ·rw[← hss,CC z,Ae]at hs
       obtain⟨d,_,hs⟩:=zAE hs
       cases hs
     rw[← hss,BG hjl]at hs
     unfold onceS at honce
     dsimp only at honce
     rw[hsk]at honce
     have:=Ax.mp honce _ (Fx.mpr ⟨j,hj,hs⟩)
     simp[isTmp]at this
  have hpins:pinsG (some kk) vs=[(kk,p)]:=by unfold pinsG; dsimp only; rw[hvk]
  have Rc:Rep K ⟨H1,[p],[(kk,p)]⟩ ⟨[p],fun q=>(∃ o,H1 q=some o)/\q≠p⟩ (gs.map some) (vs.map some) H1:=by
   have get:∀ {j:Nat} {g:G},(gs.map some)[j]?=some (some g)->∃ s,ss'[j]?=some s/\argG (some kk) Γ1 j s=some g:=fun {j g} h=>by
    rw[Ae]at h
    obtain⟨g',h',h⟩:=zAE h
    cases h
    obtain⟨s,a1,a2⟩:=zA4 e2 h'
    exact⟨s,a1,by rw[HM]at a2; exact a2⟩
   have only:∀ {j:Nat} {gc:G},isMut gc=true->(gs.map some)[j]?=some (some gc)->j=kk:=fun {j gc} mc h=>by
    obtain⟨s,a1,a2⟩:=get h
    by_cases hj:kk=j
    ·exact hj.symm
    ·cases s with
     | v t=>cases a2; cases mc
     | l xs=>simp[argG,hj]at a2; subst a2; cases mc
     | d xs=>simp[argG,hj]at a2; subst a2; cases mc
     | s i =>
      unfold argG at a2
      dsimp only at a2
      split at a2 <;> simp[hj]at a2 <;> (subst a2; cases mc)
   refine⟨by simp[hl,hgl],fun j g h=>?_,fun i j p' ga gb ma mb h1 h2 h3 h4=>(only ma h1).trans (only mb h2).symm,fun q hq=>?_,fun q hq=>.inl hq,fun q hq=>hq.1,fun q hq z=>hq.2 (AF.mp z),fun b o h _=>h,fun q hq=>?_⟩
   ·obtain⟨s,a1,a2⟩:=get h
    obtain⟨v,b1,b2⟩:=o1.get a1
    refine⟨v,by rw[Ae,b1]; rfl,?_⟩
    by_cases hj:j=kk
    ·subst hj
     rw[hsk']at a1; cases a1
     rw[hag]at a2; cases a2
     rw[hvk]at b1; cases b1
     exact⟨p,us,rfl,AF.mpr rfl,hpu,hus⟩
    ·have hj':¬ kk=j:=fun z=>hj z.symm
     obtain⟨x1,x2⟩:=other j s hj a1
     cases s with
     | v t=>cases a2; exact b2
     | l xs' =>
      simp only[argG,Al,hj',if_false]at a2
      subst a2
      have b3:=b2
      obtain⟨q,us',rfl,n1,n2,ow,h1,h2⟩:=b2
      have hne:q≠p:=x2 xs' q rfl b3
      exact⟨q,us',rfl,h2,h1,fun z=>hne (AF.mp z),⟨_,h1⟩,hne⟩
     | s i =>
      have b2':σ[i]?=some (some v):=b2
      unfold argG at a2
      dsimp only at a2
      split at a2
      ·rename_i xs' hx
       simp only[Al,hj',if_false]at a2
       subst a2
       obtain⟨v',c1,q,us',rfl,c2,c3,c4⟩:=R1.val i _ hx
       rw[b2']at c1; cases c1
       have hne:q≠p:=fun z=>x1 i xs' rfl hx (z ▸ b2')
       exact⟨q,us',rfl,c4,c3,fun z=>hne (AF.mp z),⟨_,c3⟩,hne⟩
      ·rename_i xs' hx
       simp only[Al,hj',if_false]at a2
       subst a2
       obtain⟨v',c1,q,us',rfl,c2,c3⟩:=R1.val i _ hx
       rw[b2']at c1; cases c1
       have hne:q≠p:=fun z=>by
        subst z
        rcases hsort with ⟨_,_,_,_,m0⟩ | ⟨_,n1,n2,ow⟩
        ·exact c3.2.1 m0
        ·exact n2 c3.2.2
       exact⟨q,us',rfl,c2,c3.1,fun z=>hne (AF.mp z),R1.ra q c3.2.2,hne⟩
      ·rename_i xs' hx
       simp only[Al,hj',if_false]at a2
       subst a2
       obtain⟨v',c1,c2⟩:=R1.val i _ hx
       rw[b2']at c1; cases c1
       exact c2
      ·rename_i xs' hx
       simp only[Al,hj',if_false]at a2
       subst a2
       obtain⟨v',c1,q,us',rfl,c2,c3,c4⟩:=R1.val i _ hx
       rw[b2']at c1; cases c1
       have hne:q≠p:=fun z=>by subst z; rw[hpu]at c3; cases c3; exact zEH c4
       exact⟨q,us',rfl,c4,c3,fun z=>hne (AF.mp z),⟨_,c3⟩,hne⟩
      ·rename_i xs' hx
       simp only[Al,hj',if_false]at a2
       subst a2
       obtain⟨v',c1,q,us',rfl,c2,c3⟩:=R1.val i _ hx
       rw[b2']at c1; cases c1
       have hne:q≠p:=fun z=>by subst z; have c4:=c3.1; rw[hpu]at c4; cases c4; exact zEH c2
       exact⟨q,us',rfl,c2,c3.1,fun z=>hne (AF.mp z),R1.ra q c3.2.2,hne⟩
      ·cases a2
     | d xs' =>
      simp only[argG,Al,hj',if_false]at a2
      subst a2
      obtain⟨q,us',rfl,n1,n2,ow,h1,h2⟩:=b2
      have hne:q≠p:=fun z=>by subst z; rw[hpu]at h1; cases h1; exact zEH h2
      exact⟨q,us',rfl,h2,h1,fun z=>hne (AF.mp z),⟨_,h1⟩,hne⟩
   ·rw[AF.mp hq]; exact⟨_,hpu,trivial⟩
   ·rw[AF.mp hq]
    refine⟨by rw[Ae,hvk]; rfl,xs,?_⟩
    obtain⟨gk,hgk⟩:∃ g,gs[kk]?=some g:=⟨gs[kk]'(by rw[hgl,← hss]; simp; omega),by simp⟩
    obtain⟨s,a1,a2⟩:=zA4 e2 hgk
    rw[hsk']at a1; cases a1
    rw[HM,hag]at a2; cases a2
    rw[Ae,hgk]; rfl
  refine⟨hn,⟨[p],fun q=>(∃ o,H1 q=some o)/\q≠p⟩,gs,r,ys,e3,by rw[hpins]; exact Rc,by rw[hpins]; rfl,by rw[hpins]; exact fun q hq=>hq,fun v H2 ev hch hr=>?_⟩
  rw[hpins]at hch
  obtain⟨us2,hp2,hu2⟩:=hch (kk,p) (AF.mpr rfl)
  rcases hsort with ⟨i0,rfl,g0,s0,m0⟩ | ⟨rfl,n1,n2,ow⟩
  ·obtain⟨R2,ev2⟩:=R1.put2 g0 s0 ev hp2 hu2
   have hb:backS (some kk) Γ1 ss ys=Γ1.set i0 (some (.l ys)):=by unfold backS; dsimp only; rw[hsk]
   dsimp only at k
   rw[hb]at k
   exact k v H2 R2 (ev1.trans ev2) (resOk ev hr R1) (resNew hr)
  ·have hb:backS (some kk) Γ1 ss ys=Γ1:=by unfold backS; dsimp only; rw[hsk]
   dsimp only at k
   rw[hb]at k
   have R2:=R1.temp n1 n2 ow ⟨_,hpu,trivial⟩ ev
   refine k v H2 R2 (fun b o h n=>?_) (resOk ev hr R1) (resNew hr)
   by_cases z:b=p
   ·subst z
    have hv0:vs0[kk]?=some (.ref b):=by
     rw[← hvs,BG (by rw[hl0]; exact hkl)]at hvk; exact hvk
    obtain⟨p',e',hn'⟩:=n0.get hv0 hsk
    cases e'
    rw[hn']at h; cases h
   ·exact ev b o (ev1 b o h n) fun q=>z (AF.mp q)
end
noncomputable def lsOf (Γ:En):S->Option (List T)
 | .l xs=>some xs
 | .s i=>match Γ[i]? with
  | some (some (.l xs))=>some xs
  | some (some (.r xs))=>some xs
  | _=>none
 | .v _=>none
 | .d _=>none
noncomputable def sqlOf (Γ:En):S->Option (List T)
 | .l xs=>some xs
 | .s i=>match Γ[i]? with
  | some (some (.l xs))=>some xs
  | some (some (.r xs))=>some xs
  | some (some (.k xs))=>some xs
  | _=>none
 | .v (.l xs)=>some xs
 | .v _=>none
 | .d _=>none
section
variable {K:Fg}{C:Fr}{w:W}{Γ:En}{σ:St}{H:Hp}
theorem zFB{x:V}{s:S}{xs:List T}(R:Rep K C w Γ σ H)(o:SOk K C w σ H x s)(e:lsOf Γ s=some xs):∃ p vs,x=.ref p/\H p=some (.lst vs)/\Ims K H vs xs:=by
 cases s with
 | v t=>cases e
 | d _=>cases e
 | l ys=>cases e; obtain⟨p,vs,rfl,_,_,_,h1,h2⟩:=o; exact⟨p,vs,rfl,h1,h2⟩
 | s i =>
  have o':σ[i]?=some (some x):=o
  unfold lsOf at e
  dsimp only at e
  split at e
  ·rename_i ys h
   cases e
   obtain⟨v,e1,p,vs,rfl,_,h1,h2⟩:=R.val i _ h
   rw[o']at e1; cases e1
   exact⟨p,vs,rfl,h1,h2⟩
  ·rename_i ys h
   cases e
   obtain⟨v,e1,p,vs,rfl,h1,h2,_⟩:=R.val i _ h
   rw[o']at e1; cases e1
   exact⟨p,vs,rfl,h2,h1⟩
  ·cases e
theorem zBU{x:V}{s:S}{xs:List T}(R:Rep K C w Γ σ H)(o:SOk K C w σ H x s)(e:sqlOf Γ s=some xs):∃ p vs,x=.ref p/\SqL K H p vs/\Ims K H vs xs:=by
 cases s with
 | v t =>
  cases t with
  | l ys =>
   cases e
   obtain⟨p,vs,rfl,h1,h2⟩:=(show Im K H x (.l xs) from o).invl
   exact⟨p,vs,rfl,h1.sq,h2⟩
  | a _=>cases e
  | t _=>cases e
  | f _=>cases e
  | x _ _=>cases e
 | d _=>cases e
 | l ys=>cases e; obtain⟨p,vs,rfl,_,_,_,h1,h2⟩:=o; exact⟨p,vs,rfl,SqL.of h1,h2⟩
 | s i =>
  have o':σ[i]?=some (some x):=o
  unfold sqlOf at e
  dsimp only at e
  split at e
  ·rename_i ys h
   cases e
   obtain⟨v,e1,p,vs,rfl,_,h1,h2⟩:=R.val i _ h
   rw[o']at e1; cases e1
   exact⟨p,vs,rfl,SqL.of h1,h2⟩
  ·rename_i ys h
   cases e
   obtain⟨v,e1,p,vs,rfl,h1,h2,_⟩:=R.val i _ h
   rw[o']at e1; cases e1
   exact⟨p,vs,rfl,SqL.of h2,h1⟩
  ·rename_i ys h
   cases e
   obtain⟨v,e1,p,vs,rfl,h1,h2⟩:=R.val i _ h
   rw[o']at e1; cases e1
   exact⟨p,vs,rfl,h2.sq,h1⟩
  ·cases e
end
noncomputable def iS:S->Option Int
 | .v (.a (.int i))=>some i
 | _=>none
noncomputable def mkI (i:Int):S:=.v (.a (.int i))
noncomputable def mkB (b:Bool):S:=.v (.a (.bl b))
section
variable {K:Fg}{C:Fr}{w:W}{Γ:En}{σ:St}{H:Hp}
theorem zBj{x:V}{s:S}{i:Int}(o:SOk K C w σ H x s)(e:iS s=some i):x=.int i:=by
 unfold iS at e
 split at e
 ·cases e; exact o.inva
 ·cases e
end
noncomputable def inR (b:Nat):Int->Bool
 | .ofNat n=>Eh n b
 | .negSucc n=>Eh n b
theorem zCw{b:Nat}{i:Int}:inR b i=true ↔ -((b:Int)+1)<=i/\i<=b:=by
 cases i with
 | ofNat n =>
  simp only[inR,K1,Int.ofNat_eq_natCast]
  omega
 | negSucc n =>
  simp only[inR,K1,Int.negSucc_eq]
  omega
theorem inR62{i:Int}(h:inR 4611686018427387903 i=true):-(2 ^ 62)<=i/\i < 2 ^ 62:=by have:=zCw.mp h; omega
theorem inR63{i:Int}(h:inR 9223372036854775807 i=true):-(2 ^ 63)<=i/\i < 2 ^ 63:=by have:=zCw.mp h; omega
theorem zBk{b n:Nat}(h:n<=b):inR b (n:Int)=true:=zCw.mpr ⟨by omega,by omega⟩
noncomputable def opII (g:Int->Int->V):En->S->S->Option S:=fun _ a b=>(iS a).bind fun i=>(iS b).bind fun j=>some (.v (.a (g i j)))
noncomputable def opIIc (c:Int->Int->Prop) [∀ i j,Decidable (c i j)] (g:Int->Int->V):En->S->S->Option S:=fun _ a b=>(iS a).bind fun i=>(iS b).bind fun j=>if c i j then some (.v (.a (g i j))) else none
theorem zBM{K:Fg}{g:Int->Int->V}:SimR2 K (rI0 g) (opII g):=by
 intro C w Γ σ H x y a b s Q R ox oy e k
 obtain⟨i,e1,e⟩:=bind_some e
 obtain⟨j,e2,e⟩:=bind_some e
 cases e
 exact⟨i,j,zBj ox e1,zBj oy e2,k _ H R .refl SOk.atom trivial⟩
theorem zCK{K:Fg}{c:Int->Int->Prop} [∀ i j,Decidable (c i j)] {g:Int->Int->V}:SimR2 K (rI c g) (opIIc c g):=by
 intro C w Γ σ H x y a b s Q R ox oy e k
 obtain⟨i,e1,e⟩:=bind_some e
 obtain⟨j,e2,e⟩:=bind_some e
 split at e
 ·rename_i hc
  cases e
  exact⟨i,j,zBj ox e1,zBj oy e2,hc,k _ H R .refl SOk.atom trivial⟩
 ·cases e
theorem zMx{i j:Int}:((inR 18446744073709551615 i && inR 18446744073709551615 (-i)) || (inR 18446744073709551615 j && inR 18446744073709551615 (-j)))=true ↔ CMul i j:=by
 unfold CMul
 simp only[GE,Ab,zCw]
 omega
noncomputable instance (i j:Int):Decidable (CMul i j):=decidable_of_iff _ zMx
noncomputable instance (i j:Int):Decidable (CDiv i j):=by unfold CDiv; infer_instance
noncomputable instance (i j:Int):Decidable (CPow i j):=by unfold CPow; infer_instance
theorem SimR2.or{K:Fg}{r r':R2}{h h':En->S->S->Option S}(a:SimR2 K r h)(b:SimR2 K r' h'):SimR2 K (fun x y H Q=>r x y H Q\/r' x y H Q) (fun Γ x y=>(h Γ x y).or (h' Γ x y)):=by
 intro C w Γ σ H x y s1 s2 s Q R ox oy e k
 dsimp only at e
 cases q:h Γ s1 s2 with
 | some z =>
  rw[q,Option.some_or]at e
  cases e
  exact .inl (a C w Γ σ H x y s1 s2 _ Q R ox oy q k)
 | none =>
  rw[q,IV]at e
  exact .inr (b C w Γ σ H x y s1 s2 _ Q R ox oy e k)
noncomputable def addStr:En->S->S->Option S:=fun _ a b=>match a,b with
 | .v (.a (.str x)),.v (.a (.str y))=>gd (x.length+y.length) (.v (.a (.str (x++y))))
 | _,_=>none
noncomputable def rAddStr:R2:=fun x y H Q=>∃ i j,x=.str i/\y=.str j/\i.length+j.length<=AE/\Q (.str (i++j)) H
theorem zF9{K:Fg}:SimR2 K rAddStr addStr:=by
 intro C w Γ σ H x y a b s Q R ox oy e k
 unfold addStr at e
 split at e
 ·obtain⟨h,e⟩:=zBX e
  cases e
  exact⟨_,_,ox.inva,oy.inva,h,k _ H R .refl SOk.atom trivial⟩
 ·cases e
noncomputable def rCatS (K:Fg):R2:=fun x y H Q=>∃ a b xs ys,x=.ref a/\y=.ref b/\Tp K H a xs/\Tp K H b ys/\xs.length+ys.length<=AE/\∀ p H',Same H H'->Tp K H' p (xs++ys)->Q (.ref p) H'
open PySem.Spec PyProof.Rows in
theorem zME{X:Cx}:OpR X (Cg .Add) (rCatS X.K):=by
 intro pins s σ H x y v u Q I rx ry h
 obtain⟨a,b,xs,ys,rfl,rfl,ha,hb,hz,q⟩:=h
 cases rx
 cases ry
 obtain⟨its,r1,t1,z1⟩:=I.tuple ha.sq
 obtain⟨its2,r2,t2,z2⟩:=I.tuple hb.sq
 by_cases hx:xs=[]
 ·subst hx
  have e:its=[]:=by have:=r1.length; simpa using this.symm
  subst e
  obtain⟨⟨cls,dd,data,sl⟩,ho,hc,n,hd⟩:=id t1
  obtain⟨⟨cls2,dd2,data2,sl2⟩,ho2,hc2,n2,hd2⟩:=id t2
  simp only at hc hd hc2 hd2
  subst hc hd hc2 hd2
  refine IC ⟨_,ho,rfl⟩ ⟨_,ho2,rfl⟩ GW Hf EL EG (D7 _ _)
   (tuple_addW0 a b _ its2.toArray n n2 dd dd2 sl sl2 (by simp)) ⟨ho,ho2,?_⟩
  exact⟨.ref b,H,I,rfl,q b H (Same.refl H) (by simpa using hb)⟩
 ·have hne:its≠[]:=fun e=>hx (by have:=r1.length; rw[e]at this; simpa using this)
  refine HT.cat_tup t1 t2 hne (fun e=>?_) (fun e=>?_) (by rw[← r1.length,← r2.length]; exact hz)
  ·have ey:ys=[]:=by have:=r2.length; rw[e]at this; simpa using this
   subst ey
   exact⟨.ref a,H,I,rfl,q a H (Same.refl H) (by simpa using ha)⟩
  ·have hf:H s.heap.objs.size=none:=I.hok.fresh (AL _)
   refine⟨.ref s.heap.objs.size,_,I.laid (t':=s.toks) (fun b o e=>AC _ e) (AL _) (show ObjOk X.prog X.w _ _ _ (.tup (xs++ys)) from ⟨by simpa using hz,its++its2,r1.append r2,TupD.new _ _⟩),rfl,q _ _ (Same.upd hf) (.inl zAf)⟩
noncomputable def addTup:En->S->S->Option S:=fun _ a b=>match a,b with
 | .v (.t xs),.v (.t ys)=>gd (xs.length+ys.length) (.v (.t (xs++ys)))
 | _,_=>none
theorem zF1{K:Fg}:SimR2 K (rCatS K) addTup:=by
 intro C w Γ σ H x y a b s Q R ox oy e k
 unfold addTup at e
 split at e
 ·obtain⟨h,e⟩:=zBX e
  cases e
  obtain⟨p,vs,rfl,h1,i1⟩:=ox.invt
  obtain⟨q,us,rfl,h2,i2⟩:=oy.invt
  refine⟨p,q,vs,us,rfl,rfl,h1,h2,by rw[i1.len,i2.len]; exact h,fun c H' sm hc=>k _ H' (R.same sm) (.of_same sm) ?_ trivial⟩
  have ev:Evo w.L H H':=.of_same sm
  show Im K H' (.ref c) (.t _)
  unfold Im
  exact⟨c,_,rfl,hc,(i1.evo ev R.lst).app (i2.evo ev R.lst)⟩
 ·cases e
noncomputable def addLst:En->S->S->Option S:=fun Γ a b=>(lsOf Γ a).bind fun xs=>(lsOf Γ b).bind fun ys=>gd (xs.length+ys.length) (.l (xs++ys))
theorem zFM{K:Fg}:SimR2 K rCat addLst:=by
 intro C w Γ σ H x y a b s Q R ox oy e k
 obtain⟨xs,e1,e⟩:=bind_some e
 obtain⟨ys,e2,e⟩:=bind_some e
 obtain⟨h,e⟩:=zBX e
 cases e
 obtain⟨p,vs,rfl,h1,i1⟩:=zFB R ox e1
 obtain⟨q,us,rfl,h2,i2⟩:=zFB R oy e2
 exact⟨p,q,vs,us,rfl,rfl,h1,h2,by rw[i1.len,i2.len]; exact h,fun c hc=>k _ _ (R.new hc) (Evo.new hc) (R.newl hc (i1.app i2)) ⟨c,rfl,hc⟩⟩
noncomputable def addS:En->S->S->Option S:=fun Γ x y=>((opII fun i j=>.int (i+j)) Γ x y).or ((addTup Γ x y).or ((addLst Γ x y).or (addStr Γ x y)))
noncomputable def rAddS (K:Fg):R2:=fun x y H Q=>rI0 (fun i j=>.int (i+j)) x y H Q\/rCatS K x y H Q\/rCat x y H Q\/rAddStr x y H Q
theorem zJG{K:Fg}:SimR2 K (rAddS K) addS:=zBM.or (zF1.or (zFM.or zF9))
theorem zLk{X:Cx}:OpR X (Cg .Add) (rAddS X.K):=zNl.or (zME.or (zNc.or zH0))
noncomputable def fitM (n:Nat) (k:Int):Bool:=inR 9223372036854775807 k && Eh (n * k.toNat) AE
noncomputable def mulLst:En->S->S->Option S:=fun Γ a b=>(lsOf Γ a).bind fun xs=>(iS b).bind fun k=>if fitM xs.length k=true then some (.l (Ad k.toNat xs).flatten) else none
theorem Ims.rep{K:Fg}{H:Hp}{vs:List V}{ts:List T}(h:Ims K H vs ts):∀ n:Nat,Ims K H (Ad n vs).flatten (Ad n ts).flatten
 | 0=>.nil
 | n+1=>by rw[B5,B5,Cs,Cs]; exact h.app (h.rep n)
theorem zFY{K:Fg}:SimR2 K rRep mulLst:=by
 intro C w Γ σ H x y a b s Q R ox oy e k
 obtain⟨xs,e1,e⟩:=bind_some e
 obtain⟨n,e2,e⟩:=bind_some e
 split at e
 ·rename_i h
  cases e
  unfold fitM at h
  rw[Ab]at h
  have h0:=inR63 h.1
  have h3:=Es h.2
  obtain⟨p,vs,rfl,h1,i1⟩:=zFB R ox e1
  exact⟨p,n,vs,rfl,zBj oy e2,h1,h0.1,h0.2,by rw[i1.len]; exact h3,fun c hc=>k _ _ (R.new hc) (Evo.new hc) (R.newl hc (i1.rep _)) ⟨c,rfl,hc⟩⟩
 ·cases e
noncomputable def mulS:En->S->S->Option S:=fun Γ x y=>(opIIc CMul (fun i j=>.int (i * j)) Γ x y).or (mulLst Γ x y)
noncomputable def rMulS:R2:=fun x y H Q=>rI CMul (fun i j=>.int (i * j)) x y H Q\/rRep x y H Q
theorem zIh{K:Fg}:SimR2 K rMulS mulS:=zCK.or zFY
theorem zMp{X:Cx}:OpR X (Cg .Mult) rMulS:=zNm.or zNJ
noncomputable def modS:En->S->S->Option S:=opIIc (fun _ j=>0 < j) fun i j=>.int (i % j)
noncomputable def fdivS:En->S->S->Option S:=opIIc CDiv fun i j=>.int (i / j)
noncomputable def powS:En->S->S->Option S:=opIIc CPow fun i j=>.int (i ^ j.toNat)
noncomputable def subS:En->S->S->Option S:=opII fun i j=>.int (i - j)
noncomputable def ltS:En->S->S->Option S:=opII fun i j=>.bl (decide (i < j))
noncomputable def leS:En->S->S->Option S:=opII fun i j=>.bl (decide (i<=j))
noncomputable def gtS:En->S->S->Option S:=opII fun i j=>.bl (decide (j < i))
noncomputable def geS:En->S->S->Option S:=opII fun i j=>.bl (decide (j<=i))
noncomputable def negS:En->S->Option S:=fun _ a=>(iS a).map fun i=>mkI (-i)
theorem zI9{K:Fg}:SimR1 K (rU fun i=>.int (-i)) negS:=by
 intro C w Γ σ H x a s Q R ox e k
 obtain⟨i,e1,e⟩:=zAE e
 cases e
 exact⟨i,zBj ox e1,k _ H R .refl SOk.atom trivial⟩
noncomputable def ixS:En->S->S->Option S:=fun Γ a b=>(iS b).bind fun i=>match a with
 | .v (.t xs)=>(atI xs i).map .v
 | .v (.a (.str z))=>if z.length<=AE then (atI z.cps.toList i).map fun c=>.v (.a (.str ⟨#[c]⟩)) else none
 | a=>(sqlOf Γ a).bind fun xs=>(atI xs i).map .v
theorem zGy{K:Fg}{H:Hp}{vs:List V}{ts:List T}{i:Int}{t:T}(h:Ims K H vs ts)(e:atI ts i=some t):∃ v,atI vs i=some v/\Im K H v t:=by
 unfold atI at e ⊢
 rw[h.len]
 obtain⟨j,e1,e⟩:=bind_some e
 obtain⟨v,e2,hv⟩:=h.get e
 exact⟨v,by rw[e1]; exact e2,hv⟩
theorem zKQ{K:Fg}:SimR2 K (rIx K) ixS:=by
 intro C w Γ σ H x y a b s Q R ox oy e k
 obtain⟨i,e1,e⟩:=bind_some e
 have hy:=zBj oy e1
 split at e
 ·rename_i xs
  obtain⟨t,e2,e⟩:=zAE e
  cases e
  obtain⟨p,vs,rfl,h1,i1⟩:=ox.invt
  obtain⟨v,e3,hv⟩:=zGy i1 e2
  exact .inr (.inl ⟨p,vs,i,v,rfl,hy,h1.sq,e3,k v H R .refl hv trivial⟩)
 ·rename_i z
  split at e
  ·rename_i hz
   obtain⟨c,e2,e⟩:=zAE e
   cases e
   exact .inr (.inr ⟨_,i,c,ox.inva,hy,hz,e2,k _ H R .refl SOk.atom trivial⟩)
  ·cases e
 ·obtain⟨xs,e2,e⟩:=bind_some e
  obtain⟨t,e3,e⟩:=zAE e
  cases e
  obtain⟨p,vs,rfl,h1,i1⟩:=zBU R ox e2
  obtain⟨v,e4,hv⟩:=zGy i1 e3
  exact .inl ⟨p,vs,i,v,rfl,hy,h1,e4,k v H R .refl hv trivial⟩
noncomputable def lenS:En->List S->Option S:=fun Γ as=>match as with
 | [.v (.t xs)]=>some (mkI xs.length)
 | [.v (.a (.str z))]=>if z.length<=AE then some (mkI z.length) else none
 | [a]=>(sqlOf Γ a).map fun xs=>mkI xs.length
 | _=>none
noncomputable def rLenS (K:Fg):List V->Hp->VK->Prop:=fun xs H Q=>(∃ p ys,xs=[.ref p]/\(SqL K H p ys\/SqT K H p ys)/\Q (.int ys.length) H)\/(∃ z,xs=[.str z]/\z.length<=AE/\Q (.int z.length) H)
theorem soks1{K:Fg}{C:Fr}{w:W}{σ:St}{H:Hp}{vs:List V}{a:S}(h:SOks K C w σ H vs [a]):∃ v,vs=[v]/\SOk K C w σ H v a:=by
 match vs,h with
 | [v],h=>exact⟨v,rfl,h.1⟩
theorem soks2{K:Fg}{C:Fr}{w:W}{σ:St}{H:Hp}{vs:List V}{a b:S}(h:SOks K C w σ H vs [a,b]):∃ v u,vs=[v,u]/\SOk K C w σ H v a/\SOk K C w σ H u b:=by
 match vs,h with
 | [v,u],h=>exact⟨v,u,rfl,h.1,h.2.1⟩
theorem zJm{K:Fg}:SimRs K (rLenS K) lenS:=by
 intro C w Γ σ H vs as s Q R o e k
 unfold lenS at e
 split at e
 ·cases e
  obtain⟨v,rfl,o1⟩:=soks1 o
  obtain⟨p,us,rfl,h1,i1⟩:=o1.invt
  refine .inl ⟨p,us,rfl,.inr h1.sq,?_⟩
  rw[i1.len]
  exact k _ H R .refl SOk.atom trivial
 ·rename_i z
  split at e
  ·rename_i hz
   cases e
   obtain⟨v,rfl,o1⟩:=soks1 o
   exact .inr ⟨z,by rw[o1.inva],hz,k _ H R .refl SOk.atom trivial⟩
  ·cases e
 ·obtain⟨xs,e1,e⟩:=zAE e
  cases e
  obtain⟨v,rfl,o1⟩:=soks1 o
  obtain⟨p,us,rfl,h1,i1⟩:=zBU R o1 e1
  refine .inl ⟨p,us,rfl,.inl h1,?_⟩
  rw[i1.len]
  exact k _ H R .refl SOk.atom trivial
 ·cases e
theorem zIr{X:Cx}:CallR X (.builtin "len") (rLenS X.K):=zFU.or zF3
noncomputable def seqS (Γ:En):S->Option (List T)
 | .v (.t xs)=>some xs
 | a=>sqlOf Γ a
theorem zD0{K:Fg}{C:Fr}{w:W}{Γ:En}{σ:St}{H:Hp}{x:V}{s:S}{xs:List T}(R:Rep K C w Γ σ H)(o:SOk K C w σ H x s)(e:seqS Γ s=some xs):∃ p vs,x=.ref p/\(SqL K H p vs\/SqT K H p vs)/\Ims K H vs xs:=by
 unfold seqS at e
 split at e
 ·cases e
  obtain⟨p,us,rfl,h1,i1⟩:=o.invt
  exact⟨p,us,rfl,.inr h1.sq,i1⟩
 ·obtain⟨p,us,rfl,h1,i1⟩:=zBU R o e
  exact⟨p,us,rfl,.inl h1,i1⟩
noncomputable def tupleS:En->List S->Option S:=fun Γ as=>match as with
 | [.v (.t xs)]=>some (.v (.t xs))
 | [a]=>(sqlOf Γ a).map fun xs=>.v (.t xs)
 | _=>none
theorem zGG{K:Fg}:SimRs K (fun xs H Q=>∃ p ys,xs=[.ref p]/\((SqL K H p ys/\∀ l,H l=none->Q (.ref l) (upd H l (.tup ys)))\/(SqT K H p ys/\Q (.ref p) H))) tupleS:=by
 intro C w Γ σ H vs as s Q R o e k
 unfold tupleS at e
 split at e
 ·cases e
  obtain⟨v,rfl,o1⟩:=soks1 o
  have o2:=o1
  obtain⟨p,us,rfl,h1,i1⟩:=o1.invt
  exact⟨p,us,rfl,.inr ⟨h1.sq,k _ H R .refl o2 trivial⟩⟩
 ·obtain⟨xs,e1,e⟩:=zAE e
  cases e
  obtain⟨v,rfl,o1⟩:=soks1 o
  obtain⟨p,us,rfl,h1,i1⟩:=zBU R o1 e1
  exact⟨p,us,rfl,.inl ⟨h1,fun l hl=>k _ _ (R.new hl) (Evo.new hl) (R.newt hl i1) trivial⟩⟩
 ·cases e
abbrev DO:=En->Option (Option Int×En)
def SimO (K:Fg) (t:TO) (f:DO):Prop:=∀ (C:Fr) (w:W) (Γ:En) (σ:St) (H:Hp) (i:Option Int) (Γ':En) (Q:Option Int->Hp->Prop),Rep K C w Γ σ H->f Γ=some (i,Γ')->(∀ H',Rep K C w Γ' σ H'->Evo w.L H H'->Q i H')->t σ H Q
noncomputable def dNoPart:DO:=fun Γ=>some (none,Γ)
noncomputable def dPart (f:DE):DO:=fun Γ=>(f Γ).bind fun p=>(iS p.1).map fun i=>(some i,p.2)
theorem zHr{K:Fg}:SimO K tNoPart dNoPart:=fun C w Γ σ H i Γ' Q R e k=>by cases e; exact k H R .refl
theorem zLF{K:Fg}{t:TE}{f:DE}(h:SimE K t f):SimO K (tPart t) (dPart f):=by
 intro C w Γ σ H i Γ' Q R e k
 obtain⟨p,e1,e⟩:=bind_some e
 obtain⟨i,e2,e⟩:=zAE e
 cases e
 exact h C w Γ σ H p.1 p.2 _ R e1 fun v H1 R1 ev o _=>⟨i,zBj o e2,k H1 R1 ev⟩
noncomputable def cutT (xs:List T) (lo hi:Option Int):List T:=(xs.drop (HT.sIx xs.length 0 lo)).take (HT.sIx xs.length xs.length hi - HT.sIx xs.length 0 lo)
theorem Ims.cut{K:Fg}{H:Hp}{vs:List V}{ts:List T}(h:Ims K H vs ts)(lo hi:Option Int):Ims K H (cutV vs lo hi) (cutT ts lo hi):=by
 unfold cutV cutT
 rw[h.len]
 exact (h.drop _).take _
noncomputable def slS (Γ:En) (lo hi:Option Int):S->Option S
 | .v (.t xs)=>some (.v (.t (cutT xs lo hi)))
 | .v (.a _)=>none
 | a=>(sqlOf Γ a).map fun xs=>.l (cutT xs lo hi)
noncomputable def dSl (f:DE) (lo hi:DO):DE:=fun Γ=>(f Γ).bind fun p=>(lo p.2).bind fun l=>(hi l.2).bind fun h=>(slS h.2 l.1 h.1 p.1).map fun s=>(s,h.2)
noncomputable def rSlTS (K:Fg):V->Option Int->Option Int->Hp->VK->Prop:=fun x lo hi H Q=>∃ a xs,x=.ref a/\Tp K H a xs/\∀ p H',Same H H'->Tp K H' p (cutV xs lo hi)->Q (.ref p) H'
theorem zMK{X:Cx}:SlR X (rSlTS X.K):=by
 intro pins s σ H x v vl vu lo hi sl Q I rx hs pl pu h
 obtain⟨a,xs,rfl,hx,q⟩:=h
 cases rx
 obtain⟨its,r,ht,hz⟩:=I.tuple hx.sq
 have hlen:its.toArray.size=xs.length:=by rw[AS]; exact r.length.symm
 refine⟨"tuple",_,Bh.lookup,ht.typeIs,?_⟩
 by_cases hw:HT.sIx xs.length 0 lo=0/\HT.sIx xs.length xs.length hi=xs.length
 ·refine zCQ ht hs pl pu (by rw[hlen]; exact hw) ⟨.ref a,H,I,rfl,q a H (Same.refl H) ?_⟩
  unfold cutV
  rw[hw.1,hw.2,Iv,J1,Cb (AL _)]
  exact hx
 ·refine HT.qY ht hs pl pu (by rw[hlen]; exact hw) ?_ (by rw[hlen]; exact hz)
  rw[hlen]
  have hf:H s.heap.objs.size=none:=I.hok.fresh (AL _)
  refine⟨.ref s.heap.objs.size,_,I.laid (t':=s.toks) (o:=.tup (cutV xs lo hi)) (fun b ob q=>AC _ q) (AL _) ?_,rfl,q _ _ (Same.upd hf) (.inl zAf)⟩
  exact⟨Aa (zDB xs lo hi) hz,_,(r.drop (HT.sIx xs.length 0 lo)).take (HT.sIx xs.length xs.length hi - HT.sIx xs.length 0 lo),TupD.new _ _⟩
noncomputable def rSlS (K:Fg):V->Option Int->Option Int->Hp->VK->Prop:=fun x lo hi H Q=>rSlTS K x lo hi H Q\/rSlL K x lo hi H Q
theorem sl_S{X:Cx}:SlR X (rSlS X.K):=zMK.or zLc
theorem zNe{K:Fg}{te:TE}{f:DE}{tl th:TO}{lo hi:DO}(he:SimE K te f)(hl:SimO K tl lo)(hh:SimO K th hi):SimE K (tSl (rSlS K) te tl th) (dSl f lo hi):=by
 intro C w Γ σ H s Γ' Q R e k
 obtain⟨⟨a,G1⟩,e1,e⟩:=bind_some e
 obtain⟨⟨i,G2⟩,e2,e⟩:=bind_some e
 obtain⟨⟨j,G3⟩,e3,e⟩:=bind_some e
 obtain⟨z,e4,e⟩:=zAE e
 cases e
 dsimp only at e4
 refine he C w Γ σ H a G1 _ R e1 fun v H1 R1 ev1 o1 n1=>?_
 refine hl C w G1 σ H1 i G2 _ R1 e2 fun H2 R2 ev2=>?_
 refine hh C w G2 σ H2 j G3 _ R2 e3 fun H3 R3 ev3=>?_
 have o3:=(o1.evo ev2 R1.lst).evo ev3 R2.lst
 have ev:=(ev1.trans ev2).trans ev3
 unfold slS at e4
 split at e4
 ·cases e4
  obtain⟨p,us,rfl,h1,i1⟩:=o3.invt
  refine .inl ⟨p,us,rfl,h1,fun c H' sm hc=>k _ H' (R3.same sm) (ev.trans (.of_same sm)) ?_ trivial⟩
  show Im K H' (.ref c) (.t _)
  unfold Im
  exact⟨c,_,rfl,hc,(i1.evo (.of_same sm) R3.lst).cut _ _⟩
 ·cases e4
 ·obtain⟨xs,e5,e4⟩:=zAE e4
  cases e4
  obtain⟨p,us,rfl,h1,i1⟩:=zBU R3 o3 e5
  exact .inr ⟨p,us,rfl,h1,fun c hc=>k _ _ (R3.new hc) (ev.trans (Evo.new hc)) (R3.newl hc (i1.cut _ _)) ⟨c,rfl,zAv ev R3.lst hc⟩⟩
def SimMut (K:Fg) (r:V->List V->Hp->VK->Prop) (h:En->List T->List S->Option (T×List T)):Prop:=∀ (C:Fr) (w:W) (Γ:En) (σ:St) (H:Hp) (l:Addr) (us:List V) (xs:List T) (vs:List V) (as:List S) (t:T) (ys:List T) (Q:VK),Rep K C w Γ σ H->H l=some (.lst us)->Ims K H us xs->us.length<=AE->SOks K C w σ H vs as->h Γ xs as=some (t,ys) ->
 (∀ v us',Ims K H us' ys->Im K H v t->Q v (upd H l (.lst us')))->r (.ref l) vs H Q
noncomputable def isLs (Γ:En) (i:Nat):Bool:=match Γ[i]? with
 | some (some (.l _))=>true
 | _=>false
noncomputable def dMut (i:Nat) (h:En->List T->List S->Option (T×List T)) (fa:DA):DE:=fun Γ=>if isLs Γ i=true then (fa Γ).bind fun p=>match p.2[i]? with
 | some (some (.l xs))=>(gd xs.length ()).bind fun _=>(h p.2 xs p.1).map fun q=>(.v q.1,p.2.set i (some (.l q.2)))
 | _=>none
 else none
theorem zGr{K:Fg}{C:Fr}{w:W}{Γ:En}{σ:St}{H:Hp}{i:Nat}(R:Rep K C w Γ σ H)(h:isLs Γ i=true):∃ p vs,σ[i]?=some (some (.ref p))/\H p=some (.lst vs):=by
 unfold isLs at h
 split at h
 ·rename_i xs e
  obtain⟨v,e1,p,vs,rfl,_,h1,_⟩:=R.val i _ e
  exact⟨p,vs,e1,h1⟩
 ·cases h
theorem zGl{K:Fg}{i:Nat}{r:V->List V->Hp->VK->Prop}{h:En->List T->List S->Option (T×List T)}{ta:TA}{fa:DA}(hr:SimMut K r h)(ha:SimA K ta fa):SimE K (tBM K "list" r (tVar i) ta) (dMut i h fa):=by
 intro C w Γ σ H s Γ' Q R e k
 unfold dMut at e
 split at e
 rotate_left
 ·cases e
 rename_i hl
 obtain⟨p,vs,e1,e2⟩:=zGr R hl
 obtain⟨⟨as,G1⟩,e3,e⟩:=bind_some e
 dsimp only at e
 split at e
 rotate_left
 ·cases e
 rename_i xs hx
 obtain⟨_,eg,e⟩:=bind_some e
 obtain⟨hsz,_⟩:=zBX eg
 obtain⟨⟨t,ys⟩,e4,e⟩:=zAE e
 cases e
 refine⟨.ref p,e1,.inl ⟨rfl,vs,SqL.of e2⟩,?_⟩
 refine ha C w Γ σ H as G1 _ R e3 fun us H1 R1 ev1 o1 n1=>?_
 obtain⟨v,s1,q,ws,rfl,m1,h1,i1⟩:=R1.val i _ hx
 rw[e1]at s1; cases s1
 refine hr C w G1 σ H1 p ws xs us as t ys _ R1 h1 i1 (by rw[i1.len]; exact hsz) o1 e4 fun v us' hu hv=>?_
 obtain⟨R2,ev2⟩:=R1.put hx e1 hu
 exact k v _ R2 (ev1.trans ev2) (hv.evo ev2 R1.lst) trivial
theorem zJ5{K:Fg}{i:Nat}{r:V->List V->Hp->VK->Prop}{h:En->List T->List S->Option (T×List T)}(hr:SimMut K r h):SimE K (tBM0 K "list" r (tVar i)) (dMut i h qQ):=by
 intro C w Γ σ H s Γ' Q R e k
 have:=zGl (i:=i) hr (zGx (K:=K)) C w Γ σ H s Γ' Q R e k
 obtain⟨v,e1,e2,e3⟩:=this
 exact⟨v,e1,e2,e3⟩
noncomputable def hAppend:En->List T->List S->Option (T×List T):=fun _ xs as=>match as with
 | [.v t]=>if xs.length < AE then some (.a .non,xs++[t]) else none
 | _=>none
theorem zBE{K:Fg}:SimMut K rAppend hAppend:=by
 intro C w Γ σ H l us xs vs as t ys Q R hl hi hz o e k
 unfold hAppend at e
 split at e
 ·rename_i t'
  split at e
  ·rename_i hn
   cases e
   obtain⟨v,rfl,o1⟩:=soks1 o
   exact⟨l,us,v,rfl,rfl,hl,by rw[hi.len]; exact hn,k _ _ (hi.app (.one o1)) Im.atom⟩
  ·cases e
 ·cases e
noncomputable def hPop:En->List T->List S->Option (T×List T):=fun _ xs as=>match as with
 | []=>(xs[xs.length - 1]?).map fun t=>(t,xs.dropLast)
 | _=>none
theorem Ims.dropLast{K:Fg}{H:Hp}{vs:List V}{ts:List T}(h:Ims K H vs ts):Ims K H vs.dropLast ts.dropLast:=by
 rw[Eo,Eo,h.len]; exact h.take _
theorem soks0{K:Fg}{C:Fr}{w:W}{σ:St}{H:Hp}{vs:List V}(h:SOks K C w σ H vs []):vs=[]:=by
 match vs,h with
 | [],_=>rfl
theorem zGz{K:Fg}:SimMut K rPop hPop:=by
 intro C w Γ σ H l us xs vs as t ys Q R hl hi hz o e k
 unfold hPop at e
 split at e
 ·obtain⟨t',e1,e⟩:=zAE e
  cases e
  obtain⟨v,e2,hv⟩:=hi.get e1
  exact⟨l,us,v,rfl,soks0 o,hl,by rw[hi.len]; exact e2,k _ _ hi.dropLast hv⟩
 ·cases e
noncomputable def hPopAt:En->List T->List S->Option (T×List T):=fun _ xs as=>match as with
 | [.v (.a (.int i))]=>if inR 9223372036854775807 i=true then (Fd i xs.length).bind fun k=>(xs[k]?).map fun t=>(t,xs.eraseIdx k) else none
 | _=>none
theorem zEa{K:Fg}:SimMut K rPopAt hPopAt:=by
 intro C w Γ σ H l us xs vs as t ys Q R hl hi hz o e k
 unfold hPopAt at e
 split at e
 ·rename_i i
  split at e
  ·rename_i hb
   have hb:=inR63 hb
   obtain⟨j,e1,e⟩:=bind_some e
   obtain⟨t',e2,e⟩:=zAE e
   cases e
   obtain⟨v,rfl,o1⟩:=soks1 o
   obtain⟨y,e3,hy⟩:=hi.get e2
   exact⟨l,us,i,j,y,rfl,by rw[o1.inva],hl,hb.1,hb.2,by rw[hi.len]; exact e1,e3,k _ _ (hi.erase _) hy⟩
  ·cases e
 ·cases e
noncomputable def hExtend:En->List T->List S->Option (T×List T):=fun Γ xs as=>match as with
 | [a]=>(lsOf Γ a).bind fun zs=>gd (xs.length+zs.length) (.a .non,xs++zs)
 | _=>none
theorem zHQ{K:Fg}:SimMut K rExtend hExtend:=by
 intro C w Γ σ H l us xs vs as t ys Q R hl hi hz o e k
 unfold hExtend at e
 split at e
 ·obtain⟨zs,e1,e⟩:=bind_some e
  obtain⟨hg,e⟩:=zBX e
  cases e
  obtain⟨v,rfl,o1⟩:=soks1 o
  obtain⟨p,ws,rfl,h1,i1⟩:=zFB R o1 e1
  exact⟨l,p,us,ws,rfl,rfl,hl,h1,by rw[hi.len,i1.len]; exact hg,k _ _ (hi.app i1) Im.atom⟩
 ·cases e
noncomputable def dSetIx (i:Nat) (fe fi:DE):DS:=fun Γ=>(fe Γ).bind fun p=>p.1.tree.bind fun t=>if isLs p.2 i=true then (fi p.2).bind fun q=>(iS q.1).bind fun k=>match q.2[i]? with
  | some (some (.l xs))=>(ixN xs.length k).map fun j=>.nx (q.2.set i (some (.l (xs.set j t))))
  | _=>none
 else none
theorem zHV{K:Fg}{ip:Option Nat}{i:Nat}{te ti:TE}{fe fi:DE}(he:SimE K te fe)(hi:SimE K ti fi):SimS K ip (tAsg te (gSub (tVar i) ti rSetL)) (dSetIx i fe fi):=by
 intro C w Γ σ H D o hp R e k
 obtain⟨⟨s,G1⟩,e1,e⟩:=bind_some e
 obtain⟨t,e2,e⟩:=bind_some e
 dsimp only at e e2
 split at e
 rotate_left
 ·cases e
 rename_i hl
 obtain⟨⟨s2,G2⟩,e3,e⟩:=bind_some e
 obtain⟨n,e4,e⟩:=bind_some e
 dsimp only at e e4
 split at e
 rotate_left
 ·cases e
 rename_i xs hx
 obtain⟨j,e5,e⟩:=zAE e
 subst e
 cases s with
 | l _=>cases e2
 | s _=>cases e2
 | d _=>cases e2
 | v t' =>
  cases e2
  refine he C w Γ σ H _ G1 _ R e1 fun v H1 R1 ev1 o1 n1=>?_
  obtain⟨p,vs,s1,h1⟩:=zGr R1 hl
  refine⟨.ref p,s1,?_⟩
  refine hi C w G1 σ H1 s2 G2 _ R1 e3 fun v2 H2 R2 ev2 o2 n2=>?_
  obtain⟨v3,s3,q,ws,rfl,m3,h3,i3⟩:=R2.val i _ hx
  rw[s1]at s3; cases s3
  have o1':Im K H1 v t:=o1
  exact⟨p,ws,n,j,rfl,zBj o2 e4,h3,by rw[i3.len]; exact e5,k w σ _ (R2.put hx s1 (i3.set j (o1'.evo ev2 R1.lst))).1⟩
noncomputable def tyN (Γ:En):S->Option String
 | .v (.t _)=>some "tuple"
 | .v (.a (.int _))=>some "int"
 | .v (.a (.bl _))=>some "bool"
 | .v (.a (.str _))=>some "str"
 | .v (.a .non)=>some "NoneType"
 | .v (.l _)=>some "list"
 | .v _=>none
 | a=>(sqlOf Γ a).map fun _=>"list"
noncomputable def TyS (K:Fg) (H:Hp) (n:String):V->Prop
 | .int _=>n="int"
 | .bl _=>n="bool"
 | .str _=>n="str"
 | .non=>n="NoneType"
 | .ref p=>(n="list"/\∃ xs,SqL K H p xs)\/(n="tuple"/\∃ xs,SqT K H p xs)
 | _=>False
theorem zI7{K:Fg}{C:Fr}{w:W}{Γ:En}{σ:St}{H:Hp}{x:V}{s:S}{n:String}(R:Rep K C w Γ σ H)(o:SOk K C w σ H x s)(e:tyN Γ s=some n):TyS K H n x:=by
 unfold tyN at e
 split at e
 ·cases e; obtain⟨p,us,rfl,h1,i1⟩:=o.invt; exact .inr ⟨rfl,us,h1.sq⟩
 ·cases e; rw[o.inva]; exact rfl
 ·cases e; rw[o.inva]; exact rfl
 ·cases e; rw[o.inva]; exact rfl
 ·cases e; rw[o.inva]; exact rfl
 ·rename_i ys; cases e; obtain⟨p,us,rfl,h1,i1⟩:=(show Im K H x (.l ys) from o).invl; exact .inl ⟨rfl,us,h1.sq⟩
 ·cases e
 ·obtain⟨xs,e1,e⟩:=zAE e
  cases e
  obtain⟨p,us,rfl,h1,i1⟩:=zBU R o e1
  exact .inl ⟨rfl,us,h1⟩
theorem zIj{X:Cx}{pins:List (Addr×Obj)}{σ:St}{H:Hp}{s:AD}{x:V}{u:AB}{n:String}(I:Inv X pins σ H s)(rx:RelV x u)(ty:TyS X.K H n x):∃ P:Heap->Prop,Ic X.K u (.type n) P/\P s.heap/\u≠.builtin "__main__.__loader__#opaque":=by
 cases x with
 | non=>cases ty; cases (show u=A0 from rx); exact⟨_,PySem.W.kitx_none,EZ,fun z=>nomatch z⟩
 | bl y=>cases ty; cases (show u=EU y from rx); exact⟨_,PySem.W.kitx_bool,EZ,fun z=>nomatch z⟩
 | int i=>cases ty; obtain⟨t,q⟩:=(show ∃ t,u=Bb i t from rx); cases q; exact⟨_,PySem.W.kitx_int,EZ,fun z=>nomatch z⟩
 | str y=>cases ty; obtain⟨t,q⟩:=(show ∃ t,u=Ex y t from rx); cases q; exact⟨_,PySem.W.kitx_str,EZ,fun z=>nomatch z⟩
 | ref p =>
  cases (show u=Ai p from rx)
  rcases ty with ⟨rfl,xs,h⟩ | ⟨rfl,xs,h⟩
  ·obtain⟨its,_,pl,_⟩:=I.list h
   obtain⟨o,h1,h2,_⟩:=pl.isList
   exact⟨_,PySem.W.kitx_list,⟨o,h1,h2⟩,fun z=>nomatch z⟩
  ·obtain⟨its,_,pl,_⟩:=I.tuple h
   obtain⟨o,h1,h2,_⟩:=pl
   exact⟨_,PySem.W.kitx_tuple,⟨o,h1,h2⟩,fun z=>nomatch z⟩
 | byt _=>exact ty.elim
 | flt _=>exact ty.elim
 | ty _=>exact ty.elim
noncomputable def tyIx:String->Option Nat
 | "int"=>some 0
 | "bool"=>some 1
 | "str"=>some 2
 | "list"=>some 3
 | "tuple"=>some 4
 | "NoneType"=>some 5
 | _=>none
noncomputable def tyNm:Nat->String
 | 0=>"int" | 1=>"bool" | 2=>"str" | 3=>"list" | 4=>"tuple" | _=>"NoneType"
@[simp] theorem zQX:tyIx "int"=some 0:=(rfl)
@[simp] theorem zQi:tyIx "tuple"=some 4:=(rfl)
theorem zGk{a:String}{i:Nat}(h:tyIx a=some i):a=tyNm i/\i < 6:=by
 unfold tyIx at h
 split at h <;> first | (cases h; exact⟨rfl,by decide⟩) | cases h
noncomputable def subTy (a b:String):Option Bool:=(tyIx a).bind fun i=>(tyIx b).bind fun j=>if j=5 then none else some (i == j || (i == 1 && j == 0))
theorem zK7{K:Fg}{a b:String}{c:Bool}(e:subTy a b=some c):B8 K (.type a) (.type b)=some c:=by
 obtain⟨i,e1,z0⟩:=bind_some e
 obtain⟨j,e2,z⟩:=bind_some z0
 clear z0
 clear e
 obtain⟨rfl,hi⟩:=zGk e1
 obtain⟨rfl,hj⟩:=zGk e2
 clear e1 e2
 by_cases h5:j=5
 ·rw[if_pos h5]at z; cases z
 rw[if_neg h5]at z
 cases z
 have key:∀ i < 6,∀ j < 5,B8 K (.type (tyNm i)) (.type (tyNm j))=some (i == j || (i == 1 && j == 0)):=fun i hi j hj=>by
  match i,hi,j,hj with
  | 0,_,0,_=>kernel_rfl
  | 0,_,1,_=>kernel_rfl
  | 0,_,2,_=>kernel_rfl
  | 0,_,3,_=>kernel_rfl
  | 0,_,4,_=>kernel_rfl
  | 1,_,0,_=>kernel_rfl
  | 1,_,1,_=>kernel_rfl
  | 1,_,2,_=>kernel_rfl
  | 1,_,3,_=>kernel_rfl
  | 1,_,4,_=>kernel_rfl
  | 2,_,0,_=>kernel_rfl
  | 2,_,1,_=>kernel_rfl
  | 2,_,2,_=>kernel_rfl
  | 2,_,3,_=>kernel_rfl
  | 2,_,4,_=>kernel_rfl
  | 3,_,0,_=>kernel_rfl
  | 3,_,1,_=>kernel_rfl
  | 3,_,2,_=>kernel_rfl
  | 3,_,3,_=>kernel_rfl
  | 3,_,4,_=>kernel_rfl
  | 4,_,0,_=>kernel_rfl
  | 4,_,1,_=>kernel_rfl
  | 4,_,2,_=>kernel_rfl
  | 4,_,3,_=>kernel_rfl
  | 4,_,4,_=>kernel_rfl
  | 5,_,0,_=>kernel_rfl
  | 5,_,1,_=>kernel_rfl
  | 5,_,2,_=>kernel_rfl
  | 5,_,3,_=>kernel_rfl
  | 5,_,4,_=>kernel_rfl
 exact key i hi j (by omega)
noncomputable def subLT:String->Option Bool
 | "int"=>some false
 | "bool"=>some false
 | "str"=>some false
 | "NoneType"=>some false
 | "list"=>some true
 | "tuple"=>some true
 | _=>none
theorem zJ6{K:Fg}{a:String}{c:Bool}(e:subLT a=some c):Ei K (.type a) [.type "list",.type "tuple"]=some c:=by
 unfold subLT at e
 split at e <;> first | (cases e; kernel_rfl) | cases e
noncomputable def rIsi (K:Fg):List V->Hp->VK->Prop:=fun xs H Q=>∃ x T n b,xs=[x,.ty T]/\TyS K H n x/\subTy n T=some b/\Q (.bl b) H
theorem zKJ{X:Cx}:CallR X (.builtin "isinstance") (rIsi X.K):=by
 intro pins s σ H xs us Q I r h
 obtain⟨x,T,n,b,rfl,ty,e,q⟩:=h
 obtain⟨u,u',rfl,r1,r2⟩:=vals2 r
 cases (show u'=BM T from r2)
 obtain⟨P,Z,hP,hx⟩:=zIj I r1 ty
 exact Fs Z I.kIn hP (zK7 e) hx fun tk=>⟨.bl b,H,I.tok tk,rfl,q⟩
noncomputable def rIsiLT (K:Fg):List V->Hp->VK->Prop:=fun xs H Q=>∃ x p n b,xs=[x,.ref p]/\SqT K H p [.ty "list",.ty "tuple"]/\TyS K H n x/\subLT n=some b/\Q (.bl b) H
theorem zHU{X:Cx}:CallR X (.builtin "isinstance") (rIsiLT X.K):=by
 intro pins s σ H xs us Q I r h
 obtain⟨x,p,n,b,rfl,hp,ty,e,q⟩:=h
 obtain⟨u,u',rfl,r1,r2⟩:=vals2 r
 cases (show u'=Ai p from r2)
 obtain⟨its,rv,⟨o,ho,hcl,⟨m,hd⟩⟩,hz⟩:=I.tuple hp
 obtain⟨u1,u2,rfl,q1,q2⟩:=vals2 rv
 cases (show u1=BM "list" from q1)
 cases (show u2=BM "tuple" from q2)
 obtain⟨P,Z,hP,hx⟩:=zIj I r1 ty
 obtain⟨cls,dd,data,sl⟩:=o
 simp only at hcl hd
 subst hcl hd
 exact Hv Z I.kIn hP ho (zJ6 e) hx fun tk=>⟨.bl b,H,I.tok tk,rfl,q⟩
noncomputable def isiS:En->List S->Option S:=fun Γ as=>match as with
 | [a,.v (.a (.ty T))]=>(tyN Γ a).bind fun n=>(subTy n T).map mkB
 | [a,.v (.t [.a (.ty "list"),.a (.ty "tuple")])]=>(tyN Γ a).bind fun n=>(subLT n).map mkB
 | _=>none
noncomputable def rIsiS (K:Fg):List V->Hp->VK->Prop:=fun xs H Q=>rIsi K xs H Q\/rIsiLT K xs H Q
theorem zI2{X:Cx}:CallR X (.builtin "isinstance") (rIsiS X.K):=zKJ.or zHU
theorem zJv{K:Fg}:SimRs K (rIsiS K) isiS:=by
 intro C w Γ σ H vs as s Q R o e k
 unfold isiS at e
 split at e
 ·obtain⟨n,e1,e⟩:=bind_some e
  obtain⟨b,e2,e⟩:=zAE e
  cases e
  obtain⟨v,u,rfl,o1,o2⟩:=soks2 o
  exact .inl ⟨v,_,n,b,by rw[o2.inva],zI7 R o1 e1,e2,k _ H R .refl SOk.atom trivial⟩
 ·obtain⟨n,e1,e⟩:=bind_some e
  obtain⟨b,e2,e⟩:=zAE e
  cases e
  obtain⟨v,u,rfl,o1,o2⟩:=soks2 o
  obtain⟨p,us,rfl,h1,i1⟩:=o2.invt
  have hus:us=[.ty "list",.ty "tuple"]:=Ims.of_atoms (us:=[.ty "list",.ty "tuple"]) i1
  subst hus
  exact .inr ⟨v,p,n,b,rfl,h1.sq,zI7 R o1 e1,e2,k _ H R .refl SOk.atom trivial⟩
 ·cases e
noncomputable def intS:En->List S->Option S:=fun _ as=>match as with
 | [.v (.a (.int i))]=>some (mkI i)
 | [.v (.a (.bl b))]=>some (mkI (if b then 1 else 0))
 | _=>none
theorem zIc{K:Fg}:SimRs K (fun xs H Q=>(∃ i,xs=[.int i]/\Q (.int i) H)\/∃ k,xs=[.bl k]/\Q (.int (if k then 1 else 0)) H) intS:=by
 intro C w Γ σ H vs as s Q R o e k
 unfold intS at e
 split at e
 ·cases e
  obtain⟨v,rfl,o1⟩:=soks1 o
  exact .inl ⟨_,by rw[o1.inva],k _ H R .refl SOk.atom trivial⟩
 ·cases e
  obtain⟨v,rfl,o1⟩:=soks1 o
  exact .inr ⟨_,by rw[o1.inva],k _ H R .refl SOk.atom trivial⟩
 ·cases e
noncomputable def max2S:En->List S->Option S:=fun _ as=>match as with
 | [.v (.a (.int i)),.v (.a (.int j))]=>some (mkI (if j > i then j else i))
 | _=>none
noncomputable def min2S:En->List S->Option S:=fun _ as=>match as with
 | [.v (.a (.int i)),.v (.a (.int j))]=>some (mkI (if j < i then j else i))
 | _=>none
theorem zHA{K:Fg}:SimRs K (fun xs H Q=>∃ i j,xs=[.int i,.int j]/\Q (.int (if j > i then j else i)) H) max2S:=by
 intro C w Γ σ H vs as s Q R o e k
 unfold max2S at e
 split at e
 ·cases e
  obtain⟨v,u,rfl,o1,o2⟩:=soks2 o
  exact⟨_,_,by rw[o1.inva,o2.inva],k _ H R .refl SOk.atom trivial⟩
 ·cases e
theorem zIM{K:Fg}:SimRs K (fun xs H Q=>∃ i j,xs=[.int i,.int j]/\Q (.int (if j < i then j else i)) H) min2S:=by
 intro C w Γ σ H vs as s Q R o e k
 unfold min2S at e
 split at e
 ·cases e
  obtain⟨v,u,rfl,o1,o2⟩:=soks2 o
  exact⟨_,_,by rw[o1.inva,o2.inva],k _ H R .refl SOk.atom trivial⟩
 ·cases e
noncomputable def atomsOf:List T->Option (List V)
 | []=>some []
 | .a v::r=>(atomsOf r).map fun vs=>v::vs
 | _=>none
theorem zDR{K:Fg}{H:Hp}:∀ {vs:List V} {ts:List T} {us:List V},Ims K H vs ts->atomsOf ts=some us->vs=us
 | _,[],_,h,e=>by cases e; exact h.inv0
 | _,.a b::r,_,h,e=>by
  obtain⟨v,us,rfl,h1,h2⟩:=h.inv
  obtain⟨bs,e1,e⟩:=zAE e
  cases e
  rw[h1.inva,zDR h2 e1]
 | _,.t _::_,_,_,e=>by cases e
 | _,.l _::_,_,_,e=>by cases e
 | _,.f _::_,_,_,e=>by cases e
 | _,.x _ _::_,_,_,e=>by cases e
noncomputable def tBMS (K:Fg) (r:V->List V->Hp->VK->Prop) (to:TE) (t:TA):TE:=fun σ H Q=>to σ H fun x H1=>(∃ p xs,x=.ref p/\Tp K H1 p xs)/\t σ H1 fun xs H2=>r x xs H2 Q
open PySem.Spec PyProof.Rows in
theorem zM5{X:Cx}{o e:Expr}{es:List Expr}{to:TE}{t:TA}{name:Str}{apos cpos:Pos}{id:String}{r:V->List V->Hp->VK->Prop}(slot:Slot "tuple" name id)(hty:GY (.builtin id)=pure (.type "method_descriptor"))(hm:MtM X id r)(ho:PE X o to)(ha:PA X (e::es) t)
  (hbase:CU o name X.env (eval o X.env)=eval o X.env:=by rfl)
  (hfew:((Bd cpos (AI (e::es) X.env)).all (fun x=>!x.1) && (IZ cpos (Gp [] X.env)).all (fun x=>x.1.isSome) && decide ((e::es).length+([]:List Fe).length+(if ([]:List Fe).isEmpty then 0 else 1) < 30))=true:=by rfl)
  (hline:(apos.endLine == cpos.line)=true:=by rfl) (hs:AI (e::es) X.env=(false,eval e X.env)::AI es X.env:=by rfl) (hplain:(Bd cpos (AI es X.env)).any (·.1)=false:=by rfl) :
  PE X (.Call (.Attribute o name apos) (e::es) [] cpos) (tBMS X.K r to t):=by
 intro pins s σ H Q I h
 refine IF hbase hfew hline rfl (thn (ho pins s σ H _ I h) fun v s1 ⟨x,H1,I1,r1,⟨p,xs,ex,hp⟩,q1⟩=>?_)
 subst ex
 cases r1
 have key:∃ o',s1.heap.get? p=some o'/\o'.cls=.type "tuple"/\o'.dict=none:=by
  rcases hp with hp | ⟨o',its,n,a1,a2,a3,a4⟩
  ·obtain⟨_,its,_,o',ho',hc',_,hd'⟩:=(show ObjOk X.prog X.w H1 s1.heap p (.tup xs) from I1.hok p _ hp)
   exact⟨o',ho',hc',hd'⟩
  ·exact⟨o',I1.kIn p o' a1,a2,a3⟩
 obtain⟨o',ho',hc',hd'⟩:=key
 refine⟨"tuple",id,F.plainAttrs_tuple,slot,hty,⟨o',ho',hc'⟩,fun a e=>by cases e; exact⟨o',ho',hd'⟩,?_⟩
 have hA:=ha cpos pins s1 σ H1 _ I1 q1
 rw[hs]at hA ⊢
 refine EV (by show (false || (Bd cpos (AI es X.env)).any (·.1))=false; rw[hplain] <;> rfl) (HI ?_)
 exact thn hA fun us s2 ⟨vs,H2,I2,r2,q2⟩=>hm pins s2 σ H2 (.ref p) vs (.ref p) us Q I2 (show RelV (.ref p) (.ref p) from rfl) r2 q2
noncomputable def dIndex (fo:DE) (fa:DA):DE:=fun Γ=>(fo Γ).bind fun p=>(fa p.2).bind fun q=>match p.1,q.1 with
 | .v (.t xs),[.v (.a y)]=>(atomsOf xs).bind fun vs=>if flatV y=true/\vs.all flatV=true then (vs.findIdx? fun z=>eqV z y).map fun j=>(mkI (j:Nat),q.2) else none
 | _,_=>none
theorem zJ4{K:Fg}{to:TE}{ta:TA}{fo:DE}{fa:DA}(ho:SimE K to fo)(ha:SimA K ta fa):SimE K (tBMS K (rTupIndex K) to ta) (dIndex fo fa):=by
 intro C w Γ σ H s Γ' Q R e k
 obtain⟨⟨a,G1⟩,e1,e⟩:=bind_some e
 obtain⟨⟨as,G2⟩,e2,e⟩:=bind_some e
 dsimp only at e
 split at e
 ·rename_i xs y
  obtain⟨vs,e3,e⟩:=bind_some e
  split at e
  ·rename_i hf
   obtain⟨j,e4,e⟩:=zAE e
   cases e
   refine ho C w Γ σ H _ G1 _ R e1 fun v H1 R1 ev1 o1 n1=>?_
   have o1':=o1
   obtain⟨p,us,rfl,h1,i1⟩:=o1.invt
   refine⟨⟨p,us,rfl,h1⟩,?_⟩
   refine ha C w G1 σ H1 _ _ _ R1 e2 fun ws H2 R2 ev2 o2 n2=>?_
   obtain⟨u,rfl,o3⟩:=soks1 o2
   obtain⟨p',us',e5,h1',i1'⟩:=(o1'.evo ev2 R1.lst).invt
   cases e5
   have hus:=zDR i1' e3
   subst hus
   exact⟨p,us',_,j,rfl,by rw[o3.inva],h1'.sq,hf.1,hf.2,e4,k _ H2 R2 (ev1.trans ev2) SOk.atom trivial⟩
  ·cases e
 ·cases e
end D
namespace L2
open PySem PySem.Spec PyProof.Rows
section
variable {X:Cx}{tg:Expr}
noncomputable def iSeq (K:AH) (tl:TE):TI:=fun σ H R=>tl σ H fun x H1=>∃ a,x=.ref a/\(((∃ xs,SqL K H1 a xs)/\R (Itl K a) H1)\/((∃ xs,SqT K H1 a xs)/\R (Itt K a) H1))
theorem zMr{l:Expr}{tl:TE}(hl:PE X l tl):PI X tg l (iSeq X.K tl):=by
 intro pins s σ H R I h
 refine thn (hl pins s σ H _ I h) fun v s1 ⟨x,H1,I1,r1,q1⟩=>?_
 obtain⟨a,e,q⟩:=q1
 subst e
 cases r1
 rcases q with ⟨⟨xs,hq⟩,q⟩ | ⟨⟨xs,hq⟩,q⟩
 ·obtain⟨its,rv,p,hz⟩:=I1.list hq
  refine Ja p.isList ?_
  refine⟨s1.heap.objs.size,[s1.heap.objs.size],_,_,H1,rfl,I1.kept (t':=s1.toks) fun b o e=>AC _ e,zJj a _,⟨_,AN _ rfl,rfl,rfl⟩,fun b hb=>?_,q⟩
  have e:b=s1.heap.objs.size:=by simpa using hb
  subst e
  exact I1.fpOk (AL _) (I1.hok.fresh (AL _))
 ·obtain⟨its,rv,p,hz⟩:=I1.tuple hq
  refine CL (show s1.heap.IsTuple a its.toArray from p) ?_
  refine⟨s1.heap.objs.size,[s1.heap.objs.size],_,_,H1,rfl,I1.kept (t':=s1.toks) fun b o e=>AC _ e,zHz a _,⟨_,AN _ rfl,rfl,rfl⟩,fun b hb=>?_,q⟩
  have e:b=s1.heap.objs.size:=by simpa using hb
  subst e
  exact I1.fpOk (AL _) (I1.hok.fresh (AL _))
end
section
variable {X:Cx}{pos:Pos}
noncomputable def tPar3 (i j k:Nat) (ta:TA):TS:=fun D σ H=>ta σ H fun vs H1=>∃ v w z,vs=[v,w,z]/\D.nx (((σ.set i (some v)).set j (some w)).set k (some z)) H1
theorem zLy{i j k:Nat}{x y z:Str}{a b c:Expr}{ta:TA}{px py pz pt:Pos}{kt k2 pt2}(hc:X.calm=true)(hN:X.N.Nodup)(hi:X.N[i]?=some x)(hj:X.N[j]?=some y)(hk:X.N[k]?=some z)(hij:i≠j)(hik:i≠k)(hjk:j≠k)
  (hx:X.env.scope.names.lookup x=some .local) (hy:X.env.scope.names.lookup y=some .local) (hz:X.env.scope.names.lookup z=some .local) (ha:PA X [a,b,c] ta)
  (hw:Dv [.Tuple [.Name x px,.Name y py,.Name z pz] kt pt] (.Tuple [a,b,c] k2 pt2) X.env=pure (some [x,y,z]))
  (hs:Du [.Tuple [.Name x px,.Name y py,.Name z pz] kt pt] (.Tuple [a,b,c] k2 pt2) pos.line X.env=pure false:=by rfl) :
  PS X (.Assign [.Tuple [.Name x px,.Name y py,.Name z pz] kt pt] (.Tuple [a,b,c] k2 pt2) pos) (tPar3 i j k ta):=by
 intro pins s σ H D I h
 rw[KD]
 refine AA (DH ?_)
 rw[hs]
 refine AA (AG ?_)
 rw[if_neg (by decide)]
 refine AA (Tuple_ (thn (ha _ pins s σ H _ I h) fun us s1 ⟨vs,H1,I1,r1,q1⟩=>?_))
 obtain⟨v,w,q,e1,q1⟩:=q1
 subst e1
 obtain⟨u1,u2,u3,rfl,rv,rw',rz⟩:∃ u1 u2 u3,us=[u1,u2,u3]/\RelV v u1/\RelV w u2/\RelV q u3:=by
  cases r1 with
  | cons p q =>
   cases q with
   | cons p' q' =>
    cases q' with
    | cons p'' q'' =>
     cases q''
     exact⟨_,_,_,rfl,p,p',p''⟩
 refine BB ?_ (by show 3<=AE; decide)
 have I2:Inv X pins σ H1 { s1 with heap:=s1.heap.push { cls:=.type "tuple",data:=.seq [u1,u2,u3].toArray } }:=I1.kept (t':=s1.toks) fun b o e=>AC _ e
 rw[hw]
 refine AA (AG ?_)
 show AM (model X.prog X.w) X.A (do rule "assign.swapped-stores"; let items ← unpackItems (.ref s1.heap.objs.size) 3 none; Ec [fun v=>De X.env z v,fun v=>De X.env y v,fun v=>De X.env x v] items.reverse; pure Gv) _ _ _
 refine AA (Cr (AA (JS (items:=#[u1,u2,u3]) (I.ok.hd hc) (KE s1.heap _) fun h' hx'=>?_)))
 have I3:=I2.kept (h':=h') (t':=s1.toks) fun b o e=>hx' b o (Ah (AJ e)) e
 show AM _ _ (Ec [fun v=>De X.env z v,fun v=>De X.env y v,fun v=>De X.env x v] [u3,u2,u1] >>= fun _=>pure Gv) _ _ _
 refine AA (Cq (Df (zAz I3 hN hk (.inl hz) rz (fun s2 I4=>?_) (.inr hz))))
 refine Cq (Df (zAz I4 hN hj (.inl hy) rw' (fun s3 I5=>?_) (.inr hy)))
 refine Cq (Df (zAz I5 hN hi (.inl hx) rv (fun s4 I6=>GJ (AG ?_)) (.inr hx)))
 rw[FG _ _ (Az hij),FG _ _ (Az hik),FG _ _ (Az hjk)]at I6
 exact⟨_,H1,I6,q1⟩
end
end L2
namespace D
open PySem L2
noncomputable def rngT (lo:Int) (n:Nat):List T:=(A5 n).map fun (i:Nat)=>T.a (.int (lo+(i:Int)))
noncomputable def dRng1 (fa:DA):DI:=fun Γ=>(fa Γ).bind fun p=>match p.1 with
 | [.v (.a (.int j))]=>if (inR 4611686018427387903 j && Eh j.toNat AE)=true then some ((rngT 0 j.toNat,[]),p.2) else none
 | _=>none
noncomputable def dRng2 (fa:DA):DI:=fun Γ=>(fa Γ).bind fun p=>match p.1 with
 | [.v (.a (.int i)),.v (.a (.int j))]=>if (inR 4611686018427387903 i && inR 4611686018427387903 j && Eh (j - i).toNat AE)=true then some ((rngT i (j - i).toNat,[]),p.2) else none
 | _=>none
section
variable {K:Fg}
theorem zFf{w:W}{Γ:En}{σ:St}{H:Hp}{lo:Int}{n:Nat}(h:n<=AE):ItOk K w Γ σ (Itr lo n) H (rngT lo n) []:=by
 refine⟨by simp[rngT]; exact h,fun L' _ _ H2 _=>⟨fun i t e=>?_,by simp[rngT]; exact AL n⟩⟩
 unfold rngT at e
 rw[Ae]at e
 obtain⟨j,e1,e⟩:=zAE e
 obtain⟨hi',e1⟩:=Ac.mp e1
 have hi:i < n:=by simpa using hi'
 have e1':i=j:=by simpa using e1
 subst e
 subst e1'
 refine⟨hi,fun x H3 y=>?_⟩
 obtain⟨a,b⟩:=y
 subst a b
 exact⟨fun _ _ z=>z,Im.atom⟩
theorem fit1{j:Int}(h:(inR 4611686018427387903 j && Eh j.toNat AE)=true):-(2 ^ 62)<=j/\j < 2 ^ 62/\j.toNat<=AE:=by
 rw[Ab]at h
 exact⟨(inR62 h.1).1,(inR62 h.1).2,Es h.2⟩
theorem fit2{i j:Int}(h:(inR 4611686018427387903 i && inR 4611686018427387903 j && Eh (j - i).toNat AE)=true):(-(2 ^ 62)<=i/\i < 2 ^ 62/\-(2 ^ 62)<=j/\j < 2 ^ 62)/\(j - i).toNat<=AE:=by
 rw[Ab,Ab]at h
 exact⟨⟨(inR62 h.1.1).1,(inR62 h.1.1).2,(inR62 h.1.2).1,(inR62 h.1.2).2⟩,Es h.2⟩
theorem zIT{ta:TA}{fa:DA}(ha:SimA K ta fa):SimI K (iRng1 ta) (dRng1 fa):=by
 intro C w Γ σ H its src Γ' R Rp e k
 obtain⟨⟨as,G1⟩,e1,e⟩:=bind_some e
 dsimp only at e
 split at e
 ·split at e
  ·rename_i j hj0
   have hj:=fit1 hj0
   cases e
   refine ha C w Γ σ H _ _ _ Rp e1 fun vs H1 R1 ev1 o1 n1=>?_
   obtain⟨v,rfl,o2⟩:=soks1 o1
   exact⟨_,by rw[o2.inva],hj.1,hj.2.1,k _ H1 R1 ev1 (zFf hj.2.2)⟩
  ·cases e
 ·cases e
theorem zJy{ta:TA}{fa:DA}(ha:SimA K ta fa):SimI K (iRng2 ta) (dRng2 fa):=by
 intro C w Γ σ H its src Γ' R Rp e k
 obtain⟨⟨as,G1⟩,e1,e⟩:=bind_some e
 dsimp only at e
 split at e
 ·split at e
  ·rename_i j hj0
   have hj:=fit2 hj0
   cases e
   refine ha C w Γ σ H _ _ _ Rp e1 fun vs H1 R1 ev1 o1 n1=>?_
   obtain⟨v,u,rfl,o2,o3⟩:=soks2 o1
   exact⟨_,_,by rw[o2.inva,o3.inva],hj.1,k _ H1 R1 ev1 (zFf hj.2)⟩
  ·cases e
 ·cases e
noncomputable def srcS (Γ:En):S->List Nat
 | .s i=>match Γ[i]? with
  | some (some (.l _))=>[i]
  | _=>[]
 | _=>[]
noncomputable def dSeqI (f:DE):DI:=fun Γ=>(f Γ).bind fun p=>(seqS p.2 p.1).bind fun xs=>gd xs.length ((xs,srcS p.2 p.1),p.2)
theorem zCo{C:Fr}{w:W}{Γ:En}{σ:St}{H:Hp}{x:V}{s:S}{xs:List T}(R:Rep K C w Γ σ H)(o:SOk K C w σ H x s)(e:sqlOf Γ s=some xs):∃ p vs,x=.ref p/\SqL K H p vs/\Ims K H vs xs /\
  ∀ L',(∀ q∈L',q∈w.L)->(∀ i∈srcS Γ s,∀ q,σ[i]?=some (some (.ref q))->(∃ zs,Γ[i]?=some (some (.l zs)))->q∉L')->∀ H2,Evo L' H H2->SqL K H2 p vs:=by
 cases s with
 | v t =>
  cases t with
  | l ys =>
   cases e
   obtain⟨p,vs,rfl,h1,h2⟩:=(show Im K H x (.l xs) from o).invl
   exact⟨p,vs,rfl,h1.sq,h2,fun L' hs _ H2 ev=>(h1.evo ev fun q hq=>R.lst q (hs q hq)).sq⟩
  | a _=>cases e
  | t _=>cases e
  | f _=>cases e
  | x _ _=>cases e
 | d _=>cases e
 | l ys =>
  cases e
  obtain⟨p,vs,rfl,n1,n2,n3,h1,h2⟩:=o
  exact⟨p,vs,rfl,SqL.of h1,h2,fun L' hs _ H2 ev=>SqL.of (ev _ _ h1 fun z=>n1 (hs p z))⟩
 | s i =>
  have o':σ[i]?=some (some x):=o
  unfold sqlOf at e
  dsimp only at e
  split at e
  ·rename_i ys h
   cases e
   obtain⟨v,e1,p,vs,rfl,_,h1,h2⟩:=R.val i _ h
   rw[o']at e1; cases e1
   refine⟨p,vs,rfl,SqL.of h1,h2,fun L' hs av H2 ev=>SqL.of (ev _ _ h1 (av i ?_ p o' ⟨_,h⟩))⟩
   simp[srcS,h]
  ·rename_i ys h
   cases e
   obtain⟨v,e1,p,vs,rfl,h1,h2,h3,_⟩:=R.val i _ h
   rw[o']at e1; cases e1
   exact⟨p,vs,rfl,SqL.of h2,h1,fun L' hs av H2 ev=>SqL.of (ev _ _ h2 fun z=>h3 (hs p z))⟩
  ·rename_i ys h
   cases e
   obtain⟨v,e1,p,vs,rfl,h1,h2⟩:=R.val i _ h
   rw[o']at e1; cases e1
   exact⟨p,vs,rfl,h2.sq,h1,fun L' hs av H2 ev=>(h2.evo ev fun q hq=>R.lst q (hs q hq)).sq⟩
  ·cases e
theorem zKR{tl:TE}{f:DE}(hl:SimE K tl f):SimI K (iSeq K tl) (dSeqI f):=by
 intro C w Γ σ H its src Γ' R Rp e k
 obtain⟨⟨a,G1⟩,e1,e⟩:=bind_some e
 obtain⟨xs,e2,e⟩:=bind_some e
 obtain⟨hz,e⟩:=zBX e
 cases e
 refine hl C w Γ σ H a _ _ Rp e1 fun v H1 R1 ev1 o1 n1=>?_
 dsimp only at e2
 have go:∀ {vs:List V} {H2:Hp} {J:It} (mk:∀ i x,vs[i]?=some x->J.go i H2) (yl:∀ i x H3,J.yld i H2 x H3->H3=H2/\vs[i]?=some x),Ims K H2 vs its->∀ (i:Nat) t,its[i]?=some t->J.go i H2/\∀ x H3,J.yld i H2 x H3->(∀ b o,H2 b=some o->H3 b=some o)/\Im K H3 x t:=fun {vs H2 J} mk yl hi i t e=>by
  obtain⟨v,e3,hv⟩:=hi.get e
  refine⟨mk i v e3,fun x H3 y=>?_⟩
  obtain⟨rfl,e4⟩:=yl i x H3 y
  rw[e3]at e4; cases e4
  exact⟨fun _ _ z=>z,hv⟩
 unfold seqS at e2
 split at e2
 ·cases e2
  obtain⟨p,vs,rfl,h1,i1⟩:=o1.invt
  refine⟨p,rfl,.inr ⟨⟨vs,h1.sq⟩,k _ H1 R1 ev1 ⟨hz,fun L' hs av H2 ev=>?_⟩⟩⟩
  have hL:LL L' H1:=fun q hq=>R1.lst q (hs q hq)
  have h2:SqT K H2 p vs:=(zFV ev hL h1).sq
  have i2:=i1.evo ev hL
  exact⟨go (vs:=vs) (J:=Itt K p) (fun i x e=>⟨vs,x,h2,e⟩) (fun i x H3 y=>⟨y.1,y.2 vs h2⟩) i2,⟨vs,h2,by rw[i2.len]; exact AL _⟩⟩
 ·obtain⟨p,vs,rfl,h1,i1,st⟩:=zCo R1 o1 e2
  refine⟨p,rfl,.inl ⟨⟨vs,h1⟩,k _ H1 R1 ev1 ⟨hz,fun L' hs av H2 ev=>?_⟩⟩⟩
  have hL:LL L' H1:=fun q hq=>R1.lst q (hs q hq)
  have h2:=st L' hs av H2 ev
  have i2:=i1.evo ev hL
  exact⟨go (vs:=vs) (J:=Itl K p) (fun i x e=>⟨vs,x,h2,e⟩) (fun i x H3 y=>⟨y.1,y.2 vs h2⟩) i2,⟨vs,h2,by rw[i2.len]; exact AL _⟩⟩
theorem zFq{H:Hp}(lo:Int)(n:Nat):Ims K H (rngV lo n) (rngT lo n):=by
 have:rngT lo n=(rngV lo n).map T.a:=by simp[rngT,rngV]
 rw[this]
 exact Ims.atoms _
noncomputable def rngS (as:List S):Option (List T):=match as with
 | [.v (.a (.int j))]=>if (inR 4611686018427387903 j && Eh j.toNat AE)=true then some (rngT 0 j.toNat) else none
 | [.v (.a (.int i)),.v (.a (.int j))]=>if (inR 4611686018427387903 i && inR 4611686018427387903 j && Eh (j - i).toNat AE)=true then some (rngT i (j - i).toNat) else none
 | _=>none
noncomputable def rRng:List V->Hp->VK->Prop:=fun xs H Q=>(∃ j:Int,xs=[.int j]/\∀ p,H p=none->Q (.ref p) (upd H p (.rng 0 j)))\/(∃ i j:Int,xs=[.int i,.int j]/\∀ p,H p=none->Q (.ref p) (upd H p (.rng i j)))
noncomputable def rOfRngL:List V->Hp->VK->Prop:=fun xs H Q=>∃ p lo hi,xs=[.ref p]/\H p=some (.rng lo hi)/\(-(2 ^ 62)<=lo/\lo < 2 ^ 62/\-(2 ^ 62)<=hi/\hi < 2 ^ 62)/\(hi - lo).toNat<=2 ^ 24/\∀ l,H l=none->Q (.ref l) (upd H l (.lst (rngV lo (hi - lo).toNat)))
noncomputable def rOfRngT:List V->Hp->VK->Prop:=fun xs H Q=>∃ p lo hi,xs=[.ref p]/\H p=some (.rng lo hi)/\(-(2 ^ 62)<=lo/\lo < 2 ^ 62/\-(2 ^ 62)<=hi/\hi < 2 ^ 62)/\(hi - lo).toNat<=2 ^ 24/\∀ l,H l=none->Q (.ref l) (upd H l (.tup (rngV lo (hi - lo).toNat)))
noncomputable def dListRng (fa:DA):DE:=fun Γ=>(fa Γ).bind fun p=>(rngS p.1).map fun xs=>(.l xs,p.2)
noncomputable def dTupRng (fa:DA):DE:=fun Γ=>(fa Γ).bind fun p=>(rngS p.1).map fun xs=>(.v (.t xs),p.2)
theorem zFL{C:Fr}{w:W}{Γ:En}{σ:St}{H:Hp}{vs:List V}{as:List S}{xs:List T}{Q:VK}(R:Rep K C w Γ σ H)(o:SOks K C w σ H vs as)(e:rngS as=some xs)
  (k:∀ p lo hi,H p=none->(-(2 ^ 62)<=lo/\lo < 2 ^ 62/\-(2 ^ 62)<=hi/\hi < 2 ^ 62)->(hi - lo).toNat<=2 ^ 24->xs=rngT lo (hi - lo).toNat->Q (.ref p) (upd H p (.rng lo hi))):rRng vs H Q:=by
 have hs:AE=2 ^ 24:=by rw[Bv]
 unfold rngS at e
 split at e
 ·split at e
  ·rename_i j hj0
   have hj:=fit1 hj0
   cases e
   obtain⟨v,rfl,o2⟩:=soks1 o
   refine .inl ⟨_,by rw[o2.inva],fun p hp=>k p 0 _ hp ⟨by decide,by decide,hj.1,hj.2.1⟩ ?_ (by rw[HN])⟩
   rw[HN]; have:=hj.2.2; omega
  ·cases e
 ·split at e
  ·rename_i j hj0
   have hj:=fit2 hj0
   cases e
   obtain⟨v,u,rfl,o2,o3⟩:=soks2 o
   exact .inr ⟨_,_,by rw[o2.inva,o3.inva],fun p hp=>k p _ _ hp hj.1 (by have:=hj.2; omega) rfl⟩
  ·cases e
 ·cases e
theorem zGT{ta:TA}{fa:DA}(ha:SimA K ta fa):SimE K (tCB rOfRngL (tCons (tCB rRng ta) tNil)) (dListRng fa):=by
 intro C w Γ σ H s Γ' Q R e k
 obtain⟨⟨as,G1⟩,e1,e⟩:=bind_some e
 obtain⟨xs,e2,e⟩:=zAE e
 cases e
 refine ha C w Γ σ H as G1 _ R e1 fun vs H1 R1 ev1 o1 n1=>?_
 refine zFL R1 o1 e2 fun p lo hi hp hb hz hx=>?_
 have R2:Rep K C w G1 σ (upd H1 p (.rng lo hi)):=R1.new hp
 have ev2:Evo w.L H (upd H1 p (.rng lo hi)):=ev1.trans (Evo.new hp)
 refine⟨p,lo,hi,rfl,zAf,hb,hz,fun l hl=>?_⟩
 subst hx
 exact k _ _ (R2.new hl) (ev2.trans (Evo.new hl)) (R2.newl hl (zFq _ _)) ⟨l,rfl,zAv ev2 R2.lst hl⟩
theorem zHn{ta:TA}{fa:DA}(ha:SimA K ta fa):SimE K (tCB rOfRngT (tCons (tCB rRng ta) tNil)) (dTupRng fa):=by
 intro C w Γ σ H s Γ' Q R e k
 obtain⟨⟨as,G1⟩,e1,e⟩:=bind_some e
 obtain⟨xs,e2,e⟩:=zAE e
 cases e
 refine ha C w Γ σ H as G1 _ R e1 fun vs H1 R1 ev1 o1 n1=>?_
 refine zFL R1 o1 e2 fun p lo hi hp hb hz hx=>?_
 have R2:Rep K C w G1 σ (upd H1 p (.rng lo hi)):=R1.new hp
 have ev2:Evo w.L H (upd H1 p (.rng lo hi)):=ev1.trans (Evo.new hp)
 refine⟨p,lo,hi,rfl,zAf,hb,hz,fun l hl=>?_⟩
 subst hx
 exact k _ _ (R2.new hl) (ev2.trans (Evo.new hl)) (R2.newt hl (zFq _ _)) trivial
theorem zKM{ip:Option Nat}{i j:Nat}{ta:TA}{fa:DA}(ha:SimA K ta fa)(hi:ip≠some i)(hj:ip≠some j):SimS K ip (tPar i j ta) (fun Γ=>(fa Γ).bind fun p=>match p.1 with
  | [.v a,.v b]=>some (.nx ((p.2.set i (some (.v a))).set j (some (.v b))))
  | _=>none):=by
 intro C w Γ σ H D o hp R e k
 obtain⟨⟨as,G1⟩,e1,e⟩:=bind_some e
 dsimp only at e
 split at e
 ·cases e
  refine ha C w Γ σ H _ G1 _ R e1 fun vs H1 R1 ev1 o1 n1=>?_
  obtain⟨v,u,rfl,o2,o3⟩:=soks2 o1
  exact⟨v,u,rfl,k w _ H1 ((R1.setv (g:=.v _) rfl o2 (zA3 hp hi)).setv (g:=.v _) rfl o3 (zA3 hp hj))⟩
 ·cases e
noncomputable def dPar2 (i j:Nat) (fa:DA):DS:=fun Γ=>(fa Γ).bind fun p=>match p.1 with
  | [.v a,.v b]=>some (.nx ((p.2.set i (some (.v a))).set j (some (.v b))))
  | _=>none
noncomputable def dPar3 (i j k:Nat) (fa:DA):DS:=fun Γ=>(fa Γ).bind fun p=>match p.1 with
  | [.v a,.v b,.v c]=>some (.nx (((p.2.set i (some (.v a))).set j (some (.v b))).set k (some (.v c))))
  | _=>none
theorem soks3{C:Fr}{w:W}{σ:St}{H:Hp}{vs:List V}{a b c:S}(h:SOks K C w σ H vs [a,b,c]):∃ v u z,vs=[v,u,z]/\SOk K C w σ H v a/\SOk K C w σ H u b/\SOk K C w σ H z c:=by
 match vs,h with
 | [v,u,z],h=>exact⟨v,u,z,rfl,h.1,h.2.1,h.2.2.1⟩
theorem zI8{ip:Option Nat}{i j k:Nat}{ta:TA}{fa:DA}(ha:SimA K ta fa)(hi:ip≠some i)(hj:ip≠some j)(hk:ip≠some k):SimS K ip (tPar3 i j k ta) (dPar3 i j k fa):=by
 intro C w Γ σ H D o hp R e kk
 obtain⟨⟨as,G1⟩,e1,e⟩:=bind_some e
 dsimp only at e
 split at e
 ·cases e
  refine ha C w Γ σ H _ G1 _ R e1 fun vs H1 R1 ev1 o1 n1=>?_
  obtain⟨v,u,z,rfl,o2,o3,o4⟩:=soks3 o1
  exact⟨v,u,z,rfl,kk w _ H1 (((R1.setv (g:=.v _) rfl o2 (zA3 hp hi)).setv (g:=.v _) rfl o3 (zA3 hp hj)).setv (g:=.v _) rfl o4 (zA3 hp hk))⟩
 ·cases e
end
noncomputable def toDa:V->Option EA
 | .int i=>some (.int i)
 | .bl b=>some (.bool b)
 | .str x=>some (.str x)
 | .non=>some .none
 | _=>none
mutual
noncomputable def toD:T->Option EA
 | .a v=>toDa v
 | .t ts=>(toDs ts).map .tuple
 | .l ts=>(toDs ts).map .list
 | .f _=>none
 | .x _ _=>none
noncomputable def toDs:List T->Option (List EA)
 | []=>some []
 | t::r=>(toD t).bind fun d=>(toDs r).map fun ds=>d::ds
end
mutual
theorem zFi{X:Cx}{pins:List (Addr×Obj)}{σ:St}{H:Hp}{s:AD}(I:Inv X pins σ H s):∀ {v:V} {u:AB} {t:T} {d:EA},Im X.K H v t->RelV v u->toD t=some d->∃ as,Reads s.heap u d as
 | v,u,.a x,d,h,r,e=>by
  have hv:=h.inva
  subst hv
  unfold toD at e
  cases v with
  | int i=>cases e; obtain⟨t,rfl⟩:=(show ∃ t,u=Bb i t from r); exact⟨_,.int i t⟩
  | bl b=>cases e; cases (show u=EU b from r); exact⟨_,.bool b⟩
  | str x=>cases e; obtain⟨t,rfl⟩:=(show ∃ t,u=Ex x t from r); exact⟨_,.str x t⟩
  | non=>cases e; cases (show u=A0 from r); exact⟨_,.none⟩
  | byt _=>cases e
  | flt _=>cases e
  | ref _=>cases e
  | ty _=>cases e
 | v,u,.t ts,d,h,r,e=>by
  obtain⟨p,vs,rfl,h1,h2⟩:=h.inv
  cases (show u=Ai p from r)
  unfold toD at e
  obtain⟨ds,e1,rfl⟩:=zAE e
  obtain⟨its,rv,⟨o,ho,hc,n,hd⟩,_⟩:=I.tuple h1.sq
  obtain⟨as,q⟩:=zBd I h2 rv e1
  exact⟨as,.tuple ho hc hd (by simpa using q)⟩
 | v,u,.l ts,d,h,r,e=>by
  obtain⟨p,vs,rfl,h1,h2⟩:=h.invl
  cases (show u=Ai p from r)
  unfold toD at e
  obtain⟨ds,e1,rfl⟩:=zAE e
  obtain⟨its,rv,pl,_⟩:=I.list h1.sq
  obtain⟨o,ho,hc,n,hd⟩:=pl.isList
  obtain⟨as,q⟩:=zBd I h2 rv e1
  exact⟨_,.list ho hc hd (by simpa using q)⟩
 | v,u,.f _,d,h,r,e=>by unfold toD at e; cases e
 | v,u,.x _ _,d,h,r,e=>by unfold toD at e; cases e
theorem zBd{X:Cx}{pins:List (Addr×Obj)}{σ:St}{H:Hp}{s:AD}(I:Inv X pins σ H s):∀ {vs:List V} {us:List AB} {ts:List T} {ds:List EA},Ims X.K H vs ts->Vals vs us->toDs ts=some ds->∃ as,ReadsAll s.heap us ds as
 | vs,us,[],ds,h,r,e=>by
  have:=h.inv0
  subst this
  cases r
  unfold toDs at e
  cases e
  exact⟨_,.nil⟩
 | vs,us,t::ts,ds,h,r,e=>by
  obtain⟨v,r',rfl,h1,h2⟩:=h.inv
  unfold toDs at e
  obtain⟨d,e1,e⟩:=bind_some e
  obtain⟨ds',e2,rfl⟩:=zAE e
  cases r with
  | cons r1 r2 =>
   obtain⟨as,q1⟩:=zFi I h1 r1 e1
   obtain⟨bs,q2⟩:=zBd I h2 r2 e2
   exact⟨_,ReadsAll.cons q1 q2⟩
end
def DatV (K:Fg) (H:Hp) (x:V) (d:EA):Prop:=(∃ t,Im K H x t/\toD t=some d)\/(∃ p vs ts ds,x=.ref p/\SqL K H p vs/\Ims K H vs ts/\toDs ts=some ds/\d=.list ds)
theorem zBT{X:Cx}{pins:List (Addr×Obj)}{σ:St}{H:Hp}{s:AD}{x:V}{u:AB}{d:EA}(I:Inv X pins σ H s)(r:RelV x u)(h:DatV X.K H x d):∃ as,Reads s.heap u d as:=by
 rcases h with ⟨t,h,e⟩ | ⟨p,vs,ts,ds,rfl,h1,h2,e,rfl⟩
 ·exact zFi I h r e
 ·cases (show u=Ai p from r)
  obtain⟨its,rv,pl,_⟩:=I.list h1
  obtain⟨o,ho,hc,n,hd⟩:=pl.isList
  obtain⟨as,q⟩:=zBd I h2 rv e
  exact⟨_,.list ho hc hd (by simpa using q)⟩
noncomputable def rEqD (K:Fg):R2:=fun x y H Q=>∃ da db,DatV K H x da/\DatV K H y db/\da.canLay0=true/\db.canLay0=true/\min da.depth db.depth<=100/\Q (.bl (C5 da db)) H
noncomputable def rNeD (K:Fg):R2:=fun x y H Q=>∃ da db,DatV K H x da/\DatV K H y db/\da.canLay0=true/\db.canLay0=true/\min da.depth db.depth<=100/\Q (.bl (!PyData.eqv da db)) H
theorem zM9{X:Cx}{k:Nat}(hr:Room k X.A):OpR X (Bl .Eq) (rEqD X.K):=by
 intro pins s σ H x y v u Q I rx ry h
 obtain⟨da,db,h1,h2,c1,c2,hm,q⟩:=h
 obtain⟨_,r1⟩:=zBT I rx h1
 obtain⟨_,r2⟩:=zBT I ry h2
 exact SeqAt.compareEq_reads r1 r2 c1 c2 (by have:=hr.un; omega) ⟨.bl _,H,I,rfl,q⟩
theorem zNG{X:Cx}{k:Nat}(hr:Room k X.A):OpR X (Bl .NotEq) (rNeD X.K):=by
 intro pins s σ H x y v u Q I rx ry h
 obtain⟨da,db,h1,h2,c1,c2,hm,q⟩:=h
 obtain⟨_,r1⟩:=zBT I rx h1
 obtain⟨_,r2⟩:=zBT I ry h2
 exact SeqAt.compareNe_reads r1 r2 c1 c2 (by have:=hr.un; omega) ⟨.bl _,H,I,rfl,q⟩
noncomputable def datS (Γ:En):S->Option EA
 | .v t=>toD t
 | a=>(sqlOf Γ a).bind fun xs=>(toDs xs).map .list
theorem zCn{K:Fg}{C:Fr}{w:W}{Γ:En}{σ:St}{H:Hp}{x:V}{s:S}{d:EA}(R:Rep K C w Γ σ H)(o:SOk K C w σ H x s)(e:datS Γ s=some d):DatV K H x d:=by
 have lst:∀ {s:S},SOk K C w σ H x s->(sqlOf Γ s).bind (fun xs=>(toDs xs).map JJ)=some d->DatV K H x d:=fun {s} o e=>by
  obtain⟨xs,e1,e⟩:=bind_some e
  obtain⟨ds,e2,rfl⟩:=zAE e
  obtain⟨p,vs,rfl,h1,h2⟩:=zBU R o e1
  exact .inr ⟨p,vs,xs,ds,rfl,h1,h2,e2,rfl⟩
 cases s with
 | v t=>exact .inl ⟨t,o,e⟩
 | l xs=>exact lst o e
 | s i=>exact lst o e
 | d _=>cases e
noncomputable def cmpD (f:EA->EA->Bool):En->S->S->Option S:=fun Γ a b=>(datS Γ a).bind fun da=>(datS Γ b).bind fun db=>if da.canLay0=true/\db.canLay0=true/\min da.depth db.depth<=100 then some (mkB (f da db)) else none
noncomputable def eqA (f:V->V->Bool):En->S->S->Option S:=fun _ a b=>match a,b with
 | .v (.a x),.v (.a y)=>if scal x y=true then some (mkB (f x y)) else none
 | _,_=>none
theorem zEd{K:Fg}:SimR2 K rEq (eqA fun x y=>decide (x=y)):=by
 intro C w Γ σ H x y a b s Q R ox oy e k
 unfold eqA at e
 split at e
 ·split at e
  ·rename_i h
   cases e
   rw[ox.inva,oy.inva]
   exact⟨h,k _ H R .refl SOk.atom trivial⟩
  ·cases e
 ·cases e
theorem zJW{K:Fg}:SimR2 K rNe (eqA fun x y=>!decide (x=y)):=by
 intro C w Γ σ H x y a b s Q R ox oy e k
 unfold eqA at e
 split at e
 ·split at e
  ·rename_i h
   cases e
   rw[ox.inva,oy.inva]
   exact⟨h,k _ H R .refl SOk.atom trivial⟩
  ·cases e
 ·cases e
noncomputable def eqS:En->S->S->Option S:=fun Γ a b=>(eqA (fun x y=>decide (x=y)) Γ a b).or (cmpD C5 Γ a b)
noncomputable def neS:En->S->S->Option S:=fun Γ a b=>(eqA (fun x y=>!decide (x=y)) Γ a b).or (cmpD (fun a b=>!PyData.eqv a b) Γ a b)
theorem zJx{K:Fg}:SimR2 K (rEqD K) (cmpD C5):=by
 intro C w Γ σ H x y a b s Q R ox oy e k
 obtain⟨da,e1,e⟩:=bind_some e
 obtain⟨db,e2,e⟩:=bind_some e
 split at e
 ·rename_i h
  cases e
  exact⟨da,db,zCn R ox e1,zCn R oy e2,h.1,h.2.1,h.2.2,k _ H R .refl SOk.atom trivial⟩
 ·cases e
theorem zJB{K:Fg}:SimR2 K (rNeD K) (cmpD fun a b=>!PyData.eqv a b):=by
 intro C w Γ σ H x y a b s Q R ox oy e k
 obtain⟨da,e1,e⟩:=bind_some e
 obtain⟨db,e2,e⟩:=bind_some e
 split at e
 ·rename_i h
  cases e
  exact⟨da,db,zCn R ox e1,zCn R oy e2,h.1,h.2.1,h.2.2,k _ H R .refl SOk.atom trivial⟩
 ·cases e
theorem zKP{K:Fg}:SimR2 K (fun x y H Q=>rEq x y H Q\/rEqD K x y H Q) eqS:=zEd.or zJx
theorem zLD{K:Fg}:SimR2 K (fun x y H Q=>rNe x y H Q\/rNeD K x y H Q) neS:=zJW.or zJB
theorem zNI{X:Cx}{k:Nat}(hr:Room k X.A):OpR X (Bl .Eq) (fun x y H Q=>rEq x y H Q\/rEqD X.K x y H Q):=zLS.or (zM9 hr)
theorem zNV{X:Cx}{k:Nat}(hr:Room k X.A):OpR X (Bl .NotEq) (fun x y H Q=>rNe x y H Q\/rNeD X.K x y H Q):=zOD.or (zNG hr)
noncomputable def rRepr (K:Fg):List V->Hp->VK->Prop:=fun xs H Q=>∃ x d,xs=[x]/\DatV K H x d/\d.showable=true/\d.hasDict=false/\d.depth<=100/\d.shown.length<=AE/\Q (.str d.shown) H
theorem zJF{X:Cx}{k:Nat}(hr:Room k X.A):CallR X (.builtin "repr") (rRepr X.K):=by
 intro pins s σ H xs us Q I r h
 obtain⟨x,d,rfl,h1,hs,hd,hp,hz,q⟩:=h
 obtain⟨u,rfl,rx⟩:=vals1 r
 obtain⟨as,r1⟩:=zBT I rx h1
 cases r1 with
 | none=>exact PySem.P.repr_of_none ⟨.str _,H,I.tok _,⟨_,rfl⟩,q⟩
 | bool b=>exact PySem.P.repr_of_bool ⟨.str _,H,I.tok _,⟨_,rfl⟩,q⟩
 | int i t=>exact PySem.P.repr_of_int (by simpa [II] using hs) ⟨.str _,H,I.tok _,⟨_,rfl⟩,q⟩
 | str z t=>exact PySem.P.repr_of_str ⟨.str _,H,I.tok _,⟨_,rfl⟩,q⟩ hz
 | list a b c e =>
  exact K2 (.list a b c e) hs (Hj hd) hr.gd (by have:=hr.un; omega) (fun _ _ e=>e) (fun h' u tk hk=>⟨.str _,H,I.kept hk,⟨u,rfl⟩,q⟩) hz
 | tuple a b c e =>
  exact K2 (.tuple a b c e) hs (Hj hd) hr.gd (by have:=hr.un; omega) (fun _ _ e=>e) (fun h' u tk hk=>⟨.str _,H,I.kept hk,⟨u,rfl⟩,q⟩) hz
 | dict=>cases hd
noncomputable def reprS:En->List S->Option S:=fun Γ as=>match as with
 | [a]=>(datS Γ a).bind fun d=>if d.showable=true/\d.hasDict=false/\d.depth<=100/\d.shown.length<=AE then some (.v (.a (.str d.shown))) else none
 | _=>none
theorem zHy{K:Fg}:SimRs K (rRepr K) reprS:=by
 intro C w Γ σ H vs as s Q R o e k
 unfold reprS at e
 split at e
 ·obtain⟨d,e1,e⟩:=bind_some e
  split at e
  ·rename_i h
   cases e
   obtain⟨v,rfl,o1⟩:=soks1 o
   exact⟨v,d,rfl,zCn R o1 e1,h.1,h.2.1,h.2.2.1,h.2.2.2,k _ H R .refl SOk.atom trivial⟩
  ·cases e
 ·cases e
noncomputable def inS (neg:Bool):En->S->S->Option S:=fun Γ a b=>match a with
 | .v (.a x)=>(seqS Γ b).bind fun xs=>(atomsOf xs).bind fun vs=>if flatV x=true/\vs.all flatV=true then some (mkB (if neg then !inV x vs else inV x vs)) else none
 | _=>none
theorem zKv{K:Fg}{neg:Bool}:SimR2 K (rIn K neg) (inS neg):=by
 intro C w Γ σ H x y a b s Q R ox oy e k
 unfold inS at e
 split at e
 ·obtain⟨xs,e1,e⟩:=bind_some e
  obtain⟨vs,e2,e⟩:=bind_some e
  split at e
  ·rename_i h
   cases e
   obtain⟨p,us,rfl,h1,i1⟩:=zD0 R oy e1
   have:=zDR i1 e2
   subst this
   rw[ox.inva]
   exact⟨p,us,rfl,h1,h.1,h.2,k _ H R .refl SOk.atom trivial⟩
  ·cases e
 ·cases e
noncomputable def truS (Γ:En):S->Option Bool
 | .v (.a .non)=>some false
 | .v (.a (.bl b))=>some b
 | .v (.a (.int i))=>some (i != 0)
 | .v (.a (.str y))=>if y.length<=AE then some ((y.length:Int) != 0) else none
 | .v (.t xs)=>some (!xs.isEmpty)
 | .v _=>none
 | a=>(sqlOf Γ a).map fun xs=>!xs.isEmpty
noncomputable def dTru (f:DE):DT:=fun Γ=>(f Γ).bind fun p=>(truS p.2 p.1).map fun b=>(b,p.2)
theorem Ims.isEmpty{K:Fg}{H:Hp}{vs:List V}{ts:List T}(h:Ims K H vs ts):vs.isEmpty=ts.isEmpty:=by
 have:=h.len
 cases vs <;> cases ts <;> simp at this ⊢
theorem zGh{K:Fg}{te:TE}{f:DE}(h:SimE K te f):SimT K (fun σ H Q=>te σ H fun x H'=>∃ k,TruV K x H' k/\Q k H') (dTru f):=by
 intro C w Γ σ H b Γ' Q R e k
 obtain⟨⟨a,G1⟩,e1,e⟩:=bind_some e
 obtain⟨b',e2,e⟩:=zAE e
 cases e
 refine h C w Γ σ H a _ _ R e1 fun v H1 R1 ev1 o1 n1=>⟨b,?_,k H1 R1 ev1⟩
 dsimp only at e2
 unfold truS at e2
 split at e2
 ·cases e2; rw[o1.inva]; exact rfl
 ·cases e2; rw[o1.inva]; exact rfl
 ·cases e2; rw[o1.inva]; exact rfl
 ·split at e2
  ·rename_i hz
   cases e2; rw[o1.inva]; exact⟨hz,rfl⟩
  ·cases e2
 ·cases e2
  obtain⟨p,us,rfl,h1,i1⟩:=o1.invt
  exact .inr (.inl ⟨us,h1.sq,by rw[i1.isEmpty]⟩)
 ·cases e2
 ·obtain⟨xs,e3,e2⟩:=zAE e2
  subst e2
  obtain⟨p,us,rfl,h1,i1⟩:=zBU R1 o1 e3
  exact .inl ⟨us,h1,by rw[i1.isEmpty]⟩
noncomputable def rfS (Γ:En):S->Option Unit
 | .v (.x _ _)=>some ()
 | .v (.l _)=>some ()
 | .l _=>some ()
 | .s i=>(sqlOf Γ (.s i)).map fun _=>()
 | _=>none
theorem zOK{K:Fg}{C:Fr}{w:W}{Γ:En}{σ:St}{H:Hp}{x:V}{a:S}{u:Unit}(R:Rep K C w Γ σ H)(o:SOk K C w σ H x a)(e:rfS Γ a=some u):∃ p,x=.ref p:=by
 unfold rfS at e
 split at e
 ·obtain⟨p,rfl,_⟩:=(show Im K H x (.x _ _) from o).invx; exact⟨p,rfl⟩
 ·obtain⟨p,_,rfl,_⟩:=(show Im K H x (.l _) from o).invl; exact⟨p,rfl⟩
 ·obtain⟨p,_,rfl,_⟩:=o; exact⟨p,rfl⟩
 ·obtain⟨xs,e1,_⟩:=zAE e
  obtain⟨p,_,rfl,_⟩:=zBU R o e1; exact⟨p,rfl⟩
 ·cases e
noncomputable def isNoneS (neg:Bool):En->S->S->Option S:=fun Γ a b=>match b with
 | .v (.a .non)=>match a with
  | .v (.a x)=>some (mkB (if neg then !decide (x=V.non) else decide (x=V.non)))
  | .v (.t _)=>some (mkB neg)
  | a=>(rfS Γ a).map fun _=>mkB neg
 | _=>none
theorem zJ2{K:Fg}:SimR2 K (fun x y H Q=>y=.non/\Q (.bl (decide (x=.non))) H) (isNoneS false):=by
 intro C w Γ σ H x y a b s Q R ox oy e k
 unfold isNoneS at e
 split at e
 ·refine⟨oy.inva,?_⟩
  split at e
  ·cases e; rw[ox.inva]; exact k _ H R .refl SOk.atom trivial
  ·cases e
   obtain⟨p,us,rfl,h1,i1⟩:=ox.invt
   rw[decide_eq_false (by intro z; cases z)]
   exact k _ H R .refl SOk.atom trivial
  ·obtain⟨u,e1,e⟩:=zAE e
   cases e
   obtain⟨p,rfl⟩:=zOK R ox e1
   rw[decide_eq_false (by intro z; cases z)]
   exact k _ H R .refl SOk.atom trivial
 ·cases e
def EX {ι:Type} (K:Fg) (X:ι->Cx) (e:Expr) (f:DE):Prop:=∃ te,(∀ j,PE (X j) e te)/\SimE K te f
def TX {ι:Type} (K:Fg) (X:ι->Cx) (e:Expr) (f:DT):Prop:=∃ t,(∀ j,PT (X j) e t)/\SimT K t f
def WX {ι:Type} (K:Fg) (X:ι->Cx) (e:Expr) (f:DT):Prop:=∃ t,(∀ j,PW (X j) e t)/\SimT K t f
def AX {ι:Type} (K:Fg) (X:ι->Cx) (es:List Expr) (f:DA):Prop:=∃ t,(∀ j,PA (X j) es t)/\SimA K t f
def OX {ι:Type} (K:Fg) (X:ι->Cx) (e:Option Expr) (f:DO):Prop:=∃ t,(∀ j,PO (X j) e t)/\SimO K t f
def IX {ι:Type} (K:Fg) (X:ι->Cx) (tg it:Expr) (f:DI):Prop:=∃ t,(∀ j,PI (X j) tg it t)/\SimI K t f
def GX {ι:Type} (K:Fg) (X:ι->Cx) (ip:Option Nat) (tg:Expr) (f:En->T->Option En):Prop:=∃ t,(∀ j,PG (X j) tg t)/\SimG K ip t f
def GXs {ι:Type} (K:Fg) (X:ι->Cx) (ip:Option Nat) (tg:List Expr) (f:En->List T->Option En):Prop:=∃ t,(∀ j,PGs (X j) tg t)/\SimGs K ip t f
def SX {ι:Type} (K:Fg) (X:ι->Cx) (ip:Option Nat) (s:Stmt) (f:DS):Prop:=∃ t,(∀ j,PS (X j) s t)/\SimS K ip t f
def BX {ι:Type} (K:Fg) (X:ι->Cx) (ip:Option Nat) (s:List Stmt) (f:DS):Prop:=∃ t,(∀ j,PSs (X j) s t)/\SimS K ip t f
structure Fm{ι:Type}(K:Fg)(mg:Str->Option AB)(k:Nat)(X:ι->Cx):Prop where
 K:∀ j,(X j).K=K
 mg:∀ j,(X j).mg=mg
 calm:∀ j,(X j).calm=true
 room:∀ j,Room k (X j).A
section
variable {ι:Type}{K:Fg}{mg:Str->Option AB}{k:Nat}{X:ι->Cx}{ip:Option Nat}{a b c e:Expr}{es:List Expr}{pos:Pos}{fa fb fc:DE}{ta tb:DT}{da:DA}
theorem jZ(i:Nat){x:Str}(hN:∀ j,(X j).N[i]?=some x:=by intro _; rfl)(hv:∀ j,Vis (X j).env.scope x:=by intro _; first | exact Ep rfl | exact Dw (Ep rfl) | exact Dw (Dw rfl))(hd:(x == ("__debug__":Str))=false:=by decide)
  (hcd:(x == ("__classdict__":Str))=false:=by decide):EX K X (.Name x pos) (jV i):=⟨tVar i,fun j=>zCX (hN j) (hv j) hd hcd,zLx⟩
theorem jJ{i:Int}{u}:EX K X (.Constant (.int i) u pos) (dC (.int i)):=⟨_,fun _=>zNs,zCy⟩
theorem zIA{v:Bool}{u}:EX K X (.Constant (.bool v) u pos) (dC (.bl v)):=⟨_,fun _=>zPC,zCy⟩
theorem zDv{u}:EX K X (.Constant .none u pos) (dC .non):=⟨_,fun _=>zNA,zCy⟩
theorem zAI{v:Str}{u}:EX K X (.Constant (.str v) u pos) (dC (.str v)):=⟨_,fun _=>zNF,zCy⟩
theorem zLZ{x:Str}{N:String}(M:Fm K mg k X)(hm:mg x=none)(hv:B0 x=some (.type N))(hg:∀ j,Gl (X j) x:=by intro _; rfl)(hn:x≠"__name__":=by decide)(hd:(x == ("__debug__":Str))=false:=by decide):EX K X (.Name x pos) (dC (.ty N)) :=
 ⟨_,fun j=>zLG (hg j) (by rw[M.mg]; exact hm) hv hn hd,zCy⟩
theorem zCz{op:Operator}{r:R2}{h:En->S->S->Option S}(ho:∀ j,OpR (X j) (Cg op) r)(hs:SimR2 K r h)(ha:EX K X a fa)(hb:EX K X b fb):EX K X (.BinOp a op b pos) (dOp h fa fb) :=
 let ⟨_,p,s⟩:=ha; let ⟨_,q,u⟩:=hb; ⟨_,fun j=>zOl (ho j) (p j) (q j),zCk hs s u⟩
theorem zAK(M:Fm K mg k X)(ha:EX K X a fa)(hb:EX K X b fb):EX K X (.BinOp a .Add b pos) (dOp addS fa fb):=zCz (fun j=>by rw[← M.K j]; exact zLk) zJG ha hb
theorem zAW(ha:EX K X a fa)(hb:EX K X b fb):EX K X (.BinOp a .Sub b pos) (dOp subS fa fb):=zCz (fun j=>zNi) zBM ha hb
theorem zAt(ha:EX K X a fa)(hb:EX K X b fb):EX K X (.BinOp a .Mult b pos) (dOp mulS fa fb):=zCz (fun j=>zMp) zIh ha hb
theorem zBC(ha:EX K X a fa)(hb:EX K X b fb):EX K X (.BinOp a .Mod b pos) (dOp modS fa fb):=zCz (fun j=>zNT) zCK ha hb
theorem zBn(ha:EX K X a fa)(hb:EX K X b fb):EX K X (.BinOp a .FloorDiv b pos) (dOp fdivS fa fb):=zCz (fun j=>zLd) zCK ha hb
theorem zNh(ha:EX K X a fa)(hb:EX K X b fb):EX K X (.BinOp a .Pow b pos) (dOp powS fa fb):=zCz (fun j=>zNw) zCK ha hb
theorem zB1(ha:EX K X a fa):EX K X (.UnaryOp .USub a pos) (dUn negS fa):=let ⟨_,p,s⟩:=ha; ⟨_,fun j=>zO9 zNk (p j),zN5 zI9 s⟩
theorem zN1{op:Gk}{r:R2}{h:En->S->S->Option S}(ho:∀ j,OpR (X j) (Bl op) r)(hs:SimR2 K r h)(hm:Cw op b=false)(ha:EX K X a fa)(hb:EX K X b fb):EX K X (.Compare a [op] [b] pos) (dOp h fa fb) :=
 let ⟨_,p,s⟩:=ha; let ⟨_,q,u⟩:=hb; ⟨_,fun j=>zMg (ho j) (p j) (q j) hm,zCk hs s u⟩
theorem zNa{op:Gk}{r:R2}{h:En->S->S->Option S}(ho:∀ j,OpR (X j) (Bl op) r)(hs:SimR2 K r h)(hm:Cw op b=false)(ha:EX K X a fa)(hb:EX K X b fb):TX K X (.Compare a [op] [b] pos) (dTest (dOp h fa fb)) :=
 let ⟨_,p,s⟩:=ha; let ⟨_,q,u⟩:=hb; ⟨_,fun j=>zLv (ho j) (p j) (q j) hm,zFw (zCk hs s u)⟩
structure CmpR{ι:Type}(K:Fg)(X:ι->Cx)(op:Gk)(h:En->S->S->Option S):Prop where
 ex:∃ r,(∀ j,OpR (X j) (Bl op) r)/\SimR2 K r h
theorem zBI:CmpR K X .Lt ltS:=⟨_,fun _=>zOE,zBM⟩
theorem zLU:CmpR K X .LtE leS:=⟨_,fun _=>zOh,zBM⟩
theorem zBG:CmpR K X .Gt gtS:=⟨_,fun _=>zOa,zBM⟩
theorem zOs:CmpR K X .GtE geS:=⟨_,fun _=>zOI,zBM⟩
theorem zAa(M:Fm K mg k X):CmpR K X .Eq eqS:=⟨_,fun j=>by have:=zNI (M.room j); rw[M.K j]at this; exact this,zKP⟩
theorem zDe(M:Fm K mg k X):CmpR K X .NotEq neS:=⟨_,fun j=>by have:=zNV (M.room j); rw[M.K j]at this; exact this,zLD⟩
theorem zHP(M:Fm K mg k X):CmpR K X .In (inS false):=⟨_,fun j=>by have:=zIS (X:=X j); rw[M.K j]at this; exact this,zKv⟩
theorem zHk:CmpR K X .Is (isNoneS false):=⟨_,fun _=>zNO,zJ2⟩
theorem ex_c{op:Gk}{h:En->S->S->Option S}(hc:CmpR K X op h)(ha:EX K X a fa)(hb:EX K X b fb)(hm:Cw op b=false:=by first | exact nomark _ | with_unfolding_all rfl):EX K X (.Compare a [op] [b] pos) (dOp h fa fb) :=
 let ⟨_,p,q⟩:=hc.ex; zN1 p q hm ha hb
theorem tx_c{op:Gk}{h:En->S->S->Option S}(hc:CmpR K X op h)(ha:EX K X a fa)(hb:EX K X b fb)(hm:Cw op b=false:=by first | exact nomark _ | with_unfolding_all rfl):TX K X (.Compare a [op] [b] pos) (dTest (dOp h fa fb)) :=
 let ⟨_,p,q⟩:=hc.ex; zNa p q hm ha hb
theorem zFr{op op':Gk}{h h':En->S->S->Option S}(hc:CmpR K X op h)(hc':CmpR K X op' h')(ha:EX K X a fa)(hb:EX K X b fb)(h3:EX K X c fc)(hm:lastMarks [op,op'] [b,c]=false:=by with_unfolding_all rfl):EX K X (.Compare a [op,op'] [b,c] pos) (dChain h h' fa fb fc) :=
 let ⟨_,p,q⟩:=hc.ex; let ⟨_,p',q'⟩:=hc'.ex; let ⟨_,a1,a2⟩:=ha; let ⟨_,b1,b2⟩:=hb; let ⟨_,c1,c2⟩:=h3; ⟨_,fun j=>zKW (p j) (p' j) (a1 j) (b1 j) (c1 j) hm,zIX q q' a2 b2 c2⟩
theorem tx_v(M:Fm K mg k X)(ha:EX K X a fa)(he:∀ j whole,G9 a (X j).env whole=(do let v ← whole; H9 a.pos; holding [v] (truthy v)):=by intro _ _; rfl):TX K X a (dTru fa) :=
 let ⟨te,p,s⟩:=ha; ⟨(fun σ H Q=>te σ H fun x H'=>∃ k,TruV K x H' k/\Q k H'),fun j=>by have:=zFT (p j) (he j); rw[M.K j]at this; exact this,zGh s⟩
theorem zFR(ha:TX K X a ta):TX K X (.UnaryOp .Not a pos) (dNot ta):=let ⟨_,p,s⟩:=ha; ⟨_,fun j=>zNx (p j),zLg s⟩
theorem zC1(ha:TX K X a ta):WX K X (.BoolOp .And [a] pos) ta:=let ⟨_,p,s⟩:=ha; ⟨_,fun j=>zLl (p j),s⟩
theorem zB4(ha:TX K X a ta):WX K X (.BoolOp .Or [a] pos) ta:=let ⟨_,p,s⟩:=ha; ⟨_,fun j=>zN3 (p j),s⟩
theorem zCm(ha:TX K X a ta)(hb:WX K X (.BoolOp .And (b::es) pos) tb):WX K X (.BoolOp .And (a::b::es) pos) (dAnd ta tb):=let ⟨_,p,s⟩:=ha; let ⟨_,q,u⟩:=hb; ⟨_,fun j=>zNn (p j) (q j),zL9 s u⟩
theorem zBi(ha:TX K X a ta)(hb:WX K X (.BoolOp .Or (b::es) pos) tb):WX K X (.BoolOp .Or (a::b::es) pos) (dOr ta tb):=let ⟨_,p,s⟩:=ha; let ⟨_,q,u⟩:=hb; ⟨_,fun j=>zOg (p j) (q j),zM7 s u⟩
theorem tx_w(ha:WX K X a ta):TX K X a ta:=let ⟨_,p,s⟩:=ha; ⟨_,fun j=>(p j).pt,s⟩
theorem zNB{op}(ha:EX K X a fa):EX K X (.BoolOp op [a] pos) fa:=let ⟨_,p,s⟩:=ha; ⟨_,fun j=>zN4 (p j),s⟩
theorem zN0(ha:EX K X a fa)(hb:EX K X (.BoolOp .And (b::es) pos) fb):EX K X (.BoolOp .And (a::b::es) pos) (dAndV fa fb):=let ⟨_,p,s⟩:=ha; let ⟨_,q,u⟩:=hb; ⟨_,fun j=>zM1 (p j) (q j),zJ8 s u⟩
theorem zLT(hc:TX K X c ta)(ha:EX K X a fa)(hb:EX K X b fb):EX K X (.IfExp c a b pos) (dIfE ta fa fb):=let ⟨_,p,s⟩:=hc; let ⟨_,q,u⟩:=ha; let ⟨_,q',u'⟩:=hb; ⟨_,fun j=>zKh (p j) (q j) (q' j),zLw s u u'⟩
theorem jY:AX K X [] qQ:=⟨_,fun _=>zFx,zGx⟩
theorem jQ{fr:DA}(ha:EX K X e fa)(hr:AX K X es fr)(hs:∀ j,AI (e::es) (X j).env=(false,eval e (X j).env)::AI es (X j).env:=by intro _; rfl):AX K X (e::es) (jW fa fr) :=
 let ⟨_,p,s⟩:=ha; let ⟨_,q,u⟩:=hr; ⟨_,fun j=>zC7 (p j) (q j) (hs j),zKc s u⟩
theorem zAH{x1}(h:AX K X es da):EX K X (.Tuple es x1 pos) (dTup da):=let ⟨_,p,s⟩:=h; ⟨_,fun j=>zM8 (p j),zMn s⟩
theorem zAZ(h:AX K X es da):EX K X (.List es pos) (dLst da):=let ⟨_,p,s⟩:=h; ⟨_,fun j=>zNE (p j),zMN s⟩
theorem zAC(M:Fm K mg k X)(ha:EX K X a fa)(hb:EX K X b fb)(hs:PlainIx b:=by exact fun _ _=>rfl):EX K X (.Subscript a b pos) (dOp ixS fa fb) :=
 let ⟨_,p,s⟩:=ha; let ⟨_,q,u⟩:=hb; ⟨_,fun j=>zOU (by have:=zM6 (X:=X j); rw[M.K j]at this; exact this) (p j) (q j) hs,zCk zKQ s u⟩
theorem zAr:OX K X none dNoPart:=⟨_,fun _=>zMe,zHr⟩
theorem zAp(ha:EX K X a fa):OX K X (some a) (dPart fa):=let ⟨_,p,s⟩:=ha; ⟨_,fun j=>zMF (p j),zLF s⟩
theorem zA8(M:Fm K mg k X){lo hi:Option Expr}{p2:Pos}{dl dh:DO}(ha:EX K X a fa)(hl:OX K X lo dl)(hh:OX K X hi dh):EX K X (.Subscript a (.Slice lo hi none p2) pos) (dSl fa dl dh) :=
 let ⟨_,p,s⟩:=ha; let ⟨_,q,u⟩:=hl; let ⟨_,q',u'⟩:=hh; ⟨_,fun j=>zKe (by have:=sl_S (X:=X j); rw[M.K j]at this; exact this) (p j) (q j) (q' j),zNe s u u'⟩
structure CalR{ι:Type}(K:Fg)(X:ι->Cx)(f:AB)(h:En->List S->Option S):Prop where
 ex:∃ r,(∀ j,CallR (X j) f r)/\SimRs K r h
theorem zAc{x:Str}{p:Pos}{id:String}{h:En->List S->Option S}(M:Fm K mg k X)(hc:CalR K X (.builtin id) h)(hm:mg x=none)(hv:B0 x=some (.builtin id))(ha:AX K X (e::es) da)(hg:∀ j,Gl (X j) x:=by intro _; rfl)(hn:x≠"__name__":=by decide)(hdb:(x == ("__debug__":Str))=false:=by decide)
  (he:∀ j,AI (e::es) (X j).env=(false,eval e (X j).env)::AI es (X j).env:=by intro _; rfl) (hpl:∀ j,(Bd pos (AI es (X j).env)).any (·.1)=false:=by intro _; rfl):EX K X (.Call (.Name x p) (e::es) [] pos) (dCB h da) :=
 let ⟨_,p,s⟩:=hc.ex; let ⟨_,q,u⟩:=ha; ⟨_,fun j=>zF6 (p j) (hg j) (by rw[M.mg]; exact hm) hv (q j) hn hdb (he j) (hpl j),zFk s u⟩
theorem zBH{x:Str}{p:Pos}{N:String}{h:En->List S->Option S}(M:Fm K mg k X)(hc:CalR K X (.type N) h)(hm:mg x=none)(hv:B0 x=some (.type N))(ha:AX K X (e::es) da)(hg:∀ j,Gl (X j) x:=by intro _; rfl)(hn:x≠"__name__":=by decide)(hdb:(x == ("__debug__":Str))=false:=by decide)
  (he:∀ j,AI (e::es) (X j).env=(false,eval e (X j).env)::AI es (X j).env:=by intro _; rfl) (hpl:∀ j,(Bd pos (AI es (X j).env)).any (·.1)=false:=by intro _; rfl):EX K X (.Call (.Name x p) (e::es) [] pos) (dCB h da) :=
 let ⟨_,p,s⟩:=hc.ex; let ⟨_,q,u⟩:=ha; ⟨_,fun j=>zBg (p j) (hg j) (by rw[M.mg]; exact hm) hv (q j) hn hdb (he j) (hpl j),zFk s u⟩
theorem zAm(M:Fm K mg k X):CalR K X (.builtin "len") lenS:=⟨_,fun j=>by have:=zIr (X:=X j); rw[M.K j]at this; exact this,zJm⟩
theorem zJd(M:Fm K mg k X):CalR K X (.builtin "isinstance") isiS:=⟨_,fun j=>by have:=zI2 (X:=X j); rw[M.K j]at this; exact this,zJv⟩
theorem zEK(M:Fm K mg k X):CalR K X (.builtin "repr") reprS:=⟨_,fun j=>by have:=zJF (M.room j); rw[M.K j]at this; exact this,zHy⟩
theorem zGi(M:Fm K mg k X):CalR K X (.builtin "max") max2S:=⟨_,fun j=>zIx (M.calm j),zHA⟩
theorem zGu(M:Fm K mg k X):CalR K X (.builtin "min") min2S:=⟨_,fun j=>zJh (M.calm j),zIM⟩
theorem zCU:CalR K X (.type "int") intS:=⟨_,fun j=>zIY,zIc⟩
theorem zBK(M:Fm K mg k X):CalR K X (.type "tuple") tupleS:=⟨_,fun j=>by have:=zE1 (X:=X j); rw[M.K j]at this; exact this,zGG⟩
theorem zEn{X:Cx}:CallR X (.type "range") rRng:=zIz.or zJl
theorem zCF{p p2 pos2:Pos}(M:Fm K mg k X)(hl:mg "list"=none)(hr:mg "range"=none)(ha:AX K X (e::es) da)(hg:∀ j,Gl (X j) "list":=by intro _; rfl)(hg2:∀ j,Gl (X j) "range":=by intro _; rfl)
  (he:∀ j,AI (e::es) (X j).env=(false,eval e (X j).env)::AI es (X j).env:=by intro _; rfl) (hpl:∀ j,(Bd pos2 (AI es (X j).env)).any (·.1)=false:=by intro _; rfl) :
  EX K X (.Call (.Name "list" p) [.Call (.Name "range" p2) (e::es) [] pos2] [] pos) (dListRng da) :=
 let ⟨_,q,u⟩:=ha; ⟨_,fun j=>zBg (zFW (M.calm j)) (hg j) (by rw[M.mg]; exact hl) Fy (zC7 (zBg zEn (hg2 j) (by rw[M.mg]; exact hr) Ft (q j) (by decide) (by decide) (he j) (hpl j)) zFx),zGT u⟩
theorem zIb{p p2 pos2:Pos}(M:Fm K mg k X)(hl:mg "tuple"=none)(hr:mg "range"=none)(ha:AX K X (e::es) da)(hg:∀ j,Gl (X j) "tuple":=by intro _; rfl)(hg2:∀ j,Gl (X j) "range":=by intro _; rfl)
  (he:∀ j,AI (e::es) (X j).env=(false,eval e (X j).env)::AI es (X j).env:=by intro _; rfl) (hpl:∀ j,(Bd pos2 (AI es (X j).env)).any (·.1)=false:=by intro _; rfl) :
  EX K X (.Call (.Name "tuple" p) [.Call (.Name "range" p2) (e::es) [] pos2] [] pos) (dTupRng da) :=
 let ⟨_,q,u⟩:=ha; ⟨_,fun j=>zBg (zEt (M.calm j)) (hg j) (by rw[M.mg]; exact hl) Kc (zC7 (zBg zEn (hg2 j) (by rw[M.mg]; exact hr) Ft (q j) (by decide) (by decide) (he j) (hpl j)) zFx),zHn u⟩
end
structure Fb{ι:Type}(P:AY)(wd:Af)(base:Heap)(X:ι->Cx):Prop where
 P:∀ j,(X j).prog=P
 w:∀ j,(X j).w=wd
 b:∀ j,(X j).base=base
structure FD(P:AY)(wd:Af)(K:Fg)(mg:Str->Option AB)(base:Heap)(k:Nat)(x:Str)(ip:Option Nat)(n:Nat)(F:DF):Prop where
 ex:∃ (f:Addr) (fd:AZ) (ps:List Str),FnOk P wd K mg base CX0 k f fd ps (spD K ip n F)/\mg x=some (.ref f)/\An K (.ref f)=true/\Binds K fd ps []
 len:∀ gs r,F gs=some r->gs.length=n
theorem zB3{ip:Option Nat}{np nN:Nat}{g:DS}:∀ gs r,fnD ip np nN g gs=some r->gs.length=np:=fun gs r e=>by
 unfold fnD at e
 split at e
 ·assumption
 ·cases e
section
variable {ι:Type}{P:AY}{wd:Af}{base:Heap}{K:Fg}{mg:Str->Option AB}{k k' n:Nat}{X:ι->Cx}{ip:Option Nat}{a b c e:Expr}{es:List Expr}{pos p:Pos}{fa fb fc:DE}{ta tb:DT}{da:DA}{F:DF}{x:Str}
theorem zAB(M:Fm K mg k X)(B:Fb P wd base X)(D0:FD P wd K mg base k' x ip n F)(ha:AX K X (e::es) da)(hk:k'<=k:=by first | exact AL _ | decide | omega)(hg:∀ j,Gl (X j) x:=by intro _; rfl)(hdb:(x == ("__debug__":Str))=false:=by decide)
  (he:∀ j,AI (e::es) (X j).env=(false,eval e (X j).env)::AI es (X j).env:=by intro _; rfl) (hpl:∀ j,(Bd pos (AI es (X j).env)).any (·.1)=false:=by intro _; rfl) :
  EX K X (.Call (.Name x p) (e::es) [] pos) (dCall ip F [] da):=by
 obtain⟨f,fd,ps,h1,h2,h3,h4⟩:=D0.ex
 obtain⟨t,q,u⟩:=ha
 refine⟨tCall (spD K ip n F) [] E0 t,fun j=>?_,zDF D0.len u⟩
 have hF:FnOk (X j).prog (X j).w (X j).K (X j).mg (X j).base CX0 k' f fd ps (spD K ip n F):=by rw[B.P,B.w,M.K,M.mg,B.b]; exact h1
 exact zML hF ((M.room j).mono hk) (hg j) (by rw[M.mg]; exact h2) (by rw[M.K]; exact h3) (by rw[M.K]; exact h4) .nil pass0 (q j) hdb (he j) (hpl j)
theorem zBP{tg l:Expr}(M:Fm K mg k X)(hl:EX K X l fa):IX K X tg l (dSeqI fa):=let ⟨t,p,s⟩:=hl; ⟨iSeq K t,fun j=>by have:=zMr (tg:=tg) (p j); rw[M.K j]at this; exact this,zKR s⟩
theorem zC3{tg:Expr}(M:Fm K mg k X)(hm:mg "range"=none)(ha:AX K X [a] da)(hg:∀ j,Gl (X j) "range":=by intro _; rfl)(hs:∀ j,AI [a] (X j).env=[(false,eval a (X j).env)]:=by intro _; rfl):IX K X tg (.Call (.Name "range" p) [a] [] pos) (dRng1 da) :=
 let ⟨_,q,u⟩:=ha; ⟨_,fun j=>zIa (hg j) (by rw[M.mg]; exact hm) (q j) (hs j),zIT u⟩
theorem zQM{tg:Expr}(M:Fm K mg k X)(hm:mg "range"=none)(ha:AX K X [a,b] da)(hg:∀ j,Gl (X j) "range":=by intro _; rfl)(hs:∀ j,AI [a,b] (X j).env=[(false,eval a (X j).env),(false,eval b (X j).env)]:=by intro _; rfl)
  (hs2:∀ j,AI [b] (X j).env=[(false,eval b (X j).env)]:=by intro _; rfl):IX K X tg (.Call (.Name "range" p) [a,b] [] pos) (dRng2 da) :=
 let ⟨_,q,u⟩:=ha; ⟨_,fun j=>zId (hg j) (by rw[M.mg]; exact hm) (q j) (hs j) (hs2 j),zJy u⟩
theorem zAj(i:Nat)(hi:ip≠some i:=by decide)(hN:∀ j,(X j).N.Nodup:=by intro _; show (D4 _); decide +kernel)(hx':∀ j,(X j).N[i]?=some x:=by intro _; rfl)(hx:∀ j,Loc (X j).env.scope x:=by intro _; first | exact Ep rfl | exact Dw rfl)
  (hf:∀ j,(X j).fn x=true\/(X j).env.scope.names.lookup x=some .local:=by intro _; first | exact .inl rfl | exact .inr rfl):GX K X ip (.Name x pos) (gdName i):=⟨_,fun j=>zGw (hN j) (hx' j) (hx j) (hf j),zJk hi⟩
theorem zGn:GXs K X ip [] gdNil:=⟨_,fun _=>zMO,zIy⟩
theorem zBu{f:En->T->Option En}{g:En->List T->Option En}(h1:GX K X ip e f)(h2:GXs K X ip es g)(hst:∀ j,(CJ (e::es) (X j).env).map (·.2)=assign e (X j).env::(CJ es (X j).env).map (·.2):=by intro _; rfl):GXs K X ip (e::es) (gdCons f g) :=
 let ⟨_,p,s⟩:=h1; let ⟨_,q,u⟩:=h2; ⟨_,fun j=>zKx (p j) (q j) (hst j),zHT s u⟩
theorem zJt(n:Nat){kk:Nat}{g:En->List T->Option En}(M:Fm K mg k X)(h:GXs K X ip es g)(hn:∀ j,(CJ es (X j).env).length=n:=by intro _; rfl)(hst:∀ j,(CJ es (X j).env).findIdx? (·.1)=none:=by intro _; rfl):GX K X ip (.Tuple es kk pos) (gdTup n g) :=
 let ⟨_,p,s⟩:=h; ⟨_,fun j=>zLj K (M.K j) (M.calm j) (p j) (hn j) (hst j),zKV s⟩
def QX {ι:Type} (K:Fg) (X:ι->Cx) (ifs:List Expr) (f:DT):Prop:=∃ t,(∀ j,PTs (X j) ifs t)/\SimT K t f
noncomputable def dYes:DT:=fun Γ=>some (true,Γ)
theorem zBs:QX K X [] dYes:=⟨_,fun _=>zM0,fun C w Γ σ H b Γ' Q R e k=>by cases e; exact k H R .refl⟩
theorem zFb(h:TX K X c ta):QX K X [c] ta:=let ⟨_,p,s⟩:=h; ⟨_,fun j=>zMy (p j),s⟩
noncomputable abbrev CI (ι:Type):=ι×Addr×List (Str×Addr)×AD×Hp×List Addr
noncomputable abbrev cxF {ι:Type} (X:ι->Cx) (N':List Str) (sc:B6):CI ι->Cx:=fun q=>cxC (X q.1) N' sc q.2.1 q.2.2.1 q.2.2.2.1 q.2.2.2.2.1 q.2.2.2.2.2
theorem Fm.comp{N':List Str}{sc:B6}(M:Fm K mg k X):Fm K mg k (cxF X N' sc):=⟨fun j=>M.K j.1,fun j=>M.mg j.1,fun j=>M.calm j.1,fun j=>M.room j.1⟩
theorem Fb.comp{N':List Str}{sc:B6}(B:Fb P wd base X):Fb P wd base (cxF X N' sc):=⟨fun j=>B.P j.1,fun j=>B.w j.1,fun j=>B.b j.1⟩
theorem zBY{N':List Str}{ix:List (Option Nat)}{sc:B6}{elt tg iter:Expr}{ifs:List Expr}{di:DI}{g:En->T->Option En}{dc:DT}{de:DE}(mu:Option (Nat×Nat))(M:Fm K mg k X)(S:∀ j,CompOk (X j) N' ix sc)(hi:IX K X tg iter di)
  (hg:GX K (cxF X N' sc) (mu.map (·.1)) tg g) (ht:QX K (cxF X N' sc) ifs dc) (he:EX K (cxF X N' sc) elt de)
  (hmu:∀ j i,mu=some (j,i)->ix[j]?=some (some i):=by intro _ _ e; first | (cases e; rfl) | cases e) (hix:∀ (j j' i:Nat),mu.map (·.2)=some i->ix[j]?=some (some i)->ix[j']?=some (some i)->j=j')
  (hs:∀ j x,CS iter (X j).env x=pure x:=by intro _ _; rfl):EX K X (.ListComp elt [⟨tg,iter,ifs,0⟩] sc pos) (dComp mu ix di g dc de) :=
 let ⟨_,p1,s1⟩:=hi; let ⟨_,p2,s2⟩:=hg; let ⟨_,p3,s3⟩:=ht; let ⟨_,p4,s4⟩:=he
 ⟨_,fun j=>zMM (S j) (M.calm j) (p1 j) (fun C cs s H ex=>p2 (j,C,cs,s,H,ex)) (fun C cs s H ex=>p3 (j,C,cs,s,H,ex)) (fun C cs s H ex=>p4 (j,C,cs,s,H,ex)) (hs j),zGC s1 s2 s3 s4 hmu hix⟩
theorem hix0{ix:List (Option Nat)}:∀ (j j' i:Nat),(none:Option (Nat×Nat)).map (·.2)=some i->ix[j]?=some (some i)->ix[j']?=some (some i)->j=j':=fun _ _ _ e=>by cases e
noncomputable def onceIx (ix:List (Option Nat)) (j i:Nat):Bool:=(A5 ix.length).all fun m=>decide (ix[m]?=some (some i)->m=j)
theorem hix1{ix:List (Option Nat)}{j0 i0:Nat}(h:onceIx ix j0 i0=true):∀ (j j' i:Nat),(some (j0,i0)).map (·.2)=some i->ix[j]?=some (some i)->ix[j']?=some (some i)->j=j':=by
 intro j j' i e h1 h2
 cases e
 have key:∀ m:Nat,ix[m]?=some (some i0)->m=j0:=fun m hm=>by
  have hl:=(Ac.mp hm).1
  have:=Ax.mp h m (by simpa using hl)
  exact (of_decide_eq_true this) hm
 rw[key j h1,key j' h2]
theorem zBV{i:Nat}{name:Str}{apos cpos:Pos}{id:String}{r:V->List V->Hp->VK->Prop}{h:En->List T->List S->Option (T×List T)}{y:Str}{yp:Pos}(M:Fm K mg k X)(slot:Slot "list" name id)(hty:GY (.builtin id)=pure (.type "method_descriptor"))(hm:∀ j,MtM (X j) id r)(hr:SimMut K r h)
  (ho:∀ j,PE (X j) (.Name y yp) (tVar i)) (ha:AX K X (e::es) da)
  (hbase:∀ j,CU (.Name y yp) name (X j).env (eval (.Name y yp) (X j).env)=eval (.Name y yp) (X j).env:=by intro _; rfl)
  (hfew:∀ j,((Bd cpos (AI (e::es) (X j).env)).all (fun x=>!x.1) && (IZ cpos (Gp [] (X j).env)).all (fun x=>x.1.isSome) && decide ((e::es).length+([]:List Fe).length+(if ([]:List Fe).isEmpty then 0 else 1) < 30))=true:=by intro _; rfl)
  (hline:(apos.endLine == cpos.line)=true:=by rfl) (hs:∀ j,AI (e::es) (X j).env=(false,eval e (X j).env)::AI es (X j).env:=by intro _; rfl) (hplain:∀ j,(Bd cpos (AI es (X j).env)).any (·.1)=false:=by intro _; rfl) :
  EX K X (.Call (.Attribute (.Name y yp) name apos) (e::es) [] cpos) (dMut i h da) :=
 let ⟨t,q,u⟩:=ha; ⟨tBM K "list" r (tVar i) t,fun j=>by have:=zOf GU slot hty (hm j) (ho j) (q j) (hbase j) (hfew j) hline (hs j) (hplain j); rw[M.K j]at this; exact this,zGl hr u⟩
theorem zGa{i:Nat}{name:Str}{apos cpos:Pos}{id:String}{r:V->List V->Hp->VK->Prop}{h:En->List T->List S->Option (T×List T)}{y:Str}{yp:Pos}(M:Fm K mg k X)(slot:Slot "list" name id)(hty:GY (.builtin id)=pure (.type "method_descriptor"))(hm:∀ j,MtM (X j) id r)(hr:SimMut K r h)
  (ho:∀ j,PE (X j) (.Name y yp) (tVar i)) (hbase:∀ j,CU (.Name y yp) name (X j).env (eval (.Name y yp) (X j).env)=eval (.Name y yp) (X j).env:=by intro _; rfl) (hline:(apos.endLine == cpos.line)=true:=by rfl) :
  EX K X (.Call (.Attribute (.Name y yp) name apos) [] [] cpos) (dMut i h qQ) :=
 ⟨tBM0 K "list" r (tVar i),fun j=>by have:=zM4 GU slot hty (hm j) (ho j) (hbase j) hline; rw[M.K j]at this; exact this,zJ5 hr⟩
theorem zKU{apos cpos:Pos}{o:Expr}(M:Fm K mg k X)(ho:EX K X o fa)(ha:AX K X (e::es) da)
  (hbase:∀ j,CU o "index" (X j).env (eval o (X j).env)=eval o (X j).env:=by intro _; rfl)
  (hfew:∀ j,((Bd cpos (AI (e::es) (X j).env)).all (fun x=>!x.1) && (IZ cpos (Gp [] (X j).env)).all (fun x=>x.1.isSome) && decide ((e::es).length+([]:List Fe).length+(if ([]:List Fe).isEmpty then 0 else 1) < 30))=true:=by intro _; rfl)
  (hline:(apos.endLine == cpos.line)=true:=by rfl) (hs:∀ j,AI (e::es) (X j).env=(false,eval e (X j).env)::AI es (X j).env:=by intro _; rfl) (hplain:∀ j,(Bd cpos (AI es (X j).env)).any (·.1)=false:=by intro _; rfl) :
  EX K X (.Call (.Attribute o "index" apos) (e::es) [] cpos) (dIndex fa da) :=
 have hm:∀ j,MtM (X j) "tuple.index" (rTupIndex K):=fun j=>by have:=zGO (X:=X j); rw[M.K j]at this; exact this
 let ⟨t0,q0,u0⟩:=ho; let ⟨t,q,u⟩:=ha; ⟨tBMS K (rTupIndex K) t0 t,fun j=>by have:=zM5 PySem.F.slot_tuple_index PySem.F.type_tuple_index (hm j) (q0 j) (q j) (hbase j) (hfew j) hline (hs j) (hplain j); rw[M.K j]at this; exact this,zJ4 u0 u⟩
theorem pv'(i:Nat){x:Str}{pos:Pos}(hN:∀ j,(X j).N[i]?=some x:=by intro _; rfl)(hv:∀ j,Vis (X j).env.scope x:=by intro _; first | exact Ep rfl | exact Dw (Ep rfl) | exact Dw (Dw rfl))(hd:(x == ("__debug__":Str))=false:=by decide)
  (hcd:(x == ("__classdict__":Str))=false:=by decide):∀ j,PE (X j) (.Name x pos) (tVar i):=fun j=>zCX (hN j) (hv j) hd hcd
variable {st:Stmt}{sts sts':List Stmt}{f g:DS}
theorem zAL:BX K X ip [] dNext:=⟨_,fun _=>zGe,zI0⟩
theorem zAD(h:SX K X ip st f):BX K X ip [st] f:=let ⟨_,p,s⟩:=h; ⟨_,fun j=>zEM (p j),s⟩
theorem zAA(h:SX K X ip st f)(h2:BX K X ip sts g):BX K X ip (st::sts) (dSeq f g):=let ⟨_,p,s⟩:=h; let ⟨_,q,u⟩:=h2; ⟨_,fun j=>zF2 (p j) (q j),zK8 s u⟩
theorem zBb(h:EX K X e fa)(hs:∀ j,CO e none pos.line (X j).env=pure false:=by intro _; rfl):SX K X ip (.Expr e pos) (dDrop fa):=let ⟨_,p,s⟩:=h; ⟨_,fun j=>zLs (p j) (hs j),zIW s⟩
theorem zAF(h:EX K X e fa):SX K X ip (.Return (some e) pos) (dRet fa):=let ⟨_,p,s⟩:=h; ⟨_,fun j=>zNp (p j),zLA s⟩
theorem zAN(hc:TX K X c ta)(h1:BX K X ip sts f)(h2:BX K X ip sts' g):SX K X ip (.If c sts sts' pos) (dIf ta f g):=let ⟨_,p,s⟩:=hc; let ⟨_,q,u⟩:=h1; let ⟨_,q',u'⟩:=h2; ⟨_,fun j=>zLa (p j) (q j) (q' j),zMf s u u'⟩
theorem zAG(i:Nat){pos':Pos}(h:EX K X e fa)(hi:ip≠some i:=by decide)(hN:∀ j,(X j).N.Nodup:=by intro _; show (D4 _); decide +kernel)(hx':∀ j,(X j).N[i]?=some x:=by intro _; rfl)(hx:∀ j,Loc (X j).env.scope x:=by intro _; first | exact Ep rfl | exact Dw rfl)
  (hs:∀ j,CO e (some (.Name x pos')) pos.line (X j).env=pure false:=by intro _; rfl) (hf:∀ j,(X j).fn x=true\/(X j).env.scope.names.lookup x=some .local:=by intro _; first | exact .inl rfl | exact .inr rfl):SX K X ip (.Assign [.Name x pos'] e pos) (dSet i fa) :=
 let ⟨_,p,s⟩:=h; ⟨_,fun j=>zJU (hN j) (hx' j) (hx j) (p j) (hs j) (hf j),zFe s hi⟩
theorem zD6{N':List Str}{ix:List (Option Nat)}{sc:B6}{elt tg iter:Expr}{ifs:List Expr}{di:DI}{gg:En->T->Option En}{dc:DT}{de:DE}{pos' spos:Pos}(i:Nat)(mu:Option (Nat×Nat))(M:Fm K mg k X)(S:∀ j,CompOk (X j) N' ix sc)(h1:IX K X tg iter di)
  (hg:GX K (cxF X N' sc) (mu.map (·.1)) tg gg) (ht:QX K (cxF X N' sc) ifs dc) (he:EX K (cxF X N' sc) elt de)
  (hix:∀ (j j' i:Nat),mu.map (·.2)=some i->ix[j]?=some (some i)->ix[j']?=some (some i)->j=j') (hi:ip≠some i:=by decide) (hmu:∀ j i,mu=some (j,i)->ix[j]?=some (some i):=by intro _ _ e; first | (cases e; rfl) | cases e)
  (hN:∀ j,(X j).N.Nodup:=by intro _; show (D4 _); decide +kernel) (hx':∀ j,(X j).N[i]?=some x:=by intro _; rfl) (hx:∀ j,Loc (X j).env.scope x:=by intro _; first | exact Ep rfl | exact Dw rfl)
  (hsw:∀ j,CO (.ListComp elt [⟨tg,iter,ifs,0⟩] sc pos) (some (.Name x pos')) spos.line (X j).env=pure true:=by intro _; rfl)
  (hf:∀ j,(X j).fn x=true\/(X j).env.scope.names.lookup x=some .local:=by intro _; first | exact .inl rfl | exact .inr rfl)
  (hs:∀ j x,CS iter (X j).env x=pure x:=by intro _ _; rfl):SX K X ip (.Assign [.Name x pos'] (.ListComp elt [⟨tg,iter,ifs,0⟩] sc pos) spos) (dSet i (dComp mu ix di gg dc de)) :=
 let ⟨_,p1,s1⟩:=h1; let ⟨_,p2,s2⟩:=hg; let ⟨_,p3,s3⟩:=ht; let ⟨_,p4,s4⟩:=he
 ⟨_,fun j=>zMC (hN j) (hx' j) (hx j) (S j) (M.calm j) (p1 j) (fun C cs s H ex=>p2 (j,C,cs,s,H,ex)) (fun C cs s H ex=>p3 (j,C,cs,s,H,ex)) (fun C cs s H ex=>p4 (j,C,cs,s,H,ex)) (hsw j) (hf j) (hs j),zFe (zGC s1 s2 s3 s4 hmu hix) hi⟩
theorem zDJ(i:Nat){y:Str}{yp p2:Pos}(he:EX K X e fa)(ho:∀ j,PE (X j) (.Name y yp) (tVar i))(hb:EX K X b fb)(hs:∀ j,Du [.Subscript (.Name y yp) b p2] e pos.line (X j).env=pure false:=by intro _; rfl)(hw:∀ j,Dv [.Subscript (.Name y yp) b p2] e (X j).env=pure none:=by intro _; rfl)
  (hA:∀ j v,assign (.Subscript (.Name y yp) b p2) (X j).env v=(do let ov ← holding [v] (eval (.Name y yp) (X j).env); let iv ← holding [v,ov] (eval b (X j).env); H9 p2; holding [v,ov,iv] (LZ ov iv v); release [v,ov,iv] []):=by intro _ _; rfl) (h1:∀ j,(CJ [.Subscript (.Name y yp) b p2] (X j).env).map (·.2)=[assign (.Subscript (.Name y yp) b p2) (X j).env]:=by intro _; rfl) :
  SX K X ip (.Assign [.Subscript (.Name y yp) b p2] e pos) (dSetIx i fa fb) :=
 let ⟨_,p,s⟩:=he; let ⟨_,q,u⟩:=hb; ⟨_,fun j=>zND (p j) (zNu (ho j) (q j) zKq (hA j)) (hs j) (hw j) (h1 j),zHV s u⟩
theorem zJC(i1 i2:Nat){x1 x2:Str}{px py pt:Pos}{kt k2 pt2}(M:Fm K mg k X)(ha:AX K X [a,b] da)(h12:i1≠i2:=by decide)(hi1:ip≠some i1:=by decide)(hi2:ip≠some i2:=by decide)(hN:∀ j,(X j).N.Nodup:=by intro _; show (D4 _); decide +kernel)
  (e1:∀ j,(X j).N[i1]?=some x1:=by intro _; rfl) (e2:∀ j,(X j).N[i2]?=some x2:=by intro _; rfl) (l1:∀ j,(X j).env.scope.names.lookup x1=some .local:=by intro _; rfl) (l2:∀ j,(X j).env.scope.names.lookup x2=some .local:=by intro _; rfl)
  (hw:∀ j,Dv [.Tuple [.Name x1 px,.Name x2 py] kt pt] (.Tuple [a,b] k2 pt2) (X j).env=pure (some [x1,x2]):=by intro _; rfl)
  (hs:∀ j,Du [.Tuple [.Name x1 px,.Name x2 py] kt pt] (.Tuple [a,b] k2 pt2) pos.line (X j).env=pure false:=by intro _; rfl) :
  SX K X ip (.Assign [.Tuple [.Name x1 px,.Name x2 py] kt pt] (.Tuple [a,b] k2 pt2) pos) (dPar2 i1 i2 da) :=
 let ⟨_,q,u⟩:=ha; ⟨_,fun j=>zNP (M.calm j) (hN j) (e1 j) (e2 j) h12 (l1 j) (l2 j) (q j) (hw j) (hs j),zKM u hi1 hi2⟩
theorem zLr(i1 i2 i3:Nat){x1 x2 x3:Str}{px py pz pt:Pos}{kt k2 pt2}(M:Fm K mg k X)(ha:AX K X [a,b,c] da)(h12:i1≠i2:=by decide)(h13:i1≠i3:=by decide)(h23:i2≠i3:=by decide)(hi1:ip≠some i1:=by decide)(hi2:ip≠some i2:=by decide)(hi3:ip≠some i3:=by decide)(hN:∀ j,(X j).N.Nodup:=by intro _; show (D4 _); decide +kernel)
  (e1:∀ j,(X j).N[i1]?=some x1:=by intro _; rfl) (e2:∀ j,(X j).N[i2]?=some x2:=by intro _; rfl) (e3:∀ j,(X j).N[i3]?=some x3:=by intro _; rfl) (l1:∀ j,(X j).env.scope.names.lookup x1=some .local:=by intro _; rfl) (l2:∀ j,(X j).env.scope.names.lookup x2=some .local:=by intro _; rfl) (l3:∀ j,(X j).env.scope.names.lookup x3=some .local:=by intro _; rfl)
  (hw:∀ j,Dv [.Tuple [.Name x1 px,.Name x2 py,.Name x3 pz] kt pt] (.Tuple [a,b,c] k2 pt2) (X j).env=pure (some [x1,x2,x3]):=by intro _; rfl)
  (hs:∀ j,Du [.Tuple [.Name x1 px,.Name x2 py,.Name x3 pz] kt pt] (.Tuple [a,b,c] k2 pt2) pos.line (X j).env=pure false:=by intro _; rfl) :
  SX K X ip (.Assign [.Tuple [.Name x1 px,.Name x2 py,.Name x3 pz] kt pt] (.Tuple [a,b,c] k2 pt2) pos) (dPar3 i1 i2 i3 da) :=
 let ⟨_,q,u⟩:=ha; ⟨_,fun j=>zLy (M.calm j) (hN j) (e1 j) (e2 j) (e3 j) h12 h13 h23 (l1 j) (l2 j) (l3 j) (q j) (hw j) (hs j),zI8 u hi1 hi2 hi3⟩
theorem zBa(nn:Nat)(hp:∀ j,Hq (model (X j).prog (X j).w) (X j).A (X j).env (X j).xe)(hc:TX K X c ta)(hb:BX K X ip sts f):SX K X ip (.While c sts [] pos) (dWhile ta f nn) :=
 let ⟨_,p,s⟩:=hc; let ⟨_,q,u⟩:=hb; ⟨_,fun j=>zKA (hp j) (p j) (q j),zIK nn s u⟩
theorem zDt{tg iter:Expr}{di:DI}{gg:En->T->Option En}(M:Fm K mg k X)(hp:∀ j,Hq (model (X j).prog (X j).w) (X j).A (X j).env (X j).xe)(hi:IX K X tg iter di)(hg:GX K X ip tg gg)(hb:BX K X ip sts f)
  (hs:∀ j x,CS iter (X j).env x=pure x:=by intro _ _; rfl):SX K X ip (.For tg iter sts [] pos) (dFor ip di gg f) :=
 let ⟨_,p1,s1⟩:=hi; let ⟨_,p2,s2⟩:=hg; let ⟨_,p3,s3⟩:=hb; ⟨_,fun j=>zNZ (hp j) (M.calm j) (p1 j) (p2 j) (p3 j) (hs j),zKB s1 s2 s3⟩
end
section
variable {P:AY}{wd:Af}{base:Heap}{K:Fg}{mg:Str->Option AB}{k:Nat}
noncomputable abbrev cx1 (P:AY) (wd:Af) (K:Fg) (mg:Str->Option AB) (base:Heap) (N:List Str) (qual:Str) (sc:B6) (f:Addr) (cdv:AB) (A:Ao) (outer:List Env) (s:AD) (H:Hp) (E:XK):Unit->Cx:=fun _=>(cxOf CX0 P wd K mg base N qual sc f cdv A outer s H E).nox
theorem zAO{x:Str}{st:Stmt}{f:Addr}{fd:AZ}{N ps:List Str}{ip:Option Nat}{g:DS}(F:Fun K x x st f fd)(S:FnScope N ps (defScope st))(hm:mg x=some (.ref f))(hb:Binds K fd ps [])
  (body:∀ (cdv:AB) (A:Ao) (outer:List Env) (s:AD) (H:Hp) (E:XK),Fm K mg k (cx1 P wd K mg base N x (defScope st) f cdv A outer s H E)->Fb P wd base (cx1 P wd K mg base N x (defScope st) f cdv A outer s H E)->BX K (cx1 P wd K mg base N x (defScope st) f cdv A outer s H E) ip (defBody st) g) :
  FD P wd K mg base (k+1) x ip ps.length (fnD ip ps.length N.length g):=by
 refine⟨⟨f,fd,ps,?_,hm,F.kp,hb⟩,zB3⟩
 refine F.ok S (fun vs H Q E h=>h.1) fun cdv A outer s H vs Q E hr h=>?_
 obtain⟨t,p,u⟩:=body cdv A outer s H E ⟨fun _=>rfl,fun _=>rfl,fun _=>rfl,fun _=>hr⟩ ⟨fun _=>rfl,fun _=>rfl,fun _=>rfl⟩
 exact⟨t,p (),zC2 u h⟩
end
section
variable {P:AY}{wd:Af}{base:Heap}{K:Fg}{mg:Str->Option AB}{k:Nat}
theorem zO0{x:Str}{st:Stmt}{f:Addr}{fd:AZ}{N ps:List Str}{ip:Option Nat}{g:DS}(F:Fun K x x st f fd)(S:FnScope N ps (defScope st))
  (body:∀ (cdv:AB) (A:Ao) (outer:List Env) (s:AD) (H:Hp) (E:XK),Fm K mg k (cx1 P wd K mg base N x (defScope st) f cdv A outer s H E)->Fb P wd base (cx1 P wd K mg base N x (defScope st) f cdv A outer s H E)->BX K (cx1 P wd K mg base N x (defScope st) f cdv A outer s H E) ip (defBody st) g) :
  FnOk P wd K mg base CX0 (k+1) f fd ps (spD K ip ps.length (fnD ip ps.length N.length g)):=by
 refine F.ok S (fun vs H Q E h=>h.1) fun cdv A outer s H vs Q E hr h=>?_
 obtain⟨t,p,u⟩:=body cdv A outer s H E ⟨fun _=>rfl,fun _=>rfl,fun _=>rfl,fun _=>hr⟩ ⟨fun _=>rfl,fun _=>rfl,fun _=>rfl⟩
 exact⟨t,p (),zC2 u h⟩
theorem zC6{x:Str}{st:Stmt}{f:Addr}{fd:AZ}{ps:List Str}{ip:Option Nat}{n:Nat}(F:Fun K x x st f fd)(hm:mg x=some (.ref f))(hb:Binds K fd ps [])(hn:ps.length=n):FD P wd K mg base k x ip n (fun _=>none):=by
 refine⟨⟨f,fd,ps,⟨fun vs H Q E h=>h.1.trans hn.symm,fun A outer s H args us vs Q E _ _ _ _ h=>?_⟩,hm,F.kp,hb⟩,fun gs r e=>nomatch e⟩
 obtain⟨_,w,gs,r,ys,e,_⟩:=h
 cases e
theorem len1{us:List AB}(h:us.length=1):∃ a,us=[a]:=G7.mp h
theorem lenSc{us:List AB}{n:Nat}(h:us.length=n+1):∃ a r,us=a::r/\r.length=n:=by
 cases us with
 | nil=>cases h
 | cons a r=>exact⟨a,r,rfl,Nat.succ.inj h⟩
theorem len2{us:List AB}(h:us.length=2):∃ a b,us=[a,b]:=by
 obtain⟨a,r,rfl,h'⟩:=lenSc h
 obtain⟨b,rfl⟩:=len1 h'
 exact⟨a,b,rfl⟩
theorem len3{us:List AB}(h:us.length=3):∃ a b c,us=[a,b,c]:=by
 obtain⟨a,r,rfl,h'⟩:=lenSc h
 obtain⟨b,c,rfl⟩:=len2 h'
 exact⟨a,b,c,rfl⟩
theorem len4{us:List AB}(h:us.length=4):∃ a b c d,us=[a,b,c,d]:=by
 obtain⟨a,r,rfl,h'⟩:=lenSc h
 obtain⟨b,c,d,rfl⟩:=len3 h'
 exact⟨a,b,c,d,rfl⟩
noncomputable def intsT (ns:List Int):List T:=ns.map fun i=>.a (.int i)
theorem zLh{F:DF}{H:Hp}{a:Addr}{ns:List Int}(hO:Only H)(hS:SqL K H a (ns.map V.int))(h:F [.k (intsT ns)]=some (.v (.a (.bl true)),[])):spD K none 1 F [.ref a] H (fun v _=>v=.bl true) fun _ _ _=>False:=by
 have hK:KF K H a (ns.map V.int):=KF.of hS fun us e=>by
  rcases hO a with z | ⟨o,xs,z⟩
  ·rw[e]at z; cases z
  ·rw[e]at z; cases z
 refine⟨rfl,⟨[],fun _=>False⟩,_,_,_,h,⟨rfl,fun i g e=>?_,fun i j p ga gb ma mb e=>?_,fun p hp=>(nomatch hp),fun p hp=>(nomatch hp),fun p hp=>hp.elim,fun p hp=>hp.elim,fun b o e _=>e,fun q hq=>(nomatch hq)⟩,rfl,(fun p hp=>nomatch hp),fun v H' _ _ hr=>?_⟩
 ·match i,e with
  | 0,e =>
   cases e
   refine⟨_,rfl,a,ns.map V.int,rfl,?_,hK⟩
   have:intsT ns=(ns.map V.int).map T.a:=by simp[intsT]
   rw[this]
   exact Ims.atoms _
  | i+1,e=>simp at e
 ·match i,e with
  | 0,e=>cases e; cases ma
  | i+1,e=>simp at e
 ·exact (show Im K H' v (.a (.bl true)) from hr).inva
end
end D
namespace L2
open PySem PySem.Spec PyProof.Rows
section
variable {prog:AY}{w:Af}{A:Ao}{E:AB->AD->Prop}{s:AD}
variable {e it l:Addr}{S1:Nat->Heap->Prop}{xs:Array AB}{k:Nat}
theorem zH6{x old:AB}{Q:AB->AD->Prop}(hne:e≠it)(hle:l≠e)(D:Drawer prog w it l xs S1)(he:HP s.heap e it k old)(st:S1 k s.heap)(hx:xs[k]?=some x)
  (hQ:∀ h',J2 h' e it ((k:Int)+1) x s.heap.objs.size->S1 (k+1) h'->Ct h' s.heap.objs.size (.int k s.toks) x ->
   (∀ c o,c≠e->c≠it->s.heap.get? c=some o->h'.get? c=some o)->Q (.ref s.heap.objs.size) { s with heap:=h',toks:=s.toks+1 }) :
  AM (model prog w) A (Builtin.«enumerate.__next__» ⟨[.ref e],[]⟩) (fun fin s'=>∃ v,fin=.done (.ret v)/\Q v s') E s:=by
 obtain⟨hp,g,d,tk,os⟩:=s
 have hlt:e < hp.objs.size:=AJ he
 show AM _ _ (field (.ref e) 2 >>= _) _ _ _
 refine AA (Ag he rfl (x:=.ref it) rfl (AA (D.item _ k _ x _ _ st hx fun h1 t1 b1=>?_)))
 replace b1:BZ it hp h1:=b1
 have e1:HP h1 e it k old:=(b1.2 e hne).trans he
 show AM _ _ (field (.ref e) 3 >>= _) _ _ ⟨h1,g,d,tk,os⟩
 refine AA (Ag e1 rfl (x:=B4 k) rfl ?_)
 show AM _ _ (field (.ref e) 4 >>= _) _ _ ⟨h1,g,d,tk,os⟩
 refine AA (Ag e1 rfl (x:=.none) rfl ?_)
 show AM _ _ (mkInt k >>= _) _ _ ⟨h1,g,d,tk,os⟩
 refine AA (Gr ?_)
 show AM _ _ (GP (.ref e) 3 (B4 ((k:Int)+1)) >>= _) _ _ ⟨h1,g,d,tk+1,os⟩
 refine AA (A9 e1 (by simp) fun h2 e2 b2=>?_)
 replace b2:BZ e h1 h2:=b2
 replace e2:HP h2 e it ((k:Int)+1) old:=e2
 show AM _ _ (GP (.ref e) 4 .none >>= _) _ _ ⟨h2,g,d,tk+1,os⟩
 refine AA (A9 e2 (by simp) fun h3 e3 b3=>?_)
 replace b3:BZ e h2 h3:=b3
 replace e3:HP h3 e it ((k:Int)+1) old:=e3
 show AM _ _ (K0 [.int k tk,x] >>= _) _ _ ⟨h3,g,d,tk+1,os⟩
 refine AA (HK ?_)
 have hsz:h3.objs.size=hp.objs.size:=by rw[b3.1,b2.1,b1.1]
 obtain⟨h4,rfl⟩:∃ h4,h4=h3.push { cls:=.type "tuple",data:=.seq #[.int k tk,x] }:=⟨_,rfl⟩
 have e4:HP (h3.push { cls:=.type "tuple",data:=.seq #[.int k tk,x] }) e it ((k:Int)+1) old:=AC _ e3
 have p4:Ct (h3.push { cls:=.type "tuple",data:=.seq #[.int k tk,x] }) hp.objs.size (.int k tk) x:=by rw[← hsz]; exact AN _ rfl
 have k4:∀ c o,c≠e->h1.get? c=some o->(h3.push { cls:=.type "tuple",data:=.seq #[.int k tk,x] }).get? c=some o:=fun c o hc q=>AC _ (b3.extBut c o hc (b2.extBut c o hc q))
 rw[hsz]
 generalize h3.push { cls:=.type "tuple",data:=.seq #[.int k tk,x] }=h4 at e4 p4 k4
 show AM _ _ (Aj (.ref e) >>= _) _ _ ⟨h4,g,d,tk+1,os⟩
 refine AA ?_
 unfold Aj
 refine AA (Ag e4 rfl (x:=.none) rfl (AG ?_))
 simp only[if_true]
 refine AA (Cr (AA (Ag e4 rfl (x:=old) rfl (AA (A9 e4 (by simp) fun h5 e5 b5=>?_)))))
 replace b5:BZ e h4 h5:=b5
 replace e5:HP h5 e it ((k:Int)+1) x:=e5
 show AM _ _ (Bq (.ref e) (.ref hp.objs.size) >>= _) _ _ ⟨h5,g,d,tk+1,os⟩
 refine AA ?_
 unfold Bq
 refine AA (A9 e5 (by simp) fun h6 e6 b6=>?_)
 replace b6:BZ e h5 h6:=b6
 replace e6:J2 h6 e it ((k:Int)+1) x hp.objs.size:=e6
 refine A9 e6 (by simp) fun h7 e7 b7=>?_
 replace b7:BZ e h6 h7:=b7
 replace e7:J2 h7 e it ((k:Int)+1) x hp.objs.size:=e7
 have up:∀ c o,c≠e->h4.get? c=some o->h7.get? c=some o:=fun c o hc q=>b7.extBut c o hc (b6.extBut c o hc (b5.extBut c o hc q))
 refine AA (FT (AG ⟨_,rfl,hQ h7 e7 ?_ (up _ _ (BV hlt) p4) fun c o c1 c2 q=>up c o c1 (k4 c o c1 (b1.extBut c o c2 q))⟩))
 exact D.keep _ _ _ t1 (fun o q=>up _ o hne.symm (k4 _ o hne.symm q)) fun o q=>up _ o hle (k4 _ o hle q)
end
noncomputable def Ite (b:Bool) (K:AH) (a1:Addr):It :=
 ⟨fun i H=>∃ xs x,Sq b K H a1 xs/\xs[i]?=some x,
  fun i H v H'=>∃ T x,v=.ref T/\H T=none/\H'=upd H T (.tup [.int i,x])/\(∀ xs,Sq b K H a1 xs->xs[i]?=some x),
  fun i H=>∃ xs,Sq b K H a1 xs/\xs.length<=i⟩
structure ETn(b:Bool)(e it a1:Addr)(k:Nat)(h:Heap):Prop where
 z:∃ old,HP h e it k old
 s1:SIt b it a1 k h
theorem zJc{P:AY}{w:Af}{K:AH}{elts:List Expr}{x1:Nat}{tp:Pos}(b:Bool){e it a1:Addr}(hne:e≠it)(hle:a1≠e)(hli:a1≠it) :
  Turn P w K (.Tuple elts x1 tp) (Ite b K a1) [e,it] e (ETn b e it a1) where
 mem:=by simp
 obj:=fun i h st c hc=>by
  simp only[AO,A8,or_false]at hc
  rcases hc with q | q
  ·obtain⟨old,z⟩:=st.z; exact⟨_,q ▸ z,fun v z=>by cases z⟩
  ·obtain⟨o,r,d⟩:=st.s1.live; exact⟨o,q ▸ r,d⟩
 keep:=fun i h h' st k=>⟨(let ⟨old,z⟩:=st.z; ⟨old,k e (by simp) _ z⟩),st.s1.keep fun o q=>k it (by simp) o q⟩
 item:=by
  intro X hP hw hK hc i pins s σ H E I hf st hg
  subst hP hw hK
  obtain⟨xs,x,h1,hx⟩:=hg
  obtain⟨its1,v1,o1,z1⟩:=I.sq h1
  obtain⟨u1,e1,r1⟩:=v1.get hx
  obtain⟨old,hz⟩:=st.z
  have hT:s.TypeIs (.ref e) "enumerate":=⟨_,hz,rfl⟩
  have nH:∀ c∈[e,it],H c=none:=fun c hc=>(hf c hc).1
  unfold Do
  refine AA (B3 (BH (name:=BQ "__next__") hT Dl (BL Dl hT Hk
   (zH6 hne hle (zEj b it a1 its1.toArray hli) hz ⟨st.s1,o1⟩ (by simpa using e1) fun h' ho st' hp hk=>AG ?_) (Hc _))))
  refine⟨_,rfl,?_⟩
  have fT:H s.heap.objs.size=none:=I.hok.fresh (AL _)
  have hk':∀ c o,c∉[e,it]->s.heap.get? c=some o->h'.get? c=some o:=fun c o hc q=>by
   simp only[AO,A8,or_false,not_or]at hc
   exact hk c o hc.1 hc.2 q
  have trk:∀ c u,H c=some u->c∉[e,it]:=fun c u q hc=>by rw[nH c hc]at q; cases q
  have nT:∀ c o,s.heap.get? c=some o->c≠s.heap.objs.size:=fun c o q=>Ah (AJ q)
  have hok1:HOk X.prog X.w H h':=fun c u q=>(I.hok c u q).stay (fun d v hd r=>hk' d v (by
   rcases hd with rfl | hd
   ·exact trk d u q
   ·exact trk d _ hd) r) (fun _ r=>r) fun _ _ r=>r
  have I1:Inv X pins σ (upd H s.heap.objs.size (.tup [.int i,x])) { s with heap:=h',toks:=s.toks+1 }:=by
   refine I.step (g':=s.gens) (d':=s.drawn) (t':=s.toks+1) (ch:=[e,it]) (fun c hc=>?_) (fun c o _ _ hc q _=>hk' c o hc q) (fun c o _ _ hc q _=>⟨o.slots,hk' c o hc q⟩)
    (fun c o _ q n=>by rw[zAJ (nT c o q)]; exact n) (fun c o hc q=>⟨o,hk' c o hc q⟩) (fun c xs q=>by rw[zAJ (zAY q fT)]; exact q) (fun c o u q=>by rw[zAJ (zAY q fT)]; exact q)
    (fun c ps q=>⟨#[],by rw[zAJ (zAY q fT),q]; simp⟩) (fun m hm=>?_) (hok1.adopt fT ⟨by show 2<=AE; decide,[.int i s.toks,u1],.cons ⟨_,rfl⟩ (.cons r1 .nil),_,hp,rfl,⟨0,rfl⟩,rfl⟩) I.bare
   ·obtain⟨_,f1,f2,f3,f4,f5⟩:=hf c hc; exact⟨f3,f1,f4,f5⟩
   ·obtain⟨o,es,ep,ho,r⟩:=hm
    exact⟨o,es,ep,hk' _ o (fun hc=>(hf _ hc).2.1 rfl) ho,r⟩
  refine wpAny_letOwnedTupleGo_enum ho fun h9 hz2 hs2=>?_
  obtain⟨_,f1,f2,f3,f4,f5⟩:=hf e (by simp)
  have nz:upd H s.heap.objs.size (.tup [.int i,x]) e=none:=by rw[zAJ (nT e _ hz)]; exact nH e (by simp)
  have I2:Inv X pins σ (upd H s.heap.objs.size (.tup [.int i,x])) { s with heap:=h9,toks:=s.toks+1 }:=by
   have q:=I1.turned (h':=h9) (t':=s.toks+1) (it:=e) (fun c o hc q=>(hs2.2 c hc).trans q) nz f1 f3 f4 f5
   exact q
  refine⟨.ref s.heap.objs.size,_,I2,rfl,⟨s.heap.objs.size,x,rfl,fT,rfl,fun xs' q=>by rw[I.sq_inj q h1]; exact hx⟩,?_,fun c hc=>?_⟩
  ·have up:∀ c o,c≠e->h'.get? c=some o->h9.get? c=some o:=fun c o hc q=>(hs2.2 c hc).trans q
   exact⟨⟨_,by simpa using hz2⟩,st'.1.keep fun o q=>up _ o hne.symm q⟩
  ·obtain⟨o,q,_⟩:∃ o,s.heap.get? c=some o/\True:=by
    simp only[AO,A8,or_false]at hc
    rcases hc with q | q
    ·exact⟨_,q ▸ hz,trivial⟩
    ·obtain⟨o,r,d⟩:=st.s1.live; exact⟨o,q ▸ r,trivial⟩
   rw[zAJ (nT c o q)]; exact nH c hc
 done:=by
  intro X hP hw hK hc i pins s σ H E I hf st hg
  subst hP hw hK
  obtain⟨xs,h1,hl⟩:=hg
  obtain⟨its1,v1,o1,z1⟩:=I.sq h1
  have l1:=v1.length
  obtain⟨old,hz⟩:=st.z
  have hT:s.TypeIs (.ref e) "enumerate":=⟨_,hz,rfl⟩
  unfold Do
  refine AA (B3 (BH (name:=BQ "__next__") hT Dl (BL Dl hT Hk ?_ (Hc _))))
  show AM _ _ (field (.ref e) 2 >>= _) _ _ _
  refine AA (Ag hz rfl (x:=.ref it) rfl (AA ((zEj b it a1 its1.toArray hli).fini _ i _ _ _ (I.ok.hd hc) ⟨st.s1,o1⟩ (by simp; omega) fun h' x hk hx'=>?_)))
  obtain⟨o,ho,hcl⟩:=hx'
  refine AA (Cj (T:="StopIteration") (b:=true) ⟨o,ho,hcl⟩ FV (AG ⟨rfl,?_⟩))
  have hk':∀ c o,c∉[it]->s.heap.get? c=some o->h'.get? c=some o:=fun c o hc q=>hk c o (fun z=>hc (by simp[z])) q
  have sub:∀ c∈[it],c∈[e,it]:=fun c hc=>by simp only[AO,A8,or_false]at hc ⊢; exact .inr hc
  have trk:∀ c u,H c=some u->c∉[it]:=fun c u q hc=>by rw[(hf c (sub c hc)).1]at q; cases q
  refine I.step (g':=s.gens) (d':=s.drawn) (t':=s.toks) (ch:=[it]) (fun c hc=>?_) (fun c o _ _ hc q _=>hk' c o hc q) (fun c o _ _ hc q _=>⟨o.slots,hk' c o hc q⟩)
   (fun c o _ q n=>n) (fun c o hc q=>⟨o,hk' c o hc q⟩) (fun c xs q=>q) (fun c o u q=>q) (fun c ps q=>⟨#[],by rw[q]; simp⟩) (fun m hm=>?_) (fun c u q=>(I.hok c u q).stay (fun d v hd r=>hk' d v (by
    rcases hd with rfl | hd
    ·exact trk d u q
    ·exact trk d _ hd) r) (fun _ r=>r) fun _ _ r=>r) I.bare
  ·obtain⟨_,f1,f2,f3,f4,f5⟩:=hf c (sub c hc); exact⟨f3,f1,f4,f5⟩
  ·obtain⟨o,es,ep,ho,r⟩:=hm
   exact⟨o,es,ep,hk' _ o (fun hc=>(hf _ (sub _ hc)).2.1 rfl) ho,r⟩
 self:=fun _ _ _ _ _ st h=>let ⟨_,z⟩:=st.z; Jb z h
section
variable {prog:AY}{w:Af}{A:Ao}{E:AB->AD->Prop}{s:AD}
theorem zGU(l:Addr)(xs:Array AB) :
  JZ (Builtin.«enumerate.__new__» ⟨[.type "enumerate",.ref l],[]⟩) (fun _ R s=>s.heap.IsTuple l xs /\
   R (.ok (.ret (.ref (s.heap.push { cls:=.type "tuple_iterator",data:=.fields #[.ref l,.int 0 0] }).objs.size)))
    { s with heap:=(s.heap.push { cls:=.type "tuple_iterator",data:=.fields #[.ref l,.int 0 0] }).push { cls:=.type "enumerate",data:=.fields #[.none,.bool false,.ref s.heap.objs.size,B4 0,.none,.none] } }) :=
 .of_wp fun prog w A R s h=>by
  obtain⟨hp,g,d,tk,os⟩:=s; obtain⟨hl,h⟩:=h
  have hsub:=sub_enumerate
  have T1:G5 (G6 ⟨hp,g,d,tk,os⟩) l xs:=hl
  wp_walk
  refine wpAny_stack_any fun st=>AG ?_
  split
  ·rename_i c _ _ _ _ _
   cases (c == BM "enumerate")
   ·wp_walk using CL T1
    exact⟨_,rfl,h⟩
   ·wp_walk using CL T1
    exact⟨_,rfl,h⟩
  ·wp_walk using CL T1
   exact⟨_,rfl,h⟩
theorem zHX{l:Addr}{xs:Array AB}{Q:AB->AD->Prop}(hl:s.heap.IsTuple l xs)
  (h:∀ h',ETn true (s.heap.objs.size+1) s.heap.objs.size l 0 h'->(∀ c o,s.heap.get? c=some o->h'.get? c=some o)->Q (.ref (s.heap.objs.size+1)) { s with heap:=h' }) :
  AM (model prog w) A (call (.type "enumerate") [.ref l]) Q E s:=by
 refine GO F.called_enumerate (by decide) (F.typeCall_enumerate_1 _) (F.newCall_enumerate_1 _) (fun obj=>FL obj _) F.entry_enumerate_new (zGU l xs) ⟨hl,?_⟩
 have z1:(s.heap.push { cls:=.type "tuple_iterator",data:=.fields #[.ref l,.int 0 0] }).objs.size=s.heap.objs.size+1:=BS ..
 have g2:=AN (s.heap.push { cls:=.type "tuple_iterator",data:=.fields #[.ref l,.int 0 0] }) (o:={ cls:=.type "enumerate",data:=.fields #[.none,.bool false,.ref s.heap.objs.size,B4 0,.none,.none] }) rfl
 rw[z1]at g2
 show _/\_
 rw[z1]
 exact⟨⟨_,g2,rfl⟩,h _ ⟨⟨.none,g2⟩,⟨_,AC _ (AN _ rfl),rfl,rfl⟩⟩ fun c o x=>AC _ (AC _ x)⟩
end
section
variable {X:Cx}{elts:List Expr}{x1:Nat}{tp:Pos}
noncomputable def iEnumU (K:AH) (ta:TA):TI:=fun σ H R=>ta σ H fun vs H1=>∃ (b:Bool) (a1:Addr),vs=[.ref a1]/\(∃ xs,Sq b K H1 a1 xs)/\R (Ite b K a1) H1
theorem zKH{e1:Expr}{ta:TA}{p pos:Pos}(hg:Gl X "enumerate")(hm:X.mg "enumerate"=none)(ha:PA X [e1] ta)(hs:AI [e1] X.env=[(false,eval e1 X.env)]:=by rfl) :
  PI X (.Tuple elts x1 tp) (.Call (.Name "enumerate" p) [e1] [] pos) (iEnumU X.K ta):=by
 intro pins s σ H R I h
 refine Hr (zA9 I hg hm boot_enumerate (BA (thn (ha pos pins s σ H _ I h) fun us s1 ⟨vs,H1,I1,r1,q1⟩=>?_) (by rw[hs]; rfl) (by rfl)))
 obtain⟨b,a1,e,⟨xs,h1⟩,q⟩:=q1
 subst e
 obtain⟨u1,e,r⟩:=r1.one
 subst e
 cases r
 obtain⟨its1,v1,o1,z1⟩:=I1.sq h1
 have lt1:a1 < s1.heap.objs.size:=by cases b with
  | false=>obtain⟨o,e,_⟩:=(show s1.heap.IsList a1 its1.toArray from o1); exact AJ e
  | true=>obtain⟨o,e,_⟩:=(show s1.heap.IsTuple a1 its1.toArray from o1); exact AJ e
 have fin:∀ h',ETn b (s1.heap.objs.size+1) s1.heap.objs.size a1 0 h'->(∀ c o,s1.heap.get? c=some o->h'.get? c=some o) ->
   AM (model X.prog X.w) X.A (HA (.ref (s1.heap.objs.size+1))) (PIE X pins σ (.Tuple elts x1 tp) R) X.xe { s1 with heap:=h' }:=fun h' st hk=>by
  obtain⟨old,z⟩:=st.z
  refine Jb z ?_
  refine⟨_,_,_,_,H1,rfl,I1.kept (t':=s1.toks) hk,zJc b (BV (CY _)) (Ah (AV lt1 (CA _ 1))) (Ah lt1),st,fun c hc=>?_,q⟩
  have hc':s1.heap.objs.size<=c:=by
   simp only[AO,A8,or_false]at hc
   rcases hc with e | e <;> (rw[e]) <;> first | exact AL _ | exact CA _ _
  exact I1.fpOk hc' (I1.hok.fresh hc')
 cases b with
 | false=>exact call_enumerate_list o1 fun h' hz hit _ hk=>fin h' ⟨⟨_,hz⟩,hit⟩ hk
 | true=>exact zHX o1 fin
end
end L2
namespace D
open PySem L2
noncomputable def enumT (xs:List T):List T:=xs.zipIdx.map fun p=>.t [.a (.int (p.2:Int)),p.1]
noncomputable def dEnum (fa:DA):DI:=fun Γ=>(fa Γ).bind fun p=>match p.1 with
 | [.v (.t xs)]=>gd xs.length ((enumT xs,[]),p.2)
 | [a]=>(sqlOf p.2 a).bind fun xs=>gd xs.length ((enumT xs,srcS p.2 a),p.2)
 | _=>none
section
variable {K:Fg}
theorem zGt{b:Bool}{a1:Addr}{vs:List V}{xs:List T}{H2:Hp}(h1:Sq b K H2 a1 vs)(i1:Ims K H2 vs xs) :
  (∀ (i:Nat) t,(enumT xs)[i]?=some t->(Ite b K a1).go i H2/\∀ x H3,(Ite b K a1).yld i H2 x H3->(∀ b o,H2 b=some o->H3 b=some o)/\Im K H3 x t)/\(Ite b K a1).stop (enumT xs).length H2:=by
 refine⟨fun i t e=>?_,⟨vs,h1,?_⟩⟩
 ·unfold enumT at e
  rw[Ae]at e
  obtain⟨⟨t1,j⟩,e1,e⟩:=zAE e
  subst e
  have e1':xs[i]?=some t1/\j=i:=by
   rw[List.getElem?_zipIdx]at e1
   obtain⟨y,q,e1⟩:=zAE e1
   cases e1
   exact⟨q,by simp⟩
  obtain⟨g1,rfl⟩:=e1'
  obtain⟨v,e3,hv⟩:=i1.get g1
  refine⟨⟨vs,v,h1,e3⟩,fun x H3 y=>?_⟩
  obtain⟨T',x',rfl,hT,rfl,k1⟩:=y
  have q1:=k1 vs h1
  rw[e3]at q1; cases q1
  have ev:Evo [] H2 (upd H2 T' (.tup [.int j,v])):=Evo.new hT
  have hL:LL [] H2:=fun q hq=>nomatch hq
  refine⟨fun b o e=>ev b o e nofun,Im.tup zAf (.cons Im.atom (.one (hv.evo ev hL)))⟩
 ·have l1:=i1.len
  simp[enumT]
  omega
theorem zIZ{ta:TA}{fa:DA}(ha:SimA K ta fa):SimI K (iEnumU K ta) (dEnum fa):=by
 intro C w Γ σ H its src Γ' R Rp e k
 obtain⟨⟨as,G1⟩,e1,e⟩:=bind_some e
 dsimp only at e
 have zl:∀ xs:List T,(enumT xs).length<=xs.length:=fun xs=>by simp[enumT]
 split at e
 ·rename_i xs
  obtain⟨hz,e⟩:=zBX e
  cases e
  refine ha C w Γ σ H _ _ _ Rp e1 fun vs H1 R1 ev1 o1 n1=>?_
  obtain⟨v,rfl,o2⟩:=soks1 o1
  obtain⟨p,vs,rfl,h1,i1⟩:=o2.invt
  refine⟨true,p,rfl,⟨vs,h1.sq⟩,k _ H1 R1 ev1 ⟨Aa (zl _) hz,fun L' hs av H2 ev=>?_⟩⟩
  have hL:LL L' H1:=fun q hq=>R1.lst q (hs q hq)
  exact zGt (b:=true) (zFV ev hL h1).sq (i1.evo ev hL)
 ·obtain⟨xs,e2,e⟩:=bind_some e
  obtain⟨hz,e⟩:=zBX e
  cases e
  refine ha C w Γ σ H _ _ _ Rp e1 fun vs H1 R1 ev1 o1 n1=>?_
  obtain⟨v,rfl,o2⟩:=soks1 o1
  obtain⟨p,vs,rfl,h1,i1,st1⟩:=zCo R1 o2 e2
  refine⟨false,p,rfl,⟨vs,h1⟩,k _ H1 R1 ev1 ⟨Aa (zl _) hz,fun L' hs av H2 ev=>?_⟩⟩
  have hL:LL L' H1:=fun q hq=>R1.lst q (hs q hq)
  exact zGt (b:=false) (st1 L' hs av H2 ev) (i1.evo ev hL)
 ·cases e
end
section
variable {ι:Type}{K:Fg}{X:ι->Cx}{mg:Str->Option AB}{k:Nat}{a:Expr}{da:DA}{p pos:Pos}
theorem zMz{elts:List Expr}{x1:Nat}{tp:Pos}(M:Fm K mg k X)(hm:mg "enumerate"=none)(ha:AX K X [a] da)(hg:∀ j,Gl (X j) "enumerate":=by intro _; rfl)(hs:∀ j,AI [a] (X j).env=[(false,eval a (X j).env)]:=by intro _; rfl) :
  IX K X (.Tuple elts x1 tp) (.Call (.Name "enumerate" p) [a] [] pos) (dEnum da) :=
 let ⟨t,q,u⟩:=ha; ⟨iEnumU K t,fun j=>by have:=zKH (elts:=elts) (x1:=x1) (tp:=tp) (p:=p) (pos:=pos) (hg j) (by rw[M.mg]; exact hm) (q j) (hs j); rw[M.K j]at this; exact this,zIZ u⟩
end
end D
namespace L2
open PySem PySem.Spec PyProof.Rows
theorem zMD:Slot "reversed" "__init__" "object.__init__" :=
 .of (owner:="object") (n:="__init__") (by rw[Ba,BD]; kernel_rfl) (by decide +kernel) (by decide +kernel) (by decide +kernel)
  (by first | exact .inl (by decide +kernel) | exact .inr (by decide +kernel)) (by rw[Ck]; kernel_rfl)
theorem zJJ:TypeCalled "reversed" "reversed.__new__" "object.__init__" :=
 ⟨by decide +kernel,by decide +kernel,⟨_,_,F.mro_reversed⟩,F.made_reversed,by decide +kernel,by rw[Ck]; kernel_rfl,zMD⟩
theorem zDU:Manifest.owners.lookup (String.ofList ['d','e','s','r','e','v','e','r'].reverse)=some Manifest.sig_reversed:=by kernel_rfl
theorem zBy:Slot "reversed" "__next__" "reversed.__next__" :=
 .of (owner:="reversed") (n:="__next__") (by rw[Ba,BD]; kernel_rfl) (by decide +kernel) (by decide +kernel) (by decide +kernel)
  (by first | exact .inl (by decide +kernel) | exact .inr (by decide +kernel)) (by rw[Ck]; kernel_rfl)
theorem zCN:HQ table "reversed.__next__"=some Builtin.«reversed.__next__»:=Gc (by kernel_rfl)
theorem zG0:Slot "reversed" "__iter__" "reversed.__iter__" :=
 .of (owner:="reversed") (n:="__iter__") (by rw[Ba,BD]; kernel_rfl) (by decide +kernel) (by decide +kernel) (by decide +kernel)
  (by first | exact .inl (by decide +kernel) | exact .inr (by decide +kernel)) (by rw[Ck]; kernel_rfl)
theorem zMX:Dp (.type "tuple") "__reversed__"=pure none:=by rw[Ba,BD]; kernel_rfl
theorem zMT:Hw (.type "tuple") (.type "dict")=pure false:=by rw[Ck]; kernel_rfl
theorem zCi(a:AB):IJ "reversed.__next__" ⟨[a],[]⟩:=by
 unfold IJ; rw[Hl (id:="reversed.__next__") (n:=['_','_','t','x','e','n','_','_']) (o:=['d','e','s','r','e','v','e','r']) (by kernel_rfl) zDU]; kernel_rfl
theorem zFc(a:AB):IJ "reversed.__iter__" ⟨[a],[]⟩:=by
 unfold IJ; rw[Hl (id:="reversed.__iter__") (n:=['_','_','r','e','t','i','_','_']) (o:=['d','e','s','r','e','v','e','r']) (by kernel_rfl) zDU]; kernel_rfl
theorem zEz:HQ table "reversed.__iter__"=some Builtin.«dict_keyiterator.__iter__» :=
 K3 (id':="dict_keyiterator.__iter__") (by kernel_rfl) (by first | rfl | decide +kernel | (unfold String.splitOn; simp +decide [String.splitOnAux])) (by decide +kernel) (by kernel_rfl)
abbrev IsRv (h:Heap) (e l:Addr) (i:Int):Prop:=h.get? e=some { cls:=.type "reversed",dict:=none,data:=.fields #[.ref l,B4 i],slots:=#[] }
section
variable {prog:AY}{w:Af}{A:Ao}{E:AB->AD->Prop}{s:AD}
theorem zMu{l:Addr}{xs:Array AB}{Q:Bool->AD->Prop}(hl:s.heap.IsTuple l xs)(hQ:Q true s):AM (model prog w) A (do
  if ← GC (.ref l) (.type "dict") then return false
  match ← specialOf (.ref l) "__getitem__" with
  | none=>return false
  | some (.builtin id) =>
   if ["tuple.__getitem__","str.__getitem__","bytes.__getitem__","bytearray.__getitem__","memoryview.__getitem__","numpy.ndarray.__getitem__","sqlite3.Row.__getitem__"].contains id then return true
   if id == "sqlite3.Blob.__getitem__" then return false
   unsupported "reversed.__new__:is-it-a-sequence"
  | some _=>return true) Q E s:=by
 refine AA (Cj hl.typeIs zMT ?_)
 refine AA (CP hl.typeIs IK.lookup ?_)
 exact AG hQ
theorem zIf(l:Addr)(xs:Array AB)(hz:xs.size<=AE) :
  JZ (Builtin.«reversed.__new__» ⟨[.type "reversed",.ref l],[]⟩) (fun _ R s=>s.heap.IsTuple l xs /\
   R (.ok (.ret (.ref s.heap.objs.size))) { s with heap:=s.heap.push { cls:=.type "reversed",data:=.fields #[.ref l,B4 ((xs.size:Int) - 1)] },toks:=s.toks+1+1 }) :=
 .of_wp fun prog w A R s h=>by
  obtain⟨hl,h⟩:=h
  unfold Builtin.«reversed.__new__»
  refine AA (CF (newClass_reversed _) ?_)
  try dsimp only
  refine AA (CF (a:=()) (by first | rfl | kernel_rfl) ?_)
  refine AA (CF (a:=()) (by first | rfl | kernel_rfl) ?_)
  try dsimp only
  refine AA (CP hl.typeIs zMX ?_)
  try dsimp only
  refine AA (zMu hl ?_)
  rw[if_neg (by decide)]
  refine AA (Ju hl (by have:=hz; rw[Bv]at this; omega) ?_)
  refine AA (CF (a:=some (xs.size:Int)) (by first | rfl | kernel_rfl) ?_)
  try dsimp only
  refine AA (m:=Ea _ _) ?_
  unfold Ea
  refine BB ?_ (by size_fits)
  exact AG ⟨_,rfl,h⟩
theorem zET{e l:Addr}{i:Int}{Q:AB->AD->Prop}(he:IsRv s.heap e l i)(h:Q (.ref e) s):AM (model prog w) A (HA (.ref e)) Q E s:=by
 have hT:s.TypeIs (.ref e) "reversed":=⟨_,he,rfl⟩
 refine wpAny_pyIter_slot hT zG0 (BL zG0 hT zEz ?_ (zFc _))
 show AM _ _ (ret (.ref e)) _ _ s
 exact AG ⟨_,rfl,"reversed",_,hT,zBy.lookup,h⟩
theorem zMi{e l:Addr}{i:Nat}{xs:Array AB}{x:AB}{Q:Option AB->AD->Prop}(he:IsRv s.heap e l (i:Int))(hl:s.heap.IsTuple l xs)(hz:xs.size<=AE)(hx:xs[i]?=some x)
  (hQ:∀ h' tk,IsRv h' e l ((i:Int) - 1)->BZ e s.heap h'->Q (some x) { s with heap:=h',toks:=tk }):AM (model prog w) A (Do (.ref e)) Q E s:=by
 have hT:s.TypeIs (.ref e) "reversed":=⟨_,he,rfl⟩
 have hi:i < xs.size:=(CB.mp hx).1
 rw[Bv]at hz
 obtain⟨hp,g,d,tk,os⟩:=s
 unfold Do
 refine AA (B3 (BH (name:=BQ "__next__") hT zBy (BL zBy hT zCN ?_ (zCi _))))
 unfold Builtin.«reversed.__next__»
 refine AA (CF (a:=(Ai e,[])) rfl ?_)
 try dsimp only
 refine AA (Ag he rfl (x:=.ref l) rfl ?_)
 refine AA (Ag he rfl (x:=B4 (i:Int)) rfl ?_)
 show AM _ _ (if (i:Int) < 0 then _ else _) _ _ _
 rw[if_neg (by omega)]
 refine AA (CP hl.typeIs IK.lookup ?_)
 try dsimp only
 rw[if_neg (by decide)]
 refine AA (Gr ?_)
 refine AA (B3 (Kd (j:=i) hl (by omega) (by omega) (by rw[Gn (by omega) (by omega),Bm]) hx ?_))
 show AM _ _ (field (.ref e) 1 >>= _) _ _ _
 refine AA (Ag he rfl (x:=B4 (i:Int)) rfl ?_)
 show AM _ _ (GP (.ref e) 1 (B4 ((i:Int) - 1)) >>= _) _ _ _
 refine AA (A9 he (by simp) fun h1 e1 b1=>?_)
 exact AG ⟨x,rfl,AG (hQ h1 _ e1 b1)⟩
theorem zNC{e l:Addr}{Q:Option AB->AD->Prop}(hh:A.handled=none)(he:IsRv s.heap e l (-1))(hQ:∀ h',GB e s.heap h'->Q none { s with heap:=h' }):AM (model prog w) A (Do (.ref e)) Q E s:=by
 have hT:s.TypeIs (.ref e) "reversed":=⟨_,he,rfl⟩
 obtain⟨hp,g,d,tk,os⟩:=s
 unfold Do
 refine AA (B3 (BH (name:=BQ "__next__") hT zBy (BL zBy hT zCN ?_ (zCi _))))
 unfold Builtin.«reversed.__next__»
 refine AA (CF (a:=(Ai e,[])) rfl ?_)
 try dsimp only
 refine AA (Ag he rfl (x:=.ref l) rfl ?_)
 refine AA (Ag he rfl (x:=B4 (-1)) rfl ?_)
 show AM _ _ (if (-1:Int) < 0 then _ else _) _ _ _
 rw[if_pos (by decide)]
 refine AA (Cr ?_)
 refine AA ?_
 show AM _ _ (GP (.ref e) 1 (B4 (-1)) >>= fun _=>GP (.ref e) 0 .none) _ _ _
 refine AA (A9 he (by simp) fun h1 e1 b1=>?_)
 replace e1:IsRv h1 e l (-1):=e1
 refine A9 e1 (by simp) fun h2 e2 b2=>?_
 replace b1:BZ e hp h1:=b1
 replace b2:BZ e h1 h2:=b2
 have x2:GB e hp h2:=fun c o hc q=>b2.extBut c o hc (b1.extBut c o hc q)
 refine AA ?_
 show AM _ _ (Kz (.type "StopIteration") [] >>= _) _ _ _
 refine AA ?_
 simp only[Kz,K0]
 refine AA (BB ?_ (by size_fits))
 refine AA (m:=FR _ _) (CF (a:=A0) (by first | rfl | (simp only[FR]; rfl)) ?_)
 refine BB ?_ (by size_fits)
 simp only[raiseNew]
 refine AA (LS ?_)
 first | rw[show A.in1.handled=none from hh] | rw[hh]
 refine AA (AG (wpAny_throw ?_))
 refine AA (Cj (T:="StopIteration") (b:=true) ⟨_,AN _ rfl,rfl⟩ FV ?_)
 exact AG (hQ _ ((x2.push _).push _))
end
end L2
namespace D
open PySem L2
noncomputable def insI (x:Int):List Int->List Int
 | []=>[x]
 | y::r=>if x<=y then x::y::r else y::insI x r
noncomputable def sortI:List Int->List Int
 | []=>[]
 | x::r=>insI x (sortI r)
theorem zCq(x:Int):∀ l,(insI x l).Perm (x::l)
 | []=>.refl _
 | y::r=>by
  unfold insI
  split
  ·exact .refl _
  ·exact ((zCq x r).cons y).trans (Li x y r)
theorem zCI:∀ l,(sortI l).Perm l
 | []=>.refl _
 | x::r=>(zCq x _).trans ((zCI r).cons x)
theorem zC9(x:Int):∀ l:List Int,l.Pairwise (·<=·)->(insI x l).Pairwise (·<=·)
 | [],_=>by simp[insI]
 | y::r,h=>by
  unfold insI
  have h':=C9.mp h
  split
  ·rename_i hx
   exact C9.mpr ⟨fun z hz=>by
    rcases AO.mp hz with e | e
    ·omega
    ·have:=h'.1 z e; omega,h⟩
  ·rename_i hx
   exact C9.mpr ⟨fun z hz=>by
    have:=(zCq x r).subset hz
    rcases AO.mp this with e | e
    ·omega
    ·exact h'.1 z e,zC9 x r h'.2⟩
theorem zCg:∀ l,(sortI l).Pairwise (·<=·)
 | []=>.nil
 | x::r=>zC9 x _ (zCg r)
theorem zDl:∀ {a b:List Int},a.Perm b->a.Pairwise (·<=·)->b.Pairwise (·<=·)->a=b
 | [],b,p,_,_=>(List.nil_perm.mp p).symm
 | x::r,[],p,_,_=>by have:=p.length_eq; simp at this
 | x::r,y::s,p,ha,hb=>by
  have ha':=C9.mp ha
  have hb':=C9.mp hb
  have e:x=y:=by
   have h1:x∈y::s:=p.subset AQ
   have h2:y∈x::r:=p.symm.subset AQ
   rcases AO.mp h1 with e | e
   ·exact e
   ·rcases AO.mp h2 with f | f
    ·exact f.symm
    ·have:=ha'.1 y f; have:=hb'.1 x e; omega
  subst e
  rw[zDl ((List.perm_cons x).mp p) ha'.2 hb'.2]
noncomputable def intsOf:List T->Option (List Int)
 | []=>some []
 | .a (.int n)::r=>(intsOf r).map fun ns=>n::ns
 | _::_=>none
theorem zCY:∀ {xs:List T} {ns:List Int},intsOf xs=some ns->xs=(ns.map V.int).map T.a
 | [],ns,e=>by cases e; rfl
 | x::r,ns,e=>by
  unfold intsOf at e
  split at e
  ·rename_i h; cases h
  ·rename_i n r' h
   cases h
   obtain⟨ms,e1,e⟩:=zAE e
   subst e
   rw[zCY e1]; rfl
  ·cases e
noncomputable def sortedS:En->List S->Option S:=fun Γ as=>match as with
 | [a]=>(seqS Γ a).bind fun xs=>(intsOf xs).bind fun ns=>if ns.length < 64 then some (.l ((sortI ns).map fun n=>.a (.int n))) else none
 | _=>none
theorem zGA{K:Fg}:SimRs K (fun xs H Q=>∃ (p:Addr) (ns:List Int),xs=[.ref p]/\(SqL K H p (ns.map V.int)\/SqT K H p (ns.map V.int))/\ns.length < 64/\∀ (l:Addr) (ns':List Int),H l=none->ns'.Perm ns->ns'.Pairwise (·<=·)->Q (.ref l) (upd H l (.lst (ns'.map V.int)))) sortedS:=by
 intro C w Γ σ H vs as s Q R o e k
 unfold sortedS at e
 split at e
 ·obtain⟨xs,e1,e⟩:=bind_some e
  obtain⟨ns,e2,e⟩:=bind_some e
  split at e
  ·rename_i hl
   cases e
   obtain⟨v,rfl,o1⟩:=soks1 o
   obtain⟨p,us,rfl,h1,i1⟩:=zD0 R o1 e1
   have hu:us=ns.map V.int:=by rw[zCY e2]at i1; exact i1.of_atoms
   subst hu
   refine⟨p,ns,rfl,h1,hl,fun l ns' hl' hp hs=>?_⟩
   have:ns'=sortI ns:=zDl (hp.trans (zCI ns).symm) hs (zCg ns)
   subst this
   have hi:Ims K H ((sortI ns).map V.int) ((sortI ns).map fun n=>T.a (.int n)):=by
    have:=Ims.atoms (K:=K) (H:=H) ((sortI ns).map V.int)
    rwa [Jc]at this
   exact k _ _ (R.new hl') (Evo.new hl') (R.newl hl' hi) ⟨l,rfl,hl'⟩
  ·cases e
 ·cases e
section
variable {ι:Type}{K:Fg}{X:ι->Cx}{mg:Str->Option AB}{k:Nat}
theorem zEf(M:Fm K mg k X):CalR K X (.builtin "sorted") sortedS:=⟨_,fun j=>by have:=zGI (X:=X j); rw[M.K j]at this; exact this,zGA⟩
end
end D
namespace D
open PySem L2
noncomputable def ixL {α:Type} (l:List α) (i:Nat):Option α:=l[i]?
@[simp,simp ↓] theorem zRd{α:Type}{x:α}{r:List α}:ixL (x::r) 0=some x:=rfl
@[simp,simp ↓] theorem zRO{α:Type}{x:α}{r:List α}{n:Nat}:ixL (x::r) (n+1)=ixL r n:=rfl
@[simp high,simp ↓ high] theorem gd_0{α:Type}{x:α}:gd 0 x=some x:=rfl
@[simp high,simp ↓ high] theorem gd_1{α:Type}{x:α}:gd 1 x=some x:=rfl
@[simp high,simp ↓ high] theorem gd_2{α:Type}{x:α}:gd 2 x=some x:=rfl
@[simp high,simp ↓ high] theorem gd_3{α:Type}{x:α}:gd 3 x=some x:=rfl
@[simp high,simp ↓ high] theorem gd_4{α:Type}{x:α}:gd 4 x=some x:=rfl
class Kf (α β:Type) where
 k:α->Option β
class Kg (α β:Type) where
 k:α->β
noncomputable def bnd {α β:Type} (x:Option α) [f:Kf α β]:Option β:=x.bind f.k
@[simp,simp ↓] theorem zON{α β:Type}{a:α}{f:α->Option β}:bnd (some a) (f:=⟨f⟩)=f a:=rfl
noncomputable def omp {α β:Type} (x:Option α) [f:Kg α β]:Option β:=x.map f.k
@[simp,simp ↓] theorem zRS{α β:Type}{a:α}{f:α->β}:omp (some a) (f:=⟨f⟩)=some (f a):=rfl
class Ka (α:Type) where
 v:α
noncomputable def ifB {α:Type} (b:Bool) [x:Ka α] [y:Ka α]:α:=if b=true then x.v else y.v
@[simp high,simp ↓ high] theorem zRa{α:Type}{x:α}{y:Ka α}:ifB true (x:=⟨x⟩) (y:=y)=x:=rfl
@[simp high,simp ↓ high] theorem zRQ{α:Type}{x:Ka α}{y:α}:ifB false (x:=x) (y:=⟨y⟩)=y:=rfl
noncomputable def ifO {α:Type} (p:Option Nat) (k:Nat) (x y:α):α:=if p=some k then x else y
@[simp high,simp ↓ high] theorem zRR{α:Type}{k:Nat}{x y:α}:ifO none k x y=y:=rfl
noncomputable def ifN {α:Type} (m n:Nat) (x y:α):α:=if m=n then x else y
noncomputable def ifM {α:Type} (i:Nat) (l:List Nat) (x y:α):α:=if i∈l then x else y
@[simp high,simp ↓ high] theorem zRh{α:Type}{i:Nat}{x y:α}:ifM i [] x y=y:=rfl
noncomputable def apE {α:Type} (l:List α):List α:=l++[]
@[simp,simp ↓] theorem zRb{α:Type}:apE ([]:List α)=[]:=rfl
@[simp,simp ↓] theorem zRV{α:Type}{x:α}{r:List α}:apE (x::r)=x::apE r:=rfl
@[simp high,simp ↓ high] theorem zQl{α:Type}{x y:α}:ifO (some 0) 0 x y=x:=rfl
@[simp high,simp ↓ high] theorem zRk{α:Type}{x y:α}:ifN 2 2 x y=x:=rfl
@[simp high,simp ↓ high] theorem zRU{α:Type}{x y:α}:ifN 3 3 x y=x:=rfl
section
variable {f g:DS}{fa fb fc fi:DE}{da fr:DA}{ta tb:DT}{Γ:En}{i j k:Nat}{h h':En->S->S->Option S}
@[simp,simp ↓] theorem zQT:dSeq f g Γ=bnd (f Γ) (f:=⟨fun o=>match o with | .nx Γ'=>g Γ' | o=>some o⟩):=rfl
@[simp,simp ↓] theorem zPk:dNext Γ=some (.nx Γ):=rfl
@[simp,simp ↓] theorem zQH:dRet fa Γ=omp (fa Γ) (f:=⟨fun p=>.rt p.1 p.2⟩):=rfl
@[simp,simp ↓] theorem zPt:dDrop fa Γ=omp (fa Γ) (f:=⟨fun p=>.nx p.2⟩):=rfl
@[simp,simp ↓] theorem zRi:dIf ta f g Γ=bnd (ta Γ) (f:=⟨fun p=>ifB p.1 (x:=⟨(f p.2)⟩) (y:=⟨(g p.2)⟩)⟩):=rfl
@[simp,simp ↓] theorem zP7:dSet i fa Γ=bnd (fa Γ) (f:=⟨fun p=>omp (setS i p.1 p.2) (f:=⟨.nx⟩)⟩):=rfl
@[simp,simp ↓] theorem zQ9{t:T}:setS i (.v t) Γ=some (Γ.set i (some (.v t))):=rfl
@[simp,simp ↓] theorem zRG{t:List T}:setS i (.l t) Γ=some (Γ.set i (some (.l t))):=rfl
@[simp,simp ↓] theorem zQQ:jV i Γ=match ixL Γ i with
 | some (some (.v t))=>some (.v t,Γ)
 | some (some (.l _))=>some (.s i,Γ)
 | some (some (.r _))=>some (.s i,Γ)
 | some (some (.k _))=>some (.s i,Γ)
 | some (some (.d _))=>some (.s i,Γ)
 | some (some (.e _))=>some (.s i,Γ)
 | _=>none:=rfl
@[simp,simp ↓] theorem zRe{v:V}:dC v Γ=some (.v (.a v),Γ):=rfl
@[simp,simp ↓] theorem zQ5:dOp h fa fb Γ=bnd (fa Γ) (f:=⟨fun p=>bnd (fb p.2) (f:=⟨fun q=>omp (h q.2 p.1 q.1) (f:=⟨fun s=>(s,q.2)⟩)⟩)⟩):=rfl
@[simp,simp ↓] theorem zQn{h:En->S->Option S}:dUn h fa Γ=bnd (fa Γ) (f:=⟨fun p=>omp (h p.2 p.1) (f:=⟨fun s=>(s,p.2)⟩)⟩):=rfl
@[simp,simp ↓] theorem zQa{h:En->List S->Option S}:dCB h da Γ=bnd (da Γ) (f:=⟨fun p=>omp (h p.2 p.1) (f:=⟨fun s=>(s,p.2)⟩)⟩):=rfl
@[simp,simp ↓] theorem zQP:qQ Γ=some ([],Γ):=rfl
@[simp,simp ↓] theorem zPU:jW fa fr Γ=bnd (fa Γ) (f:=⟨fun p=>bnd (fr p.2) (f:=⟨fun q=>some (p.1::q.1,q.2)⟩)⟩):=rfl
@[simp,simp ↓] theorem zQ7{t:T}:S.tree (.v t)=some t:=rfl
@[simp,simp ↓] theorem zPR:trees []=some []:=rfl
@[simp,simp ↓] theorem zPJ{t:T}{r:List S}:trees (.v t::r)=omp (trees r) (f:=⟨fun ts=>t::ts⟩):=rfl
theorem zEJ:AE=16777216:=Bv
@[simp,simp ↓] theorem zQB:dTup da Γ=bnd (da Γ) (f:=⟨fun p=>bnd (trees p.1) (f:=⟨fun ts=>gd ts.length (.v (.t ts),p.2)⟩)⟩):=rfl
@[simp,simp ↓] theorem zQJ:dLst da Γ=bnd (da Γ) (f:=⟨fun p=>bnd (trees p.1) (f:=⟨fun ts=>gd ts.length (.l ts,p.2)⟩)⟩):=rfl
@[simp,simp ↓] theorem zPT:dTest fa Γ=bnd (fa Γ) (f:=⟨fun p=>match p.1 with | .v (.a (.bl b))=>some (b,p.2) | _=>none⟩):=rfl
@[simp,simp ↓] theorem zQ1:dAnd ta tb Γ=bnd (ta Γ) (f:=⟨fun p=>ifB p.1 (x:=⟨(tb p.2)⟩) (y:=⟨(some (false,p.2))⟩)⟩):=rfl
@[simp,simp ↓] theorem zRN:dOr ta tb Γ=bnd (ta Γ) (f:=⟨fun p=>ifB p.1 (x:=⟨(some (true,p.2))⟩) (y:=⟨(tb p.2)⟩)⟩):=rfl
@[simp,simp ↓] theorem zP1:dNot ta Γ=bnd (ta Γ) (f:=⟨fun p=>some (!p.1,p.2)⟩):=rfl
@[simp,simp ↓] theorem zQO:dAndV fa fb Γ=bnd (dTest fa Γ) (f:=⟨fun p=>ifB p.1 (x:=⟨(fb p.2)⟩) (y:=⟨(some (.v (.a (.bl false)),p.2))⟩)⟩):=rfl
@[simp,simp ↓] theorem zRF:dIfE ta fa fb Γ=bnd (ta Γ) (f:=⟨fun p=>ifB p.1 (x:=⟨(fa p.2)⟩) (y:=⟨(fb p.2)⟩)⟩):=rfl
@[simp] theorem zPM:dChain h h' fa fb fc Γ=bnd (fa Γ) (f:=⟨fun p=>bnd (fb p.2) (f:=⟨fun q=>bnd (h q.2 p.1 q.1) (f:=⟨fun z=>match z with
 | .v (.a (.bl k))=>if k=true then bnd (fc q.2) (f:=⟨fun u=>omp (h' u.2 q.1 u.1) (f:=⟨fun s=>(s,u.2)⟩)⟩) else some (.v (.a (.bl false)),q.2)
 | _=>none⟩)⟩)⟩):=rfl
@[simp,simp ↓] theorem zQq{h:En->List T->List S->Option (T×List T)}:dMut i h da Γ=ifB (isLs Γ i) (x:=⟨(bnd (da Γ) (f:=⟨fun p=>match ixL p.2 i with
 | some (some (.l xs))=>bnd (gd xs.length ()) (f:=⟨fun _=>omp (h p.2 xs p.1) (f:=⟨fun q=>(.v q.1,p.2.set i (some (.l q.2)))⟩)⟩)
 | _=>none⟩))⟩) (y:=⟨none⟩):=rfl
@[simp,simp ↓] theorem zQS:isLs Γ i=match ixL Γ i with | some (some (.l _))=>true | _=>false:=rfl
@[simp,simp ↓] theorem zPu:dSetIx i fa fi Γ=bnd (fa Γ) (f:=⟨fun p=>bnd p.1.tree (f:=⟨fun t=>ifB (isLs p.2 i) (x:=⟨(bnd (fi p.2) (f:=⟨fun q=>bnd (iS q.1) (f:=⟨fun k=>match ixL q.2 i with
  | some (some (.l xs))=>omp (ixN xs.length k) (f:=⟨fun j=>.nx (q.2.set i (some (.l (xs.set j t))))⟩)
  | _=>none⟩)⟩))⟩) (y:=⟨none⟩)⟩)⟩):=rfl
@[simp,simp ↓] theorem zOP{n:Int}:iS (.v (.a (.int n)))=some n:=rfl
@[simp] theorem zKO{c:Int->Int->Prop} [∀ i j,Decidable (c i j)] {g:Int->Int->V} {xs:List T} {b:S}:opIIc c g Γ (.l xs) b=none:=(rfl)
@[simp,simp ↓] theorem zPz{m n:Int}:addS Γ (.v (.a (.int m))) (.v (.a (.int n)))=some (.v (.a (.int (m+n)))):=rfl
@[simp] theorem zQF{xs ys:List T}:addS Γ (.v (.t xs)) (.v (.t ys))=gd (xs.length+ys.length) (.v (.t (xs++ys))):=by
 show ((none:Option S).or ((addTup Γ (.v (.t xs)) (.v (.t ys))).or ((none:Option S).or none)))=_
 simp[addTup]
@[simp] theorem zQs{m:Nat}{b:S}:addS Γ (.s m) b=addLst Γ (.s m) b:=by
 show ((none:Option S).or ((none:Option S).or ((addLst Γ (.s m) b).or none)))=_
 simp
@[simp] theorem zQ8{xs:List T}{b:S}:addS Γ (.l xs) b=addLst Γ (.l xs) b:=by
 show ((none:Option S).or ((none:Option S).or ((addLst Γ (.l xs) b).or none)))=_
 simp
@[simp,simp ↓] theorem zPL{a b:S}:addLst Γ a b=bnd (lsOf Γ a) (f:=⟨fun xs=>bnd (lsOf Γ b) (f:=⟨fun ys=>gd (xs.length+ys.length) (.l (xs++ys))⟩)⟩):=rfl
@[simp,simp ↓] theorem zPy{m n:Int}:subS Γ (.v (.a (.int m))) (.v (.a (.int n)))=some (.v (.a (.int (m - n)))):=rfl
@[simp] theorem zQI{m n:Int}:mulS Γ (.v (.a (.int m))) (.v (.a (.int n)))=if CMul m n then some (.v (.a (.int (m * n)))) else none:=by
 show ((if CMul m n then some _ else none).or (none:Option S))=_
 simp
theorem zKC{l n:Nat}(h:l * n<=100000)(h2:n<=100000):fitM l (n:Int)=true:=by
 unfold fitM
 rw[zBk (by omega),Bm,EJ]
 exact Et (Aa h (by decide))
theorem zKf(xs:List T)(n:Nat)(h:xs.length * n<=100000)(h2:n<=100000):mulS Γ (.l xs) (.v (.a (.int (n:Int))))=some (.l (Ad n xs).flatten):=by
 have e:mulS Γ (.l xs) (.v (.a (.int (n:Int))))=mulLst Γ (.l xs) (.v (.a (.int (n:Int)))):=by unfold mulS; rw[zKO,IV]
 rw[e]
 unfold mulLst
 have e1:lsOf Γ (.l xs)=some xs:=rfl
 rw[e1,Av,zOP,Av,if_pos (zKC h h2),Bm]
@[simp] theorem zP2{m n:Int}:modS Γ (.v (.a (.int m))) (.v (.a (.int n)))=if 0 < n then some (.v (.a (.int (m % n)))) else none:=(rfl)
@[simp] theorem zPg{m n:Int}:fdivS Γ (.v (.a (.int m))) (.v (.a (.int n)))=if CDiv m n then some (.v (.a (.int (m / n)))) else none:=(rfl)
@[simp] theorem zQG{m n:Int}:powS Γ (.v (.a (.int m))) (.v (.a (.int n)))=if CPow m n then some (.v (.a (.int (m ^ n.toNat)))) else none:=(rfl)
@[simp,simp ↓] theorem zQU{m n:Int}:ltS Γ (.v (.a (.int m))) (.v (.a (.int n)))=some (.v (.a (.bl (decide (m < n))))):=rfl
@[simp,simp ↓] theorem zRL{m n:Int}:leS Γ (.v (.a (.int m))) (.v (.a (.int n)))=some (.v (.a (.bl (decide (m<=n))))):=rfl
@[simp,simp ↓] theorem zQ2{m n:Int}:gtS Γ (.v (.a (.int m))) (.v (.a (.int n)))=some (.v (.a (.bl (decide (n < m))))):=rfl
@[simp,simp ↓] theorem zQw{m n:Int}:geS Γ (.v (.a (.int m))) (.v (.a (.int n)))=some (.v (.a (.bl (decide (n<=m))))):=rfl
@[simp,simp ↓] theorem zQh{m:Int}:negS Γ (.v (.a (.int m)))=some (.v (.a (.int (-m)))):=rfl
@[simp,simp ↓] theorem zRm{xs:List T}{n:Int}:ixS Γ (.v (.t xs)) (.v (.a (.int n)))=omp (atI xs n) (f:=⟨.v⟩):=rfl
@[simp,simp ↓] theorem zRX{xs:List T}{n:Int}:ixS Γ (.l xs) (.v (.a (.int n)))=omp (atI xs n) (f:=⟨.v⟩):=rfl
@[simp,simp ↓] theorem zRY{m:Nat}{n:Int}:ixS Γ (.s m) (.v (.a (.int n)))=bnd (sqlOf Γ (.s m)) (f:=⟨fun xs=>omp (atI xs n) (f:=⟨.v⟩)⟩):=rfl
@[simp,simp ↓] theorem zQK{m:Nat}:sqlOf Γ (.s m)=match ixL Γ m with
  | some (some (.l xs))=>some xs
  | some (some (.r xs))=>some xs
  | some (some (.k xs))=>some xs
  | _=>none:=rfl
@[simp,simp ↓] theorem zLi{xs:List T}:sqlOf Γ (.l xs)=some xs:=rfl
@[simp,simp ↓] theorem zQW{xs:List T}:lsOf Γ (.l xs)=some xs:=rfl
@[simp,simp ↓] theorem zQv{m:Nat}:lsOf Γ (.s m)=match ixL Γ m with
  | some (some (.l xs))=>some xs
  | some (some (.r xs))=>some xs
  | _=>none:=rfl
@[simp,simp ↓] theorem zQy{xs:List T}:lenS Γ [.v (.t xs)]=some (.v (.a (.int xs.length))):=rfl
@[simp,simp ↓] theorem zQg{xs:List T}:lenS Γ [.l xs]=some (.v (.a (.int xs.length))):=rfl
@[simp,simp ↓] theorem zRD{m:Nat}:lenS Γ [.s m]=omp (sqlOf Γ (.s m)) (f:=⟨fun xs=>.v (.a (.int xs.length))⟩):=rfl
@[simp,simp ↓] theorem zPa{xs:List T}:tupleS Γ [.l xs]=some (.v (.t xs)):=rfl
@[simp,simp ↓] theorem zPm{m:Nat}:tupleS Γ [.s m]=omp (sqlOf Γ (.s m)) (f:=⟨fun xs=>.v (.t xs)⟩):=rfl
@[simp,simp ↓] theorem zPB:dNoPart Γ=some (none,Γ):=rfl
@[simp,simp ↓] theorem zPW:dPart fa Γ=bnd (fa Γ) (f:=⟨fun p=>omp (iS p.1) (f:=⟨fun i=>(some i,p.2)⟩)⟩):=rfl
@[simp,simp ↓] theorem zQp{lo hi:DO}:dSl fa lo hi Γ=bnd (fa Γ) (f:=⟨fun p=>bnd (lo p.2) (f:=⟨fun l=>bnd (hi l.2) (f:=⟨fun h=>omp (slS h.2 l.1 h.1 p.1) (f:=⟨fun s=>(s,h.2)⟩)⟩)⟩)⟩):=rfl
@[simp,simp ↓] theorem zRn{xs:List T}{lo hi:Option Int}:slS Γ lo hi (.v (.t xs))=some (.v (.t (cutT xs lo hi))):=rfl
@[simp,simp ↓] theorem zRP{m:Nat}{lo hi:Option Int}:slS Γ lo hi (.s m)=omp (sqlOf Γ (.s m)) (f:=⟨fun xs=>.l (cutT xs lo hi)⟩):=rfl
@[simp,simp ↓] theorem zPN{xs:List T}{t:T}:hAppend Γ xs [.v t]=if xs.length < AE then some (.a .non,xs++[t]) else none:=rfl
@[simp,simp ↓] theorem zQt{xs:List T}:hPop Γ xs []=omp (xs[xs.length - 1]?) (f:=⟨fun t=>(t,xs.dropLast)⟩):=rfl
@[simp] theorem zPb{xs:List T}{n:Int}:hPopAt Γ xs [.v (.a (.int n))]=if inR 9223372036854775807 n=true then bnd (Fd n xs.length) (f:=⟨fun k=>omp (xs[k]?) (f:=⟨fun t=>(t,xs.eraseIdx k)⟩)⟩) else none:=rfl
@[simp,simp ↓] theorem zQe{b:Bool}:intS Γ [.v (.a (.bl b))]=some (.v (.a (.int (if b then 1 else 0)))):=rfl
@[simp,simp ↓] theorem zPV{m n:Int}:max2S Γ [.v (.a (.int m)),.v (.a (.int n))]=some (.v (.a (.int (if n > m then n else m)))):=rfl
@[simp,simp ↓] theorem zPS{m n:Int}:min2S Γ [.v (.a (.int m)),.v (.a (.int n))]=some (.v (.a (.int (if n < m then n else m)))):=rfl
@[simp] theorem zPP{fo:DE}:dIndex fo da Γ=bnd (fo Γ) (f:=⟨fun p=>bnd (da p.2) (f:=⟨fun q=>match p.1,q.1 with
 | .v (.t xs),[.v (.a y)]=>bnd (atomsOf xs) (f:=⟨fun vs=>if flatV y=true/\vs.all flatV=true then omp (vs.findIdx? fun z=>eqV z y) (f:=⟨fun j=>(mkI (j:Nat),q.2)⟩) else none⟩)
 | _,_=>none⟩)⟩):=rfl
@[simp,simp ↓] theorem zRH{n:Int}:mkI n=.v (.a (.int n)):=rfl
@[simp,simp ↓] theorem zQo{b:Bool}:mkB b=.v (.a (.bl b)):=rfl
@[simp] theorem zN6:dListRng da Γ=bnd (da Γ) (f:=⟨fun p=>omp (rngS p.1) (f:=⟨fun xs=>(.l xs,p.2)⟩)⟩):=rfl
@[simp] theorem zPI:dTupRng da Γ=bnd (da Γ) (f:=⟨fun p=>omp (rngS p.1) (f:=⟨fun xs=>(.v (.t xs),p.2)⟩)⟩):=rfl
theorem zBv(n:Nat)(h:n<=100000):rngS [.v (.a (.int (n:Int)))]=some (rngT 0 n):=by
 unfold rngS
 dsimp only
 rw[zBk (by omega),Bm,EJ,Et (Aa h (by decide)),if_pos rfl]
theorem zIk(m n:Nat)(h1:m<=100000)(h:n<=100000):rngS [.v (.a (.int (m:Int))),.v (.a (.int (n:Int)))]=some (rngT m (n - m)):=by
 unfold rngS
 dsimp only
 have e:((n:Int) - (m:Int)).toNat=n - m:=by omega
 rw[zBk (by omega),zBk (by omega),e,EJ,EJ,Et (Aa (show n - m<=100000 by omega) (by decide)),if_pos rfl]
@[simp] theorem zPr:dRng1 da Γ=(da Γ).bind fun p=>if p.1.length=1 then (rngS p.1).map fun xs=>((xs,[]),p.2) else none:=by
 unfold dRng1
 congr 1
 funext p
 obtain⟨as,G⟩:=p
 match as with
 | []=>rfl
 | [a] =>
  match a with
  | .v (.a (.int j))=>simp only[rngS,Em,if_true]; split <;> rfl
  | .v (.a .non)=>rfl
  | .v (.a (.bl _))=>rfl
  | .v (.a (.str _))=>rfl
  | .v (.a (.byt _))=>rfl
  | .v (.a (.flt _))=>rfl
  | .v (.a (.ref _))=>rfl
  | .v (.a (.ty _))=>rfl
  | .v (.t _)=>rfl
  | .v (.l _)=>rfl
  | .v (.f _)=>rfl
  | .v (.x _ _)=>rfl
  | .l _=>rfl
  | .s _=>rfl
  | .d _=>rfl
 | a::b::r =>
  have:¬ (a::b::r).length=1:=by simp
  rw[if_neg this]
  dsimp only
  split
  ·rename_i h; simp at h
  ·rfl
@[simp,simp ↓] theorem zPo:dSeqI fa Γ=bnd (fa Γ) (f:=⟨fun p=>bnd (seqS p.2 p.1) (f:=⟨fun xs=>gd xs.length ((xs,srcS p.2 p.1),p.2)⟩)⟩):=rfl
@[simp,simp ↓] theorem zQ6{xs:List T}:seqS Γ (.v (.t xs))=some xs:=rfl
@[simp,simp ↓] theorem zRB{xs:List T}:seqS Γ (.l xs)=some xs:=rfl
@[simp,simp ↓] theorem zRE{m:Nat}:seqS Γ (.s m)=sqlOf Γ (.s m):=rfl
@[simp,simp ↓] theorem zQY{t:T}:srcS Γ (.v t)=[]:=rfl
@[simp,simp ↓] theorem zRC{t:List T}:srcS Γ (.l t)=[]:=rfl
@[simp,simp ↓] theorem zQr{m:Nat}:srcS Γ (.s m)=match ixL Γ m with | some (some (.l _))=>[m] | _=>[]:=rfl
@[simp,simp ↓] theorem zP8:dYes Γ=some (true,Γ):=rfl
@[simp,simp ↓] theorem zP9:dTru fa Γ=bnd (fa Γ) (f:=⟨fun p=>omp (truS p.2 p.1) (f:=⟨fun b=>(b,p.2)⟩)⟩):=rfl
@[simp,simp ↓] theorem zQ0{b:Bool}:truS Γ (.v (.a (.bl b)))=some b:=rfl
@[simp,simp ↓] theorem zRK{m:Nat}:truS Γ (.s m)=omp (sqlOf Γ (.s m)) (f:=⟨fun xs=>!xs.isEmpty⟩):=rfl
@[simp] theorem zPj:dPar2 i j da Γ=bnd (da Γ) (f:=⟨fun p=>match p.1 with
  | [.v a,.v b]=>some (.nx ((p.2.set i (some (.v a))).set j (some (.v b))))
  | _=>none⟩):=rfl
@[simp] theorem zPv:dPar3 i j k da Γ=bnd (da Γ) (f:=⟨fun p=>match p.1 with
  | [.v a,.v b,.v c]=>some (.nx (((p.2.set i (some (.v a))).set j (some (.v b))).set k (some (.v c))))
  | _=>none⟩):=rfl
@[simp,simp ↓] theorem zJP{t:T}:gdName i Γ t=some (Γ.set i (some (.v t))):=rfl
@[simp,simp ↓] theorem zPs:gdNil Γ []=some Γ:=rfl
@[simp,simp ↓] theorem zPO{p:En->T->Option En}{q:En->List T->Option En}{t:T}{r:List T}:gdCons p q Γ (t::r)=bnd (p Γ t) (f:=⟨fun Γ1=>q Γ1 r⟩):=rfl
@[simp,simp ↓] theorem zQC{q:En->List T->Option En}{ts:List T}:gdTup i q Γ (.t ts)=ifN ts.length i (q Γ ts) none:=rfl
@[simp,simp ↓] theorem zP0{ip:Option Nat}{F:DF}:dCall ip F [] da Γ=bnd (da Γ) (f:=⟨fun p=>ifB (onceS ip p.1) (x:=⟨(bnd (argsG ip p.2 0 (apE p.1)) (f:=⟨fun gs=>omp (F gs) (f:=⟨fun q=>(toS q.1,backS ip p.2 p.1 q.2)⟩)⟩))⟩) (y:=⟨none⟩)⟩):=rfl
@[simp,simp ↓] theorem zPQ{ip:Option Nat}:argsG ip Γ k []=some []:=rfl
@[simp high,simp ↓ high] theorem zPl{ip:Option Nat}{s:S}{r:List S}:argsG ip Γ 0 (s::r)=bnd (argG ip Γ 0 s) (f:=⟨fun g=>omp (argsG ip Γ 1 r) (f:=⟨fun gs=>g::gs⟩)⟩):=rfl
@[simp high,simp ↓ high] theorem zPd{ip:Option Nat}{s:S}{r:List S}:argsG ip Γ 1 (s::r)=bnd (argG ip Γ 1 s) (f:=⟨fun g=>omp (argsG ip Γ 2 r) (f:=⟨fun gs=>g::gs⟩)⟩):=rfl
@[simp high,simp ↓ high] theorem zPh{ip:Option Nat}{s:S}{r:List S}:argsG ip Γ 2 (s::r)=bnd (argG ip Γ 2 s) (f:=⟨fun g=>omp (argsG ip Γ 3 r) (f:=⟨fun gs=>g::gs⟩)⟩):=rfl
@[simp high,simp ↓ high] theorem zPe{ip:Option Nat}{s:S}{r:List S}:argsG ip Γ 3 (s::r)=bnd (argG ip Γ 3 s) (f:=⟨fun g=>omp (argsG ip Γ 4 r) (f:=⟨fun gs=>g::gs⟩)⟩):=rfl
@[simp,simp ↓] theorem zQf{ip:Option Nat}{t:T}:argG ip Γ k (.v t)=some (.v t):=rfl
@[simp,simp ↓] theorem zQL{ip:Option Nat}{xs:List T}:argG ip Γ k (.l xs)=some (ifO ip k (.l xs) (.r xs)):=rfl
@[simp,simp ↓] theorem zQb{ip:Option Nat}{m:Nat}:argG ip Γ k (.s m)=match ixL Γ m with
  | some (some (.l xs))=>some (ifO ip k (.l xs) (.r xs))
  | some (some (.r xs))=>ifO ip k none (some (.r xs))
  | some (some (.k xs))=>ifO ip k none (some (.k xs))
  | some (some (.d xs))=>ifO ip k none (some (.e xs))
  | some (some (.e xs))=>ifO ip k none (some (.e xs))
  | _=>none:=rfl
@[simp,simp ↓] theorem zQd{ip:Option Nat}{xs:Dk}:argG ip Γ k (.d xs)=if ip=some k then none else some (.e xs):=rfl
@[simp,simp ↓] theorem zPx{ss:List S}:onceS none ss=true:=rfl
@[simp high,simp ↓ high] theorem zRM:(LU ([]:List S) fun s=>!isSl i s)=true:=rfl
@[simp high,simp ↓ high] theorem zRl{t:T}{r:List S}:(LU (.v t::r) fun s=>!isSl i s)=r.all fun s=>!isSl i s:=rfl
@[simp,simp ↓] theorem zP6{ss:List S}:onceS (some k) ss=match ixL ss k with
  | some (.s i)=>(ss.eraseIdx k).all fun s=>!isSl i s
  | some (.l _)=>(ss.eraseIdx k).all fun s=>!isTmp s
  | _=>false:=rfl
@[simp,simp ↓] theorem zQD{ss:List S}{ys:List T}:backS none Γ ss ys=Γ:=rfl
@[simp,simp ↓] theorem zQR{ss:List S}{ys:List T}:backS (some k) Γ ss ys=match ixL ss k with | some (.s i)=>Γ.set i (some (.l ys)) | _=>Γ:=rfl
@[simp,simp ↓] theorem zRc{t:T}:toS (.v t)=.v t:=rfl
@[simp,simp ↓] theorem zRj{t:List T}:toS (.l t)=.l t:=rfl
@[simp,simp ↓] theorem zQz:outl none Γ=[]:=rfl
@[simp,simp ↓] theorem zQV:outl (some k) Γ=match ixL Γ k with | some (some (.l xs))=>xs | _=>[]:=rfl
@[simp,simp ↓] theorem zQ3{ip:Option Nat}{t:T}:resG ip Γ (.v t)=some (.v t):=rfl
@[simp,simp ↓] theorem zQu{ip:Option Nat}{t:List T}:resG ip Γ (.l t)=some (.l t):=rfl
@[simp,simp ↓] theorem zQj{ip:Option Nat}:resG ip Γ (.s i)=if ip=some i then none else match ixL Γ i with | some (some (.l xs))=>some (.l xs) | some (some (.d xs))=>some (.d xs) | _=>none:=rfl
@[simp,simp ↓] theorem zEN{t:T}:reprS Γ [.v t]=bnd (toD t) (f:=⟨fun d=>if d.showable=true/\d.hasDict=false/\d.depth<=100/\d.shown.length<=AE then some (.v (.a (.str d.shown))) else none⟩):=rfl
end
theorem zAw{α:Type}{xs:List α}{n:Nat}:atI xs (n:Int)=xs[n]?:=by
 unfold atI ixN
 rw[if_pos (Int.natCast_nonneg n)]
 by_cases h:n < xs.length
 ·rw[if_pos (by omega)]; simp
 ·rw[if_neg (by omega),Bc (by omega)]; rfl
@[simp] theorem zN7{α:Type}{xs:List α}:atI xs 0=xs[0]?:=zAw (n:=0)
@[simp] theorem zRW{α:Type}{xs:List α}:atI xs 1=xs[1]?:=zAw (n:=1)
@[simp] theorem zRZ{α:Type}{xs:List α}:atI xs 2=xs[2]?:=zAw (n:=2)
@[simp] theorem zRT{α:Type}{xs:List α}:atI xs 3=xs[3]?:=zAw (n:=3)
theorem zJN{α:Type}{xs:List α}(h:xs≠[]):atI xs (-1)=xs[xs.length - 1]?:=by
 have:0 < xs.length:=Dr.mpr h
 unfold atI ixN
 rw[if_neg (by omega),if_pos (by omega)]
 show xs[(-1+(xs.length:Int)).toNat]?=_
 congr 1
 omega
theorem zGZ{n j:Nat}(h:j < n):ixN n (j:Int)=some j:=by
 unfold ixN; rw[if_pos (by omega),if_pos (by omega)]; simp
theorem zAT{n:Nat}(h:n<=100000):n<=AE:=Aa h (by decide)
theorem zGj{n:Nat}(h:n<=100000):n < AE:=FW h (by decide)
@[simp] noncomputable abbrev iT (n:Int):T:=.a (.int n)
@[simp] noncomputable abbrev bT (b:Bool):T:=.a (.bl b)
theorem zDT(ns:List Int){i:Int}(h0:0<=i)(h1:i < ns.length):∃ z,atI (intsT ns) i=some (iT z):=by
 obtain⟨j,rfl⟩:∃ j:Nat,i=j:=⟨i.toNat,by omega⟩
 exact⟨ns[j]'(by omega),by rw[zAw,intsT,Ae,Bw (by omega)]; rfl⟩
theorem zAu{c:DT}{b:DS}{n:Nat}{Γ:En}:dWhile c b (n+1) Γ=(c Γ).bind fun p=>if p.1=true then (b p.2).bind fun o=>match o with
   | .nx Γ'=>dWhile c b n Γ'
   | .ct Γ'=>dWhile c b n Γ'
   | .bk Γ'=>some (.nx Γ')
   | .rt s Γ'=>some (.rt s Γ')
  else some (.nx p.2):=(rfl)
theorem zCD{tg:En->T->Option En}{b:DS}{Γ:En}:forD tg b [] Γ=some (.nx Γ):=(rfl)
theorem zCh{tg:En->T->Option En}{b:DS}{t:T}{r:List T}{Γ:En}:forD tg b (t::r) Γ=(tg Γ t).bind fun Γ1=>(b Γ1).bind fun o=>match o with
  | .nx Γ'=>forD tg b r Γ'
  | .ct Γ'=>forD tg b r Γ'
  | .bk Γ'=>some (.nx Γ')
  | .rt s Γ'=>some (.rt s Γ'):=(rfl)
theorem zAX{tg:En->T->Option En}{dc:DT}{de:DE}{Γ:En}:compD tg dc de [] Γ=some ([],Γ):=(rfl)
theorem zAb{tg:En->T->Option En}{dc:DT}{de:DE}{t:T}{r:List T}{Γ:En}:compD tg dc de (t::r) Γ=(tg Γ t).bind fun Γ1=>(dc Γ1).bind fun p=>if p.1=true then (de p.2).bind fun q=>q.1.tree.bind fun t'=>(compD tg dc de r q.2).map fun z=>(t'::z.1,z.2) else compD tg dc de r p.2:=(rfl)
@[simp,simp ↓] theorem zPw{ix:List (Option Nat)}{di:DI}{tg:En->T->Option En}{dc:DT}{de:DE}{Γ:En}:dComp none ix di tg dc de Γ=bnd (di Γ) (f:=⟨fun p=>omp (compD tg dc de p.1.1 (pick none ix p.2)) (f:=⟨fun z=>(.l z.1,p.2)⟩)⟩):=rfl
@[simp,simp ↓] theorem zPf{i j:Nat}{ix:List (Option Nat)}{di:DI}{tg:En->T->Option En}{dc:DT}{de:DE}{Γ:En}:dComp (some (j,i)) ix di tg dc de Γ=bnd (di Γ) (f:=⟨fun p=>ifM i p.1.2 none (match ixL p.2 i with
  | some (some (.l _))=>omp (compD tg dc de p.1.1 (pick (some i) ix p.2)) (f:=⟨fun z=>(.l z.1,cback (some (j,i)) p.2 z.2)⟩)
  | _=>none)⟩):=rfl
@[simp,simp ↓] theorem zRA{ip:Option Nat}{di:DI}{tg:En->T->Option En}{b:DS}{Γ:En}:dFor ip di tg b Γ=bnd (di Γ) (f:=⟨fun p=>ifB (p.1.2.all fun i=>decide (ip≠some i)) (x:=⟨(forD tg b p.1.1 (frz p.2 p.1.2))⟩) (y:=⟨none⟩)⟩):=rfl
@[simp,simp ↓] theorem zQN{Γ:En}:frz Γ []=Γ:=rfl
@[simp,simp ↓] theorem zPi{Γ:En}{i:Nat}{r:List Nat}:frz Γ (i::r)=frz (frz1 Γ i) r:=rfl
@[simp,simp ↓] theorem zPp{mu:Option Nat}{Γ:En}:pick mu [] Γ=[]:=rfl
@[simp,simp ↓] theorem zRI{mu:Option Nat}{ix:List (Option Nat)}{Γ:En}:pick mu (none::ix) Γ=none::pick mu ix Γ:=rfl
@[simp,simp ↓] theorem zQx{mu:Option Nat}{k:Nat}{ix:List (Option Nat)}{Γ:En}:pick mu (some k::ix) Γ=pick1 mu k (ixL Γ k).join::pick mu ix Γ:=rfl
@[simp,simp ↓] theorem zQA{mu:Option Nat}{k:Nat}{t:T}:pick1 mu k (some (.v t))=some (.v t):=rfl
@[simp,simp ↓] theorem zPq{mu:Option Nat}{k:Nat}{t:List T}:pick1 mu k (some (.l t))=ifO mu k (some (.l t)) (some (.r t)):=rfl
@[simp,simp ↓] theorem zP4{j i:Nat}{Γ Γo:En}:cback (some (j,i)) Γ Γo=match ixL Γo j with | some (some (.l xs))=>Γ.set i (some (.l xs)) | _=>Γ:=rfl
theorem zDW{α:Type}(f g:α->T){de:DE}{R:En}:∀ (is:List α),(∀ i∈is,de (some (.v (f i))::R)=some (.v (g i),some (.v (f i))::R))->∀ o,∃ o',compD (gdName 0) dYes de (is.map f) (o::R)=some (is.map g,o'::R)
 | [],_,o=>⟨o,rfl⟩
 | i::r,h,o=>by
  obtain⟨o',e⟩:=zDW f g r (fun j hj=>h j (AK _ hj)) (some (.v (f i)))
  refine⟨o',?_⟩
  rw[Ak,zAb]
  simp[h i AQ,e]
theorem zCp{n m:Nat}(h:n < m):Fd (n:Int) m=some n:=(zEO (zGZ h)).1
theorem zDZ{n:Int}:Dx (.int n)=true:=rfl
@[simp] theorem zQZ{Γ:En}{m n:Int}:eqS Γ (.v (.a (.int m))) (.v (.a (.int n)))=some (.v (.a (.bl (decide (m=n))))):=by
 show ((some (mkB (decide (V.int m=V.int n)))).or _)=_
 simp
@[simp] theorem zQc{Γ:En}{m n:Str}:eqS Γ (.v (.a (.str m))) (.v (.a (.str n)))=some (.v (.a (.bl (decide (m=n))))):=by
 show ((some (mkB (decide (V.str m=V.str n)))).or _)=_
 simp
@[simp] theorem zQk{Γ:En}{m n:Str}:neS Γ (.v (.a (.str m))) (.v (.a (.str n)))=some (.v (.a (.bl (!decide (m=n))))):=by
 show ((some (mkB (!decide (V.str m=V.str n)))).or _)=_
 simp
@[simp] noncomputable abbrev tvT (t:List Nat):List T:=t.map fun (k:Nat)=>iT (k:Int)
@[simp] noncomputable abbrev tuT (t:List Nat):T:=.t (tvT t)
structure IsT(n:Nat)(t:List Nat):Prop where
 len:t.length=n
 lt:∀ k∈t,k < n
 nd:t.Nodup
theorem IsT.get{n:Nat}{t:List Nat}(h:IsT n t){i:Nat}(hi:i < n):∃ k,t[i]?=some k/\k < n:=by
 have hl:=h.len
 refine⟨t[i]'(by omega),by simp,h.lt _ (ES _)⟩
theorem zJn:∀ (n:Nat) (t:List Nat),t.length=n->(∀ k∈t,k < n)->t.Nodup->∀ i,i < n->i∈t:=by
 intro n
 induction n with
 | zero=>intro t _ _ _ i hi; omega
 | succ n ih =>
  intro t hl hlt hnd i hi
  by_cases hn:n∈t
  ·have h1:(t.erase n).length=n:=by rw[List.length_erase_of_mem hn]; omega
   have h2:∀ k∈t.erase n,k < n:=fun k hk=>by
    have:=hlt k (HR hk)
    have hne:k≠n:=fun e=>by subst e; exact (LV hnd) hk
    omega
   have h3:(t.erase n).Nodup:=hnd.erase n
   by_cases e:i=n
   ·subst e; exact hn
   ·exact HR (ih (t.erase n) h1 h2 h3 i (by omega))
  ·exfalso
   have h2:∀ k∈t,k < n:=fun k hk=>by
    have:=hlt k hk
    have hne:k≠n:=fun e=>by subst e; exact hn hk
    omega
   cases t with
   | nil=>simp at hl
   | cons x r =>
    have hx:=h2 x AQ
    have hr:=ih r (by simpa using hl) (fun k hk=>h2 k (AK _ hk)) (Bp.mp hnd).2 x hx
    exact (Bp.mp hnd).1 hr
theorem IsT.mem{n:Nat}{t:List Nat}(h:IsT n t){i:Nat}(hi:i < n):i∈t:=zJn n t h.len h.lt h.nd i hi
theorem zFz{α β:Type}{f:α->β}{l:List α}(h:∀ x∈l,∀ y∈l,f x=f y->x=y)(nd:l.Nodup):(l.map f).Nodup:=by
 induction l with
 | nil=>exact Iw
 | cons a r ih =>
  obtain⟨h1,h2⟩:=Bp.mp nd
  refine Bp.mpr ⟨fun hm=>?_,ih (fun x hx y hy=>h x (AK _ hx) y (AK _ hy)) h2⟩
  obtain⟨y,hy,e⟩:=C0.mp hm
  have:=h y (AK _ hy) a AQ e
  subst this
  exact h1 hy
noncomputable def thenL (a b:List Nat):List Nat:=a.map fun k=>b.getD k 0
noncomputable def backL (t:List Nat):List Nat:=(A5 t.length).map fun i=>t.idxOf i
theorem zEh{t:List Nat}{n:Nat}(h:IsT n t){i k:Nat}(e:t[i]?=some k):t.idxOf k=i:=by
 obtain⟨hi,e'⟩:=Ac.mp e
 rw[← e']
 exact h.nd.idxOf_getElem i hi
theorem zJb{n:Nat}{a b:List Nat}(ha:IsT n a)(hb:IsT n b):IsT n (thenL a b):=by
 refine⟨by simp[thenL,ha.len],fun k hk=>?_,?_⟩
 ·obtain⟨x,hx,rfl⟩:=C0.mp hk
  obtain⟨m,hm,hmn⟩:=hb.get (ha.lt x hx)
  simpa [hm] using hmn
 ·unfold thenL
  refine zFz ?_ ha.nd
  intro x hx y hy e
  obtain⟨m,hm,_⟩:=hb.get (ha.lt x hx)
  obtain⟨m',hm',_⟩:=hb.get (ha.lt y hy)
  simp[hm,hm']at e
  subst e
  exact (zEh hb hm).symm.trans (zEh hb hm')
theorem zDD{n:Nat}{t:List Nat}(h:t.Perm (A5 n)):IsT n t :=
 ⟨by rw[h.length_eq]; simp,fun k hk=>by simpa using h.mem_iff.mp hk,h.nodup_iff.mpr Fz⟩
theorem zIe(n:Nat):IsT n (A5 n):=⟨by simp,fun k hk=>by simpa using hk,Fz⟩
theorem zC4(n:Nat):rngT 0 n=tvT (A5 n):=by simp[rngT]
theorem zDg{fs ls:List Nat}{k z:Nat}(hk:ls[k]?=some z):((fs++[z])++ls.eraseIdx k).Perm (fs++ls):=by
 rw[DM]
 refine Lj fs ?_
 obtain⟨hk1,hk2⟩:=Ac.mp hk
 rw[DY]
 have e:ls=ls.take k++z::ls.drop (k+1):=by
  rw[← hk2,List.getElem_cons_drop,List.take_append_drop]
 conv=>rhs; rw[e]
 show (z::(ls.take k++ls.drop (k+1))).Perm _
 exact List.perm_middle.symm
theorem zEk{α β:Type}(f:α->β)(t:List α)(k:Nat):(t.map f).eraseIdx k=(t.eraseIdx k).map f:=by
 rw[DY,DY]; simp
theorem zFu:∀ t:List Nat,atomsOf (tvT t)=some (t.map fun (k:Nat)=>V.int (k:Int))
 | []=>rfl
 | k::r=>by simp only[tvT,Ak,atomsOf]; rw[show atomsOf (r.map fun (k:Nat)=>iT (k:Int))=_ from zFu r]; rfl
theorem zMc(t:List Nat):(t.map fun (k:Nat)=>V.int (k:Int)).all flatV=true:=by simp[flatV]
theorem zK6{t:List Nat}{i:Nat}(h:i∈t):((t.map fun (k:Nat)=>V.int (k:Int)).findIdx? fun z=>eqV z (V.int (i:Int)))=some (t.idxOf i):=by
 have hlt:t.idxOf i < t.length:=List.idxOf_lt_length_iff.mpr h
 refine FU.mpr ⟨by simpa using hlt,?_,fun j hj=>?_⟩
 ·simp[eqV]
 ·have hne:t[j]'(by omega)≠i:=fun e=>by
   have:=List.not_of_lt_findIdx (p:=(· == i)) (xs:=t) (show j < t.findIdx (· == i) from hj)
   simp[e]at this
  simp only[List.getElem_map,eqV]
  simpa using fun e=>hne (by exact_mod_cast e)
theorem zFN(xs:List T)(n:Nat):cutT xs none (some (n:Int))=xs.take n:=by
 unfold cutT
 rw[HT.sIx_none,HT.sIx_nat,Iv,J1]
 by_cases h:n<=xs.length
 ·rw[Iy h]
 ·rw[Ie (by omega),Cb (AL _),Cb (by omega)]
theorem zFH(xs:List T)(n:Nat):cutT xs (some (n:Int)) none=xs.drop n:=by
 unfold cutT
 rw[HT.sIx_none,HT.sIx_nat]
 by_cases h:n<=xs.length
 ·rw[Iy h,Cb (by simp)]
 ·rw[Ie (by omega),Nat.sub_self,List.take_zero,List.drop_eq_nil_of_le (by omega)]
theorem zIm{t:List Nat}{i k:Nat}(h:t[i]?=some k):atI (tvT t) (i:Int)=some (iT (k:Int)):=by
 rw[zAw]; simp[h]
abbrev Stp:=Nat×List Nat×List Nat
@[simp] noncomputable abbrev stT (s:Stp):T:=.t [iT (s.1:Int),tuT s.2.1,tuT s.2.2]
def StOk (n qs:Nat) (st:List Stp):Prop:=∀ s∈st,s.1 < qs/\IsT n s.2.1/\IsT n s.2.2
@[simp] noncomputable abbrev prT (p:T×T):T:=.t [p.1,p.2]
end D
namespace L2
open PySem PySem.Spec PyProof.Rows
section
variable {X:Cx}{pins:List (Addr×Obj)}{s:AD}{σ:St}{H:Hp}{p:Addr}{vs:List V}
theorem zFo{Q:AB->AD->Prop}{E:AB->AD->Prop}(hc:X.calm=true)(I:Inv X pins σ H s)(hq:SqL X.K H p vs\/SqT X.K H p vs)
  (h:∀ (its:List AB) (o:Obj) (St:Nat->Heap->Prop),Vals vs its->Walks X.prog X.w X.A.in1 s.heap.objs.size [s.heap.objs.size,p] [s.heap.objs.size] its.length (fun i v=>its[i]?=some v) St ->
   St 0 (s.heap.push o)->p < s.heap.objs.size->Q (.ref s.heap.objs.size) { s with heap:=s.heap.push o }):AM (model X.prog X.w) X.A.in1 (HA (.ref p)) Q E s:=by
 rcases hq with hq | hq
 ·obtain⟨its,rv,pl,hz⟩:=I.list hq
  have hl:=pl.isList
  have hlt:p < s.heap.objs.size:=by obtain⟨_,e,_⟩:=hl; exact AJ e
  refine Ja hl ?_
  have W:=Walks.list (prog:=X.prog) (w:=X.w) (A:=X.A.in1) (I.ok.hd hc) s.heap.objs.size p (Ah hlt) its.toArray
  have W':Walks X.prog X.w X.A.in1 s.heap.objs.size [s.heap.objs.size,p] [s.heap.objs.size] its.length (fun i v=>its[i]?=some v) (fun i h=>h.IsListIter s.heap.objs.size p i/\h.IsList p its.toArray):=by simpa using W
  exact h its _ _ rv W' ⟨⟨_,AN _ rfl,rfl,rfl⟩,hl.push _⟩ hlt
 ·obtain⟨its,rv,hl,hz⟩:=I.tuple hq
  have hlt:p < s.heap.objs.size:=by obtain⟨_,e,_⟩:=hl; exact AJ e
  have hl':s.heap.IsTuple p its.toArray:=by obtain⟨o,e,c,n,d⟩:=hl; exact⟨o,e,c,n,d⟩
  refine CL hl' ?_
  have W:=Walks.tuple (prog:=X.prog) (w:=X.w) (A:=X.A.in1) (I.ok.hd hc) s.heap.objs.size p (Ah hlt) its.toArray
  have W':Walks X.prog X.w X.A.in1 s.heap.objs.size [s.heap.objs.size,p] [s.heap.objs.size] its.length (fun i v=>its[i]?=some v) (fun i h=>h.IsTupleIter s.heap.objs.size p i/\h.IsTuple p its.toArray):=by simpa using W
  exact h its _ _ rv W' ⟨⟨_,AN _ rfl,rfl,rfl⟩,hl'.push _⟩ hlt
theorem zD2{ns:List Int}:∀ {its:List AB},Vals (ns.map V.int) its->∀ (i:Nat) v,its[i]?=some v->∃ t,v=.int (ns.getD i 0) t:=by
 induction ns with
 | nil=>intro its h; cases h; intro i v e; simp at e
 | cons n r ih =>
  intro its h
  cases h with
  | cons h1 h2 =>
   intro i v e
   obtain⟨t,rfl⟩:=h1
   cases i with
   | zero=>simp at e; exact⟨t,e.symm⟩
   | succ i=>simpa using ih h2 i v (by simpa using e)
theorem zIu(hc:X.calm=true):CallR X (.builtin "sum") (fun xs H Q=>∃ (p:Addr) (ns:List Int),xs=[.ref p]/\(SqL X.K H p (ns.map V.int)\/SqT X.K H p (ns.map V.int))/\Q (.int ns.sum) H):=by
 intro pins s σ H xs us Q I r h
 obtain⟨p,ns,rfl,hq,q⟩:=h
 obtain⟨u,rfl,rx⟩:=vals1 r
 cases rx
 refine call_sum_walkG (zFo hc I hq fun its o St rv W st0 hlt=>?_)
 refine⟨_,_,_,_,_,_,fun i=>ns.getD i 0,rfl,W,st0,fun b hb=>?_,zD2 rv,fun h' tk t' hk=>?_⟩
 ·rw[BS]
  simp only[AO,A8,or_false]at hb
  rcases hb with rfl | rfl
  ·exact CY _
  ·exact DU hlt
 ·have hl:=rv.length
  rw[preSum_getD,Cb (by rw[← hl]; simp)]
  exact⟨.int ns.sum,H,I.kept (Jd hk),⟨_,rfl⟩,q⟩
noncomputable def minI:List Int->Int
 | []=>0
 | x::r=>r.foldl (fun a b=>if b < a then b else a) x
theorem zEe:∀ (r:List Int) (x:Int),(r.foldl (fun a b=>if b < a then b else a) x∈x::r)/\∀ y∈x::r,r.foldl (fun a b=>if b < a then b else a) x<=y
 | [],x=>by simp
 | z::r,x=>by
  obtain⟨h1,h2⟩:=zEe r (if z < x then z else x)
  rw[Ia]
  refine⟨?_,fun y hy=>?_⟩
  ·rcases AO.mp h1 with e | e
   ·rw[e]; split <;> simp
   ·simp[e]
  ·have h0:=h2 _ AQ
   rcases AO.mp hy with e | e
   ·subst e; split at h0 <;> (split <;> omega)
   ·rcases AO.mp e with e | e
    ·subst e; split at h0 <;> (split <;> omega)
    ·exact h2 y (AK _ e)
theorem zFG(val:Nat->Int):∀ k,IL (fun i j=>decide (val i < val j)) k<=k/\∀ j,j<=k->val (IL (fun i j=>decide (val i < val j)) k)<=val j
 | 0=>⟨AL _,fun j hj=>by rw[Nat.le_zero.mp hj]; exact Ke _⟩
 | k+1=>by
  obtain⟨h1,h2⟩:=zFG val k
  unfold IL
  split
  ·rename_i h; simp at h
   refine⟨AL _,fun j hj=>?_⟩
   by_cases e:j=k+1
   ·rw[e]; exact Ke _
   ·have:=h2 j (by omega); omega
  ·rename_i h; simp at h
   refine⟨by omega,fun j hj=>?_⟩
   by_cases e:j=k+1
   ·rw[e]; exact h
   ·exact h2 j (by omega)
theorem zJu{ns:List Int}{i:Nat}(h:i < ns.length):ns.getD i 0∈ns:=by
 rw[D5,Bw h]; exact ES h
theorem zIg{ns:List Int}{a:Int}(h:a∈ns):∃ i,i < ns.length/\ns.getD i 0=a:=by
 obtain⟨i,hi,e⟩:=List.getElem_of_mem h
 exact⟨i,hi,by rw[D5,Bw hi,e]; rfl⟩
theorem zJp(hc:X.calm=true):CallR X (.builtin "min") (fun xs H Q=>∃ (p:Addr) (ns:List Int),xs=[.ref p]/\(SqL X.K H p (ns.map V.int)\/SqT X.K H p (ns.map V.int))/\0 < ns.length/\Q (.int (minI ns)) H):=by
 intro pins s σ H xs us Q I r h
 obtain⟨p,ns,rfl,hq,h0,q⟩:=h
 obtain⟨u,rfl,rx⟩:=vals1 r
 cases rx
 refine call_min_walk (zFo hc I hq fun its o St rv W st0 hlt=>?_)
 have hl:=rv.length
 rw[A7]at hl
 refine⟨_,_,_,_,_,_,_,rfl,W,st0,fun b hb=>?_,by omega,CmpOf.ints_lt (fun i=>ns.getD i 0) (zD2 rv),fun v h' tk hv hk=>?_⟩
 ·rw[BS]
  simp only[AO,A8,or_false]at hb
  rcases hb with rfl | rfl
  ·exact CY _
  ·exact DU hlt
 ·obtain⟨t,rfl⟩:=zD2 rv _ _ hv
  obtain⟨b1,b2⟩:=zFG (fun i=>ns.getD i 0) (its.length - 1)
  refine⟨.int (minI ns),H,I.kept (Jd hk),?_,q⟩
  have e:ns.getD (IL (fun i j=>decide (ns.getD i 0 < ns.getD j 0)) (its.length - 1)) 0=minI ns:=by
   cases ns with
   | nil=>simp at h0
   | cons x r =>
    obtain⟨m1,m2⟩:=zEe r x
    have a1:=m2 _ (zJu (ns:=x::r) (i:=IL (fun i j=>decide ((x::r).getD i 0 < (x::r).getD j 0)) (its.length - 1)) (by omega))
    obtain⟨j,hj,ej⟩:=zIg m1
    have a2:=b2 j (by omega)
    show _=r.foldl (fun a b=>if b < a then b else a) x
    rw[ej]at a2
    exact Int.le_antisymm a2 a1
  exact⟨t,by rw[e]⟩
end
end L2
namespace D
open PySem L2
noncomputable def sumS:En->List S->Option S:=fun Γ as=>match as with
 | [a]=>(seqS Γ a).bind fun xs=>(intsOf xs).map fun ns=>.v (.a (.int ns.sum))
 | _=>none
noncomputable def min1S:En->List S->Option S:=fun Γ as=>match as with
 | [a]=>(seqS Γ a).bind fun xs=>(intsOf xs).bind fun ns=>if 0 < ns.length then some (.v (.a (.int (minI ns)))) else none
 | _=>none
theorem zFt{K:Fg}{C:Fr}{w:W}{Γ:En}{σ:St}{H:Hp}{x:V}{s:S}{xs:List T}{ns:List Int}(R:Rep K C w Γ σ H)(o:SOk K C w σ H x s)(e:seqS Γ s=some xs)(e2:intsOf xs=some ns) :
  ∃ p,x=.ref p/\(SqL K H p (ns.map V.int)\/SqT K H p (ns.map V.int)):=by
 obtain⟨p,us,rfl,h1,i1⟩:=zD0 R o e
 have hu:us=ns.map V.int:=by rw[zCY e2]at i1; exact i1.of_atoms
 subst hu
 exact⟨p,rfl,h1⟩
theorem zJ1{K:Fg}:SimRs K (fun xs H Q=>∃ (p:Addr) (ns:List Int),xs=[.ref p]/\(SqL K H p (ns.map V.int)\/SqT K H p (ns.map V.int))/\Q (.int ns.sum) H) sumS:=by
 intro C w Γ σ H vs as s Q R o e k
 unfold sumS at e
 split at e
 ·obtain⟨xs,e1,e⟩:=bind_some e
  obtain⟨ns,e2,e⟩:=zAE e
  cases e
  obtain⟨v,rfl,o1⟩:=soks1 o
  obtain⟨p,rfl,h⟩:=zFt R o1 e1 e2
  exact⟨p,ns,rfl,h,k _ H R .refl SOk.atom trivial⟩
 ·cases e
theorem zG7{K:Fg}:SimRs K (fun xs H Q=>∃ (p:Addr) (ns:List Int),xs=[.ref p]/\(SqL K H p (ns.map V.int)\/SqT K H p (ns.map V.int))/\0 < ns.length/\Q (.int (minI ns)) H) min1S:=by
 intro C w Γ σ H vs as s Q R o e k
 unfold min1S at e
 split at e
 ·obtain⟨xs,e1,e⟩:=bind_some e
  obtain⟨ns,e2,e⟩:=bind_some e
  split at e
  ·cases e
   obtain⟨v,rfl,o1⟩:=soks1 o
   obtain⟨p,rfl,h⟩:=zFt R o1 e1 e2
   exact⟨p,ns,rfl,h,by assumption,k _ H R .refl SOk.atom trivial⟩
  ·cases e
 ·cases e
section
variable {ι:Type}{K:Fg}{X:ι->Cx}{mg:Str->Option AB}{k:Nat}
theorem zM2(M:Fm K mg k X):CalR K X (.builtin "sum") sumS:=⟨_,fun j=>by have:=zIu (M.calm j); rw[M.K j]at this; exact this,zJ1⟩
theorem zL5(M:Fm K mg k X):CalR K X (.builtin "min") min1S:=⟨_,fun j=>by have:=zJp (M.calm j); rw[M.K j]at this; exact this,zG7⟩
end
noncomputable def dK (t:T):DE:=fun Γ=>some (.v t,Γ)
def KV (K:Fg) (mg:Str->Option AB) (x:Str) (t:T):Prop:=∃ v u,mg x=some u/\RelV v u/\∀ H:Hp,Im K H v t
section
variable {ι:Type}{K:Fg}{X:ι->Cx}{mg:Str->Option AB}{k:Nat}{pos:Pos}{x:Str}{t:T}
theorem zOS{v:V}(h:∀ H:Hp,Im K H v t):SimE K (tC v) (dK t):=by
 intro C w Γ σ H s Γ' Q R e k
 cases e
 exact k v H R .refl (h H) trivial
theorem ex_k(t:T)(M:Fm K mg k X)(c:KV K mg x t)(hg:∀ j,Gl (X j) x:=by intro _; rfl)(hd:(x == ("__debug__":Str))=false:=by decide):EX K X (.Name x pos) (dK t) :=
 let ⟨v,u,h1,h2,h3⟩:=c
 ⟨tC v,fun j=>zEI (hg j) (by rw[M.mg]; exact h1) h2 hd,zOS h3⟩
end
theorem zGm{K:Fg}{mg:Str->Option AB}{x:Str}{p:Addr}{its:List AB}{n:Nat}{sl:Array (Option AB)}(ns:List Int)(h1:mg x=some (.ref p))(h2:K.lookup p=some ⟨.type "tuple",none,.seq its.toArray n,sl⟩)(h3:Vals (ns.map V.int) its)(h4:its.length<=AE)(h5:cOk (ns.map V.int)=true:=by rfl):KV K mg x (.t ((ns.map V.int).map T.a)) :=
 ⟨.ref p,.ref p,h1,rfl,fun H=>by unfold Im; exact⟨p,ns.map V.int,rfl,.inr ⟨_,its.toArray,n,h2,rfl,rfl,rfl,by simpa using h4,by simpa using h3,h5⟩,Ims.atoms _⟩⟩
end D
namespace D
open PySem L2
open PySem.SeqAt
end D
namespace L2
open PySem PySem.Spec PyProof.Rows
section
variable {κ:Type} [DecidableEq κ]
noncomputable def valV (kvs:List (κ×V)) (k:κ):Option V:=(kvs.find? fun kv=>decide (kv.1=k)).map (·.2)
noncomputable def putK (kvs:List (κ×V)) (k:κ) (v:V):List (κ×V) :=
 if (kvs.any fun kv=>decide (kv.1=k))=true then kvs.map (fun kv=>if kv.1=k then (kv.1,v) else kv) else kvs++[(k,v)]
theorem zDN{p:κ×V}{r:List (κ×V)}{k:κ}(e:p.1=k):valV (p::r) k=some p.2:=by simp[valV,CM,e]
theorem zDK{p:κ×V}{r:List (κ×V)}{k:κ}(e:¬ p.1=k):valV (p::r) k=valV r k:=by simp[valV,CM,e]
theorem zGS(kvs:List (κ×V))(k:κ)(v:V):(putK kvs k v).length<=kvs.length+1:=by
 unfold putK
 split
 ·rw[A7]; omega
 ·rw[Aq,BI,Ej]; omega
theorem KV.val{kvs:List (κ×V)}{vs:List (κ×AB)}(r:KV kvs vs)(k:κ):RelO (valV kvs k) (GQ vs k):=by
 unfold KV at r
 induction r with
 | nil=>exact EZ
 | @cons p q ps qs h t ih =>
  obtain⟨h1,h2⟩:=h
  by_cases e:p.1=k
  ·have e':q.1=k:=h1.symm.trans e
   have b:GQ (q::qs) k=some q.2:=by simp[GQ,CM,e']
   rw[zDN e,b]; exact h2
  ·have e':¬ q.1=k:=fun z=>e (h1.trans z)
   have b:GQ (q::qs) k=GQ qs k:=by simp[GQ,CM,e']
   rw[zDK e,b]; exact ih
theorem KV.any{kvs:List (κ×V)}{vs:List (κ×AB)}(r:KV kvs vs)(k:κ):(kvs.any fun kv=>decide (kv.1=k))=vs.any fun kv=>decide (kv.1=k):=by
 unfold KV at r
 induction r with
 | nil=>rfl
 | cons h t ih=>rw[C4,C4,ih,h.1]
theorem KV.repl{kvs:List (κ×V)}{vs:List (κ×AB)}(r:KV kvs vs)(k:κ){y:V}{u:AB}(ry:RelV y u) :
  KV (kvs.map fun kv=>if kv.1=k then (kv.1,y) else kv) (vs.map fun kv=>if kv.1=k then (kv.1,u) else kv):=by
 unfold KV at r ⊢
 induction r with
 | nil=>exact .nil
 | @cons p q ps qs h t ih =>
  rw[Ak,Ak]
  refine .cons ?_ ih
  obtain⟨h1,h2⟩:=h
  by_cases e:p.1=k
  ·rw[if_pos e,if_pos (h1.symm.trans e)]; exact⟨h1,ry⟩
  ·rw[if_neg e,if_neg (fun z=>e (h1.trans z))]; exact⟨h1,h2⟩
theorem KV.put{kvs:List (κ×V)}{vs:List (κ×AB)}(r:KV kvs vs)(k:κ){y:V}{u:AB}(ry:RelV y u):KV (putK kvs k y) (stored vs k u):=by
 unfold putK stored
 rw[r.any k]
 by_cases e:(vs.any fun kv=>decide (kv.1=k))=true
 ·rw[if_pos e,if_pos e]; exact r.repl k ry
 ·rw[if_neg e,if_neg e]; exact Paired.snoc r ⟨rfl,ry⟩
end
theorem zHj{P:AY}{w:Af}{k:Key}{u:AB}(r:RelV (kV k) u):(mixKind P w).is k u=true:=by
 cases k with
 | inl i=>obtain⟨t,e⟩:=(show ∃ t,u=Bb i t from r); subst e; exact zGL P w i t
 | inr x=>obtain⟨t,e⟩:=(show ∃ t,u=Ex x t from r); subst e; exact zGF P w x t
theorem zEp{P:AY}{w:Af}:∀ {ks:List Key} {us:List AB},Vals (ks.map kV) us->ItemsAre (mixKind P w) ks us
 | [],_,r=>by rw[BE]at r; cases r; exact .nil
 | k::ks,_,r=>by
  rw[Ak]at r
  cases r with
  | cons h t=>exact .cons (zHj h) (zEp t)
noncomputable abbrev KT (H:Hp):List (List Key×V)->List (List Key×Addr×AB)->Prop:=Eb fun p q=>p.1=q.1/\H q.2.1=some (.tup (p.1.map kV))/\RelV p.2 q.2.2
theorem KT.val{H:Hp}{kvs:List (List Key×V)}{xs:List (List Key×Addr×AB)}(r:KT H kvs xs)(k:List Key):RelO (valV kvs k) ((Ig xs k).map (·.2)):=by
 induction r with
 | nil=>exact EZ
 | @cons p q ps qs h t ih =>
  obtain⟨h1,_,h2⟩:=h
  by_cases e:p.1=k
  ·have e':q.1=k:=h1.symm.trans e
   have b:Ig (q::qs) k=some q.2:=by simp[Ig,CM,e']
   rw[zDN e,b]; exact h2
  ·have e':¬ q.1=k:=fun z=>e (h1.trans z)
   have b:Ig (q::qs) k=Ig qs k:=by simp[Ig,CM,e']
   rw[zDK e,b]; exact ih
section
variable {P:AY}{w:Af}{H:Hp}{h:Heap}{a:Addr}
theorem zLR{u:HO}(ok:HOk P w H h)(e:Rd H a u):ObjOk P w H h a u:=e.ok ok
theorem zLW{kvs:List (Key×V)}(ok:HOk P w H h)(e:Rd H a (.dK kvs)):kvs.length<=AE/\(a == EK)=false/\∃ vs,KV kvs vs/\h.DictOf (mixKind P w) a vs :=
 show ObjOk P w H h a (.dK kvs) from zLR ok e
theorem zIt{ks:List Key}(ok:HOk P w H h)(e:H a=some (.tup (ks.map kV))):(Ho (mixKind P w)).is h ks a:=by
 obtain⟨_,its,r,o,h1,h2,⟨n,h3⟩,_⟩:=(show ObjOk P w H h a (.tup (ks.map kV)) from ok a _ e)
 exact⟨o,its.toArray,n,h1,h2,h3,by simpa using zEp r⟩
theorem zLH{kvs:List (List Key×V)}(ok:HOk P w H h)(e:Rd H a (.dT kvs)):kvs.length<=AE/\(a == EK)=false /\
  ∃ xs,KT H kvs xs/\h.DictOfH (Ho (mixKind P w)) a xs:=by
 obtain⟨z,y,xs,r,o,es,ep,h1,h2,h3,h4,h5⟩:=(show ObjOk P w H h a (.dT kvs) from zLR ok e)
 refine⟨z,y,xs,r,o,es,ep,h1,h2,h3,h4,fun x hx=>?_,h5⟩
 have all:∀ {l:List (List Key×V)} {m:List (List Key×Addr×AB)},KT H l m->∀ x∈m,(Ho (mixKind P w)).is h x.1 x.2.1:=by
  intro l m q
  induction q with
  | nil=>intro x hx; exact nomatch hx
  | @cons p q ps qs hq t ih =>
   intro x hx
   rcases AO.mp hx with e | hx
   ·subst e
    exact zIt ok (by rw[← hq.1]; exact hq.2.1)
   ·exact ih x hx
 exact all r x hx
end
noncomputable def DGet (H:Hp) (a:Addr) (y:V) (r:Option V):Prop :=
 (∃ kvs k,Rd H a (.dK kvs)/\y=kV k/\r=valV kvs k)\/∃ kvs k b,Rd H a (.dT kvs)/\y=.ref b/\H b=some (.tup (k.map kV))/\r=valV kvs k
theorem DGet.k{H:Hp}{a:Addr}{kvs:List (Key×V)}{k:Key}(e:H a=some (.dK kvs)):DGet H a (kV k) (valV kvs k):=.inl ⟨kvs,k,.inl e,rfl,rfl⟩
section
variable {X:Cx}{pins:List (Addr×Obj)}{σ:St}{H:Hp}{s:AD}{a:Addr}{y v:V}{u r:AB}{o:Option V}{A:Ao}{E:AB->AD->Prop}
theorem Inv.big(I:Inv X pins σ H s):EK < s.heap.objs.size:=by
 have h:AR < s.heap.objs.size:=(I.mod.glob.keeps I.bk).lt
 exact HJ (by decide) h
theorem zJ0{Q:AB->AD->Prop}(hu:A.units+1 < Ks)(I:Inv X pins σ H s)(g:DGet H a y (some v))(ry:RelV y u)(h:∀ w' s',Inv X pins σ H s'->RelV v w'->Q w' s') :
  AM (model X.prog X.w) A (EY (.ref a) u) Q E s:=by
 rcases g with ⟨kvs,k,e,ey,l⟩ | ⟨kvs,k,b,e,ey,eb,l⟩
 ·subst ey
  obtain⟨z,hd,vs,rel,dd⟩:=zLW I.hok e
  obtain⟨w',hw,rw'⟩:=RelO.some_of (v:=v) (o:=GQ vs k) (by rw[l]; exact rel.val k)
  exact wpAny_getItem_of (zHj ry) dd.mapOf hw (h w' _ (I.tok _) rw')
 ·subst ey
  cases (show u=Ai b from ry)
  obtain⟨z,hd,xs,rel,dd⟩:=zLH I.hok e
  obtain⟨w',hw,rw'⟩:=RelO.some_of (v:=v) (o:=(Ig xs k).map (·.2)) (by rw[l]; exact rel.val k)
  obtain⟨p,hp,hp2⟩:=Option.map_eq_some_iff.mp hw
  refine wpAny_getItem_heap (tupleKind_room_in1 hu) (zIt I.hok eb) dd hp ?_
  rw[hp2]
  exact h w' _ (I.tok _) rw'
theorem zNq{P:AY}{w:Af}{H':Hp}{h':Heap}{kvs:List (Key×V)}{vs:List (Key×AB)}(z:kvs.length<=AE)(hd:(a == EK)=false)(rel:KV kvs vs)(dd:h'.DictOf (mixKind P w) a vs) :
  ObjOk P w H' h' a (.dK kvs):=⟨z,hd,vs,rel,dd⟩
end
def NoSl (i:Expr):Prop:=∀ ov iv,subscripted i false ov iv=operate [ov,iv] (EY ov iv)
theorem zMd{prog:AY}{w:Af}{A:Ao}{E:AB->AD->Prop}{s:AD}{env:Env}{value slice:Expr}{pos:Pos}{T id:String}{Q:AB->AD->Prop}
  (hl:Dp (.type T) "__getitem__"=pure (some (.builtin id))) (hs:NoSl slice)
  (h:AM (model prog w) A (eval value env) (fun o s₁=>AM (model prog w) A (eval slice env) (fun i s₂=>s₂.TypeIs o T/\AM (model prog w) A (EY o i) Q E s₂) E s₁) E s) :
  AM (model prog w) A (eval (.Subscript value slice pos) env) Q E s:=by
 refine JD (BF h (fun o s₁ h₁=>BF h₁ (fun i s₂ h₂=>?_) fun _ _ x=>x) fun _ _ x=>x)
 obtain⟨hT,h₂⟩:=h₂
 unfold Hg
 refine AA ?_
 rw[getitemInPython_of_ne hT.not_modules]
 refine AA (CP hT hl ?_)
 have fin:AM (model prog w) A (subscripted slice false o i) (fun r s₃=>AM (model prog w) A (letTemporaryGo value o r >>= fun _=>pure r) Q E s₃) E s₂:=by
  rw[hs o i]
  exact wpAny_operating (BF h₂ (fun r s₃ h₃=>AA (wpAny_letTemporaryGo (AG h₃))) fun _ _ x=>x)
 first
  | exact AG (AA fin)
  | exact AA (AG (AA fin))
  | exact AA fin
theorem zGQ{X:Cx}{pins:List (Addr×Obj)}{σ:St}{H:Hp}{s:AD}{a:Addr}{y:V}{o:Option V}(I:Inv X pins σ H s)(g:DGet H a y o):s.TypeIs (.ref a) "dict":=by
 rcases g with ⟨kvs,k,e,_,_⟩ | ⟨kvs,k,b,e,_,_,_⟩
 ·obtain⟨_,_,vs,_,dd⟩:=zLW I.hok e
  exact dd.typeIs
 ·obtain⟨_,_,xs,_,dd⟩:=zLH I.hok e
  exact dd.typeIs
noncomputable def tDGet (td ty:TE):TE:=fun σ H Q=>td σ H fun x H1=>ty σ H1 fun y H2=>∃ a v,x=.ref a/\DGet H2 a y (some v)/\Q v H2
section
variable {X:Cx}{o i e value:Expr}{pos pos' tpos:Pos}{td ty tv:TE}
theorem zLo(hu:X.A.units+1 < Ks)(ho:PE X o td)(hi:PE X i ty)(hs:NoSl i):PE X (.Subscript o i pos) (tDGet td ty):=by
 intro pins s σ H Q I h
 refine zMd PySem.F.slot_dict_getitem.lookup hs (thn (ho pins s σ H _ I h) fun u s1 ⟨x,H1,I1,rx,q1⟩=>thn (hi pins s1 σ H1 _ I1 q1) fun iv s2 ⟨y,H2,I2,ry,a,v,ex,g,q2⟩=>?_)
 subst ex
 obtain rfl:u=Ai a:=rx
 exact⟨zGQ I2 g,zJ0 hu I2 g ry fun w' s3 I3 rw'=>⟨v,H2,I3,rw',q2⟩⟩
end
noncomputable abbrev VV:List (V×V)->List (AB×AB)->Prop:=Eb fun p q=>RelV p.1 q.1/\RelV p.2 q.2
noncomputable def mergeK (kvs more:List (Key×V)):List (Key×V):=more.foldl (fun acc kv=>putK acc kv.1 kv.2) kvs
theorem KV.merge:∀ {more:List (Key×V)} {rs:List (Key×AB)} {kvs:List (Key×V)} {vs:List (Key×AB)},KV more rs->KV kvs vs->KV (mergeK kvs more) (merged vs rs):=by
 intro more rs kvs vs r
 unfold KV at r
 induction r generalizing kvs vs with
 | nil=>intro q; exact q
 | @cons p q ps qs h t ih =>
  intro r0
  have e:KV (putK kvs p.1 p.2) (stored vs q.1 q.2):=by
   have:=r0.put p.1 h.2
   rw[← h.1]; exact this
  exact ih e
theorem zCP:∀ (more kvs:List (Key×V)),(mergeK kvs more).length<=kvs.length+more.length
 | [],kvs=>by show kvs.length<=kvs.length+0; omega
 | p::r,kvs=>by
  have h1:=zCP r (putK kvs p.1 p.2)
  have h2:=zGS kvs p.1 p.2
  show (mergeK (putK kvs p.1 p.2) r).length<=_
  rw[BI]; omega
end L2
namespace D
open PySem L2
noncomputable def keyT:T->Option Key
 | .a (.int n)=>some (.inl n)
 | .a (.str x)=>some (.inr x)
 | _=>none
noncomputable def keyTs:List T->Option (List Key)
 | []=>some []
 | t::r=>(keyT t).bind fun k=>(keyTs r).map fun ks=>k::ks
theorem zGo{K:Fg}{H:Hp}{y:V}{t:T}{k:Key}(h:Im K H y t)(e:keyT t=some k):y=kV k:=by
 unfold keyT at e
 split at e
 ·cases e; exact h.inva
 ·cases e; exact h.inva
 ·cases e
theorem zFE{K:Fg}{H:Hp}:∀ {vs:List V} {ts:List T} {ks:List Key},Ims K H vs ts->keyTs ts=some ks->vs=ks.map kV
 | _,[],_,h,e=>by cases e; exact h.inv0
 | _,t::r,_,h,e=>by
  obtain⟨v,vs,rfl,h1,h2⟩:=h.inv
  obtain⟨k,e1,e⟩:=bind_some e
  obtain⟨ks,e2,e⟩:=zAE e
  subst e
  rw[zGo h1 e1,zFE h2 e2]; rfl
section
variable {κ:Type} [DecidableEq κ]
noncomputable def valT (kvs:List (κ×T)) (k:κ):Option T:=(kvs.find? fun kv=>decide (kv.1=k)).map (·.2)
noncomputable def putT (kvs:List (κ×T)) (k:κ) (t:T):List (κ×T) :=
 if (kvs.any fun kv=>decide (kv.1=k))=true then kvs.map (fun kv=>if kv.1=k then (kv.1,t) else kv) else kvs++[(k,t)]
def PR (K:Fg) (H:Hp) (l:List (κ×V)) (kvs:List (κ×T)):Prop:=Eb (fun a b=>a.1=b.1/\Im K H a.2 b.2) l kvs
variable {K:Fg}{H:Hp}
theorem PR.val{l:List (κ×V)}{kvs:List (κ×T)}(h:PR K H l kvs)(k:κ):(valV l k=none/\valT kvs k=none)\/∃ v t,valV l k=some v/\valT kvs k=some t/\Im K H v t:=by
 induction h with
 | nil=>exact .inl ⟨rfl,rfl⟩
 | @cons a b l kvs hab _ ih =>
  by_cases e:a.1=k
  ·refine .inr ⟨a.2,b.2,zDN e,?_,hab.2⟩
   simp[valT,CM,← hab.1,e]
  ·rw[zDK e]
   have:valT (b::kvs) k=valT kvs k:=by simp[valT,CM,← hab.1,e]
   rw[this]; exact ih
theorem PR.any{l:List (κ×V)}{kvs:List (κ×T)}(h:PR K H l kvs)(k:κ):(l.any fun kv=>decide (kv.1=k))=kvs.any fun kv=>decide (kv.1=k):=by
 induction h with
 | nil=>rfl
 | @cons a b l kvs hab _ ih=>rw[C4,C4,ih,hab.1]
theorem PR.app{l m:List (κ×V)}{kvs mvs:List (κ×T)}(h:PR K H l kvs)(h':PR K H m mvs):PR K H (l++m) (kvs++mvs):=by
 induction h with
 | nil=>exact h'
 | @cons a b l kvs hab _ ih=>exact .cons hab ih
theorem PR.put{l:List (κ×V)}{kvs:List (κ×T)}(h:PR K H l kvs)(k:κ){v:V}{t:T}(hv:Im K H v t):PR K H (putK l k v) (putT kvs k t):=by
 unfold putK putT
 rw[h.any k]
 split
 ·rename_i hx; clear hx
  induction h with
  | nil=>exact .nil
  | @cons a b l kvs hab _ ih =>
   rw[Ak,Ak]
   refine .cons ?_ ih
   by_cases e:a.1=k
   ·rw[if_pos e,if_pos (hab.1 ▸ e)]; exact⟨hab.1,hv⟩
   ·rw[if_neg e,if_neg (hab.1 ▸ e)]; exact hab
 ·exact h.app (.cons ⟨rfl,hv⟩ .nil)
end
noncomputable def dictOf (Γ:En):S->Option Dk
 | .d d=>some d
 | .s i=>match Γ[i]? with
  | some (some (.d d))=>some d
  | some (some (.e d))=>some d
  | _=>none
 | _=>none
section
variable {K:Fg}{C:Fr}{w:W}{Γ:En}{σ:St}{H:Hp}{cs:List (List Key)}
theorem zLn{x:V}{s:S}{d:Dk}(R:Rep K C w Γ σ H)(o:SOk K C w σ H x s)(e:dictOf Γ s=some d):∃ p ob,x=.ref p/\H p=some ob/\DOk K H ob d:=by
 cases s with
 | v t=>cases e
 | l _=>cases e
 | d d' =>
  cases e
  obtain⟨p,ob,rfl,_,_,_,h1,h2⟩:=o
  exact⟨p,ob,rfl,h1,h2⟩
 | s i =>
  unfold dictOf at e
  have o':σ[i]?=some (some x):=o
  dsimp only at e
  split at e
  ·rename_i d' hi
   cases e
   obtain⟨v,e1,p,ob,rfl,_,h1,h2⟩:=R.val i _ hi
   rw[o']at e1; cases e1
   exact⟨p,ob,rfl,h1,h2⟩
  ·rename_i d' hi
   cases e
   obtain⟨v,e1,p,ob,rfl,h2,h1,_⟩:=R.val i _ hi
   rw[o']at e1; cases e1
   exact⟨p,ob,rfl,h1,h2⟩
  ·cases e
theorem DOk.invK{ob:HO}{kvs:List (Key×T)}(h:DOk K H ob (.inl kvs)):∃ l,ob=.dK l/\PR K H l kvs:=by
 cases ob with
 | dK l=>exact⟨l,rfl,h⟩
 | _=>exact h.elim
end
noncomputable def rDGet:R2:=fun x y H Q=>∃ a v,x=.ref a/\DGet H a y (some v)/\Q v H
section
variable {ι:Type}{K:Fg}{mg:Str->Option AB}{k:Nat}{X:ι->Cx}{cs:List (List Key)}{o i e f:Expr}{fo fk fx:DE}{pos apos cpos:Pos}{ip:Option Nat}
theorem un1(M:Fm K mg k X)(j:ι):(X j).A.units+1 < Ks:=by have:=(M.room j).un; omega
end
end D
namespace L2
open PySem PySem.Spec PyProof.Rows
theorem zDO:Dp (.type "zip") "__getattr__"=pure none:=by rw[Ba,BD]; kernel_rfl
theorem zE0:Dp (.type "zip") "keys"=pure none:=by rw[Ba,BD]; kernel_rfl
theorem zBx:HQ table "zip.__getattribute__"=some Builtin.«object.__getattribute__» :=
 K3 (id':="object.__getattribute__") (by kernel_rfl) (by decide +kernel) (by decide +kernel) (by kernel_rfl)
theorem zEL(a:Addr)(fs:Array AB)(sl:Array (Option AB))(u:Tok) :
  JZ (Builtin.«object.__getattribute__» ⟨[.ref a,.str "keys" u],[]⟩) (fun A R s=>s.heap.get? a=some { cls:=.type "zip",dict:=none,data:=.fields fs,slots:=sl }/\raisesAttr (.ref a) "keys" A R s) :=
 Meets.of_wp fun prog w A R s hs=>by
  obtain⟨hp,g,d,tk,os⟩:=s
  obtain⟨hx,hs⟩:=hs
  have hT:(⟨hp,g,d,tk,os⟩:AD).TypeIs (.ref a) "zip":=⟨_,hx,rfl⟩
  have hname:(["__module__","__name__","__qualname__","__doc__","__annotations__"]:List Str).contains "keys"=false:=by decide +kernel
  have hmiss:=zE0
  unfold Builtin.«object.__getattribute__»
  repeat (any_goals (first | assumption | wp_step))
  repeat (any_goals (first | assumption | wp_step))
  exact wpAny_raiseAttrError hs.1 hs.2 (attrMsg_fits (by decide +kernel) (by decide +kernel))
theorem getAttr?_miss_zip{prog:AY}{w:Af}{A:Ao}{E:AB->AD->Prop}{s:AD}{a:Addr}{fs:Array AB}{Q:Option AB->AD->Prop}
  (hx:s.heap.get? a=some { cls:=.type "zip",data:=.fields fs }) (hA:A.handled=none)
  (h:∀ h' tk e,Heap.NewExcOf s.heap h' e "AttributeError"->Q none { s with heap:=h',toks:=tk }) :
  AM (model prog w) A (HS (.ref a) "keys") Q E s:=by
 obtain⟨hp,g,d,tk,os⟩:=s
 have hT:∀ tk',(⟨hp,g,d,tk',os⟩:AD).TypeIs (.ref a) "zip":=fun _=>⟨_,hx,rfl⟩
 have f1:=sub_AttributeError
 have f3:=Ek.lookup
 have f4:=Ek.bind (.ref a)
 have f5:=zDO
 unfold HS getAttrBy? J3
 repeat (any_goals (first | assumption | exact hT _ | ((with_reducible show AM _ _ (call (B7 "zip.__getattribute__") _ _) _ _ _); refine Dq Ek (hT _) zBx (F.args_zip_getattribute_2 _ _) (zEL a fs #[] _) ⟨hx,hA,fun h' tk' e hx'=>?_⟩) | wp_step))
 obtain⟨t',u',he⟩:=hx'.there
 show AM _ _ (JK _ _ _ _ _ _ _) _ _ _
 unfold JK
 repeat (any_goals (first | assumption | wp_step))
 exact h _ _ _ hx'.of
noncomputable abbrev IsZO (h:Heap) (z TI TO T:Addr) (f:Bool):Prop :=
 h.get? z=some { cls:=.type "zip",dict:=none,data:=.fields #[B4 T,.bool f,.bool false,.ref TI,.ref TO],slots:=#[] }
section
variable {prog:AY}{w:Af}{A:Ao}{E:AB->AD->Prop}{s:AD}
theorem zKr{a:Addr}{o:Obj}{Q:Option Obj->AD->Prop}(ho:s.heap.get? a=some o)(h:Q (some o) s):AM (model prog w) A (loadIfAlive a) Q E s:=by
 exact PySem.W.kdx_alive ho h
variable {z TI TO i1 i2 l1 l2 T:Addr}{S1 S2:Nat->Heap->Prop}{xs ys:Array AB}{k:Nat}{f:Bool}{oT:Obj}
theorem zEU{Q:Bool->AD->Prop}(hz:IsZO s.heap z TI TO T f)(hT:s.heap.get? T=some oT)
  (h:∀ h1,IsZO h1 z TI TO T true->BZ z s.heap h1->Q false { s with heap:=h1 }):AM (model prog w) A (Aj (.ref z)) Q E s:=by
 unfold Aj
 refine AA (Ag hz rfl (x:=B4 T) rfl ?_)
 show AM _ _ (loadIfAlive (T:Int).toNat >>= _) _ _ _
 rw[Bm]
 refine AA (zKr hT ?_)
 simp only[Option.isNone_some,BP,if_false]
 refine AA (Ag hz rfl (x:=.bool f) rfl ?_)
 cases f with
 | true=>exact AG (h _ hz (Kh _ _))
 | false =>
  refine AA (A9 hz (by simp) fun h1 z1 b1=>?_)
  exact AG (h h1 z1 b1)
theorem zJe{x y:AB}{Q:AB->AD->Prop}(D:ZAp z TI TO i1 i2 l1 l2)(D1:Drawer prog w i1 l1 xs S1)(D2:Drawer prog w i2 l2 ys S2)(hz:IsZO s.heap z TI TO T f)(hT:s.heap.get? T=some oT)(hTI:Ct s.heap TI (.ref i1) (.ref i2))(st1:S1 k s.heap)(st2:S2 k s.heap)(hx:xs[k]?=some x)(hy:ys[k]?=some y)
  (hQ:∀ h',IsZO h' z TI TO T true->S1 (k+1) h'->S2 (k+1) h'->Ct h' s.heap.objs.size x y ->
   (∀ c o,c≠z->c≠i1->c≠i2->s.heap.get? c=some o->h'.get? c=some o)->Q (.ref s.heap.objs.size) { s with heap:=h' }) :
  AM (model prog w) A (Builtin.«zip.__next__» ⟨[.ref z],[]⟩) (fun fin s'=>∃ v,fin=.done (.ret v)/\Q v s') E s:=by
 obtain⟨⟨TIz,TOz,i1z,i2z,TITO,TIi1,TIi2,TOi1,TOi2,i12,l1z,l1TO,l1i1,l1i2,l2z,l2TO,l2i1,l2i2⟩,_,_⟩:=D
 show AM _ _ (field (.ref z) 2 >>= _) _ _ _; refine AA (Ag hz rfl (x:=.bool false) rfl ?_)
 show AM _ _ (field (.ref z) 3 >>= _) _ _ _; refine AA (Ag hz rfl (x:=.ref TI) rfl (AA (Be hTI rfl ?_)))
 show AM _ _ (Aj (.ref z) >>= _) _ _ _
 refine AA (zEU hz hT fun h1 z1 b1=>?_)
 simp only[BP,if_false]
 refine AA ?_
 rw[← Hm]
 simp only[Cn,DP]
 refine AA (AA (BO ?_)); show AM _ _ (Ap (.ref i1) >>= _) _ _ _
 refine AA (D1.item _ k _ x _ _ (D1.keep _ _ _ st1 (fun o e=>b1.extBut _ _ i1z e) fun o e=>b1.extBut _ _ l1z e) hx fun h2 t1 b2=>AG ?_)
 refine AG (AA (AA (BO ?_))); show AM _ _ (Ap (.ref i2) >>= _) _ _ _
 have s2':S2 k h2:=D2.keep _ _ _ st2 (fun o e=>b2.extBut _ _ i12.symm (b1.extBut _ _ i2z e)) fun o e=>b2.extBut _ _ l2i1 (b1.extBut _ _ l2z e)
 refine AA (D2.item _ k _ y _ _ s2' hy fun h4 t2 b4=>AG ?_)
 refine AG (AG ?_)
 refine AA (HK ?_ (by show 2<=AE; decide))
 have hsz:h4.objs.size=s.heap.objs.size:=by rw[b4.1,b2.1,b1.1]
 have z4:IsZO h4 z TI TO T true:=b4.extBut _ _ i2z.symm (b2.extBut _ _ i1z.symm z1)
 have k4:∀ c o,c≠z->c≠i1->c≠i2->s.heap.get? c=some o->h4.get? c=some o:=fun c o c1 c3 c4 e=>b4.extBut _ _ c4 (b2.extBut _ _ c3 (b1.extBut _ _ c1 e))
 have t1':S1 (k+1) h4:=D1.keep _ _ _ t1 (fun o e=>b4.extBut _ _ i12 e) fun o e=>b4.extBut _ _ l1i2 e
 refine AG ⟨_,rfl,?_⟩
 show Q (.ref h4.objs.size) _
 rw[hsz]
 have up:∀ c o,h4.get? c=some o->(h4.push { cls:=.type "tuple",data:=.seq #[x,y] }).get? c=some o:=fun c o e=>AC _ e
 refine hQ _ (up _ _ z4) (D1.keep _ _ _ t1' (fun o e=>up _ o e) fun o e=>up _ o e) (D2.keep _ _ _ t2 (fun o e=>up _ o e) fun o e=>up _ o e) ?_ fun c o c1 c2 c3 e=>up _ _ (k4 c o c1 c2 c3 e)
 rw[← hsz]
 exact AN _ rfl
theorem zKk{Q:Fin->AD->Prop}(hh:A.handled=none)(D:ZAp z TI TO i1 i2 l1 l2)(D1:Drawer prog w i1 l1 xs S1)(hz:IsZO s.heap z TI TO T f)(hT:s.heap.get? T=some oT)(hTI:Ct s.heap TI (.ref i1) (.ref i2))(st1:S1 k s.heap)(hx:xs[k]?=none)
  (hE:∀ h' e,(∀ c o,c≠z->c≠i1->s.heap.get? c=some o->h'.get? c=some o)->(∃ o,h'.get? e=some o/\o.cls=.type "StopIteration")->E (.ref e) { s with heap:=h' }) :
  AM (model prog w) A (Builtin.«zip.__next__» ⟨[.ref z],[]⟩) Q E s:=by
 obtain⟨⟨TIz,TOz,i1z,i2z,TITO,TIi1,TIi2,TOi1,TOi2,i12,l1z,l1TO,l1i1,l1i2,l2z,l2TO,l2i1,l2i2⟩,_,_⟩:=D
 show AM _ _ (field (.ref z) 2 >>= _) _ _ _; refine AA (Ag hz rfl (x:=.bool false) rfl ?_)
 show AM _ _ (field (.ref z) 3 >>= _) _ _ _; refine AA (Ag hz rfl (x:=.ref TI) rfl (AA (Be hTI rfl ?_)))
 show AM _ _ (Aj (.ref z) >>= _) _ _ _
 refine AA (zEU hz hT fun h1 z1 b1=>?_)
 simp only[BP,if_false]
 refine AA ?_
 rw[← Hm]
 simp only[Cn,DP]
 refine AA (AA (BO ?_)); show AM _ _ (Ap (.ref i1) >>= _) _ _ _
 refine AA (D1.fini _ k _ _ _ hh (D1.keep _ _ _ st1 (fun o e=>b1.extBut _ _ i1z e) fun o e=>b1.extBut _ _ l1z e) hx fun h2 e b2 he=>?_)
 exact hE h2 e (fun c o c1 c2 q=>b2 _ _ c2 (b1.extBut _ _ c1 q)) he
end
theorem zBh:HQ table "dict.update.loop"=some Builtin.«dict.update.loop»:=Gc (by kernel_rfl)
theorem zA0:plainId "dict.update.loop"=true:=by decide +kernel
structure ZL(z TI TO i1 i2 a1 a2 d:Addr)(xs ys:Array AB)(k:Nat)(h:Heap):Prop where
 zz:(Fw h z TI TO .none/\∃ a b,Ct h TO a b)\/∃ T oT f,IsZO h z TI TO T f/\h.get? T=some oT/\T≠z/\T≠i1/\T≠i2/\T≠d
 ti:Ct h TI (.ref i1) (.ref i2)
 s1:h.IsTupleIter i1 a1 k/\h.IsTuple a1 xs
 s2:h.IsTupleIter i2 a2 k/\h.IsTuple a2 ys
section
variable {prog:AY}{w:Af}{A:Ao}{E:AB->AD->Prop}{s:AD}{z TI TO i1 i2 a1 a2 d:Addr}{xs ys:Array AB}{k:Nat}
theorem ZL.type{h:Heap}(st:ZL z TI TO i1 i2 a1 a2 d xs ys k h):∃ o,h.get? z=some o/\o.cls=.type "zip":=by
 rcases st.zz with ⟨q,_⟩ | ⟨T,oT,f,q,_⟩
 ·exact⟨_,q,rfl⟩
 ·exact⟨_,q,rfl⟩
theorem ZL.keep{h h':Heap}(st:ZL z TI TO i1 i2 a1 a2 d xs ys k h)(n1:z≠d)(n2:TI≠d)(n3:TO≠d)(n4:i1≠d)(n5:i2≠d)(n6:a1≠d)(n7:a2≠d)(kp:∀ c o,c≠d->h.get? c=some o->h'.get? c=some o):ZL z TI TO i1 i2 a1 a2 d xs ys k h' where
 zz:=by
  rcases st.zz with ⟨q,a,b,q2⟩ | ⟨T,oT,f,q,q2,q3,q4,q5,q6⟩
  ·exact .inl ⟨kp _ _ n1 q,a,b,kp _ _ n3 q2⟩
  ·exact .inr ⟨T,oT,f,kp _ _ n1 q,kp _ _ q6 q2,q3,q4,q5,q6⟩
 ti:=kp _ _ n2 st.ti
 s1:=⟨(let ⟨o,e,r⟩:=st.s1.1; ⟨o,kp _ _ n4 e,r⟩),(let ⟨o,e,r⟩:=st.s1.2; ⟨o,kp _ _ n6 e,r⟩)⟩
 s2:=⟨(let ⟨o,e,r⟩:=st.s2.1; ⟨o,kp _ _ n5 e,r⟩),(let ⟨o,e,r⟩:=st.s2.2; ⟨o,kp _ _ n7 e,r⟩)⟩
theorem zMU{x y:AB}{Q:Option AB->AD->Prop}(D:ZAp z TI TO i1 i2 a1 a2)(hd:d < s.heap.objs.size)(st:ZL z TI TO i1 i2 a1 a2 d xs ys k s.heap)(hx:xs[k]?=some x)(hy:ys[k]?=some y)
  (hQ:∀ h',ZL z TI TO i1 i2 a1 a2 d xs ys (k+1) h'->Ct h' s.heap.objs.size x y->(∀ c o,c≠z->c≠TO->c≠i1->c≠i2->s.heap.get? c=some o->h'.get? c=some o)->Q (some (.ref s.heap.objs.size)) { s with heap:=h' }) :
  AM (model prog w) A (Do (.ref z)) Q E s:=by
 have hT:s.TypeIs (.ref z) "zip":=st.type
 have lz:z < s.heap.objs.size:=by obtain⟨o,e,_⟩:=st.type; exact AJ e
 have l1:i1 < s.heap.objs.size:=by obtain⟨o,e,_⟩:=st.s1.1; exact AJ e
 have l2:i2 < s.heap.objs.size:=by obtain⟨o,e,_⟩:=st.s2.1; exact AJ e
 have lT:TI < s.heap.objs.size:=AJ st.ti
 unfold Do
 refine AA (B3 (BH (name:=BQ "__next__") hT E2 (BL E2 hT JL ?_ (Iz _))))
 rcases st.zz with ⟨q,a,b,q2⟩ | ⟨T,oT,f,q,q2,q3,q4,q5,q6⟩
 ·refine zIP D (zAy i1 a1 xs D.a.l1i1) (zAy i2 a2 ys D.a.l2i2) ⟨q,st.ti,⟨a,b,q2⟩,st.s1,st.s2⟩ hx hy fun h' st' hp hk=>AG ?_
  exact hQ h' ⟨.inr ⟨_,_,false,st'.z,hp,BV lz,BV l1,BV l2,BV hd⟩,st'.ti,st'.s1,st'.s2⟩ hp hk
 ·refine zJe D (zAy i1 a1 xs D.a.l1i1) (zAy i2 a2 ys D.a.l2i2) q q2 st.ti st.s1 st.s2 hx hy fun h' z' t1 t2 hp hk=>AG ?_
  exact hQ h' ⟨.inr ⟨T,oT,true,z',hk _ _ q3 q4 q5 q2,q3,q4,q5,q6⟩,hk _ _ D.a.TIz D.a.TIi1 D.a.TIi2 st.ti,t1,t2⟩ hp fun c o c1 _ c3 c4 e=>hk c o c1 c3 c4 e
theorem zNH{Q:Option AB->AD->Prop}(hh:A.handled=none)(D:ZAp z TI TO i1 i2 a1 a2)(st:ZL z TI TO i1 i2 a1 a2 d xs ys k s.heap)(hx:xs[k]?=none)
  (hQ:∀ h',(∀ c o,c≠z->c≠TO->c≠i1->c≠i2->s.heap.get? c=some o->h'.get? c=some o)->Q none { s with heap:=h' }) :
  AM (model prog w) A (Do (.ref z)) Q E s:=by
 have hT:s.TypeIs (.ref z) "zip":=st.type
 unfold Do
 refine AA (B3 (BH (name:=BQ "__next__") hT E2 (BL E2 hT JL ?_ (Iz _))))
 rcases st.zz with ⟨q,a,b,q2⟩ | ⟨T,oT,f,q,q2,q3,q4,q5,q6⟩
 ·refine zIU hh D (zAy i1 a1 xs D.a.l1i1) (zAy i2 a2 ys D.a.l2i2) ⟨q,st.ti,⟨a,b,q2⟩,st.s1,st.s2⟩ (.inl hx) fun h' e hk he=>?_
  obtain⟨o,ho,hcl⟩:=he
  exact AA (Cj (T:="StopIteration") (b:=true) ⟨o,ho,hcl⟩ FV (AG (hQ h' hk)))
 ·refine zKk hh D (zAy i1 a1 xs D.a.l1i1) q q2 st.ti st.s1 hx fun h' e hk he=>?_
  obtain⟨o,ho,hcl⟩:=he
  exact AA (Cj (T:="StopIteration") (b:=true) ⟨o,ho,hcl⟩ FV (AG (hQ h' fun c o c1 _ c3 _ e=>hk c o c1 c3 e)))
theorem zK2{knd:GV prog w Key}{R:IA->AD->Prop}(hh:A.handled=none)(D:ZAp z TI TO i1 i2 a1 a2)(n1:z≠d)(n2:TI≠d)(n3:TO≠d)(n4:i1≠d)(n5:i2≠d)(n6:a1≠d)(n7:a2≠d)
  (rs:List (Key×AB)) (hx:∀ (j:Nat) p,rs[j]?=some p->∃ key,xs[j]?=some key/\knd.is p.1 key=true/\ys[j]?=some p.2) (hxe:xs[rs.length]?=none) (hsz:rs.length<=100000) {s0:AD}
  (hR:∀ h' tk,h'.DictOf knd d (merged [] rs)->(∀ c o,c≠z->c≠TO->c≠i1->c≠i2->c≠d->s0.heap.get? c=some o->h'.get? c=some o)->R (.ok (.ret .none)) { s0 with heap:=h',toks:=tk }) :
  ∀ (m k:Nat) (h:Heap) (tk:Nat) (t:Tok),rs.length - k=m->k<=rs.length->ZL z TI TO i1 i2 a1 a2 d xs ys k h->h.DictOf knd d (merged [] (rs.take k))->(∀ c o,c≠z->c≠TO->c≠i1->c≠i2->c≠d->s0.heap.get? c=some o->h.get? c=some o) ->
   DK (model prog w) A (.builtin "dict.update.loop" ⟨[.ref d,.ref z,.int (k:Int) t,.none],[]⟩) R { s0 with heap:=h,toks:=tk }:=by
 intro m
 induction m with
 | zero =>
  intro k h tk t hm hk st hD hkp
  have hkn:k=rs.length:=by omega
  subst hkn
  refine D8 zBh ?_
  rw[Da zA0 _]
  show AM _ A.in1 (Do (.ref z) >>= _) _ _ _
  refine AA (zNH (s:={ s0 with heap:=h,toks:=tk }) (A:=A.in1) hh D st hxe fun h' hk'=>?_)
  show AM _ _ (Ki d [] >>= _) _ _ _
  refine AA (AG (AG ?_))
  rw[List.take_length]at hD
  refine hR h' tk (hD.at fun o e=>hk' d o n1.symm n3.symm n4.symm n5.symm e) fun c o c1 c2 c3 c4 c5 e=>hk' c o c1 c2 c3 c4 (hkp c o c1 c2 c3 c4 c5 e)
 | succ m ih =>
  intro k h tk t hm hk st hD hkp
  have hlt:k < rs.length:=by omega
  obtain⟨key,e1,e2,e3⟩:=hx k rs[k] (by simp[hlt])
  refine D8 zBh ?_
  rw[Da zA0 _]
  show AM _ A.in1 (Do (.ref z) >>= _) _ _ _
  have hdl:d < h.objs.size:=by obtain⟨o,_,_,e,_⟩:=hD; exact AJ e
  refine AA (zMU (s:={ s0 with heap:=h,toks:=tk }) (A:=A.in1) D hdl st e1 e3 fun h' st' hp hk'=>?_)
  refine AA (BO ?_)
  refine AA (wpAny_tryCatch ?_)
  unfold Kj
  refine AA (Dh (show Ih _ (.ref h.objs.size) "tuple" from ⟨_,hp,rfl⟩) ?_)
  show AM _ _ (Hu (.ref h.objs.size) >>= _) _ _ _
  refine AA (Be hp rfl (AG ?_))
  show AM _ _ (holding [key,(rs[k]).2] (dictSet d key (rs[k]).2)) _ _ _
  have hD':h'.DictOf knd d (merged [] (rs.take k)):=hD.at fun o e=>hk' d o n1.symm n3.symm n4.symm n5.symm e
  have hlm:(merged [] (rs.take k)).length<=AE:=by
   have:=merged_length_le ([]:List (Key×AB)) (rs.take k)
   have e:(rs.take k).length<=100000:=by rw[CT]; omega
   rw[Ej]at this
   exact Aa (by omega) (show 100000<=AE by decide)
  refine BO (wpAny_dictSet_pairs (hsz:=hlm) e2 hD' fun h2 hD2 hs=>?_)
  rw[← merged_take_succ [] rs k rs[k] (by simp[hlt])]at hD2
  refine AG ⟨Eg zA0 _,?_⟩
  refine ih (k+1) h2 (tk+1) 0 (by omega) (by omega) (st'.keep n1 n2 n3 n4 n5 n6 n7 fun c o hc e=>(hs.2 c hc).trans e) hD2 fun c o c1 c2 c3 c4 c5 e=>(hs.2 c c5).trans (hk' c o c1 c2 c3 c4 (hkp c o c1 c2 c3 c4 c5 e))
end
section
variable {prog:AY}{w:Af}{A:Ao}{E:AB->AD->Prop}{s:AD}{z TI TO i1 i2 a1 a2:Addr}{xs ys:Array AB}
theorem zEv{knd:GV prog w Key}{Q:AB->AD->Prop}(hh:A.handled=none)(D:ZAp z TI TO i1 i2 a1 a2)(hz:Fw s.heap z TI TO .none)(hTO:∃ a b,Ct s.heap TO a b)(hTI:Ct s.heap TI (.ref i1) (.ref i2))
  (h1:s.heap.IsTupleIter i1 a1 0/\s.heap.IsTuple a1 xs) (h2:s.heap.IsTupleIter i2 a2 0/\s.heap.IsTuple a2 ys)
  (rs:List (Key×AB)) (hx:∀ (j:Nat) p,rs[j]?=some p->∃ key,xs[j]?=some key/\knd.is p.1 key=true/\ys[j]?=some p.2) (hxe:xs[rs.length]?=none) (hsz:rs.length<=100000)
  (h:∀ h' tk,h'.DictOf knd s.heap.objs.size (merged [] rs)->(∀ c o,c≠z->c≠TO->c≠i1->c≠i2->s.heap.get? c=some o->h'.get? c=some o)->Q (.ref s.heap.objs.size) { s with heap:=h',toks:=tk }) :
  AM (model prog w) A (call (.type "dict") [.ref z]) Q E s:=by
 refine K4 (Q₁:=fun obj s₁=>obj=.ref s.heap.objs.size/\s₁={ s with heap:=s.heap.push { cls:=.type "dict",data:=.dict #[] } }) PySem.F.kt_called_dict (PySem.F.kt_typeCall_dict_1 _) PySem.F.entry_dict_init (kt_code_dict_new _ ⟨rfl,rfl⟩) ?_
 rintro obj s₁ ⟨rfl,rfl⟩
 have hnew:(s.heap.push { cls:=.type "dict",data:=.dict #[] }).DictOf knd s.heap.objs.size []:=K5 s.heap
 have up:∀ c o,s.heap.get? c=some o->(s.heap.push { cls:=.type "dict",data:=.dict #[] }).get? c=some o:=fun c o e=>AC _ e
 have hz':=up _ _ hz
 refine⟨hnew.typeIs,PySem.F.args_dict_init_2 _ _,?_⟩
 unfold Builtin.«dict.__init__»
 refine AA ?_
 unfold Kk
 refine AA (wpAny_notOrdered_dict hnew.typeIs ?_)
 show AM _ _ (pure (s.heap.objs.size,[Ai z])) _ _ _
 refine AG ?_
 show AM _ _ (Fu "dict.__init__" s.heap.objs.size (.ref z) [] .none) _ _ _
 unfold Fu
 refine AA (Dh (show Ih _ (.ref z) "zip" from ⟨_,hz',rfl⟩) ?_)
 rw[if_pos (by decide)]
 refine AA (getAttr?_miss_zip hz' hh fun h3 tk3 e3 x3=>?_)
 rw[if_pos (by rfl)]
 refine AA (Cr (AA ?_))
 have up3:∀ c o,s.heap.get? c=some o->h3.get? c=some o:=fun c o e=>x3.1 c o (up c o e)
 refine wpAny_pyIter_zip (up3 _ _ hz) ?_
 have ne:∀ {c:Addr} {o:Obj},s.heap.get? c=some o->c≠s.heap.objs.size:=fun e=>Ah (AJ e)
 obtain⟨pa,pb,hTO⟩:=hTO
 have g1:=h1; have g2:=h2
 obtain⟨⟨o1,q1,r1⟩,⟨o2,q2,r2⟩⟩:=h1
 obtain⟨⟨o3,q3,r3⟩,⟨o4,q4,r4⟩⟩:=h2
 refine AG ⟨Eg zA0 _,?_⟩
 refine zK2 (knd:=knd) (d:=s.heap.objs.size) (A:=A.in1) (s0:={ s with heap:=h3,toks:=tk3 }) hh D (ne hz) (ne hTI) (ne hTO) (ne q1) (ne q3) (ne q2) (ne q4) rs hx hxe hsz (fun h' tk hd hk=>⟨rfl,h h' tk hd fun c o c1 c2 c3 c4 e=>hk c o c1 c2 c3 c4 (ne e) (up3 c o e)⟩) rs.length 0 h3 tk3 0 (by omega) (DG _) ⟨.inl ⟨up3 _ _ hz,pa,pb,up3 _ _ hTO⟩,up3 _ _ hTI,⟨⟨o1,up3 _ _ q1,r1⟩,⟨o2,up3 _ _ q2,r2⟩⟩,⟨⟨o3,up3 _ _ q3,r3⟩,⟨o4,up3 _ _ q4,r4⟩⟩⟩ (hnew.at fun o e=>x3.1 _ o e) fun c o _ _ _ _ _ e=>e
end
noncomputable def tDZip (K:AH) (ta:TA):TE:=fun σ H Q=>ta σ H fun vs H1=>∃ (a1 a2:Addr) (ks:List Key) (us:List V),vs=[.ref a1,.ref a2]/\SqT K H1 a1 (ks.map kV)/\SqT K H1 a2 us/\us.length=ks.length/\ks.length<=100000/\∀ p,H1 p=none->Q (.ref p) (upd H1 p (.dK (mergeK [] (ks.zip us))))
theorem zMS{X:Cx}{e1 e2:Expr}{ta:TA}{p p0 pos pos0:Pos}(hr:X.A.handled=none)(hg:Gl X "zip")(hm:X.mg "zip"=none)(hg0:Gl X "dict")(hm0:X.mg "dict"=none)(ha:PA X [e1,e2] ta)(hs:AI [e1,e2] X.env=[(false,eval e1 X.env),(false,eval e2 X.env)]:=by rfl)(hs2:AI [e2] X.env=[(false,eval e2 X.env)]:=by rfl)
  (hs3:AI [.Call (.Name "zip" p) [e1,e2] [] pos] X.env=[(false,eval (.Call (.Name "zip" p) [e1,e2] [] pos) X.env)]:=by rfl) :
  PE X (.Call (.Name "dict" p0) [.Call (.Name "zip" p) [e1,e2] [] pos] [] pos0) (tDZip X.K ta):=by
 intro pins s σ H Q I h
 refine Hr (zA9 I hg0 hm0 Kl (BA ?_ hs3 rfl))
 rw[hs3]
 refine FI ?_
 refine Hr (zA9 I hg hm boot_zip (BA (thn (ha pos pins s σ H _ I h) fun us s1 ⟨vs,H1,I1,r1,q1⟩=>?_) (by rw[hs,hs2]) (by rw[hs2]; rfl)))
 obtain⟨a1,a2,ks,ws,e,h1,h2,hlen,hsz,q⟩:=q1
 subst e
 obtain⟨u1,u2,e,r,r'⟩:=vals2 r1
 subst e
 cases r; cases r'
 obtain⟨its1,v1,o1,z1⟩:=I1.tuple h1
 obtain⟨its2,v2,o2,z2⟩:=I1.tuple h2
 have lt1:a1 < s1.heap.objs.size:=by obtain⟨o,e,_⟩:=(show s1.heap.IsTuple a1 its1.toArray from o1); exact AJ e
 have lt2:a2 < s1.heap.objs.size:=by obtain⟨o,e,_⟩:=(show s1.heap.IsTuple a2 its2.toArray from o2); exact AJ e
 have D:ZAp (s1.heap.objs.size+4) (s1.heap.objs.size+2) (s1.heap.objs.size+3) s1.heap.objs.size (s1.heap.objs.size+1) a1 a2 :=
  ⟨zipApart_new lt1 lt2,Ah (AV lt1 (CA _ 2)),Ah (AV lt2 (CA _ 2))⟩
 refine zIR o1 o2 fun h' st hk=>EC ?_
 have hl1:=v1.length
 have hl2:=v2.length
 rw[A7]at hl1
 have lrs:(ks.zip its2).length=ks.length:=by rw[Ii]; omega
 obtain⟨t1o,t1e,t1r⟩:=(show s1.heap.IsTuple a1 its1.toArray from o1)
 obtain⟨t2o,t2e,t2r⟩:=(show s1.heap.IsTuple a2 its2.toArray from o2)
 refine zEv (knd:=mixKind X.prog X.w) (s:={ s1 with heap:=h' }) (xs:=its1.toArray) (ys:=its2.toArray) hr D st.z st.to st.ti ⟨st.s1,⟨t1o,hk _ _ t1e,t1r⟩⟩ ⟨st.s2,⟨t2o,hk _ _ t2e,t2r⟩⟩ (ks.zip its2) (fun j pr hj=>?_) (by rw[lrs]; simp; omega) (by rw[lrs]; exact hsz) fun h4 tk hd hk4=>?_
 ·obtain⟨g1,g2⟩:=GZ.mp hj
  obtain⟨key,e1,r1⟩:=v1.get (i:=j) (x:=kV pr.1) (by rw[Ae,g1]; rfl)
  exact⟨key,by simpa using e1,zHj r1,by simpa using g2⟩
 ·have old:∀ c o,s1.heap.get? c=some o->h4.get? c=some o:=fun c o e=>by
   have hc:=AJ e
   exact hk4 c o (Ah (AV hc (CA _ 4))) (Ah (AV hc (CA _ 3))) (Ah hc) (Ah (AV hc (CA _ 1))) (hk c o e)
  have hb:s1.heap.objs.size<=h'.objs.size:=CN (FW (CA _ 4) (AJ st.z))
  have rel:KV (ks.zip ws) (ks.zip its2):=by
   have gen:∀ (ks:List Key) (ws:List V) (its2:List AB),Vals ws its2->ws.length=ks.length->KV (ks.zip ws) (ks.zip its2):=by
    intro ks
    induction ks with
    | nil=>intro ws its2 v2 hlen; simp; exact .nil
    | cons k r ih =>
     intro ws its2 v2 hlen
     cases v2 with
     | nil=>cases hlen
     | cons a b=>exact .cons ⟨rfl,a⟩ (ih _ _ b (by simpa using hlen))
   exact gen ks ws its2 v2 hlen
  refine⟨.ref h'.objs.size,_,I1.laid (a:=h'.objs.size) (o:=.dK (mergeK [] (ks.zip ws))) (t':=tk) old hb (zNq ?_ ?_ (rel.merge .nil) hd),rfl,q _ (I1.hok.fresh hb)⟩
  ·have e1:=zCP (ks.zip ws) []
   have e2:(ks.zip ws).length<=ks.length:=by rw[Ii]; omega
   rw[Ej]at e1
   exact Aa (by omega) (show 100000<=AE by decide)
  ·exact beq_eq_false_iff_ne.mpr (BV (AV I1.big hb))
end L2
namespace D
open PySem L2
noncomputable def dDZip (fa:DA):DE:=fun Γ=>(fa Γ).bind fun p=>match p.1 with
 | [.v (.t xs),.v (.t ys)]=>(keyTs xs).bind fun ks=>if ys.length=ks.length/\ks.length<=100000 then some (.d (.inl ((ks.zip ys).foldl (fun acc kv=>putT acc kv.1 kv.2) [])),p.2) else none
 | _=>none
theorem zJI{K:Fg}{H:Hp}:∀ (ks:List Key) {us:List V} {ys:List T},Ims K H us ys->PR K H (ks.zip us) (ks.zip ys)
 | [],_,_,_=>by simp; exact .nil
 | k::r,us,[],h=>by rw[h.inv0]; exact .nil
 | k::r,us,y::ys,h=>by obtain⟨v,vs,rfl,h1,h2⟩:=h.inv; exact .cons ⟨rfl,h1⟩ (zJI r h2)
theorem zKs{K:Fg}{H:Hp}{more:List (Key×V)}{mt:List (Key×T)}(h:PR K H more mt):∀ {l:List (Key×V)} {kvs:List (Key×T)},PR K H l kvs->PR K H (mergeK l more) (mt.foldl (fun acc kv=>putT acc kv.1 kv.2) kvs):=by
 induction h with
 | nil=>intro l kvs q; exact q
 | @cons a b more mt hab _ ih =>
  intro l kvs q
  have:=q.put a.1 hab.2
  rw[hab.1]at this
  show PR K H (mergeK (putK l a.1 a.2) more) _
  rw[hab.1]
  exact ih this
theorem zKn{K:Fg}{ta:TA}{fa:DA}(ha:SimA K ta fa):SimE K (tDZip K ta) (dDZip fa):=by
 intro C w Γ σ H s Γ' Q R e k
 obtain⟨⟨as,G1⟩,e1,e⟩:=bind_some e
 dsimp only at e
 split at e
 ·rename_i xs ys
  obtain⟨ks,e2,e⟩:=bind_some e
  split at e
  ·rename_i hl
   cases e
   refine ha C w Γ σ H _ _ _ R e1 fun vs H1 R1 ev1 o1 n1=>?_
   obtain⟨v,u,rfl,o2,o3⟩:=soks2 o1
   obtain⟨p,vs,rfl,h1,i1⟩:=o2.invt
   obtain⟨q,us,rfl,h2,i2⟩:=o3.invt
   have hv:=zFE i1 e2
   subst hv
   refine⟨p,q,ks,us,rfl,h1.sq,h2.sq,by rw[i2.len]; exact hl.1,hl.2,fun c hc=>?_⟩
   exact k _ _ (R1.new hc) (ev1.trans (Evo.new hc)) (R1.newd (kvs:=.inl _) hc (zKs (zJI ks i2) (show PR K H1 [] [] from .nil))) ⟨c,rfl,by
    cases hz:H c with
    | none=>rfl
    | some o =>
     by_cases hL:c∈w.L
     ·exact absurd hL (R1.fresh hc).1
     ·rw[ev1 c o hz hL]at hc; cases hc⟩
  ·cases e
 ·cases e
noncomputable def getKS:En->S->S->Option S:=fun Γ a b=>(dictOf Γ a).bind fun d=>match d,b with
 | .inl kvs,.v t=>(keyT t).bind fun k=>(valT kvs k).map .v
 | _,_=>none
theorem zGM{K:Fg}:SimR2 K rDGet getKS:=by
 intro C w Γ σ H x y a b s Q R ox oy e k
 obtain⟨d,e1,e⟩:=bind_some e
 split at e
 ·rename_i kvs t
  obtain⟨ky,e2,e⟩:=bind_some e
  obtain⟨p,ob,rfl,hp,hd⟩:=zLn R ox e1
  obtain⟨l,rfl,h1⟩:=hd.invK
  rcases h1.val ky with ⟨_,q⟩ | ⟨v,t',q1,q2,q3⟩
  ·rw[q]at e; cases e
  ·rw[q2]at e; cases e
   have hy:=zGo oy e2
   subst hy
   exact⟨p,v,rfl,by rw[← q1]; exact DGet.k hp,k _ H R .refl q3 trivial⟩
 ·cases e
section
variable {ι:Type}{K:Fg}{mg:Str->Option AB}{k:Nat}{X:ι->Cx}{o i:Expr}{fo fk:DE}{pos:Pos}{Γ:En}
theorem zKi(M:Fm K mg k X)(ho:EX K X o fo)(hk:EX K X i fk)(hs:NoSl i:=by intro _ _; rfl):EX K X (.Subscript o i pos) (dOp getKS fo fk) :=
 let ⟨_,p,s⟩:=ho; let ⟨_,q,u⟩:=hk; ⟨_,fun j=>zLo (un1 M j) (p j) (q j) hs,zCk zGM s u⟩
end
section
variable {ι:Type}{K:Fg}{mg:Str->Option AB}{k:Nat}{X:ι->Cx}{a b:Expr}{da:DA}{p p0 pos pos0:Pos}{Γ:En}
theorem zMb(M:Fm K mg k X)(hm:mg "zip"=none)(hm0:mg "dict"=none)(ha:AX K X [a,b] da)(hg:∀ j,Gl (X j) "zip":=by intro _; rfl)(hg0:∀ j,Gl (X j) "dict":=by intro _; rfl)(hs:∀ j,AI [a,b] (X j).env=[(false,eval a (X j).env),(false,eval b (X j).env)]:=by intro _; rfl)
  (hs2:∀ j,AI [b] (X j).env=[(false,eval b (X j).env)]:=by intro _; rfl) (hs3:∀ j,AI [.Call (.Name "zip" p) [a,b] [] pos] (X j).env=[(false,eval (.Call (.Name "zip" p) [a,b] [] pos) (X j).env)]:=by intro _; rfl):EX K X (.Call (.Name "dict" p0) [.Call (.Name "zip" p) [a,b] [] pos] [] pos0) (dDZip da) :=
 let ⟨t,q,u⟩:=ha; ⟨tDZip K t,fun j=>by have:=zMS (p:=p) (p0:=p0) (pos:=pos) (pos0:=pos0) (M.room j).hd (hg j) (by rw[M.mg]; exact hm) (hg0 j) (by rw[M.mg]; exact hm0) (q j) (hs j) (hs2 j) (hs3 j); rw[M.K j]at this; exact this,zKn u⟩
end
end D
namespace L2
open PySem PySem.W PyProof.Rows
section
variable {n:Nat}(h0:0 < n)
include h0
end
open PySem PySem.W PyProof.Rows PySem.Calls PySem.SeqAt
theorem zDZ:∀ ns:List Int,Co (ns.map GF)=true
 | []=>by simp[Co]
 | n::r=>by have:=zDZ r; simp[Co,Dx,this]
theorem zBw:∀ ns:List Int,Cd (ns.map GF)=0
 | []=>by simp[Cd]
 | n::r=>by have:=zBw r; simp[Cd,FN,this]
end L2
namespace D
open PySem L2
end D
namespace D
open PySem L2
example (P:AY) (w:Af):(mixKind P w).hash (.inl 1)=1/\(mixKind P w).hash (.inl 2)=2:=⟨by rfl,by rfl⟩
end D
namespace L2
open PySem PySem.Spec PyProof.Rows PySem.W
structure Kds(prog:AY)(w:Af)(T:String)(r d:Addr)(n:Nat)(P:Nat->AB->Prop)(St:Nat->Heap->Prop):Prop where
 type:∀ s:AD,St 0 s.heap->s.TypeIs (.ref r) T
 there:∀ h:Heap,St 0 h->r < h.objs.size/\d < h.objs.size
 notList:(BM T == BM "list")=false
 notTuple:(BM T == BM "tuple")=false
 hint:∀ (A:Ao) (E:AB->AD->Prop) (s:AD) (Q:Bool->AD->Prop),St 0 s.heap->(∀ b tk,Q b { s with toks:=tk })->AM (model prog w) A (By (.ref r)) Q E s
 iter:∀ (A:Ao) (E:AB->AD->Prop) (s:AD) (Q:AB->AD->Prop),St 0 s.heap->Q (.ref r) s->AM (model prog w) A (HA (.ref r)) Q E s
 walks:∀ (A:Ao),A.handled=none->Walks prog w A r [r,d] [r] n P St
section
variable {prog:AY}{w:Af}{A:Ao}{E:AB->AD->Prop}{s:AD}{T:String}{r d:Addr}{n:Nat}{P:Nat->AB->Prop}{St:Nat->Heap->Prop}
theorem zIB{R:IA->AD->Prop}(K:Kds prog w T r d n P St)(hh:A.handled=none)(hok:St 0 s.heap)(S:Addr)(hSr:S≠r)(hSd:S≠d)(res:AB)(c₀:Nat)(hS:s.heap.get? S=some { cls:=.type "list",data:=.seq #[] c₀ })
  (hR:∀ h' tk acc' c',(∀ b o,b≠S->b≠r->s.heap.get? b=some o->h'.get? b=some o)->h'.get? S=some { cls:=.type "list",dict:=none,data:=.seq acc' c',slots:=#[] }->E7 P acc' n->R (.ok (.ret res)) { s with heap:=h',toks:=tk }) (hn:n<=AE) :
  AM (model prog w) A.in1 (Bx (.ref S) (.ref r) res)
   (fun fin s'=>match fin with | .done f=>R (.ok f) s' | .again c'=>c'.quiet=true/\DK (model prog w) A c' R s') (fun e s'=>R (.error e) s') s:=by
 have hSf:S∉[r,d]:=by simp only[AO,A8,or_false,not_or]; exact⟨hSr,hSd⟩
 have W:=K.walks A.in1 hh
 have key:∀ (h:Heap) (c₁ tk:Nat),St 0 h->(∀ b o,b≠S->b≠r->s.heap.get? b=some o->h.get? b=some o) ->
   h.get? S=some { cls:=.type "list",data:=.seq #[] c₁ }->DK (model prog w) A (.builtin "list.extend.loop" ⟨[.ref S,.ref r,res],[]⟩) R { s with heap:=h,toks:=tk }:=by
  intro h c₁ tk hst hk hS₁
  refine codeAny_extend_loopS W.toS hn S hSf res n 0 _ #[] c₁ rfl (DG _) hst hS₁ (ItemsOf.nil _) fun s' acc' c' hm hS' hacc=>?_
  rw[Moved.eq_with hm]
  refine hR s'.heap s'.toks acc' c' (fun b o hb hb2 e=>hm.heap b o (fun hmem=>?_) (hk b o hb hb2 e)) hS' hacc
  rcases AO.mp hmem with e' | hmem
  ·exact hb e'
  ·exact hb2 (AF.mp hmem)
 unfold Bx
 refine AA (Dh (T:=T) (K.type s hok) ?_)
 have h1:Fj (.ref S) (.ref r)=false:=by simp[Fj,hSr]
 simp only[h1,K.notList,K.notTuple,JE,BP,if_false]
 refine AA (K.iter _ _ _ _ hok ?_)
 refine AA (BO (K.hint _ _ _ _ hok fun b tk=>?_))
 refine CQ (fun _=>?_) (fun _=>AG ⟨Eg GG _,key _ c₀ _ hok (fun b o _ _ e=>e) hS⟩)
 refine AA (Cr ?_)
 refine AA ?_
 show AM _ _ (J4 S (·.push .none) >>= fun _=>J4 S (·.pop)) _ _ _
 refine AA (Gw hS rfl ?_)
 have hS₂:=BU (DB (·.push A0)) hS rfl
 refine Gw (hz:=by seq_fits) hS₂ rfl ?_
 have hS₃:=BU (DB (·.pop)) hS₂ rfl
 refine AG ⟨Eg GG _,key _ _ _ ?_ (fun b o hb _ e=>?_) hS₃⟩
 ·refine W.frame 0 _ _ hok fun b hb o e=>?_
  have hbS:b≠S:=fun h=>hSf (h ▸ hb)
  exact (Au _ _ (Az hbS)).trans ((Au _ _ (Az hbS)).trans e)
 ·exact (Au _ _ (Az hb)).trans ((Au _ _ (Az hb)).trans e)
theorem zK9{R:IA->AD->Prop}(K:Kds prog w T r d n P St)(hh:A.handled=none)(hok:St 0 s.heap)(S:Addr)(hSr:S≠r)(hSd:S≠d)(hS:s.heap.get? S=some { cls:=.type "list",data:=.seq #[] })
  (hR:∀ h' tk acc' c',(∀ b o,b≠S->b≠r->s.heap.get? b=some o->h'.get? b=some o)->h'.get? S=some { cls:=.type "list",dict:=none,data:=.seq acc' c',slots:=#[] }->E7 P acc' n->R (.ok (.ret .none)) { s with heap:=h',toks:=tk }) (hn:n<=AE) :
  AM (model prog w) A.in1 (Builtin.«list.__init__» ⟨[.ref S,.ref r],[]⟩)
   (fun fin s'=>match fin with | .done f=>R (.ok f) s' | .again c'=>c'.quiet=true/\DK (model prog w) A c' R s') (fun e s'=>R (.error e) s') s:=by
 show AM _ _ (do let old ← F0 (.ref S); Km (.ref S) (fun _=>#[]); letGo old.toList.reverse; Bx (.ref S) (.ref r) .none) _ _ s
 refine AA ?_
 unfold F0
 refine AA (Be hS rfl (AG ?_))
 show AM _ _ (J4 S (fun _=>#[]) >>= fun _=>letGo (#[]:Array AB).toList.reverse >>= fun _=>Bx (.ref S) (.ref r) .none) _ _ s
 refine AA (Gw hS rfl ?_)
 have hS₂:=BU (DB (fun _=>(#[]:Array AB))) hS rfl
 have oth:∀ b o,b≠S->s.heap.get? b=some o->(s.heap.update S (DB (fun _=>(#[]:Array AB)))).get? b=some o :=
  fun b o hb e=>(Au _ _ (Az hb)).trans e
 refine AA (FT ?_)
 refine zIB K hh ((K.walks A hh).frame 0 _ _ hok fun b hb o e=>oth b o (fun z=>by
  subst z
  simp only[AO,A8,or_false]at hb
  rcases hb with q | q
  ·exact hSr q
  ·exact hSd q) e) S hSr hSd .none _ hS₂ (fun h' tk acc' c' hk hS' hacc=>?_) hn
 exact hR h' tk acc' c' (fun b o hb hb2 e=>hk b o hb hb2 (oth b o hb e)) hS' hacc
theorem zFC{Q:AB->AD->Prop}(K:Kds prog w T r d n P St)(hh:A.handled=none)(hok:St 0 s.heap)(hn:n<=AE)
  (hQ:∀ h' tk acc' c',(∀ b o,b≠r->s.heap.get? b=some o->h'.get? b=some o)->h'.get? s.heap.objs.size=some { cls:=.type "list",dict:=none,data:=.seq acc' c',slots:=#[] }->E7 P acc' n->Q (.ref s.heap.objs.size) { s with heap:=h',toks:=tk }) :
  AM (model prog w) A (call (.type "list") [.ref r]) Q E s:=by
 refine K4 (Q₁:=fun obj s₁=>obj=.ref s.heap.objs.size/\s₁={ s with heap:=s.heap.push { cls:=.type "list",data:=.seq #[] } }) PySem.F.called_list (PySem.F.typeCall_list_1 _) PySem.F.entry_list_init
  (code_list_new _ ⟨rfl,rfl⟩) fun obj s₁ h₁=>?_
 obtain⟨rfl,rfl⟩:=h₁
 have hS:(s.heap.push { cls:=.type "list",data:=.seq #[] }).get? s.heap.objs.size=some { cls:=.type "list",data:=.seq #[] }:=AN _ rfl
 have hlt:=K.there _ hok
 refine⟨⟨_,hS,rfl⟩,PySem.F.args_list_init_2 _ _,zK9 (A:=A.in1) K hh ((K.walks A hh).frame 0 _ _ hok fun b _ o e=>AC _ e) _ (BV hlt.1) (BV hlt.2) hS (fun h' tk acc' c' hk hS' hacc=>?_) hn⟩
 exact⟨rfl,hQ h' tk acc' c' (fun b o hb e=>hk b o (Ah (AJ e)) hb (AC _ e)) hS' hacc⟩
end
section
variable {prog:AY}{w:Af}{A:Ao}{E:AB->AD->Prop}{s:AD}
theorem zKz{r:Addr}{Q:Bool->AD->Prop}(hT:s.TypeIs (.ref r) "list_reverseiterator")(h:Q false s):AM (model prog w) A (By (.ref r)) Q E s:=by
 unfold By
 refine AA (CP (r:=none) hT (by rw[Ba,BD]; kernel_rfl) ?_)
 wp_delta
 refine AA (CP (r:=some (.builtin "list_reverseiterator.__length_hint__")) hT (by rw[Ba,BD]; kernel_rfl) ?_)
 generalize hid:("list_reverseiterator.__length_hint__":String)=id0
 wp_delta
 rw[show IM id0=some ("list_reverseiterator","__length_hint__") from by subst hid; decide +kernel]
 subst hid
 refine AA (Cj (T:="list_reverseiterator") (b:=true) hT (by rw[Ck]; kernel_rfl) ?_)
 refine CQ (fun hab=>absurd hab (by decide)) (fun _=>?_)
 refine CQ (fun _=>?_) (fun hab=>absurd (by decide +kernel) hab)
 refine CQ (fun hab=>absurd hab (by decide +kernel)) (fun _=>?_)
 exact AG h
theorem zGd:Slot "reversed" "__length_hint__" "reversed.__length_hint__" :=
 .of (owner:="reversed") (n:="__length_hint__") (by rw[Ba,BD]; kernel_rfl) (by decide +kernel) (by decide +kernel) (by decide +kernel)
  (by first | exact .inl (by decide +kernel) | exact .inr (by decide +kernel)) (by rw[Ck]; kernel_rfl)
theorem zEs:HQ table "reversed.__length_hint__"=some Builtin.«reversed.__length_hint__»:=Gc (by kernel_rfl)
theorem zFy(a:AB):IJ "reversed.__length_hint__" ⟨[a],[]⟩:=by
 unfold IJ; rw[Hl (id:="reversed.__length_hint__") (n:=['_','_','t','n','i','h','_','h','t','g','n','e','l','_','_']) (o:=['d','e','s','r','e','v','e','r']) (by kernel_rfl) zDU]; kernel_rfl
theorem zL7{r l:Addr}{i:Nat}{xs:Array AB}{Q:Bool->AD->Prop}(he:IsRv s.heap r l ((i:Int) - 1))(hl:s.heap.IsTuple l xs)(hz:xs.size<=AE)(hi:i<=xs.size)(h:∀ b tk,Q b { s with toks:=tk }):AM (model prog w) A (By (.ref r)) Q E s:=by
 have hT:s.TypeIs (.ref r) "reversed":=⟨_,he,rfl⟩
 unfold By
 refine AA (CP (r:=none) hT (by rw[Ba,BD]; kernel_rfl) ?_)
 wp_delta
 refine AA (CP (r:=some (.builtin "reversed.__length_hint__")) hT (by rw[Ba,BD]; kernel_rfl) ?_)
 generalize hid:("reversed.__length_hint__":String)=id0
 wp_delta
 rw[show IM id0=some ("reversed","__length_hint__") from by subst hid; decide +kernel]
 subst hid
 refine AA (Cj (T:="reversed") (b:=true) hT (by rw[Ck]; kernel_rfl) ?_)
 refine CQ (fun hab=>absurd hab (by decide)) (fun _=>?_)
 refine CQ (fun hab=>absurd hab (by decide +kernel)) (fun _=>?_)
 refine AA (Cr ?_)
 refine AA (CF (zGd.bind _) ?_)
 try dsimp only
 refine AA (B3 (BL zGd hT zEs ?_ (zFy _)))
 unfold Builtin.«reversed.__length_hint__»
 refine AA (CF (a:=Ai r) rfl ?_)
 try dsimp only
 refine AA (Ag he rfl (x:=.ref l) rfl ?_)
 have h62:(AE:Int) < 2 ^ 62:=by decide
 refine CQ (fun hab=>absurd (show false=true from hab) (by decide)) (fun _=>?_)
 refine AA (Ju hl (by have:=hz; rw[Bv]at this; omega) ?_)
 refine AA (CF (a:=some (xs.size:Int)) (by first | rfl | kernel_rfl) ?_)
 try dsimp only
 refine AA (Ag he rfl (x:=B4 ((i:Int) - 1)) rfl ?_)
 try dsimp only[B4]
 refine CQ (fun hab=>?_) (fun _=>?_)
 ·exact absurd hab (by omega)
 ·unfold retInt
  refine AA (Gr ?_)
  refine AG ⟨_,rfl,?_⟩
  refine AA (CF (a:=some ((i:Int) - 1+1)) (by first | rfl | kernel_rfl) ?_)
  try dsimp only
  have e1:(i:Int) - 1+1=i:=by omega
  rw[e1]
  have e2:FO (i:Int)=true:=by
   unfold FO
   rw[Ab]
   exact⟨decide_eq_true (by omega),decide_eq_true (by omega)⟩
  have e3:Bo (i:Int).toNat=false:=by
   unfold Bo
   exact decide_eq_false (by rw[Bm]; omega)
  rw[if_neg (by rw[e2]; decide),if_neg (by omega),if_neg (by rw[e3]; decide)]
  exact AG (h _ _)
end
section
variable {prog:AY}{w:Af}{r l:Addr}
theorem zK1(hne:l≠r)(items:Array AB):Kds prog w "list_reverseiterator" r l items.size (fun i v=>items[items.size - 1 - i]?=some v) (fun i h=>i<=items.size/\h.IsRevIter r l ((items.size:Int) - 1 - (i:Int))/\h.IsList l items) where
 type:=fun s st=>st.2.1.typeIs
 there:=fun h st=>by
  obtain⟨_,⟨o,e,_⟩,⟨o2,e2,_⟩⟩:=st
  exact⟨AJ e,AJ e2⟩
 notList:=by decide
 notTuple:=by decide
 hint:=fun A E s Q st h=>zKz st.2.1.typeIs (h false s.toks)
 iter:=fun A E s Q st h=>FY st.2.1 h
 walks:=fun A hh=>Walks.listRev hh r l hne items
theorem zMY(hne:l≠r)(items:Array AB)(hz:items.size<=AE):Kds prog w "reversed" r l items.size (fun i v=>items[items.size - 1 - i]?=some v) (fun i h=>i<=items.size/\IsRv h r l ((items.size:Int) - 1 - (i:Int))/\h.IsTuple l items) where
 type:=fun s st=>⟨_,st.2.1,rfl⟩
 there:=fun h st=>by
  obtain⟨_,e,⟨o2,e2,_⟩⟩:=st
  exact⟨AJ e,AJ e2⟩
 notList:=by decide
 notTuple:=by decide
 hint:=fun A E s Q st h=>by
  have:=st.2.1
  simp only[Int.natCast_zero,HN]at this
  exact zL7 this st.2.2 hz (AL _) h
 iter:=fun A E s Q st h=>zET st.2.1 h
 walks:=fun A hh=>{
  sub:=fun b hb=>by simp at hb; simp[hb]
  frame:=fun i h h' x hk=>⟨x.1,hk r (by simp) _ x.2.1,by
   obtain⟨o,e,q⟩:=x.2.2
   exact⟨o,hk l (by simp) _ e,q⟩⟩
  item:=fun i s Q E hi x hQ=>by
   have e:(items.size:Int) - 1 - (i:Int)=((items.size - 1 - i:Nat):Int):=by omega
   have hit:=x.2.1
   rw[e]at hit
   have hx:items[items.size - 1 - i]?=some (items[items.size - 1 - i]'(by omega)):=Array.getElem?_eq_getElem (by omega)
   refine zMi hit x.2.2 hz hx fun h' tk hit' hs'=>?_
   have e2:((items.size - 1 - i:Nat):Int) - 1=(items.size:Int) - 1 - ((i+1:Nat):Int):=by omega
   rw[e2]at hit'
   refine hQ _ h' tk hx ⟨hi,hit',?_⟩ fun b o hb eo=>hs'.extBut b o (fun h=>hb (by simp[h])) eo
   obtain⟨o,eo,q⟩:=x.2.2
   exact⟨o,(hs'.2 l hne).trans eo,q⟩
  done:=fun s Q E x hQ=>by
   have e:(items.size:Int) - 1 - (items.size:Int)=-1:=by omega
   have hit:=x.2.1
   rw[e]at hit
   exact zNC hh hit fun h' he'=>hQ h' s.toks fun b o hb eo=>he' b o (fun h=>hb (by simp[h])) eo
  self:=fun _ _ _ _ x hQ=>zET x.2.1 hQ }
end
theorem zEc{items:List AB}{acc:Array AB}(h:E7 (fun i v=>items.toArray[items.toArray.size - 1 - i]?=some v) acc items.toArray.size):acc.toList=items.reverse:=by
 have h1:acc.size=items.length:=by have:=h.1; simpa using this
 refine List.ext_getElem? fun i=>?_
 rcases Ci i items.length with hi | hi
 ·have hi':i < acc.size:=by omega
  have:=h.2 i acc[i] (by simp[hi'])
  rw[HU hi]
  simp only[AS,List.getElem?_toArray]at this
  rw[this]
  simp[hi']
 ·rw[Bc (by simpa using by omega),Bc (by simpa using hi)]
theorem Vals.rev:∀ {xs:List V} {us:List AB},Vals xs us->Vals xs.reverse us.reverse
 | _,_,.nil=>.nil
 | _,_,.cons r t=>by
  simp only[EH]
  exact (Vals.rev t).append (.cons r .nil)
section
variable {X:Cx}
noncomputable def tLRev (K:AH) (ta:TA):TE:=fun σ H Q=>ta σ H fun vs H1=>∃ (a:Addr) (xs:List V),vs=[.ref a]/\(SqL K H1 a xs\/SqT K H1 a xs)/\∀ l,H1 l=none->Q (.ref l) (upd H1 l (.lst xs.reverse))
theorem zMZ{e1:Expr}{ta:TA}{p0 p1 pos0 pos1:Pos}(hr:X.A.handled=none)(hg0:Gl X "list")(hm0:X.mg "list"=none)(hg1:Gl X "reversed")(hm1:X.mg "reversed"=none)(ha:PA X [e1] ta)
  (hs:AI [e1] X.env=[(false,eval e1 X.env)]:=by rfl)
  (hs3:AI [.Call (.Name "reversed" p1) [e1] [] pos1] X.env=[(false,eval (.Call (.Name "reversed" p1) [e1] [] pos1) X.env)]:=by rfl) :
  PE X (.Call (.Name "list" p0) [.Call (.Name "reversed" p1) [e1] [] pos1] [] pos0) (tLRev X.K ta):=by
 intro pins s σ H Q I h
 refine Hr (zA9 I hg0 hm0 Fy (BA ?_ hs3 rfl))
 rw[hs3]
 refine FI ?_
 refine Hr (zA9 I hg1 hm1 LW (BA (thn (ha pos1 pins s σ H _ I h) fun us s1 ⟨vs,H1,I1,r1,q1⟩=>?_) (by rw[hs]; rfl) (by rfl)))
 obtain⟨a,xs,e,hq,q⟩:=q1
 subst e
 obtain⟨u1,e,r⟩:=r1.one
 subst e
 cases r
 have fin:∀ (s2:AD) (its:List AB) (h':Heap) (tk:Nat) (acc:Array AB) (c:Nat),s2.heap.objs.size=s1.heap.objs.size+1->s2={ s1 with heap:=s2.heap,toks:=s2.toks }->(∀ b o,s1.heap.get? b=some o->s2.heap.get? b=some o)->Vals xs its->xs.length<=AE ->
   (∀ b o,b≠s1.heap.objs.size->s2.heap.get? b=some o->h'.get? b=some o)->h'.get? s2.heap.objs.size=some { cls:=.type "list",dict:=none,data:=.seq acc c,slots:=#[] }->acc.toList=its.reverse ->
   EP X pins σ Q (.ref s2.heap.objs.size) { s2 with heap:=h',toks:=tk }:=fun s2 its h' tk acc c hz he k12 rv hl kp hS ea=>by
  have kk:∀ b o,s1.heap.get? b=some o->h'.get? b=some o:=fun b o e=>kp b o (Ah (AJ e)) (k12 b o e)
  have hf:H1 s2.heap.objs.size=none:=I1.hok.fresh (by omega)
  refine⟨.ref s2.heap.objs.size,upd H1 s2.heap.objs.size (.lst xs.reverse),?_,rfl,q _ hf⟩
  rw[he]
  refine I1.laid (t':=tk) kk (by show s1.heap.objs.size<=s2.heap.objs.size; omega) ⟨by simpa using hl,its.reverse,c,rv.rev,?_⟩
  rw[← ea,HL]
  exact hS
 rcases hq with h1 | h1
 ·obtain⟨its,rv,pl,z⟩:=I1.list h1
  have l1:=rv.length
  have hlist:s1.heap.IsList a its.toArray:=pl.isList
  have lt1:a < s1.heap.objs.size:=by obtain⟨o,e,_⟩:=hlist; exact AJ e
  refine JM hlist (EC ?_)
  refine zFC (s:={ s1 with heap:=s1.heap.push (K6 a ((its.toArray.size:Int) - 1)) }) (zK1 (Ah lt1) its.toArray) hr ⟨DG _,⟨_,AN _ rfl,rfl,by simp[K6]⟩,hlist.at fun o e=>AC _ e⟩ (by rw[AS]; omega) fun h' tk acc c kp hS hacc=>?_
  exact fin { s1 with heap:=s1.heap.push (K6 a ((its.toArray.size:Int) - 1)) } its h' tk acc c (BS _ _) rfl (fun b o e=>AC _ e) rv (by omega) kp hS (zEc hacc)
 ·obtain⟨its,rv,pl,z⟩:=I1.tuple h1
  have l1:=rv.length
  have htup:s1.heap.IsTuple a its.toArray:=pl
  have lt1:a < s1.heap.objs.size:=by obtain⟨o,e,_⟩:=htup; exact AJ e
  refine GO zJJ (by decide) (F.typeCall_reversed_1 _) (F.newCall_reversed_1 _) (fun obj=>FL obj _) F.entry_reversed_new (zIf a its.toArray (by rw[AS]; omega)) ⟨htup,?_⟩
  have g:=AN s1.heap (o:={ cls:=.type "reversed",data:=.fields #[.ref a,B4 ((its.toArray.size:Int) - 1)] }) rfl
  refine⟨⟨_,g,rfl⟩,EC ?_⟩
  refine zFC (zMY (Ah lt1) its.toArray (by rw[AS]; omega)) hr ⟨DG _,by simpa using g,by
   obtain⟨o,e,q⟩:=htup
   exact⟨o,AC _ e,q⟩⟩ (by rw[AS]; omega) fun h' tk acc c kp hS hacc=>?_
  exact fin _ its h' tk acc c (BS _ _) rfl (fun b o e=>AC _ e) rv (by omega) kp hS (zEc hacc)
end
end L2
namespace D
open PySem L2
noncomputable def dLRev (fa:DA):DE:=fun Γ=>(fa Γ).bind fun p=>match p.1 with
 | [a]=>(seqS p.2 a).map fun xs=>(.l xs.reverse,p.2)
 | _=>none
theorem zLB{K:Fg}{ta:TA}{fa:DA}(ha:SimA K ta fa):SimE K (tLRev K ta) (dLRev fa):=by
 intro C w Γ σ H s Γ' Q R e k
 obtain⟨⟨as,G1⟩,e1,e⟩:=bind_some e
 dsimp only at e
 split at e
 ·obtain⟨xs,e2,e⟩:=zAE e
  cases e
  refine ha C w Γ σ H _ _ _ R e1 fun vs H1 R1 ev1 o1 n1=>?_
  obtain⟨v,rfl,o2⟩:=soks1 o1
  obtain⟨p,us,rfl,h1,i1⟩:=zD0 R1 o2 e2
  exact⟨p,us,rfl,h1,fun l hl=>k _ _ (R1.new hl) (ev1.trans (Evo.new hl)) (R1.newl hl i1.rev) ⟨l,rfl,zAv ev1 R1.lst hl⟩⟩
 ·cases e
section
variable {ι:Type}{K:Fg}{X:ι->Cx}{mg:Str->Option AB}{k:Nat}{a:Expr}{da:DA}{Γ:En}
theorem zMB{p0 p1 pos0 pos1:Pos}(M:Fm K mg k X)(hm0:mg "list"=none)(hm1:mg "reversed"=none)(ha:AX K X [a] da)(hg0:∀ j,Gl (X j) "list":=by intro _; rfl)(hg1:∀ j,Gl (X j) "reversed":=by intro _; rfl)
  (hs:∀ j,AI [a] (X j).env=[(false,eval a (X j).env)]:=by intro _; rfl)
  (hs3:∀ j,AI [.Call (.Name "reversed" p1) [a] [] pos1] (X j).env=[(false,eval (.Call (.Name "reversed" p1) [a] [] pos1) (X j).env)]:=by intro _; rfl) :
  EX K X (.Call (.Name "list" p0) [.Call (.Name "reversed" p1) [a] [] pos1] [] pos0) (dLRev da) :=
 let ⟨t,q,u⟩:=ha; ⟨tLRev K t,fun j=>by have:=zMZ (p0:=p0) (p1:=p1) (pos0:=pos0) (pos1:=pos1) (M.room j).hd (hg0 j) (by rw[M.mg]; exact hm0) (hg1 j) (by rw[M.mg]; exact hm1) (q j) (hs j) (hs3 j); rw[M.K j]at this; exact this,zLB u⟩
@[simp] theorem zPn:dLRev da Γ=(da Γ).bind fun p=>match p.1 with
 | [a]=>(seqS p.2 a).map fun xs=>(.l xs.reverse,p.2)
 | _=>none:=(rfl)
end
end D
namespace L2
open PySem PySem.Spec PyProof.Rows
noncomputable def Itw (K:AH) (a1:Addr) (n:Nat):It :=
 ⟨fun i H=>∃ xs x,SqL K H a1 xs/\xs.length=n/\i < n/\xs[n - 1 - i]?=some x,
  fun i H v H'=>H'=H/\∀ xs,SqL K H a1 xs->xs[n - 1 - i]?=some v,
  fun i H=>i=n⟩
theorem zKY{P:AY}{w:Af}{K:AH}{tg:Expr}{e a1:Addr}(n:Nat)(hle:a1≠e) :
  Turn P w K tg (Itw K a1 n) [e] e (fun i h=>h.IsRevIter e a1 ((n:Int) - 1 - (i:Int))) where
 mem:=by simp
 obj:=fun i h st b hb=>by
  have q:b=e:=by simpa using hb
  subst q
  obtain⟨o,e,c,d⟩:=st
  exact⟨o,e,fun v z=>by rw[d]at z; cases z⟩
 keep:=fun i h h' st k=>st.at fun o q=>k e (by simp) o q
 item:=by
  intro X hP hw hK hc i pins s σ H E I hf st hg
  subst hP hw hK
  obtain⟨xs,x,h1,hn,hi,hx⟩:=hg
  obtain⟨its1,v1,o1,z1⟩:=I.list h1
  obtain⟨u1,e1,r1⟩:=v1.get hx
  have l1:=v1.length
  have ei:(n:Int) - 1 - (i:Int)=((n - 1 - i:Nat):Int):=by omega
  have st':s.heap.IsRevIter e a1 ((n - 1 - i:Nat):Int):=by rw[← ei]; exact st
  obtain⟨f0,f1,f2,f3,f4,f5⟩:=hf e (by simp)
  refine wpAny_pyNext_rev_item (items:=its1.toArray) st' o1.isList (x:=u1) (by simpa using e1) fun h' he sb=>?_
  have I1:Inv X pins σ H { s with heap:=h' }:=I.turned (t':=s.toks) (fun b o hb q=>(sb.2 b hb).trans q) f0 f1 f3 f4 f5
  have he':h'.IsRevIter e a1 ((n:Int) - 1 - ((i+1:Nat):Int)):=by
   have:(n:Int) - 1 - ((i+1:Nat):Int)=((n - 1 - i:Nat):Int) - 1:=by omega
   rw[this]; exact he
  obtain⟨o,q1,q2,q3⟩:=id he'
  exact⟨u1,rfl,zE8 (s:={ s with heap:=h' }) q1 q2 q3 (by decide) ⟨x,H,I1,r1,⟨rfl,fun ys hy=>by rw[I.list_inj hy h1]; exact hx⟩,he',fun b hb=>(hf b hb).1⟩⟩
 done:=by
  intro X hP hw hK hc i pins s σ H E I hf st hg
  subst hP hw hK
  have hg:i=n:=hg
  subst hg
  obtain⟨f0,f1,f2,f3,f4,f5⟩:=hf e (by simp)
  have st':s.heap.IsRevIter e a1 (-1):=by
   have:(i:Int) - 1 - (i:Int)=-1:=by omega
   rw[← this]; exact st
  exact wpAny_pyNext_rev_end (I.ok.hd hc) st' fun h' eb=>⟨rfl,I.turned (t':=s.toks) (fun b o hb q=>eb b o hb q) f0 f1 f3 f4 f5⟩
 self:=fun _ _ _ _ _ st h=>FY st h
section
variable {X:Cx}{tg:Expr}
noncomputable def iRevL (K:AH) (ta:TA):TI:=fun σ H R=>ta σ H fun vs H1=>∃ (a1:Addr) (xs:List V),vs=[.ref a1]/\SqL K H1 a1 xs/\R (Itw K a1 xs.length) H1
theorem zMs{e1:Expr}{ta:TA}{p pos:Pos}(hg:Gl X "reversed")(hm:X.mg "reversed"=none)(ha:PA X [e1] ta)(hs:AI [e1] X.env=[(false,eval e1 X.env)]:=by rfl) :
  PI X tg (.Call (.Name "reversed" p) [e1] [] pos) (iRevL X.K ta):=by
 intro pins s σ H R I h
 refine Hr (zA9 I hg hm LW (BA (thn (ha pos pins s σ H _ I h) fun us s1 ⟨vs,H1,I1,r1,q1⟩=>?_) (by rw[hs]; rfl) (by rfl)))
 obtain⟨a1,xs,e,h1,q⟩:=q1
 subst e
 obtain⟨u1,e,r⟩:=r1.one
 subst e
 cases r
 obtain⟨its1,v1,o1,z1⟩:=I1.list h1
 have l1:=v1.length
 have hlist:s1.heap.IsList a1 its1.toArray:=o1.isList
 have lt1:a1 < s1.heap.objs.size:=by obtain⟨o,e,_⟩:=hlist; exact AJ e
 refine JM hlist ?_
 have st':(s1.heap.push (K6 a1 ((its1.toArray.size:Int) - 1))).IsRevIter s1.heap.objs.size a1 ((xs.length:Int) - 1 - ((0:Nat):Int)):=by
  have:((xs.length:Int) - 1 - ((0:Nat):Int))=(its1.toArray.size:Int) - 1:=by rw[AS]; omega
  rw[this]
  exact⟨_,AN _ rfl,rfl,rfl⟩
 refine FY st' ?_
 refine⟨_,_,_,_,H1,rfl,I1.kept (t':=s1.toks) fun b o e=>AC _ e,zKY xs.length (Ah lt1),st',fun c hc=>?_,q⟩
 have e:c=s1.heap.objs.size:=by simpa using hc
 subst e
 exact I1.fpOk (AL _) (I1.hok.fresh (AL _))
end
end L2
namespace D
open PySem L2
noncomputable def dRevL (fa:DA):DI:=fun Γ=>(fa Γ).bind fun p=>match p.1 with
 | [a]=>(sqlOf p.2 a).bind fun xs=>gd xs.length ((xs.reverse,srcS p.2 a),p.2)
 | _=>none
section
variable {K:Fg}
theorem zJO{ta:TA}{fa:DA}(ha:SimA K ta fa):SimI K (iRevL K ta) (dRevL fa):=by
 intro C w Γ σ H its src Γ' R Rp e k
 obtain⟨⟨as,G1⟩,e1,e⟩:=bind_some e
 dsimp only at e
 split at e
 ·obtain⟨xs,e2,e⟩:=bind_some e
  obtain⟨hz,e⟩:=zBX e
  cases e
  refine ha C w Γ σ H _ _ _ Rp e1 fun vs H1 R1 ev1 o1 n1=>?_
  obtain⟨v,rfl,o2⟩:=soks1 o1
  obtain⟨p,us,rfl,h1,i1,st⟩:=zCo R1 o2 e2
  refine⟨p,us,rfl,h1,k _ H1 R1 ev1 ⟨by simpa using hz,fun L' hs av H2 ev=>?_⟩⟩
  have hL:LL L' H1:=fun q hq=>R1.lst q (hs q hq)
  have h2:=st L' hs av H2 ev
  have i2:=i1.evo ev hL
  have l2:=i2.len
  refine⟨fun i t e=>?_,by show _=_; simp[l2]⟩
  have hi:i < xs.length:=by simpa using (Ac.mp e).1
  rw[HU hi]at e
  obtain⟨v,e3,hv⟩:=i2.get e
  refine⟨⟨us,v,h2,rfl,by omega,by rw[l2]; exact e3⟩,fun x H3 y=>?_⟩
  obtain⟨rfl,k1⟩:=y
  have q1:=k1 us h2
  rw[l2,e3]at q1; cases q1
  exact⟨fun b o e=>e,hv⟩
 ·cases e
end
section
variable {ι:Type}{K:Fg}{X:ι->Cx}{mg:Str->Option AB}{k:Nat}{a:Expr}{da:DA}{p pos:Pos}{Γ:En}
theorem zL6{tg:Expr}(M:Fm K mg k X)(hm:mg "reversed"=none)(ha:AX K X [a] da)(hg:∀ j,Gl (X j) "reversed":=by intro _; rfl)(hs:∀ j,AI [a] (X j).env=[(false,eval a (X j).env)]:=by intro _; rfl) :
  IX K X tg (.Call (.Name "reversed" p) [a] [] pos) (dRevL da) :=
 let ⟨t,q,u⟩:=ha; ⟨iRevL K t,fun j=>by have:=zMs (tg:=tg) (p:=p) (pos:=pos) (hg j) (by rw[M.mg]; exact hm) (q j) (hs j); rw[M.K j]at this; exact this,zJO u⟩
@[simp] theorem zPY:dRevL da Γ=(da Γ).bind fun p=>match p.1 with
 | [a]=>(sqlOf p.2 a).bind fun xs=>gd xs.length ((xs.reverse,srcS p.2 a),p.2)
 | _=>none:=(rfl)
end
@[simp high,simp ↓ high] theorem zRJ{α:Type}{x y:α}:ifO (some 3) 3 x y=x:=rfl
end D
namespace L2
open PySem PySem.Spec PyProof.Rows
section
variable {X:Cx}{x:Str}{p pos:Pos}{e:Expr}{es:List Expr}{t:TA}{k:Nat}
noncomputable def tCallV (i:Nat) (C:Addr->Sp->Prop) (t:TA):TE:=fun σ H Q=>∃ f sp,σ[i]?=some (some (.ref f))/\C f sp/\t σ H fun vs H1=>sp (vs++[]) H1 Q E0
theorem zKd{i:Nat}{C:Addr->Sp->Prop}(hC:Mod X.K X.mg X.base->∀ f sp,C f sp->∃ fd ps,FnOk X.prog X.w X.K X.mg X.base CX0 k f fd ps sp/\An X.K (.ref f)=true/\Binds X.K fd ps [])
  (hr:Room k X.A) (hN:X.N[i]?=some x) (hv:Vis X.env.scope x) (ha:PA X (e::es) t) (hd:(x == ("__debug__":Str))=false:=by decide) (hcd:(x == ("__classdict__":Str))=false:=by decide)
  (he:AI (e::es) X.env=(false,eval e X.env)::AI es X.env:=by rfl) (hpl:(Bd pos (AI es X.env)).any (·.1)=false:=by rfl) :
  PE X (.Call (.Name x p) (e::es) [] pos) (tCallV i C t):=by
 intro pins s σ H Q I h
 obtain⟨f,sp,e1,c,h⟩:=h
 obtain⟨fd,ps,F,hk,hb⟩:=hC I.mod f sp c
 refine Bz ?_
 refine thn (zCX (X:=X) (i:=i) (x:=x) (pos:=p) hN hv hd hcd pins s σ H (fun v H'=>v=.ref f/\H'=H) I ⟨.ref f,e1,rfl,rfl⟩) fun u s1 ⟨v,H1,I1,r1,q1⟩=>?_
 obtain⟨rfl,rfl⟩:=q1
 obtain rfl:u=Ai f:=r1
 refine CV (h₀:=X.base) I1.ok.mod.kin hk (thn (ha pos pins s1 σ _ _ I1 h) fun us s2 ⟨vs,H2,I2,r,q⟩=>⟨I2.kIn,?_⟩) he hpl
 exact zJ3 F hr hb .nil pass0 I2 r q
end
end L2
namespace D
open PySem L2
abbrev Tb:=List (Str×Nat×DF)
def TbOk (P:AY) (wd:Af) (K:Fg) (mg:Str->Option AB) (base:Heap) (k:Nat) (tb:Tb):Prop:=∀ q∈tb,FD P wd K mg base k q.1 none q.2.1 q.2.2
section
variable {P:AY}{wd:Af}{K:Fg}{mg:Str->Option AB}{base:Heap}{k:Nat}
theorem FD.mono{k':Nat}{x:Str}{ip:Option Nat}{n:Nat}{F:DF}(D0:FD P wd K mg base k' x ip n F)(h:k'<=k):FD P wd K mg base k x ip n F:=by
 obtain⟨f,fd,ps,h1,h2⟩:=D0.ex
 exact⟨⟨f,fd,ps,h1.mono h,h2⟩,D0.len⟩
theorem zGD:TbOk P wd K mg base k []:=fun _ h=>nomatch h
theorem zBO{k':Nat}{x:Str}{n:Nat}{F:DF}{tb:Tb}(D0:FD P wd K mg base k' x none n F)(r:TbOk P wd K mg base k tb)(h:k'<=k:=by first | exact AL _ | decide | omega):TbOk P wd K mg base k ((x,n,F)::tb):=fun q hq=>by
 rcases AO.mp hq with rfl | hq
 ·exact D0.mono h
 ·exact r q hq
end
noncomputable def dFn (n:Str):DE:=fun Γ=>some (.v (.f n),Γ)
noncomputable def dCallV (i:Nat) (tb:Tb) (fa:DA):DE:=fun Γ=>match Γ[i]? with
 | some (some (.v (.f n)))=>match tb.find? fun q=>decide (q.1=n) with
  | some q=>dCall none q.2.2 [] fa Γ
  | none=>none
 | _=>none
def NK (K:Fg) (mg:Str->Option AB) (n:Str):Prop:=∃ f,Aw K AR n=some (some (.ref f))/\mg n=some (.ref f)
theorem zIv{K:Fg}{n:Str}{f:Addr}(h:Aw K AR n=some (some (.ref f))):SimE K (tC (.ref f)) (dFn n):=by
 intro C w Γ σ H s Γ' Q R e k
 cases e
 exact k _ H R .refl (show Im K H _ (.f n) from Im.fn ⟨f,rfl,h⟩) trivial
def CallC (K:Fg) (tb:Tb) (f:Addr) (sp:Sp):Prop:=∃ q∈tb,Aw K AR q.1=some (some (.ref f))/\sp=spD K none q.2.1 q.2.2
theorem zJT{K:Fg}{i:Nat}{tb:Tb}{t:TA}{fa:DA}(hl:∀ q∈tb,∀ gs r,q.2.2 gs=some r->gs.length=q.2.1)(ha:SimA K t fa):SimE K (tCallV i (CallC K tb) t) (dCallV i tb fa):=by
 intro C w Γ σ H s Γ' Q R e k
 unfold dCallV at e
 split at e
 ·rename_i n hn
  split at e
  ·rename_i q hq
   obtain⟨v,e1,hv⟩:=R.val i _ hn
   obtain⟨f,rfl,hf⟩:=(show Im K H v (.f n) from hv).invf
   have hm:=List.mem_of_find?_eq_some hq
   have hqn:q.1=n:=by simpa using List.find?_some hq
   exact⟨f,spD K none q.2.1 q.2.2,e1,⟨q,hm,by rw[hqn]; exact hf,rfl⟩,zDF (hl q hm) ha C w Γ σ H s Γ' Q R e k⟩
  ·cases e
 ·cases e
section
variable {ι:Type}{P:AY}{wd:Af}{base:Heap}{K:Fg}{mg:Str->Option AB}{k k' n:Nat}{X:ι->Cx}{e:Expr}{es:List Expr}{pos p:Pos}{da:DA}{x:Str}{tb:Tb}{Γ:En}
theorem zCE(M:Fm K mg k X)(h:NK K mg x)(hg:∀ j,Gl (X j) x:=by intro _; rfl)(hd:(x == ("__debug__":Str))=false:=by decide):EX K X (.Name x pos) (dFn x):=by
 obtain⟨f,h1,h2⟩:=h
 exact⟨_,fun j=>zEI (v:=.ref f) (hg j) (by rw[M.mg]; exact h2) rfl hd,zIv h1⟩
theorem zDP(i:Nat)(M:Fm K mg k X)(B:Fb P wd base X)(T0:TbOk P wd K mg base k' tb)(ha:AX K X (e::es) da)(hk:k'<=k:=by first | exact AL _ | decide | omega)
  (hN:∀ j,(X j).N[i]?=some x:=by intro _; rfl) (hv:∀ j,Vis (X j).env.scope x:=by intro _; first | exact Ep rfl | exact Dw (Ep rfl) | exact Dw (Dw rfl)) (hd:(x == ("__debug__":Str))=false:=by decide) (hcd:(x == ("__classdict__":Str))=false:=by decide)
  (he:∀ j,AI (e::es) (X j).env=(false,eval e (X j).env)::AI es (X j).env:=by intro _; rfl) (hpl:∀ j,(Bd pos (AI es (X j).env)).any (·.1)=false:=by intro _; rfl) :
  EX K X (.Call (.Name x p) (e::es) [] pos) (dCallV i tb da):=by
 obtain⟨t,q,u⟩:=ha
 refine⟨tCallV i (CallC K tb) t,fun j=>?_,zJT (fun q hq=>(T0 q hq).len) u⟩
 refine zKd (k:=k') (fun hm f sp hc=>?_) ((M.room j).mono hk) (hN j) (hv j) (q j) hd hcd (he j) (hpl j)
 obtain⟨q,hq,h1,rfl⟩:=hc
 obtain⟨f',fd,ps,g1,g2,g3,g4⟩:=(T0 q hq).ex
 have hm':Mod K mg base:=by rw[← M.K j,← M.mg j,← B.b j]; exact hm
 have e:=PySem.W.mg_of hm'.kin hm'.glob h1
 rw[g2]at e
 cases e
 exact⟨fd,ps,by rw[B.P,B.w,M.K,M.mg,B.b]; exact g1,by rw[M.K]; exact g3,by rw[M.K]; exact g4⟩
@[simp,simp ↓] theorem zQm{n:Str}:dFn n Γ=some (.v (.f n),Γ):=rfl
end
noncomputable def fuelX:Nat:=100000
theorem zBt:fuelX=100000:=rfl
inductive Rs where
 | mk (e v:T) (ks:List Rs)
noncomputable def Rs.e:Rs->T | .mk e _ _=>e
noncomputable def Rs.v:Rs->T | .mk _ v _=>v
mutual
noncomputable def Rs.pre:Rs->List Rs
 | .mk e v ks=>.mk e v ks::pres ks
noncomputable def pres:List Rs->List Rs
 | []=>[]
 | r::rs=>r.pre++pres rs
end
theorem zAS:pres []=[]:=by unfold pres; rfl
theorem zAU(r:Rs)(rs:List Rs):pres (r::rs)=r.pre++pres rs:=by rw[pres]
theorem zAd(e v:T)(ks:List Rs):(Rs.mk e v ks).pre=.mk e v ks::pres ks:=by rw[Rs.pre]
theorem zDQ:∀ (a b:List Rs),pres (a++b)=pres a++pres b
 | [],b=>by rw[zAS]; rfl
 | r::a,b=>by rw[Dd,zAU,zAU,zDQ a b,DM]
mutual
noncomputable def Rs.In (ins:DF):Rs->Prop
 | .mk e _ ks=>(ins [.v e]=some (.v (.t (ks.map Rs.e)),[])\/ins [.v e]=some (.l (ks.map Rs.e),[]))/\Ins ins ks
noncomputable def Ins (ins:DF):List Rs->Prop
 | []=>True
 | r::rs=>r.In ins/\Ins ins rs
end
mutual
noncomputable def Rs.Put (put:DF):Rs->Prop
 | .mk e v ks=>put [.v e,.r (ks.map Rs.v)]=some (.v v,[])/\Puts put ks
noncomputable def Puts (put:DF):List Rs->Prop
 | []=>True
 | r::rs=>r.Put put/\Puts put rs
end
theorem zAM{ins:DF}{r:Rs}{rs:List Rs}:Ins ins (r::rs) ↔ r.In ins/\Ins ins rs:=by rw[Ins]
theorem zAq{ins:DF}{e v:T}{ks:List Rs}:(Rs.mk e v ks).In ins ↔ (ins [.v e]=some (.v (.t (ks.map Rs.e)),[])\/ins [.v e]=some (.l (ks.map Rs.e),[]))/\Ins ins ks:=by rw[Rs.In]
theorem zAP{put:DF}{r:Rs}{rs:List Rs}:Puts put (r::rs) ↔ r.Put put/\Puts put rs:=by rw[Puts]
theorem zAl{put:DF}{e v:T}{ks:List Rs}:(Rs.mk e v ks).Put put ↔ put [.v e,.r (ks.map Rs.v)]=some (.v v,[])/\Puts put ks:=by rw[Rs.Put]
theorem zAg{ins:DF}:Ins ins []:=by unfold Ins; trivial
theorem zAe{put:DF}:Puts put []:=by unfold Puts; trivial
theorem zGg{ins:DF}:∀ {a b:List Rs},Ins ins a->Ins ins b->Ins ins (a++b)
 | [],_,_,h=>h
 | _::_,_,h,h'=>zAM.mpr ⟨(zAM.mp h).1,zGg (zAM.mp h).2 h'⟩
theorem zCf{i:Nat}{tb:Tb}{fa:DA}{Γ:En}{n:Str}{a:Nat}{F:DF}(h:Γ[i]?=some (some (.v (.f n))))(hf:tb.find? (fun q=>decide (q.1=n))=some (n,a,F)):dCallV i tb fa Γ=dCall none F [] fa Γ:=by
 unfold dCallV
 rw[h]
 dsimp only
 rw[hf]
noncomputable def awC:DT:=dTru (jV 3)
noncomputable def awB (tb:Tb):DS:=dSeq (dSet 4 (dMut 3 hPop qQ)) (dSeq (dDrop (dMut 2 hAppend (jW (jV 4) qQ))) (dDrop (dMut 3 hExtend (jW (dLRev (jW (dCallV 1 tb (jW (jV 4) qQ)) qQ)) qQ))))
noncomputable def awD (tb:Tb):DS:=dSeq (dSet 2 (dLst qQ)) (dSeq (dSet 3 (dLst (jW (jV 0) qQ))) (dSeq (dWhile awC (awB tb) fuelX) (dRet (jV 2))))
@[simp] theorem zIo{Γ:En}{xs ys:List T}(h:xs.length+ys.length<=AE):hExtend Γ xs [.l ys]=some (.a .non,xs++ys):=by
 unfold hExtend
 dsimp only
 simp[zLi,gd,h]
section
variable {tb:Tb}{n:Str}{ka:Nat}{ins:DF}
theorem zMt(hf:tb.find? (fun q=>decide (q.1=n))=some (n,ka,ins)):∀ (m:Nat) (st:List Rs) (acc:List T) (w:T) (p4:Option G) (fuel:Nat),(pres st).length=m->m < fuel->acc.length+m<=90000->st.length<=90000->Ins ins st ->
  ∃ p4',dWhile awC (awB tb) fuel [some (.v w),some (.v (.f n)),some (.l acc),some (.l (st.reverse.map Rs.e)),p4]=some (.nx [some (.v w),some (.v (.f n)),some (.l (acc++(pres st).map Rs.e)),some (.l []),p4']):=by
 intro m
 induction m with
 | zero =>
  intro st acc w p4 fuel hm hfu hb hs hi
  cases st with
  | nil =>
   obtain⟨f,rfl⟩:∃ f,fuel=f+1:=⟨fuel - 1,by omega⟩
   exact⟨p4,by rw[zAu]; simp[awC,zAS]⟩
  | cons r rs =>
   cases r with
   | mk e v ks=>rw[zAU,zAd]at hm; simp at hm
 | succ m ih =>
  intro st acc w p4 fuel hm hfu hb hs hi
  obtain⟨f,rfl⟩:∃ f,fuel=f+1:=⟨fuel - 1,by omega⟩
  cases st with
  | nil=>rw[zAS]at hm; cases hm
  | cons r rs =>
   cases r with
   | mk e v ks =>
    obtain⟨h1,h2⟩:=zAM.mp hi
    obtain⟨h3,h4⟩:=zAq.mp h1
    rw[zAU,zAd]at hm
    have hlen:∀ l:List Rs,l.length<=(pres l).length:=fun l=>by
     induction l with
     | nil=>simp
     | cons x l ih =>
      cases x with
      | mk a b c=>rw[zAU,zAd]; simp; omega
    have hk:=hlen ks
    have hr:=hlen rs
    simp only[Dd,BI,Aq]at hm
    obtain⟨p4',e4⟩:=ih (ks++rs) (acc++[e]) w (some (.v e)) f (by rw[zDQ,Aq]; omega) (by omega) (by simp; omega) (by simp; omega) (zGg h4 h2)
    refine⟨p4',?_⟩
    have hl1:acc.length < AE:=AV (show acc.length < 100000 by omega) (by decide)
    have hl2:rs.length+ks.length<=AE:=Aa (show rs.length+ks.length<=100000 by omega) (by decide)
    have e0:(CD Rs.e (Rs.mk e v ks::rs).reverse)=CD Rs.e rs.reverse++[e]:=by simp[Rs.e]
    have pop:(awB tb) [some (.v w),some (.v (.f n)),some (.l acc),some (.l (CD Rs.e rs.reverse++[e])),p4]=some (.nx [some (.v w),some (.v (.f n)),some (.l (acc++[e])),some (.l (CD Rs.e rs.reverse++(ks.map Rs.e).reverse)),some (.v e)]):=by
     have cv:dCallV 1 tb (jW (jV 4) qQ) [some (.v w),some (.v (.f n)),some (.l (acc++[e])),some (.l (CD Rs.e rs.reverse)),some (.v e)]=dCall none ins [] (jW (jV 4) qQ) [some (.v w),some (.v (.f n)),some (.l (acc++[e])),some (.l (CD Rs.e rs.reverse)),some (.v e)]:=zCf rfl hf
     have ex:∀ Γ,hExtend Γ (CD Rs.e rs.reverse) [.l (ks.map Rs.e).reverse]=some (.a .non,CD Rs.e rs.reverse++(ks.map Rs.e).reverse):=fun Γ=>zIo (by simpa using hl2)
     have hs':rs.length+1<=AE:=Aa (show rs.length+1<=100000 by simp at hs; omega) (by decide)
     have hq:(CD Rs.e rs.reverse).length+1<=AE:=by simpa using hs'
     have hl0:acc.length<=AE:=CN hl1
     generalize CD Rs.e rs.reverse=RR at cv ex hq ⊢
     have hq':RR.length<=AE:=by omega
     rcases h3 with h3 | h3
     ·simp[awB,cv,h3,hl1,ex,gd,hq,hq',hl0]
     ·simp[awB,cv,h3,hl1,ex,gd,hq,hq',hl0]
    rw[zAu,e0]
    have tr:awC [some (.v w),some (.v (.f n)),some (.l acc),some (.l (CD Rs.e rs.reverse++[e])),p4]=some (true,[some (.v w),some (.v (.f n)),some (.l acc),some (.l (CD Rs.e rs.reverse++[e])),p4]):=by
     simp[awC]
    rw[tr,Av,if_pos rfl,pop,Av]
    dsimp only
    have e5:CD Rs.e rs.reverse++(ks.map Rs.e).reverse=CD Rs.e (ks++rs).reverse:=by simp
    rw[e5,e4,zDQ]
    rw[zAU,zAd]
    simp[Rs.e]
theorem zEx(hf:tb.find? (fun q=>decide (q.1=n))=some (n,ka,ins))(r:Rs)(h:r.In ins)(hb:r.pre.length<=80000):fnD none 2 5 (awD tb) [.v r.e,.v (.f n)]=some (.l (r.pre.map Rs.e),[]):=by
 have hp:pres [r]=r.pre:=by rw[zAU,zAS,BY]
 obtain⟨p4',e⟩:=zMt hf r.pre.length [r] [] r.e none fuelX (by rw[hp]) (by rw[zBt]; omega) (by simp; omega) (by simp) (zAM.mpr ⟨h,zAg⟩)
 rw[hp]at e
 simp only[EH,List.reverse_nil,C8,Ak,BE]at e
 have g1:(1:Nat)<=AE:=by decide
 simp[fnD,awD,gd,e,g1]
end
noncomputable def fwE:DE:=dMut 1 hPop qQ
noncomputable def fwB (tb1 tb2:Tb):DS:=dSeq (dSet 5 (dComp (some (1,3)) [none,some 3] (dSeqI (dCallV 1 tb1 (jW (jV 4) qQ))) (gdName 0) dYes fwE))
 (dDrop (dMut 3 hAppend (jW (dCallV 2 tb2 (jW (jV 4) (jW (jV 5) qQ))) qQ)))
noncomputable def fwD (FA:DF) (tb1 tb2:Tb):DS:=dSeq (dSet 3 (dLst qQ))
 (dSeq (dFor none (dRevL (jW (dCall none FA [] (jW (jV 0) (jW (jV 1) qQ))) qQ)) (gdName 4) (fwB tb1 tb2))
 (dRet (dOp ixS (jV 3) (dC (.int 0)))))
theorem zJS:∀ (es vs t0:List T) (o:Option G),es.length=vs.length->t0.length+vs.length<=100000->∃ o',compD (gdName 0) dYes fwE es [o,some (.l (t0++vs.reverse))]=some (vs,[o',some (.l t0)])
 | [],[],t0,o,_,_=>⟨o,by simp[zAX]⟩
 | [],_::_,_,_,h,_=>by cases h
 | _::_,[],_,_,h,_=>by cases h
 | e::es,v::vs,t0,o,h,hb=>by
  obtain⟨o',h2⟩:=zJS es vs t0 (some (.v e)) (by simpa using h) (by simp at hb; omega)
  refine⟨o',?_⟩
  have e1:t0++(v::vs).reverse=(t0++vs.reverse)++[v]:=by simp
  have hq:(t0++vs.reverse).length+1<=AE:=Aa (show _<=100001 by simp at hb ⊢; omega) (by decide)
  rw[e1,zAb]
  generalize t0++vs.reverse=RR at h2 hq ⊢
  unfold fwE at h2 ⊢
  simp[gd,hq,h2]
section
variable {tb1 tb2:Tb}{n m:Str}{ka kb:Nat}{ins put:DF}
theorem zMa(hf:tb1.find? (fun q=>decide (q.1=n))=some (n,ka,ins))(hg:tb2.find? (fun q=>decide (q.1=m))=some (m,kb,put)){e v:T}{ks:List Rs}{t0:List T}{w:T}{p5:Option G}(h1:ins [.v e]=some (.v (.t (ks.map Rs.e)),[])\/ins [.v e]=some (.l (ks.map Rs.e),[]))
  (h2:put [.v e,.r (ks.map Rs.v)]=some (.v v,[])) (hb:t0.length+ks.length<=90000) :
  fwB tb1 tb2 [some (.v w),some (.v (.f n)),some (.v (.f m)),some (.l (t0++(ks.map Rs.v).reverse)),some (.v e),p5]=some (.nx [some (.v w),some (.v (.f n)),some (.v (.f m)),some (.l (t0++[v])),some (.v e),some (.l (ks.map Rs.v))]):=by
 obtain⟨o',hc⟩:=zJS (ks.map Rs.e) (ks.map Rs.v) t0 none (by simp) (by simp; omega)
 have cv:dCallV 1 tb1 (jW (jV 4) qQ) [some (.v w),some (.v (.f n)),some (.v (.f m)),some (.l (t0++(ks.map Rs.v).reverse)),some (.v e),p5]=dCall none ins [] (jW (jV 4) qQ) [some (.v w),some (.v (.f n)),some (.v (.f m)),some (.l (t0++(ks.map Rs.v).reverse)),some (.v e),p5]:=zCf rfl hf
 have cw:dCallV 2 tb2 (jW (jV 4) (jW (jV 5) qQ)) [some (.v w),some (.v (.f n)),some (.v (.f m)),some (.l t0),some (.v e),some (.l (ks.map Rs.v))]=dCall none put [] (jW (jV 4) (jW (jV 5) qQ)) [some (.v w),some (.v (.f n)),some (.v (.f m)),some (.l t0),some (.v e),some (.l (ks.map Rs.v))]:=zCf rfl hg
 have hz:(ks.map Rs.e).length<=AE:=Aa (show (ks.map Rs.e).length<=100000 by simp; omega) (by decide)
 have ht:t0.length < AE:=AV (show t0.length < 100000 by omega) (by decide)
 have ht':t0.length<=AE:=CN ht
 generalize t0++(ks.map Rs.v).reverse=RR at hc cv ⊢
 generalize ks.map Rs.e=EE at h1 hc hz ⊢
 generalize ks.map Rs.v=VV at h2 hc cw ⊢
 rcases h1 with h1 | h1
 ·simp[fwB,cv,h1,hc,cw,h2,gd,hz,ht,ht']
 ·simp[fwB,cv,h1,hc,cw,h2,gd,hz,ht,ht']
mutual
theorem zIq(hf:tb1.find? (fun q=>decide (q.1=n))=some (n,ka,ins))(hg:tb2.find? (fun q=>decide (q.1=m))=some (m,kb,put))(w:T):∀ (r:Rs) (t0 more:List T) (p4 p5:Option G),r.In ins->r.Put put->t0.length+r.pre.length<=90000 ->
  ∃ p4' p5',forD (gdName 4) (fwB tb1 tb2) (r.pre.reverse.map Rs.e++more) [some (.v w),some (.v (.f n)),some (.v (.f m)),some (.l t0),p4,p5]=forD (gdName 4) (fwB tb1 tb2) more [some (.v w),some (.v (.f n)),some (.v (.f m)),some (.l (t0++[r.v])),p4',p5']
 | .mk e v ks,t0,more,p4,p5,hi,hp,hb=>by
  obtain⟨h1,h2⟩:=zAq.mp hi
  obtain⟨h3,h4⟩:=zAl.mp hp
  rw[zAd]at hb ⊢
  simp only[BI]at hb
  have hlen:∀ l:List Rs,l.length<=(pres l).length:=fun l=>by
   induction l with
   | nil=>simp
   | cons x l ih =>
    cases x with
    | mk a b c=>rw[zAU,zAd]; simp; omega
  have hk:=hlen ks
  obtain⟨q4,q5,e1⟩:=zJR hf hg w ks t0 (e::more) p4 p5 h2 h4 (by omega)
  refine⟨some (.v e),some (.l (ks.map Rs.v)),?_⟩
  rw[EH,El,DM,Ak,BE]
  show forD _ _ (CD Rs.e (pres ks).reverse++(e::more)) _=_
  rw[e1,zCh]
  simp only[zJP]
  rw[show (List.set [some (G.v w),some (.v (.f n)),some (.v (.f m)),some (.l (t0++(ks.map Rs.v).reverse)),q4,q5] 4 (some (.v e)))=[some (.v w),some (.v (.f n)),some (.v (.f m)),some (.l (t0++(ks.map Rs.v).reverse)),some (.v e),q5] from rfl]
  rw[Av,zMa hf hg h1 h3 (by omega),Av]
  rfl
theorem zJR(hf:tb1.find? (fun q=>decide (q.1=n))=some (n,ka,ins))(hg:tb2.find? (fun q=>decide (q.1=m))=some (m,kb,put))(w:T):∀ (ks:List Rs) (t0 more:List T) (p4 p5:Option G),Ins ins ks->Puts put ks->t0.length+(pres ks).length<=90000 ->
  ∃ p4' p5',forD (gdName 4) (fwB tb1 tb2) ((pres ks).reverse.map Rs.e++more) [some (.v w),some (.v (.f n)),some (.v (.f m)),some (.l t0),p4,p5]=forD (gdName 4) (fwB tb1 tb2) more [some (.v w),some (.v (.f n)),some (.v (.f m)),some (.l (t0++(ks.map Rs.v).reverse)),p4',p5']
 | [],t0,more,p4,p5,_,_,_=>⟨p4,p5,by simp[zAS]⟩
 | r::rs,t0,more,p4,p5,hi,hp,hb=>by
  obtain⟨h1,h2⟩:=zAM.mp hi
  obtain⟨h3,h4⟩:=zAP.mp hp
  rw[zAU]at hb ⊢
  simp only[Aq]at hb
  have hlen:∀ l:List Rs,l.length<=(pres l).length:=fun l=>by
   induction l with
   | nil=>simp
   | cons x l ih =>
    cases x with
    | mk a b c=>rw[zAU,zAd]; simp; omega
  have hk:=hlen rs
  obtain⟨q4,q5,e1⟩:=zJR hf hg w rs t0 (r.pre.reverse.map Rs.e++more) p4 p5 h2 h4 (by omega)
  obtain⟨q6,q7,e2⟩:=zIq hf hg w r (t0++(rs.map Rs.v).reverse) more q4 q5 h1 h3 (by simp; omega)
  refine⟨q6,q7,?_⟩
  rw[List.reverse_append,El,DM,e1,e2]
  simp
end
theorem zBD(hf:tb1.find? (fun q=>decide (q.1=n))=some (n,ka,ins))(hg:tb2.find? (fun q=>decide (q.1=m))=some (m,kb,put))(r:Rs)(h1:r.In ins)(h2:r.Put put)(hb:r.pre.length<=80000) :
  fnD none 3 6 (fwD (fnD none 2 5 (awD tb1)) tb1 tb2) [.v r.e,.v (.f n),.v (.f m)]=some (.v r.v,[]):=by
 have ha:=zEx hf r h1 hb
 obtain⟨q4,q5,e⟩:=zIq hf hg r.e r [] [] none none h1 h2 (by simp; omega)
 rw[BY,zCD]at e
 have hz:(r.pre.map Rs.e).length<=AE:=Aa (show (r.pre.map Rs.e).length<=100000 by simp; omega) (by decide)
 have e2:(CD Rs.e r.pre).reverse=CD Rs.e r.pre.reverse:=by simp
 generalize fnD none 2 5 (awD tb1)=FA at ha ⊢
 generalize r.pre.map Rs.e=EE at ha hz e2
 rw[← e2]at e
 simp[fnD,fwD,ha,gd,hz,e]
end
end D
namespace L2
open PySem PySem.Spec PyProof.Rows
structure FunD(K:AH)(x qual:Str)(st:Stmt)(T f:Addr)(fd:AZ):Prop where
 ex:∃ (oc:AB) (od:Option Addr) (kV doc pm:AB) (an:Option Addr) (cdv ct:AB) (osl:Array (Option AB)),
  fd=Br x qual (defArgs st) (defBody st) (defScope st) (.ref T) kV doc pm an cdv ct/\K.lookup f=some ⟨oc,od,.func fd,osl⟩/\Bi K cdv qual=true
 kp:An K (.ref f)=true
section
variable {P:AY}{w:Af}{K:AH}{mg:Str->Option AB}{base:Heap}
theorem FunD.binds{x qual:Str}{st:Stmt}{T f:Addr}{fd:AZ}{ps:List Str}{ds:List AB}{o:Obj}{items:Array AB}{n:Nat}(F:FunD K x qual st T f fd)(hT:K.lookup T=some o)(hs:o.data=.seq items n)
  (h:∀ (kV doc pm:AB) (an:Option Addr) (cdv ct:AB) (us:List AB),(us++ds).length=ps.length->∃ k,Kt (Br x qual (defArgs st) (defBody st) (defScope st) (.ref T) kV doc pm an cdv ct) ⟨us,[]⟩=Hu (.ref T) >>= k/\k (some items)=pure (ps.zip (us++ds))):Binds K fd ps ds:=by
 obtain⟨oc,od,kV,doc,pm,an,cdv,ct,osl,rfl,lk,hcd⟩:=F.ex
 intro s us hK hl
 obtain⟨k,h1,h2⟩:=h kV doc pm an cdv ct us hl
 exact BindsTo.of_defaults rfl (hK T o hT) hs h1 h2
theorem zGq{x qual:Str}{st:Stmt}{T f:Addr}{oc:AB}{od an:Option Addr}{osl:Array (Option AB)}{kV doc pm cdv ct:AB}(l:K.lookup f=some ⟨oc,od,.func (Br x qual (defArgs st) (defBody st) (defScope st) (.ref T) kV doc pm an cdv ct),osl⟩)
  (c:Bi K cdv qual=true) (k:An K (.ref f)=true):FunD K x qual st T f (Br x qual (defArgs st) (defBody st) (defScope st) (.ref T) kV doc pm an cdv ct):=⟨⟨oc,od,kV,doc,pm,an,cdv,ct,osl,rfl,l,c⟩,k⟩
end
end L2
namespace D
open PySem L2
end D
namespace D
open PySem L2
variable {K:Fg}
end D
namespace D
open PySem L2
open PySem.SeqAt
end D
namespace L2
open PySem PySem.Spec PyProof.Rows
structure Ch(l S:List Addr)(h h':Heap):Prop where
 keep:∀ b o,b∉l->b∉S->h.get? b=some o->h'.get? b=some o
 slot:∀ b o,b∉S->h.get? b=some o->∃ sl,h'.get? b=some { o with slots:=sl }
section
variable {l l' S S':List Addr}{h h' h1 h2 h3:Heap}{a e T:Addr}{f:Obj->Obj}{o:Obj}
theorem Ch.trans(x:Ch l S h1 h2)(y:Ch l S h2 h3):Ch l S h1 h3 :=
 ⟨fun b o n m q=>y.keep b o n m (x.keep b o n m q),fun b o m q=>by
  obtain⟨s1,q1⟩:=x.slot b o m q
  obtain⟨s2,q2⟩:=y.slot b _ m q1
  exact⟨s2,q2⟩⟩
theorem Ch.wide(x:Ch l S h h')(hl:∀ b∈l,b∈l')(hs:∀ b∈S,b∈S'):Ch l' S' h h' :=
 ⟨fun b o n m q=>x.keep b o (fun z=>n (hl b z)) (fun z=>m (hs b z)) q,fun b o m q=>x.slot b o (fun z=>m (hs b z)) q⟩
theorem Ch.upd1:Ch l [a] h (h.update a f):=by
 have k:∀ b o,b∉[a]->h.get? b=some o->(h.update a f).get? b=some o:=fun b o m q=>by
  rw[Au _ _ (fun z=>m (by rw[z]; exact AQ))]; exact q
 exact⟨fun b o _ m q=>k b o m q,fun b o m q=>⟨o.slots,k b o m q⟩⟩
theorem Ch.push:Ch l S h (h.push o):=⟨fun b u _ _ q=>AC _ q,fun b u _ q=>⟨u.slots,AC _ q⟩⟩
theorem Ch.slots(x:Heap.SlotsOnly l h h'):Ch l S h h':=⟨fun b o n _ q=>(x.2.1 b n).trans q,fun b o _ q=>x.2.2 b o q⟩
theorem Ch.funs{base:Heap}{fr:List Env}(x:Ch l S h h')(hl:h.FunFrames base fr)(hS:∀ b∈S,∀ o,h.get? b=some o->∃ vs,o.data=.fields vs):h'.FunFrames base fr :=
 hl.of_keeps fun b o q hn=>by
  obtain⟨sl,q'⟩:=x.slot b o (fun z=>by obtain⟨vs,z⟩:=hS b z o q; exact hn vs z) q
  exact⟨_,q',rfl⟩
end
structure Exc(h:Heap)(e T:Addr)(C:AB)(d:Option Addr)(f:AB):Prop where
 ex:∃ oe vs,h.get? e=some oe/\oe.cls=C/\oe.dict=d/\oe.data=.fields vs/\vs[1]?=some (.ref T)
 tr:∃ oT ts,h.get? T=some oT/\oT.data=.fields ts/\ts[3]?=some f
 ne:T≠e
section
variable {M:Gj}{A:Ao}{E:AB->AD->Prop}{s:AD}{base:Heap}{env:Env}{outer:List Env}{L e T:Addr}{C:AB}{d:Option Addr}{Q:Unit->AD->Prop}
theorem zFJ{oe:Obj}{vs:Array AB}{hv:AB}{hn:Bool}(hfr:A.frames=some (env::outer))(hl:s.heap.FunFrames base (env::outer))(hf:env.frame=some L)(he:s.heap.get? e=some oe)(hd:oe.data=.fields vs)(hsz:1 < vs.size)
  (hQ:∀ h' T,s.heap.get? T=none->Exc h' e T oe.cls oe.dict (B4 L)->Ch (frs (env::outer)) [e] s.heap h'->Q () { s with heap:=h' }) :
  AM M A (frameOf env >>= fun a=>entryPlaceOf L hn >>= fun pl=>Gd hv a .none (B4 L) .none pl >>= fun b=>GP (.ref e) 1 b) Q E s:=by
 have nf:e∉frs (env::outer):=fun z=>by
  obtain⟨_,o,ho,no⟩:=hl.mem z
  rw[he]at ho; cases ho; exact no vs hd
 refine AA (wpAny_frameOf_fun hfr hl hf fun h1 k1=>AA (wpAny_entryPlaceOf fun pl hp=>?_))
 refine AA ?_
 unfold Gd newFields
 refine BB ?_ (hp.sizeOk5 _ _ _ _ _)
 have e1:h1.get? e=some oe:=(k1.2.1 e nf).trans he
 have sz1:h1.objs.size=s.heap.objs.size:=k1.1
 have neT:h1.objs.size≠e:=BV (AJ e1)
 refine EM (AC _ e1) hd hsz (hQ _ h1.objs.size (Cv (Jy sz1.symm)) ⟨?_,?_,neT⟩ ?_)
 ·have dm:=DC hd (·.setIfInBounds 1 (Ai h1.objs.size))
  refine⟨_,_,BU _ (AC _ e1) (DZ dm),IR _ _,?_,dm,by simp[hsz]⟩
  obtain⟨c0,d0,da0,sl0⟩:=oe
  cases da0 <;> rfl
 ·refine⟨_,_,(Au _ _ (Az neT)).trans (AN h1 rfl),rfl,?_⟩
  first
   | (simp; done)
   | (rcases hp with rfl | ⟨_,_,_,_,_,_,_,rfl⟩ <;> simp)
 ·exact ((Ch.slots k1).trans Ch.push).trans Ch.upd1
theorem zDi{oe:Obj}{vs:Array AB}(hfr:A.frames=some (env::outer))(hl:s.heap.FunFrames base (env::outer))(hf:env.frame=some L)(he:s.heap.get? e=some oe)(hd:oe.data=.fields vs)(h1:vs[1]?=some .none)
  (hQ:∀ h' T,s.heap.get? T=none->Exc h' e T oe.cls oe.dict (B4 L)->Ch (frs (env::outer)) [e] s.heap h'->Q () { s with heap:=h' }):AM M A (Ff (.ref e) env) Q E s:=by
 unfold Ff
 simp only[hf]
 refine AA (Ag he hd h1 ?_)
 rw[if_neg (show ¬ ((A0 != A0)=true) by decide)]
 exact zFJ hfr hl hf he hd (CB.mp h1).1 hQ
theorem zEg(hfr:A.frames=some (env::outer))(hl:s.heap.FunFrames base (env::outer))(hf:env.frame=some L)(x:Exc s.heap e T C d .none)
  (hQ:∀ h' T',s.heap.get? T'=none->Exc h' e T' C d (B4 L)->Ch (frs (env::outer)) [e,T] s.heap h'->Q () { s with heap:=h' }):AM M A (Ff (.ref e) env) Q E s:=by
 obtain⟨⟨oe,vs,he,rfl,rfl,hd,h1⟩,⟨oT,ts,hT,hdT,h3⟩,ne⟩:=x
 unfold Ff
 simp only[hf]
 refine AA (Ag he hd h1 ?_)
 rw[if_pos (show (Ai T != A0)=true by simp)]
 refine AA (Ag hT hdT h3 ?_)
 rw[if_neg (show ¬ ((A0 == B4 L)=true) by simp[B4])]
 refine AA (EM hT hdT (CB.mp h3).1 ?_)
 have c1:Ch (frs (env::outer)) [T] s.heap (s.heap.update T (Gx (·.setIfInBounds 3 A0))):=Ch.upd1
 have he':(s.heap.update T (Gx (·.setIfInBounds 3 A0))).get? e=some oe:=(Au _ _ ne).trans he
 refine zFJ hfr (c1.funs hl fun b hb o ho=>?_) hf he' hd (CB.mp h1).1 fun h' T' n x' c=>hQ h' T' ?_ x' ((c1.wide (fun _ z=>z) fun b hb=>?_).trans (c.wide (fun _ z=>z) fun b hb=>?_))
 ·rw[AF.mp hb,hT]at ho; cases ho; exact⟨ts,hdT⟩
 ·cases q:s.heap.get? T' with
  | none=>rfl
  | some o =>
   by_cases z:T'=T
   ·subst z
    have:=BU (Gx (·.setIfInBounds 3 A0)) hT (DZ (DC hdT _))
    rw[n]at this; cases this
   ·rw[(Au _ _ (Az z)).trans q]at n; cases n
 ·rw[AF.mp hb]; exact AK _ AQ
 ·rw[AF.mp hb]; exact AQ
theorem land{f:AB}(x:Exc s.heap e T C d f)(hQ:∀ h',Exc h' e T C d .none->Ch [] [T] s.heap h'->Q () { s with heap:=h' }):AM M A (J5 (.ref e) none) Q E s:=by
 obtain⟨⟨oe,vs,he,hc,hdi,hd,h1⟩,⟨oT,ts,hT,hdT,h3⟩,ne⟩:=x
 have h3':3 < ts.size:=(CB.mp h3).1
 unfold J5
 refine AA (Ag he hd h1 ?_)
 rw[if_pos (show (Ai T != A0)=true by simp)]
 refine EM hT hdT h3' (hQ _ ⟨⟨oe,vs,(Au _ _ ne).trans he,hc,hdi,hd,h1⟩,?_,ne⟩ Ch.upd1)
 have dm:=DC hdT (·.setIfInBounds 3 ((none:Option Addr).elim A0 fun f=>B4 f))
 exact⟨_,_,BU _ hT (DZ dm),dm,by simp[h3']⟩
end
noncomputable def CXR (P:AY) (w:Af):CXT:=fun outer H s E e s'=>∃ (a C T:Addr) (d:Option Addr) (H':Hp),e=.ref a/\s'.os=s.os/\EF s'.gens/\Un (frs outer) [] H H' s.heap s'.heap/\HOk P w H' s'.heap/\H' a=none/\H' T=none /\
 s.heap.get? a=none/\s.heap.get? T=none/\Exc s'.heap a T (.ref C) d .none/\E (.ref C) d H'
theorem zDA{P:AY}{w:Af}{H:Hp}{h:Heap}{a:Addr}{o:HO}(x:ObjOk P w H h a o):∃ u,h.get? a=some u:=by
 cases o with
 | lst xs=>obtain⟨_,_,_,_,e⟩:=x; exact⟨_,e⟩
 | tup xs=>obtain⟨_,_,_,ob,e,_⟩:=x; exact⟨_,e⟩
 | dK kvs=>obtain⟨_,_,_,_,o,_,_,e,_⟩:=x; exact⟨_,e⟩
 | dT kvs=>obtain⟨_,_,_,_,o,_,_,e,_⟩:=x; exact⟨_,e⟩
 | set S n=>obtain⟨o,_,_,_,e,_⟩:=x; exact⟨_,e⟩
 | ins C dx fs=>obtain⟨_,_,_,e,_⟩:=x; exact⟨_,e⟩
 | own y=>exact x
 | xd fs=>obtain⟨_,⟨_,_,_,e,_⟩,_⟩:=x; exact⟨_,e⟩
 | rng lo hi=>obtain⟨_,_,_,e⟩:=x; exact⟨_,e⟩
 | frz ob u=>exact⟨_,x.1⟩
 | tbl ps=>exact⟨_,x⟩
 | met f y=>exact⟨_,x⟩
 | ext φ=>exact x.2.1
theorem zA6{P:AY}{w:Af}{H:Hp}{h:Heap}{a:Addr}(k:HOk P w H h)(e:h.get? a=none):H a=none:=by
 cases q:H a with
 | none=>rfl
 | some o=>obtain⟨u,hu⟩:=zDA (k a o q); rw[e]at hu; cases hu
theorem HOk.ch{P:AY}{w:Af}{H:Hp}{h h':Heap}{l S:List Addr}(k:HOk P w H h)(c:Ch l S h h')(hl:∀ b∈l,H b=none)(hS:∀ b∈S,H b=none):HOk P w H h':=fun a o ea =>
 (k a o ea).stay (fun b u hb eb=>by
  have hn:H b≠none:=by
   rcases hb with rfl | hb
   ·rw[ea]; intro z; cases z
   ·rw[hb]; intro z; cases z
  exact c.keep b u (fun z=>hn (hl b z)) (fun z=>hn (hS b z)) eb) (fun _ z=>z) (fun _ _ z=>z)
section
variable {X:Cx}{pins:List (Addr×Obj)}{σ:St}{H H':Hp}{s s':AD}{a T:Addr}
theorem Inv.stackFree(I:Inv X pins σ H s):∀ b∈frs X.stack,H b=none:=I.env0.frf
theorem Inv.settle(I:Inv X pins σ H s)(os:s'.os=s.os)(hg:EF s'.gens)(un:Un (frs X.stack) [] H H' s.heap s'.heap)(hok:HOk X.prog X.w H' s'.heap)(ha:s.heap.get? a=none)(hT:s.heap.get? T=none)(hHa:H' a=none)(hHT:H' T=none)
  {h'':Heap} {S:List Addr} (hS:∀ b∈S,b=a\/b=T\/s'.heap.get? b=none) (c:Ch (frs X.stack) S s'.heap h''):Inv X pins σ H' { s' with heap:=h'' }:=by
 have nS:∀ b o,s'.heap.get? b=some o->(∃ u,s.heap.get? b=some u)->b∉S:=fun b o q ⟨u,hu⟩ z=>by
  rcases hS b z with rfl | rfl | z
  ·rw[ha]at hu; cases hu
  ·rw[hT]at hu; cases hu
  ·rw[z]at q; cases q
 have frn:∀ b∈frs X.stack,H' b=none:=fun b hb=>by
  obtain⟨_,o,ho,_⟩:=I.env0.funs.mem hb
  exact un.free b o ho (I.stackFree b hb) (fun z=>nomatch z)
 refine I.call' (ch:=[]) os { keep:=fun b o q n hb _=>?_,slot:=fun b o q n hb hx=>?_,free:=un.free,there:=fun b o q hx=>?_,tups:=un.tups,frzs:=un.frzs,tbls:=un.tbls } (hok.ch c frn fun b hb=>?_) hg fun b z=>nomatch z
 ·have q':=un.keep b o q n hb (fun z=>nomatch z)
  exact c.keep b o hb (nS b o q' ⟨o,q⟩) q'
 ·obtain⟨sl,q'⟩:=un.slot b o q n hb hx
  obtain⟨sl2,q2⟩:=c.slot b _ (nS b _ q' ⟨o,q⟩) q'
  exact⟨sl2,q2⟩
 ·obtain⟨o',q'⟩:=un.there b o q hx
  obtain⟨sl,q2⟩:=c.slot b o' (nS b o' q' ⟨o,q⟩) q'
  exact⟨_,q2⟩
 ·rcases hS b hb with rfl | rfl | z
  ·exact hHa
  ·exact hHT
  ·exact zA6 hok z
end
section
variable {P:AY}{w:Af}{K:AH}{mg:Str->Option AB}{base:Heap}{N:List Str}{qual:Str}{scope:B6}{f:Addr}{cd:AB}{A:Ao}{outer:List Env}{s₀ s:AD}{H₀ H:Hp}{E:XK}{pins:List (Addr×Obj)}{σ:St}
theorem zF7{h':Heap}{e C:Addr}(I:Inv (cxOf (CXR P w) P w K mg base N qual scope f cd A outer s₀ H₀ E) pins σ H s)(hx:Heap.MadeExcOf s.heap h' e (.ref C) [])(hE:E (.ref C) none H) :
  (cxOf (CXR P w) P w K mg base N qual scope f cd A outer s₀ H₀ E).xe (.ref e) { s with heap:=h' }:=by
 have hfun:s.heap.FunFrames base ((cxOf (CXR P w) P w K mg base N qual scope f cd A outer s₀ H₀ E).env::outer):=I.env0.funs
 have hfr:=I.ok.frames
 have habove:s₀.heap.objs.size<=(cxOf (CXR P w) P w K mg base N qual scope f cd A outer s₀ H₀ E).env.locals:=I.ok.above
 have hfs:frs ((cxOf (CXR P w) P w K mg base N qual scope f cd A outer s₀ H₀ E).env::outer)=(cxOf (CXR P w) P w K mg base N qual scope f cd A outer s₀ H₀ E).env.locals::frs outer:=rfl
 have hstk:∀ b∈frs ((cxOf (CXR P w) P w K mg base N qual scope f cd A outer s₀ H₀ E).env::outer),H b=none:=I.stackFree
 obtain⟨t,he,htn,ht⟩:=hx.there
 have ke:=hx.keeps
 have new:=hx.new
 show AM (model P w) _ (leaving _ (.ref e)) (fun _ s''=>CXR P w outer H₀ s₀ E (.ref e) s'') (fun e' s''=>CXR P w outer H₀ s₀ E e' s'') _
 unfold leaving
 refine AA (zDi (s:={ s with heap:=h' }) (base:=base) hfr (hfun.of_keeps fun b o q _=>⟨o,ke b o q,rfl⟩) rfl he rfl rfl fun h2 T nT x2 c2=>?_)
 refine land (s:={ s with heap:=h2 }) x2 fun h3 x3 c3=>?_
 have c:Ch (frs ((cxOf (CXR P w) P w K mg base N qual scope f cd A outer s₀ H₀ E).env::outer)) [e,T] h' h3:=(c2.wide (fun _ z=>z) fun b z=>by rw[AF.mp z]; exact AQ).trans (c3.wide (fun _ z=>nomatch z) fun b z=>by rw[AF.mp z]; exact AK _ AQ)
 have sT:s.heap.get? T=none:=by
  cases q:s.heap.get? T with
  | none=>rfl
  | some o=>have:=ke T o q; rw[show h'.get? T=none from nT]at this; cases this
 have nS:∀ b o,s.heap.get? b=some o->b∉[e,T]:=fun b o q z=>by
  rcases AO.mp z with rfl | z
  ·rw[new]at q; cases q
  ·rw[AF.mp z,sT]at q; cases q
 have bL:∀ b o,s₀.heap.get? b=some o->b∉frs outer->b∉frs ((cxOf (CXR P w) P w K mg base N qual scope f cd A outer s₀ H₀ E).env::outer):=fun b o eo hb z=>by
  rw[hfs]at z
  rcases AO.mp z with z | z
  ·exact absurd (z ▸ AJ eo) (IG.mpr habove)
  ·exact hb z
 have back:∀ b,s.heap.get? b=none->s₀.heap.get? b=none:=fun b q=>by
  cases q0:s₀.heap.get? b with
  | none=>rfl
  | some o=>obtain⟨o',q1⟩:=I.base.there b o q0 (fun z=>nomatch z); rw[q]at q1; cases q1
 refine⟨e,C,T,none,H,rfl,I.os,I.bare,{ keep:=fun b o q n hb hx'=>?_,slot:=fun b o q n hb hx'=>?_,free:=I.base.free,there:=fun b o q hx'=>?_,tups:=I.base.tups,frzs:=I.base.frzs,tbls:=I.base.tbls },?_,zA6 I.hok new,zA6 I.hok sT,back e new,back T sT,x3,hE⟩
 ·have q1:=I.base.keep b o q n hb hx'
  exact c.keep b o (bL b o q hb) (nS b o q1) (ke b o q1)
 ·obtain⟨sl,q1⟩:=I.base.slot b o q n hb hx'
  obtain⟨sl2,q2⟩:=c.slot b _ (nS b _ q1) (ke b _ q1)
  exact⟨sl2,q2⟩
 ·obtain⟨o1,q1⟩:=I.base.there b o q hx'
  obtain⟨sl,q2⟩:=c.slot b o1 (nS b o1 q1) (ke b o1 q1)
  exact⟨_,q2⟩
 ·have k1:HOk P w H h':=fun a o ea=>(I.hok a o ea).stay (fun b u hb eb=>ke b u eb) (fun _ z=>z) (fun _ _ z=>z)
  refine k1.ch c hstk fun b z=>?_
  rcases AO.mp z with rfl | z
  ·exact zA6 I.hok new
  ·rw[AF.mp z]; exact zA6 I.hok sT
end
theorem zNb{K:AH}{h:Heap}{C:Addr}{bmB:List AB}{newId:String}(X:K.In h)(q:EB K C bmB newId=true) :
  ∃ bm N nm qn bs hdct sn sub ab col dd k0 k1 k2 k3 k5 mN,h.get? C=some (Gs nm qn C N bs bm hdct sn sub ab col dd k0 k1 k2 k3 k5 newId)/\h.Ns N mN/\mN "__init__"=none/\Je h bmB bm:=by
 unfold EB at q
 split at q
 ·rename_i dd cdat sl ho
  split at q
  ·rename_i C' bm k0 k1 k2 k3 n k5 hm hs
   simp only[Ab,beq_iff_eq,Fk]at q
   obtain⟨⟨⟨⟨⟨rfl,rfl⟩,hdel⟩,ht⟩,hok⟩,hni⟩:=q
   obtain⟨nm,bs,mro,ns,qn,hd,sn,sub,ab,col,del⟩:=cdat
   dsimp only at hm hdel hok hni
   subst hm hdel
   obtain rfl:sl=#[k0,k1,k2,k3,some (.builtin n),k5]:=by
    obtain⟨l⟩:=sl
    simp only at hs
    rw[hs]
   exact⟨bm,ns,nm,qn,bs,hd,sn,sub,ab,col,dd,k0,k1,k2,k3,k5,_,X _ _ ho,.of_isNs (HV X hok),PySem.W.nsMap_none_of_in X hok hni,HW X ht⟩
  ·cases q
 ·cases q
section
variable {P:AY}{w:Af}{K:AH}{mg:Str->Option AB}{base:Heap}{N:List Str}{qual:Str}{scope:B6}{f:Addr}{cd:AB}{A:Ao}{outer:List Env}{s₀:AD}{H₀:Hp}{E:XK}{x:Str}{C:Addr}{np cpos pos:Pos}
noncomputable abbrev veB:List AB:=[.type "ValueError",.type "Exception",.type "BaseException",.type "object"]
noncomputable def tRaise (C:Addr) (E:XK):TS:=fun _ _ H=>E (.ref C) none H
theorem zKu(q:EB K C veB "ValueError.__new__"=true)(hg:Gl (cxOf (CXR P w) P w K mg base N qual scope f cd A outer s₀ H₀ E) x)(hm:mg x=some (.ref C))(hd:(x == ("__debug__":Str))=false:=by decide) :
  PS (cxOf (CXR P w) P w K mg base N qual scope f cd A outer s₀ H₀ E) (.Raise (some (.Call (.Name x np) [] [] cpos)) none pos) (tRaise C E):=by
 intro pins s σ H D I h
 obtain⟨bm,N',nm,qn,bs,hdct,sn,sub,ab,col,dd,k0,k1,k2,k3,k5,mN,hC,hN,hni,T⟩:=zNb I.kIn q
 have hbase:bm.contains (.type "BaseException")=true:=T.hasType (by decide)
 refine wpAny_Raise_call_subU (C:=C) Ds (by decide) Ds (mN:=mN) (nm:=nm) (q:=qn) (N:=N') (bs:=bs) (bm:=bm) (hdct:=hdct) (sn:=sn) (sub:=sub) (ab:=ab) (col:=col) (dd:=dd) (k0:=k0) (k1:=k1) (k2:=k2) (k3:=k3) (k5:=k5) hbase (I.ok.hd rfl) rfl hni (zBL I hg hm ⟨rfl,?_⟩ hd)
 refine Kn ?_
 exact⟨rfl,by simp,hC,hN,T,fun h' e hx=>zF7 I hx h⟩
end
end L2
namespace D
open PySem L2
noncomputable abbrev cxR (P:AY) (wd:Af) (K:Fg) (mg:Str->Option AB) (base:Heap) (N:List Str) (qual:Str) (scope:B6) (f:Addr) (cd:AB) (A:Ao) (outer:List Env) (s:AD) (H:Hp) (E:XK):Unit->Cx:=fun _=>cxOf (CXR P wd) P wd K mg base N qual scope f cd A outer s H E
end D
namespace L2
open PySem PySem.Spec PyProof.Rows
noncomputable abbrev Cx.on (X:Cx) (E':AB->AD->Prop):Cx:={ X with xe:=E' }
noncomputable abbrev Cx.inn (X:Cx) (a:Addr) (E':AB->AD->Prop):Cx:={ X with xe:=E',calm:=false,A:=X.A.mark (some (.ref a)) }
section
variable {X:Cx}{pins:List (Addr×Obj)}{σ:St}{H H':Hp}{s s':AD}{a T:Addr}{E':AB->AD->Prop}
theorem Inv.on(I:Inv X pins σ H s):Inv (X.on E') pins σ H s :=
 ⟨⟨I.ok.mod,I.ok.kind,I.ok.glob,I.ok.blt,I.ok.above,I.ok.inj,I.ok.has,I.ok.cab,I.ok.hd,I.ok.frames,I.ok.stk,I.ok.exf,I.ok.bs,I.ok.bsz,I.ok.noex,I.ok.exfs,I.ok.funs,I.ok.frf⟩,I.os,I.bare,I.base,I.loc,I.cell,I.free,I.freeC,I.pin,I.hok,I.len⟩
theorem Inv.off(I:Inv (X.on E') pins σ H s):Inv X pins σ H s :=
 ⟨⟨I.ok.mod,I.ok.kind,I.ok.glob,I.ok.blt,I.ok.above,I.ok.inj,I.ok.has,I.ok.cab,I.ok.hd,I.ok.frames,I.ok.stk,I.ok.exf,I.ok.bs,I.ok.bsz,I.ok.noex,I.ok.exfs,I.ok.funs,I.ok.frf⟩,I.os,I.bare,I.base,I.loc,I.cell,I.free,I.freeC,I.pin,I.hok,I.len⟩
theorem Inv.inn(I:Inv X pins σ H s):Inv (X.inn a E') pins σ H s :=
 ⟨⟨I.ok.mod,I.ok.kind,I.ok.glob,I.ok.blt,I.ok.above,I.ok.inj,I.ok.has,I.ok.cab,fun z=>IW z,I.ok.frames,I.ok.stk,I.ok.exf,I.ok.bs,I.ok.bsz,I.ok.noex,I.ok.exfs,I.ok.funs,I.ok.frf⟩,I.os,I.bare,I.base,I.loc,I.cell,I.free,I.freeC,I.pin,I.hok,I.len⟩
theorem Inv.out(ok:X.Ok)(I:Inv (X.inn a E') pins σ H s):Inv X pins σ H s :=
 ⟨ok,I.os,I.bare,I.base,I.loc,I.cell,I.free,I.freeC,I.pin,I.hok,I.len⟩
theorem Inv.names{h':Heap}{σ':St}{t':Nat}(I:Inv X pins σ H s)(hs:BZ X.env.locals s.heap h')(hn:∃ m,h'.Ns X.env.locals m/\∀ (i:Nat) (x:Str) (v:V),X.N[i]?=some x->σ'[i]?=some (some v)->Vis X.env.scope x->∃ u,RelV v u/\Look X.env h' m x u)(hl:σ'.length=σ.length) :
  Inv X pins σ' H { s with heap:=h',toks:=t' }:=by
 have low:∀ b o,X.s₀.heap.get? b=some o->b≠X.env.locals:=fun b o e=>Ah (AV (AJ e) I.ok.above)
 refine⟨I.ok,I.os,I.bare,{ keep:=fun b o e n hb hx=>(hs.2 b (low b o e)).trans (I.base.keep b o e n hb hx),slot:=fun b o e n hb hx=>?_,free:=I.base.free,there:=fun b o e hx=>?_,tups:=I.base.tups,frzs:=I.base.frzs,tbls:=I.base.tbls },hn,fun y c e=>?_,I.free,I.freeC,fun p hp=>?_,fun b u e=>?_,hl.trans I.len⟩
 ·obtain⟨sl,q⟩:=I.base.slot b o e n hb hx
  exact⟨sl,(hs.2 b (low b o e)).trans q⟩
 ·obtain⟨o',q⟩:=I.base.there b o e hx
  exact⟨o',(hs.2 b (low b o e)).trans q⟩
 ·obtain⟨w',z⟩:=I.cell y c e
  exact⟨w',z.sameBut hs (I.cne y c e)⟩
 ·obtain⟨p1,p2,p3,p4,p5⟩:=I.pin p hp
  exact⟨(hs.2 p.1 p3).trans p1,p2,p3,p4,p5⟩
 ·refine (I.hok b u e).stay (fun c v hc q=>(hs.2 c ?_).trans q) (fun _ q=>q) fun _ _ q=>q
  rintro rfl
  rcases hc with rfl | hc
  ·rw[I.free]at e; cases e
  ·rw[I.free]at hc; cases hc
theorem zC5{M:Gj}{A:Ao}{E:AB->AD->Prop}{n:Str}{j:Nat}{pos:Pos}{Q:Unit->AD->Prop}(I:Inv X pins σ H s)(hN:X.N.Nodup)(hj:X.N[j]?=some n)(hk:X.env.scope.names.lookup n=some .local)
  (h:∀ s',Inv X pins (σ.set j none) H s'->Q () s'):AM M A (De X.env n .none >>= fun _=>Ij X.env n pos) Q E s:=by
 have hcls:(X.env.scope.kind == .class || (X.env.scope.kind == .module && X.env.locals != X.env.globals))=false:=by rw[I.ok.kind]; rfl
 have hkn:X.env.kindOf n=some .local:=hk
 refine AA (Df (zES (v:=.non) (u:=.none) I hN hj (.inl hk) rfl (fun s1 I1 _=>?_) (.inr hk)))
 unfold Ij
 refine Ef ?_
 unfold unbindName
 refine AA (wpAny_point (AA ?_))
 obtain⟨m,hn,hl⟩:=id I1.loc
 have hjl:j < σ.length:=by rw[I.len]; exact (Ac.mp hj).1
 obtain⟨u,_,hlook⟩:=hl j n .non hj (by rw[Ar hjl]) (.inl hk)
 have hmn:(m n).isSome=true:=by
  rcases hlook with ⟨_,e⟩ | ⟨z | z,_⟩
  ·rw[e]; rfl
  ·rw[hkn]at z; cases z
  ·rw[hkn]at z; cases z
 unfold deleteName
 simp only[hkn,hcls]
 rw[if_neg (show ¬ (false=true) by decide)]
 refine AA (wpAny_nsDel_keeps hn fun h2 v hn2 hs2=>?_)
 simp only[hmn,Di,BP,if_false]
 refine AG (wpAny_point (h _ ?_))
 refine I1.names (t':=s1.toks) hs2 ⟨_,hn2,fun i y w e1 e2 e3=>?_⟩ (by simp)
 by_cases hi:i=j
 ·subst hi
  rw[Ar hjl]at e2; cases e2
 ·rw[AW (Az hi)]at e2
  obtain⟨u',r',q⟩:=hl i y w e1 (by rw[AW (Az hi)]; exact e2) e3
  refine⟨u',r',?_⟩
  rcases q with ⟨k,e⟩ | ⟨k,c,e,z⟩
  ·have:y≠n:=fun z=>hi (zDV hN e1 (z ▸ hj))
   exact .inl ⟨k,by simp[this,e]⟩
  ·exact .inr ⟨k,c,e,z.sameBut hs2 (I1.cne y c e)⟩
end
noncomputable def catches (K:AH) (C D:Addr):Bool:=Ce K (.ref C) (.ref D) == some true && PySem.W.typeIn K (.ref D) == some (.type "type") && Ce K (.ref D) (.type "BaseException") == some true && (Cf K D).isSome
theorem zEo{K:AH}{M:Gj}{h:Heap}{D:Addr}(X:K.In h)(e:(Cf K D).isSome=true):GR M h (isType (.ref D)) true:=by
 unfold Cf at e
 split at e
 ·rename_i ho
  intro A' Q' E' s' k q
  unfold isType loadHead
  exact AA (wpAny_loadPart (k _ _ (X _ _ ho)) (AG q))
 ·cases e
theorem zKm{K:AH}{M:Gj}{A:Ao}{E:AB->AD->Prop}{s:AD}{a C D:Addr}{oe:Obj}{Q:Bool->AD->Prop}(X:K.In s.heap)(he:s.heap.get? a=some oe)(hc:oe.cls=.ref C)(q:catches K C D=true)(h:Q true s) :
  AM M A (excMatches (.ref a) (.ref D)) Q E s:=by
 unfold catches at q
 simp only[Ab,beq_iff_eq]at q
 obtain⟨⟨⟨q1,q2⟩,q3⟩,q4⟩:=q
 have L1:=Eu (M:=M) X q1
 have L2:=PySem.W.looks_typeIn (M:=M) X q2
 have L3:=Eu (M:=M) X q3
 have L4:=zEo (M:=M) X q4
 have L0:GR M s.heap (GY (.ref a)) (.ref C):=hc ▸ (Ge he).andThen .now
 have L5:GR M s.heap (Hw (.type "type") (.type "tuple")) false:=Eu X (show (fastBuiltinMro "type").map (fun x=>x.contains (BM "tuple"))=some false by decide +kernel)
 obtain⟨hh,g,d,tk,os⟩:=s
 unfold excMatches GC
 refine AA (AA (L2.at (L5.at ?_)))
 rw[if_neg (show ¬ (false=true) by decide)]
 refine AA (AG ?_)
 refine AA ?_
 rw[Cn]
 refine AA ?_
 unfold isExcClass
 refine AA (AA (L4.at ?_))
 rw[if_pos rfl]
 refine L3.at ?_
 simp only[Di,BP,if_false]
 refine AG ?_
 dsimp only
 rw[DP]
 refine AG ?_
 refine AA (L0.at ?_)
 refine AA ?_
 rw[Cn]
 refine AA (AA (L1.at ?_))
 rw[if_pos rfl]
 exact AG (AG (AG h))
noncomputable abbrev xφ (x D:Addr) (d:Option Addr):Heap->Prop:=fun h=>∃ o,h.get? x=some o/\o.cls=.ref D/\o.dict=d/\DD o=true
noncomputable def xo (a C:Addr) (d:Option Addr):HO:=.ext (xφ a C d)
noncomputable def endsJ (j:Nat) (D:Ends):Ends:={ nx:=fun σ H=>D.nx (σ.set j none) H,rt:=D.rt,bk:=fun σ H=>D.bk (σ.set j none) H,ct:=fun σ H=>D.ct (σ.set j none) H }
noncomputable def wishX (K:AH) (Dc:Addr) (j:Nat) (ts:TS) (D:Ends) (σ:St):XK:=fun cls d H'=>∃ C,cls=.ref C/\catches K C Dc=true/\∀ a,H' a=none->ts (endsJ j D) (σ.set j (some (.ref a))) (upd H' a (xo a C d))
section
variable {X:Cx}{pins:List (Addr×Obj)}{σ:St}{H:Hp}{s:AD}{a:Addr}{o:HO}
theorem Inv.track(I:Inv X pins σ H s)(hH:H a=none)(h0:X.s₀.heap.get? a=none)(hl:X.env.locals≠a)(hc:∀ x c,X.env.cells.lookup x=some c->c≠a)(hp:∀ p∈X.pn++pins,p.1≠a)(ok:ObjOk X.prog X.w (upd H a o) s.heap a o) :
  Inv X pins σ (upd H a o) s:=by
 have ne:∀ {b:Addr} {u:HO},H b=some u->b≠a:=fun {b u} e z=>by rw[z,hH]at e; cases e
 have up:∀ {b:Addr} {u:HO},H b=some u->upd H a o b=some u:=fun {b u} e=>by rw[zAJ (ne e)]; exact e
 refine⟨I.ok,I.os,I.bare,{ keep:=I.base.keep,slot:=I.base.slot,free:=fun b ob e n hx=>?_,there:=I.base.there,tups:=fun b xs e=>up (I.base.tups b xs e),frzs:=fun b ob u e=>up (I.base.frzs b ob u e),tbls:=fun b ps e=>?_ },I.loc,I.cell,by rw[zAJ hl]; exact I.free,fun x c e=>by rw[zAJ (hc x c e)]; exact I.freeC x c e,fun p hp'=>?_,fun b u e=>?_,I.len⟩
 ·rw[zAJ (fun z:b=a=>by rw[z,h0]at e; cases e)]
  exact I.base.free b ob e n hx
 ·obtain⟨m,e'⟩:=I.base.tbls b ps e; exact⟨m,up e'⟩
 ·obtain⟨p1,p2,p3,p4,p5⟩:=I.pin p hp'
  exact⟨p1,by rw[zAJ (hp p hp')]; exact p2,p3,p4,p5⟩
 ·by_cases z:b=a
  ·subst z
   rw[zAf]at e; cases e
   exact ok
  ·rw[zAJ z]at e
   exact (I.hok b u e).stay (fun c v hc' ec=>ec) (fun c ec=>up ec) (fun c xs ec=>up ec)
end
section
variable {X:Cx}{k:Nat}{f Dc:Addr}{fd:AZ}{ps:List Str}{sp:Sp}{x y n:Str}{p pos np hpos spos:Pos}{e:Expr}{es:List Expr}{t:TA}{ts:TS}{b₀:Stmt}{suite:List Stmt}{j:Nat}
theorem zD8{pins:List (Addr×Obj)}{s:AD}{σ:St}{H:Hp}{Q:VK}{W:XK}(F:FnOk X.prog X.w X.K X.mg X.base (CXR X.prog X.w) k f fd ps sp)(hr:Room k X.A)(hg:Gl X x)(hm:X.mg x=some (.ref f))(hk:An X.K (.ref f)=true)(hb:Binds X.K fd ps [])
  (ha:∀ E',PA (X.on E') (e::es) t) (hdb:(x == ("__debug__":Str))=false) (he:AI (e::es) X.env=(false,eval e X.env)::AI es X.env) (hpl:(Bd pos (AI es X.env)).any (·.1)=false)
  (I:Inv X pins σ H s) (h:t σ H fun vs H1=>sp vs H1 Q W) :
  AM (model X.prog X.w) X.A (eval (.Call (.Name x p) (e::es) [] pos) X.env) (EP X pins σ Q) (fun e s'=>∃ H1 s1,Inv X pins σ H1 s1/\CXR X.prog X.w X.stack H1 s1 W e s') s:=by
 refine Bz (zBL I hg hm ?_ hdb)
 refine CV (h₀:=X.base) I.ok.mod.kin hk (thn (ha (fun e s'=>∃ H1 s1,Inv X pins σ H1 s1/\CXR X.prog X.w X.stack H1 s1 W e s') pos pins s σ H _ I.on h) fun us s1 z=>?_) he hpl
 obtain⟨vs,H1,I1',r,q⟩:=z
 have I1:Inv X pins σ H1 s1:=I1'.off
 refine⟨I1.kIn,?_⟩
 have hl:(us++([]:List AB)).length=ps.length:=by rw[BY,← r.length]; exact F.len _ _ _ _ q
 refine E4 (C7 (F.run X.A X.stack s1 H1 ⟨us,[]⟩ (us++[]) vs Q W hr I1.env0 (hb s1 us I1.kIn hl) (by rw[BY]; exact r) q) fun r s' hq=>?_)
 cases r with
 | error e=>exact⟨H1,s1,I1,hq⟩
 | ok fl =>
  cases fl with
  | ret u=>exact I1.after hq
  | next=>exact Ay hq
  | brk=>exact Ay hq
  | cont=>exact Ay hq
theorem zJM{pins:List (Addr×Obj)}{s s':AD}{σ:St}{H:Hp}{D:Ends}{e:AB}(hst:X.stack=X.env::X.outer)(hex:X.ex=[])(hfr:X.env.frame=some X.env.locals)(hN:X.N.Nodup)(hj:X.N[j]?=some n)(hk:X.env.scope.names.lookup n=some .local)(hgy:Gl X y)(hmy:X.mg y=some (.ref Dc))(hyd:(y == ("__debug__":Str))=false)
  (hs:∀ a E',PSs (X.inn a E') (b₀::suite) ts) (I:Inv X pins σ H s) (c:CXR X.prog X.w X.stack H s (wishX X.K Dc j ts D σ) e s') :
  AM (model X.prog X.w) X.A (Ff e X.env) (fun _ s₂=>AM (model X.prog X.w) X.A (J5 e none) (fun _ s₃=>AM (model X.prog X.w) X.A (handleBy e X.env [.ExceptHandler (some (.Name y np)) (some n) (b₀::suite) hpos]) (SP X pins D) X.xe s₃) X.xe s₂) X.xe s':=by
 obtain⟨a,C',T,d,H',rfl,os,hg,un,hok,hHa,hHT,ha,hT,x,C,e0,hcat,hts⟩:=c
 cases e0
 have I0:Inv X pins σ H' s':=I.settle (S:=[]) (h'':=s'.heap) os hg un hok ha hT hHa hHT (fun _ z=>nomatch z) ⟨fun _ _ _ _ q=>q,fun _ o _ q=>⟨o.slots,q⟩⟩
 have hfun:s'.heap.FunFrames X.base (X.env::X.outer):=hst ▸ I0.env0.funs
 refine zEg (base:=X.base) (outer:=X.outer) (hst ▸ I.ok.frames) hfun hfr x fun h2 T2 n2 x2 c2=>?_
 refine land (s:={ s' with heap:=h2 }) x2 fun h3 x3 c3=>?_
 rw[← hst]at c2
 have c23:Ch (frs X.stack) [a,T,T2] s'.heap h3:=(c2.wide (fun _ z=>z) fun b z=>by
  rcases AO.mp z with rfl | z
  ·exact AQ
  ·rw[AF.mp z]; exact AK _ AQ).trans (c3.wide (fun _ z=>nomatch z) fun b z=>by rw[AF.mp z]; exact AK _ (AK _ AQ))
 have inS:∀ b∈[a,T,T2],b=a\/b=T\/s'.heap.get? b=none:=fun b z=>by
  rcases AO.mp z with z | z
  ·exact .inl z
  ·rcases AO.mp z with z | z
   ·exact .inr (.inl z)
   ·exact .inr (.inr (by rw[AF.mp z]; exact n2))
 have I3:Inv X pins σ H' { s' with heap:=h3 }:=I.settle os hg un hok ha hT hHa hHT inS c23
 refine wpAny_handleBy_cons (codeAny_handlers_test (zBL (X:=X.inn a X.xe) I3.inn hgy hmy ?_ hyd)) (by intro z; cases z)
 obtain⟨oe,vs,he,hcl,_,_,_⟩:=x3.ex
 refine zKm (K:=X.K) I3.kIn he hcl hcat ?_
 show DK _ _ (.handlers _ [.ExceptHandler none (some n) (b₀::suite) hpos] X.env) _ _
 refine codeAny_handlers_suite_as ?_
 refine land (s:={ s' with heap:=h3 }) x3 fun h4 x4 c4=>?_
 have c24:Ch (frs X.stack) [a,T,T2] s'.heap h4:=c23.trans (c4.wide (fun _ z=>nomatch z) fun b z=>by rw[AF.mp z]; exact AK _ (AK _ AQ))
 have I4:Inv X pins σ H' { s' with heap:=h4 }:=I.settle os hg un hok ha hT hHa hHT inS c24
 obtain⟨oe4,vs4,he4,hcl4,hd4,hda4,_⟩:=x4.ex
 have hnc:DD oe4=true:=by unfold DD; rw[hda4]
 have a0:X.s₀.heap.get? a=none:=by
  cases q0:X.s₀.heap.get? a with
  | none=>rfl
  | some o=>obtain⟨o',q1⟩:=I.base.there a o q0 (by rw[hex]; exact fun z=>nomatch z); rw[ha]at q1; cases q1
 have I5:Inv X pins σ (upd H' a (xo a C' d)) { s' with heap:=h4 }:=I4.track hHa a0 (fun z=>by
   obtain⟨m,⟨o,_,_,ho,_⟩,_⟩:=I.loc
   rw[z,ha]at ho; cases ho) (fun z c hc q=>by
   obtain⟨v,o,ho,_⟩:=I.cell z c hc
   rw[q,ha]at ho; cases ho) (fun p hp q=>by
   have:=(I.pin p hp).1
   rw[q,ha]at this; cases this) ⟨⟨oe4,he4,hcl4,hd4,hnc⟩,⟨oe4,he4⟩,fun h1 h2 ⟨o,q1,q2,q3⟩ k=>⟨o,k o q1,q2,q3⟩⟩
 have I5':Inv (X.inn a (LX (model X.prog X.w) (X.A.mark (some (.ref a))) X.env n hpos (notedBy (model X.prog X.w) (X.A.mark (some (.ref a))) X.env (cameBackBy (model X.prog X.w) X.A X.env X.xe)))) pins σ (upd H' a (xo a C' d)) { s' with heap:=h4 }:=I5.inn
 refine zAz (X:=X.inn a (LX (model X.prog X.w) (X.A.mark (some (.ref a))) X.env n hpos (notedBy (model X.prog X.w) (X.A.mark (some (.ref a))) X.env (cameBackBy (model X.prog X.w) X.A X.env X.xe)))) (v:=.ref a) I5' hN hj (.inl hk) rfl (fun s5 I6=>?_) (.inr hk)
 refine BF (hs a _ pins s5 _ _ (endsJ j D) I6 (hts a hHa)) (fun fl s6 q=>?_) fun _ _ z=>z
 have ok:=I.ok
 cases fl with
 | next =>
  obtain⟨σ',H2,J,q⟩:=q
  exact zC5 (J.out ok) hN hj hk fun s7 I7=>⟨_,H2,I7,q⟩
 | brk =>
  obtain⟨σ',H2,J,q⟩:=q
  exact zC5 (J.out ok) hN hj hk fun s7 I7=>⟨_,H2,I7,q⟩
 | cont =>
  obtain⟨σ',H2,J,q⟩:=q
  exact zC5 (J.out ok) hN hj hk fun s7 I7=>⟨_,H2,I7,q⟩
 | ret u =>
  obtain⟨v,σ',H2,J,rv,q⟩:=q
  exact zC5 (J.out ok) hN hj hk fun s7 I7=>⟨v,_,H2,I7,rv,q⟩
end
end L2
namespace D
open PySem L2
section
variable {K:Fg}
theorem zDS{C:Fr}{w:W}{Γ1:En}{σ:St}{H1:Hp}{vs:List V}{ss:List S}{gs:List G}(R1:Rep K C w Γ1 σ H1)(o1:SOks K C w σ H1 vs ss)(e2:argsG none Γ1 0 ss=some gs) :
  Rep K ⟨H1,[],[]⟩ ⟨[],fun q=>∃ o,H1 q=some o⟩ (gs.map some) (vs.map some) H1:=by
 have hl:=o1.len
 have hgl:=zBQ e2
 refine⟨by simp[hl,hgl],fun j g h=>?_,fun i j p ga gb ma mb h1 h2 h3 h4=>?_,fun p hp=>(nomatch hp),fun p hp=>(nomatch hp),fun p hp=>hp,fun p hp=>nofun,fun b o h _=>h,fun q hq=>(nomatch hq)⟩
 ·rw[Ae]at h
  obtain⟨g',h',h⟩:=zAE h
  cases h
  obtain⟨s,a1,a2⟩:=zA4 e2 h'
  obtain⟨v,b1,b2⟩:=o1.get a1
  refine⟨v,by rw[Ae,b1]; rfl,?_⟩
  cases s with
  | v t=>cases a2; exact b2
  | l xs =>
   simp only[argG,reduceCtorEq,if_false,Al]at a2
   subst a2
   obtain⟨p,us,rfl,n1,n2,ow,h1,h2⟩:=b2
   exact⟨p,us,rfl,h2,h1,nofun,⟨_,h1⟩⟩
  | d xs =>
   simp only[argG,reduceCtorEq,if_false,Al]at a2
   subst a2
   obtain⟨p,us,rfl,n1,n2,ow,h1,h2⟩:=b2
   exact⟨p,us,rfl,h2,h1,nofun,⟨_,h1⟩⟩
  | s i =>
   have b2':σ[i]?=some (some v):=b2
   unfold argG at a2
   dsimp only at a2
   split at a2
   ·rename_i xs hx
    simp only[reduceCtorEq,if_false,Al]at a2
    subst a2
    obtain⟨v',c1,p,us,rfl,c2,c3,c4⟩:=R1.val i _ hx
    rw[b2']at c1; cases c1
    exact⟨p,us,rfl,c4,c3,nofun,⟨_,c3⟩⟩
   ·rename_i xs hx
    simp only[reduceCtorEq,if_false,Al]at a2
    subst a2
    obtain⟨v',c1,p,us,rfl,c2,c3⟩:=R1.val i _ hx
    rw[b2']at c1; cases c1
    exact⟨p,us,rfl,c2,c3.1,nofun,R1.ra p c3.2.2⟩
   ·rename_i xs hx
    simp only[reduceCtorEq,if_false,Al]at a2
    subst a2
    obtain⟨v',c1,c2⟩:=R1.val i _ hx
    rw[b2']at c1; cases c1
    exact c2
   ·rename_i xs hx
    simp only[reduceCtorEq,if_false,Al]at a2
    subst a2
    obtain⟨v',c1,p,us,rfl,c2,c3,c4⟩:=R1.val i _ hx
    rw[b2']at c1; cases c1
    exact⟨p,us,rfl,c4,c3,nofun,⟨_,c3⟩⟩
   ·rename_i xs hx
    simp only[reduceCtorEq,if_false,Al]at a2
    subst a2
    obtain⟨v',c1,p,us,rfl,c2,c3⟩:=R1.val i _ hx
    rw[b2']at c1; cases c1
    exact⟨p,us,rfl,c2,c3.1,nofun,R1.ra p c3.2.2⟩
   ·cases a2
 ·rw[Ae]at h1
  obtain⟨g',h',h⟩:=zAE h1
  cases h
  obtain⟨s,a1,a2⟩:=zA4 e2 h'
  cases s with
  | v t=>cases a2; cases ma
  | l xs=>simp[argG]at a2; subst a2; cases ma
  | d xs=>simp[argG]at a2; subst a2; cases ma
  | s i =>
   unfold argG at a2
   dsimp only at a2
   split at a2 <;> simp at a2 <;> (subst a2; cases ma)
theorem Rep.unset{C:Fr}{w:W}{Γ:En}{σ:St}{H:Hp}{j:Nat}(R:Rep K C w Γ σ H)(hn:∀ q∈C.pins,q.1≠j):Rep K C w (Γ.set j none) (σ.set j none) H:=by
 have back:∀ (m:Nat) (g:G),(Γ.set j none)[m]?=some (some g)->m≠j/\Γ[m]?=some (some g):=fun m g h=>by
  by_cases e:m=j
  ·subst e
   rcases Ci m Γ.length with z | z
   ·rw[Ar z]at h; cases h
   ·rw[Bc (by simpa using z)]at h; cases h
  ·rw[AW (Az e)]at h; exact⟨e,h⟩
 refine⟨by simpa using R.len,fun m g h=>?_,fun a b p ga gb ma mb h1 h2 h3 h4=>?_,R.lst,R.own,R.ra,R.rl,R.frame,fun q hq=>?_⟩
 ·obtain⟨n,h'⟩:=back m g h
  obtain⟨v,e1,e2⟩:=R.val m g h'
  exact⟨v,by rw[AW (Az n)]; exact e1,e2⟩
 ·obtain⟨n1,g1⟩:=back a ga h1
  obtain⟨n2,g2⟩:=back b gb h2
  rw[AW (Az n1)]at h3
  rw[AW (Az n2)]at h4
  exact R.apart a b p ga gb ma mb g1 g2 h3 h4
 ·obtain⟨h1,xs,h2⟩:=R.pin q hq
  have:=hn q hq
  exact⟨by rw[AW (Az this)]; exact h1,xs,by rw[AW (Az this)]; exact h2⟩
end
noncomputable def goO (j:Nat):O->O
 | .nx Γ=>.nx (Γ.set j none)
 | .bk Γ=>.bk (Γ.set j none)
 | .ct Γ=>.ct (Γ.set j none)
 | .rt s Γ=>.rt s Γ
section
variable {K:Fg}{ip:Option Nat}
theorem zNr{C:Fr}{D:Ends}{j:Nat}{o:O}(hn:∀ q∈C.pins,q.1≠j)(k:OkO K C D (goO j o)):OkO K C (endsJ j D) o:=by
 cases o with
 | nx Γ=>exact fun w σ H R=>k w _ H (R.unset hn)
 | bk Γ=>exact fun w σ H R=>k w _ H (R.unset hn)
 | ct Γ=>exact fun w σ H R=>k w _ H (R.unset hn)
 | rt s Γ=>exact k
end
def Cat (K:Fg) (mg:Str->Option AB) (y c:Str):Prop:=∃ D,mg y=some (.ref D)/\∀ C,Aw K AR c=some (some (.ref C))->catches K C D=true
abbrev EE:=AB->AD->Prop
noncomputable abbrev onF {ι:Type} (X:ι->Cx):ι×EE->Cx:=fun q=>(X q.1).on q.2
noncomputable abbrev innF {ι:Type} (X:ι->Cx):ι×Addr×EE->Cx:=fun q=>(X q.1).inn q.2.1 q.2.2
end D
namespace L2
open PySem PySem.Spec PyProof.Rows
open PySem.W in
theorem zI4{K:Frag}{prog:AY}{w:Af}{A:Ao}{E:AB->AD->Prop}{s:AD}{x D:Addr}{ox:Obj}{od:Option Obj}{Q:Option AB->AD->Prop}(X:K.In s.heap)(I:InstAt s.heap x ox D od)
  (hga:findIn K (.ref D) "__getattribute__"=some (some (.builtin "BaseException.__getattribute__"))) (hg0:findIn K (.ref D) "__getattr__"=some none)
  (hf:findObj K D od "__class__"=some (.bind (.builtin "getset_descriptor.__get__") (.builtin "object.__class__"))) (hm:mroIn K D (.type "object")=some true) (hb:subIn K (.ref D) (.type "BaseException")=some true)
  (h:Q (some (.ref D)) { s with toks:=s.toks+1 }):AM (model prog w) A (HS (.ref x) "__class__") Q E s:=by
 obtain⟨hh,g,d,t,os⟩:=s
 have L0:=I.type (M:=model prog w)
 have L1:=looks_findIn (M:=model prog w) X hga
 have L2:=looks_findIn (M:=model prog w) X hg0
 have L3:=looks_subIn (M:=model prog w) X hb
 have L4:=looks_find (M:=model prog w) X I hf
 have f3:=Dt.ga.bind (.ref x)
 have hx1:(Gf (Ai D) && B7 "BaseException.__getattribute__" == B7 "object.__getattribute__")=false:=by
  rw[show (B7 "BaseException.__getattribute__" == B7 "object.__getattribute__")=false by decide +kernel]; rfl
 unfold HS getAttrBy? J3
 refine AA (Lk (AA (B3 (BO (AA (L0.at (AA (L1.at ?_))))))))
 dsimp only
 rw[if_neg (by rw[hx1]; decide)]
 unfold Ko hookBefore
 refine AA ?_
 rw[if_pos (show Gf (Ai D)=true from rfl)]
 refine L2.at ?_
 refine AA (B3 (BO ?_))
 unfold J6
 rw[if_neg (by simp)]
 repeat (any_goals (first | assumption | wp_step))
 refine FZ Dt.ga.plain Jf ?_
 have hk:Ik "BaseException.__getattribute__"=some .slot:=by decide +kernel
 have hsplit:IM "BaseException.__getattribute__"=some ("BaseException","__getattribute__"):=by decide +kernel
 simp only[Ew,hk,hsplit]
 unfold GC
 have ha:=J7 (.ref x) (.str "__class__" t)
 dsimp only[Dd,C8]
 refine AA (AA (L0.at (L3.at ?_)))
 simp only[Di,BP,if_false]
 repeat (first | assumption | with_reducible refine L0.at ?_ | with_reducible refine L4.at ?_ | wp_step)
 refine PySem.W.class_get (s:=⟨hh,g,d,t+1,os⟩) X I hm ?_
 exact AG (PySem.W.handed_on rfl (AG h))
noncomputable def excKit (K:AH) (D:Addr):Bool:=Bj K (.ref D) "__getattribute__" == some (some (.builtin "BaseException.__getattribute__")) && Bj K (.ref D) "__getattr__" == some none && Ce K (.ref D) (.type "BaseException") == some true && (Cf K D).isSome && Bj K (.ref D) "__class__" == some (some (.builtin "object.__class__")) &&
 PySem.W.specialIn K (.builtin "object.__class__") "__get__" == some (some (.builtin "getset_descriptor.__get__")) && PySem.W.takesIn K (.builtin "object.__class__") == some true && PySem.W.mroIn K D (.type "object") == some true
noncomputable abbrev xψ (x D:Addr) (d:Option Addr):Heap->Prop:=fun h=>xφ x D d h/\∀ dx,d=some dx->∃ u,h.get? dx=some u
theorem zDI{K:AH}{x D:Addr}{d:Option Addr}(q:excKit K D=true):Ic K (.ref x) (.ref D) (xψ x D d):=by
 unfold excKit at q
 simp only[Ab,beq_iff_eq]at q
 obtain⟨⟨⟨⟨⟨⟨⟨q0,q01⟩,q02⟩,q2⟩,q3⟩,q4⟩,q5⟩,q6⟩:=q
 refine⟨fun M h X p=>?_,fun M h X _=>zEo X q2,fun h tp dd its n sl X htp=>?_,fun {prog w A E Q s} X p k=>?_⟩
 ·obtain⟨⟨o,h1,h2,_⟩,_⟩:=p
  exact h2 ▸ (Ge h1).andThen .now
 ·refine IH.mpr fun z=>?_
  have e:D=tp:=Ll (beq_iff_eq.mp z)
  subst e
  unfold Cf at q2
  split at q2
  ·rename_i ho
   have z:=(X _ _ ho).symm.trans htp
   cases z
  ·cases q2
 ·obtain⟨⟨o,h1,h2,h3,h4⟩,h5⟩:=p
  have go:∀ od:Option Obj,PySem.W.InstAt s.heap x o D od->AM (model prog w) A (HS (.ref x) "__class__") Q E s:=fun od I=>by
   have hf:Hx K D od "__class__"=some (.bind (.builtin "getset_descriptor.__get__") (.builtin "object.__class__")):=by
    obtain⟨cd,hc⟩:=C3.mp q2
    unfold Hx
    rw[hc,Av,q3,Av]
    simp[q4,q5]
   exact zI4 X I q0 q01 hf q6 q02 k
  cases d with
  | none=>exact go none ⟨h1,h2,h4,by rw[h3]; trivial⟩
  | some dx =>
   obtain⟨u,hu⟩:=h5 dx rfl
   exact go (some u) ⟨h1,h2,h4,by rw[h3]; exact hu⟩
def IsA (K:AH) (H:Hp) (C:Addr) (y:V) (b:Bool):Prop:=(∃ D,y=.ref D/\B8 K (.ref C) (.ref D)=some b)\/(∃ T,y=.ty T/\B8 K (.ref C) (.type T)=some b)\/∃ (q:Addr) (ds:List Addr),y=.ref q/\SqT K H q (ds.map V.ref)/\Ei K (.ref C) (ds.map Ai)=some b
noncomputable def rIsX (K:AH):List V->Hp->VK->Prop:=fun xs H Q=>∃ p C d y b,xs=[.ref p,y]/\H p=some (.ext (xφ p C d))/\(∀ dx,d=some dx->∃ fs,H dx=some (.xd fs))/\excKit K C=true/\IsA K H C y b/\Q (.bl b) H
theorem zF4:∀ {ds:List Addr} {its:List AB},Vals (ds.map V.ref) its->its=ds.map Ai
 | [],[],_=>rfl
 | [],_::_,h=>by cases h
 | d::ds,_,h=>by
  cases h with
  | cons a r=>rw[zF4 r]; cases a; rfl
theorem zK4{X:Cx}:CallR X (.builtin "isinstance") (rIsX X.K):=by
 intro pins s σ H xs us Q I r h
 obtain⟨p,C,d,y,b,rfl,e,ed,k,hy,q⟩:=h
 cases r with
 | cons r1 r =>
  cases r with
  | cons r2 r =>
   cases r
   cases r1
   have φ:xψ p C d s.heap:=⟨(show ObjOk X.prog X.w H s.heap p (.ext (xφ p C d)) from I.hok p _ e).1,fun dx z=>by obtain⟨fs,z⟩:=ed dx z; exact zDA (I.hok dx _ z)⟩
   rcases hy with ⟨D,rfl,e2⟩ | ⟨T,rfl,e2⟩ | ⟨tq,ds,rfl,e2,e3⟩
   ·cases r2
    exact Fs (zDI k) I.kIn φ e2 (by intro z; cases z) fun tk=>⟨.bl b,H,I.tok tk,rfl,q⟩
   ·cases r2
    exact Fs (zDI k) I.kIn φ e2 (by intro z; cases z) fun tk=>⟨.bl b,H,I.tok tk,rfl,q⟩
   ·cases r2
    obtain⟨its,rv,⟨o,h1,h2,n,h3⟩,_⟩:=I.tuple e2
    obtain⟨oc,od,oda,osl⟩:=o
    simp only at h2 h3
    subst h2 h3
    rw[zF4 rv]at h1
    exact Hv (zDI k) I.kIn φ h1 e3 (by intro z; cases z) fun tk=>⟨.bl b,H,I.tok tk,rfl,q⟩
end L2
namespace D
open PySem L2
noncomputable def XKC (K:Fg) (cs:List Str) (mro:List (Str×List Str)):Bool:=mro.all fun q=>match Aw K AR q.1 with
 | some (some (.ref C))=>excKit K C && B8 K (.ref C) (.type "ValueError") == some true && cs.all fun d=>match Aw K AR d with
  | some (some (.ref D))=>B8 K (.ref C) (.ref D) == some (q.2.contains d)
  | _=>false
 | _=>false
theorem zG5{K:Fg}{cs:List Str}{mro:List (Str×List Str)}(h:XKC K cs mro=true){c:Str}{ms:List Str}(e:mro.lookup c=some ms):∃ C,Aw K AR c=some (some (.ref C))/\excKit K C=true/\B8 K (.ref C) (.type "ValueError")=some true /\
  ∀ d∈cs,∃ D,Aw K AR d=some (some (.ref D))/\B8 K (.ref C) (.ref D)=some (ms.contains d):=by
 have hm:(c,ms)∈mro:=A6 e
 have:=Ax.mp h _ hm
 dsimp only at this
 split at this
 ·rename_i C hC
  simp only[Ab,beq_iff_eq]at this
  obtain⟨⟨a,b⟩,c'⟩:=this
  refine⟨C,hC,a,b,fun d hd=>?_⟩
  have:=Ax.mp c' d hd
  split at this
  ·rename_i D hD
   exact⟨D,hD,beq_iff_eq.mp this⟩
  ·cases this
 ·cases this
noncomputable def fnsOf:List T->Option (List Str)
 | []=>some []
 | .f d::r=>(fnsOf r).map fun ds=>d::ds
 | _=>none
noncomputable def isXS (cs:List Str) (mro:List (Str×List Str)):En->List S->Option S:=fun _ as=>match as with
 | [.v (.x c fs),.v (.f d)]=>(mro.lookup c).bind fun ms=>if d∈cs then some (mkB (ms.contains d)) else none
 | [.v (.x c fs),.v (.a (.ty t))]=>if t="ValueError" then (mro.lookup c).map fun _=>mkB true else none
 | [.v (.x c fs),.v (.t ts)]=>(fnsOf ts).bind fun ds=>(mro.lookup c).bind fun ms=>if ∀ d∈ds,d∈cs then some (mkB (ds.any fun d=>ms.contains d)) else none
 | _=>none
theorem zJZ{K:Fg}{H:Hp}:∀ {ts:List T} {vs:List V} {ds:List Str},fnsOf ts=some ds->Ims K H vs ts->∃ as:List Addr,vs=as.map V.ref/\Eb (fun d (a:Addr)=>Aw K AR d=some (some (.ref a))) ds as
 | [],vs,ds,e,h=>by cases e; unfold Ims at h; exact⟨[],h,.nil⟩
 | t::r,vs,ds,e,h=>by
  unfold fnsOf at e
  split at e
  ·rename_i h0; cases h0
  ·rename_i d r' h0
   cases h0
   obtain⟨ds',e1,e⟩:=zAE e
   cases e
   unfold Ims at h
   obtain⟨v,vr,rfl,h1,h2⟩:=h
   obtain⟨p,rfl,hp⟩:=h1.invf
   obtain⟨as,rfl,pr⟩:=zJZ e1 h2
   exact⟨p::as,rfl,.cons hp pr⟩
  ·cases e
theorem zGs{K:Fg}{C:Addr}{ms cs:List Str}(hk:∀ d∈cs,∃ D,Aw K AR d=some (some (.ref D))/\B8 K (.ref C) (.ref D)=some (ms.contains d)):∀ {ds:List Str} {as:List Addr},Eb (fun d (a:Addr)=>Aw K AR d=some (some (.ref a))) ds as->(∀ d∈ds,d∈cs)->Ei K (.ref C) (as.map Ai)=some (ds.any fun d=>ms.contains d)
 | _,_,.nil,_=>rfl
 | d::ds,a::as,.cons h r,hd=>by
  obtain⟨D,e1,e2⟩:=hk d (hd d AQ)
  rw[h]at e1
  cases e1
  rw[Ak,C4]
  unfold Ei
  rw[e2]
  cases hc:ms.contains d with
  | true=>rfl
  | false=>simpa using zGs hk r fun x hx=>hd x (AK _ hx)
theorem zD5{K:Fg}{H:Hp}{v:V}{c:Str}{fs:List (Str×V)}{C:Addr}(h:Im K H v (.x c fs))(hC:Aw K AR c=some (some (.ref C))):∃ p d,v=.ref p/\H p=some (.ext (xφ p C d))/\∀ dx,d=some dx->∃ fs,H dx=some (.xd fs):=by
 obtain⟨p,rfl,C',d,h1,h2,h3⟩:=h.invx
 rw[hC]at h1
 cases h1
 refine⟨p,d,rfl,h2,fun dx z=>?_⟩
 rcases h3 with ⟨rfl,_⟩ | ⟨dx',rfl,h4⟩
 ·cases z
 ·cases z; exact⟨fs,h4⟩
theorem zJa{K:Fg}{cs:List Str}{mro:List (Str×List Str)}(hx:XKC K cs mro=true):SimRs K (rIsX K) (isXS cs mro):=by
 intro C w Γ σ H vs as s Q R o e k
 unfold isXS at e
 split at e
 ·rename_i c fs d
  obtain⟨ms,e1,e⟩:=bind_some e
  split at e
  ·rename_i hd
   cases e
   obtain⟨v,u,rfl,o1,o2⟩:=soks2 o
   obtain⟨Cc,c1,c2,c3,c4⟩:=zG5 hx e1
   obtain⟨p,dd,rfl,h1,h2⟩:=zD5 (show Im K H v (.x c fs) from o1) c1
   obtain⟨q,rfl,hq⟩:=(show Im K H u (.f d) from o2).invf
   obtain⟨D,d1,d2⟩:=c4 d hd
   rw[hq]at d1
   cases d1
   exact⟨p,Cc,dd,_,_,rfl,h1,h2,c2,.inl ⟨q,rfl,d2⟩,k _ H R .refl SOk.atom trivial⟩
  ·cases e
 ·rename_i c fs t
  split at e
  ·rename_i ht
   subst ht
   obtain⟨ms,e1,e⟩:=zAE e
   cases e
   obtain⟨v,u,rfl,o1,o2⟩:=soks2 o
   obtain⟨Cc,c1,c2,c3,c4⟩:=zG5 hx e1
   obtain⟨p,dd,rfl,h1,h2⟩:=zD5 (show Im K H v (.x c fs) from o1) c1
   exact⟨p,Cc,dd,_,_,rfl,h1,h2,c2,.inr (.inl ⟨_,o2.inva,c3⟩),k _ H R .refl SOk.atom trivial⟩
  ·cases e
 ·rename_i c fs ts
  obtain⟨ds,e0,e⟩:=bind_some e
  obtain⟨ms,e1,e⟩:=bind_some e
  split at e
  ·rename_i hd
   cases e
   obtain⟨v,u,rfl,o1,o2⟩:=soks2 o
   obtain⟨Cc,c1,c2,c3,c4⟩:=zG5 hx e1
   obtain⟨p,dd,rfl,h1,h2⟩:=zD5 (show Im K H v (.x c fs) from o1) c1
   obtain⟨q,us,rfl,hq,hi⟩:=o2.invt
   obtain⟨ads,rfl,pr⟩:=zJZ e0 hi
   exact⟨p,Cc,dd,_,_,rfl,h1,h2,c2,.inr (.inr ⟨q,ads,rfl,hq.sq,zGs c4 pr hd⟩),k _ H R .refl SOk.atom trivial⟩
  ·cases e
 ·cases e
end D
namespace D
open PySem L2
end D
namespace L2
open PySem PySem.Spec PyProof.Rows
theorem zDY{prog:AY}{w:Af}{A:Ao}{E:AB->AD->Prop}{h:Heap}
 {g:Array GH} {d:JR} {t:Nat} {os:Jg} {nm q:Str} {C N:Addr} {bs bm bmB:List AB}
 {hdct:Bool} {sn:List Str} {sub:List AB} {ab:Bool} {col:Option Bool} {dd:Option Addr}
 {k0 k1 k2 k3 k5:Option AB} {B newId initId:String} {mN:Str->Option AB} {rest:List AB} {fI:Addr} {oI:Obj} {Q:PySem.Fin->AD->Prop}
 (F:Lm B newId initId bmB) (T:Je h bmB bm) (hbase:bm.contains (.type "BaseException")=true)
 (hC:h.get? C=some (Gs nm q C N bs bm hdct sn sub ab col dd k0 k1 k2 k3 k5 newId)) (hN:h.Ns N mN) (hi:mN (BQ "__init__")=some (Ai fI)) (hf:h.get? fI=some oI) (hfc:oI.cls=BM "function")
 (hK:∀ (h':Heap) (e:Addr),h.MadeExcOf h' e (Ai C) rest->AM (model prog w) A (call (Ai fI) (Ai e::rest)) (fun r s'=>r=A0/\Q (Fin.done (LY (Ai e))) s') E { heap:=h',gens:=g,drawn:=d,toks:=t,os:=os })
 (hr:rest.length<=AE:=by decide) :
  AM (model prog w) A (Builtin.«type.__call__» { pos:=Ai C::rest }) Q E { heap:=h,gens:=g,drawn:=d,toks:=t,os:=os }:=by
 have hB:bmB.contains (BM B)=true:=F.hasB
 unfold Builtin.«type.__call__»
 repeat (any_goals (first | assumption | wp_step))
 have e0:=F.entry
 refine Hd (Hy _ F.quiet) (wpAny_check_new_subU F hB T hC (codeAny_exc_new_subU F hB F T hC ?_ hr))
 dsimp only
 have hm:h.MadeExcOf ((h.push { cls:=BM "tuple",data:=Hb rest.toArray }).push { cls:=Ai C,data:=HZ #[Ai h.objs.size,A0,A0,A0,EU false,A0] }) (h.objs.size+1) (.ref C) rest:=by
  have sz:(h.push { cls:=BM "tuple",data:=Hb rest.toArray }).objs.size=h.objs.size+1:=BS ..
  refine⟨fun b o e=>AC _ (AC _ e),Cv (GD _),h.objs.size,?_,Cv (AL _),AC _ (AN _ rfl)⟩
  rw[← sz]
  exact AN _ rfl
 have hC':=hm.keeps _ _ hC
 have hN':=hN.keeps hm.keeps
 have hf':=hm.keeps _ _ hf
 have T':=T.keeps hm.keeps
 have hk:=hK _ _ hm
 obtain⟨tt,he,_,_⟩:=hm.there
 generalize (h.push { cls:=BM "tuple",data:=Hb rest.toArray }).push { cls:=Ai C,data:=HZ #[Ai h.objs.size,A0,A0,A0,EU false,A0] }=h2 at *
 repeat (any_goals (first | assumption | wp_step))
 show AM (model prog w) A (Hw (.ref C) (.ref C)) _ E _
 unfold Hw
 repeat (any_goals (first | assumption | wp_step))
 show AM (model prog w) A (Dp (.ref C) (BQ "__init__")) _ E _
 refine wpAny_typeLookup_tail hC' hN' T' F.mroIs F.init.lookup ?_
 rw[hi]
 dsimp only
 repeat (any_goals (first | assumption | wp_step))
 refine wpAny_bindSpecial_def hf' hfc ?_
 refine AA (BF hk (fun r s' hrr=>?_) (fun _ _ z=>z))
 obtain⟨rfl,hq⟩:=hrr
 repeat (any_goals (first | assumption | wp_step))
theorem zD4{prog:AY}{w:Af}{A:Ao}{E:AB->AD->Prop}{h:Heap}
 {g:Array GH} {d:JR} {t:Nat} {os:Jg} {nm q:Str} {C N:Addr} {bs bm bmB:List AB}
 {hdct:Bool} {sn:List Str} {sub:List AB} {ab:Bool} {col:Option Bool} {dd:Option Addr}
 {k0 k1 k2 k3 k5:Option AB} {B newId initId:String} {mN:Str->Option AB} {rest:List AB} {fI:Addr} {oI:Obj} {Q:AB->AD->Prop}
 (F:Lm B newId initId bmB) (T:Je h bmB bm) (hbase:bm.contains (.type "BaseException")=true)
 (hC:h.get? C=some (Gs nm q C N bs bm hdct sn sub ab col dd k0 k1 k2 k3 k5 newId)) (hN:h.Ns N mN) (hi:mN (BQ "__init__")=some (Ai fI)) (hf:h.get? fI=some oI) (hfc:oI.cls=BM "function")
 (hK:∀ (h':Heap) (e:Addr),h.MadeExcOf h' e (Ai C) rest->AM (model prog w) (A.under (Dy "type.__call__" { pos:=Ai C::rest })) (call (Ai fI) (Ai e::rest)) (fun r s'=>r=A0/\Q (Ai e) s') E { heap:=h',gens:=g,drawn:=d,toks:=t,os:=os })
 (hr:rest.length<=AE:=by decide) :
  AM (model prog w) A (call (.ref C) rest) Q E { heap:=h,gens:=g,drawn:=d,toks:=t,os:=os }:=by
 refine E4 (codeAny_of_tree ?_)
 repeat (any_goals (first | assumption | wp_step))
 show AM _ _ (Dp (.type "type") (BQ "__call__")) _ _ _
 rw[show Dp (.type "type") (BQ "__call__")=pure (some (.builtin "type.__call__")) from by rw[Ba,BD]; kernel_rfl]
 refine AG ?_
 dsimp only
 unfold bindSpecial callAny.plainCallee
 repeat (any_goals (first | assumption | wp_step))
 refine⟨rfl,Hd (Hy _ (by decide +kernel)) ?_⟩
 show AM _ _ (Ew "type.__call__" { pos:=.ref C::rest }) _ _ _
 have go:DK (model prog w) A (Dy "type.__call__" { pos:=.ref C::rest }) (fun r s'=>match r with | J8 (LY v)=>Q v s' | J8 _=>False | Except.error e=>E e s') { heap:=h,gens:=g,drawn:=d,toks:=t,os:=os }:=by
  refine D8 PySem.F.entry_type_call ?_
  exact zDY F T hbase hC hN hi hf hfc hK hr
 exact wpAny_check_type_call_sub hC go
noncomputable def dropRefs:List AB->List AB
 | .ref _::l=>dropRefs l
 | l=>l
theorem zCO(self:AB):∀ {l:List AB},dropRefs l=veB->refuseLoop self "__setattr__" l=pure ()
 | .ref C::l,h=>by rw[refuseLoop_ref]; exact zCO self h
 | [],h=>by cases h
 | .none::l,h=>by cases h
 | .bool _::l,h=>by cases h
 | .int _ _::l,h=>by cases h
 | .float _ _::l,h=>by cases h
 | .str _ _::l,h=>by cases h
 | .bytes _ _::l,h=>by cases h
 | .builtin _::l,h=>by cases h
 | .type _::l,h=>by
  have e:BM _::l=veB:=h
  rw[e]; exact CH.passes self
 | .notImplemented::l,h=>by cases h
 | .ellipsis::l,h=>by cases h
open PySem.W in
theorem zMA{K:Frag}{prog:AY}{w:Af}{A:Ao}{E:AB->AD->Prop}{h:Heap}{g:Array GH}{d:JR}{t:Nat}{os:Jg}{x C:Addr}{ox:Obj}{name:Str}{v:AB}{mA:Str->Option AB}{ns:List Str}{cd:ClassData}{Q:Unit->AD->Prop}
  (X:K.In h) (hx:h.get? x=some ox) (hc:ox.cls=.ref C) (hnc:notCls ox=true) (hdx:(ox.dict=none/\∀ n,mA n=none)\/∃ dx,ox.dict=some dx/\dx≠x/\h.Ns1 dx mA)
  (q1:findIn K (.ref C) "__setattr__"=some (some (.builtin "object.__setattr__"))) (q2:findIn K (.ref C) name=some none) (q3:clsIn K C=some cd) (q4:dropRefs cd.mro=veB) (q5:cd.hasDict=true) (q6:subIn K (.ref C) (.type "object")=some true)
  (hw:Within mA ns) (hsz:ns.length<=1000)
  (hq:∀ h' tk' dx,(ox.dict=some dx\/(ox.dict=none/\h.get? dx=none))->h'.get? x=some { ox with dict:=some dx }->dx≠x->h'.Ns1 dx (fun y=>if y=name then some v else mA y)->(∀ b o,b≠x->b≠dx->h.get? b=some o->h'.get? b=some o)->Q () ⟨h',g,d,tk',os⟩) :
  AM (model prog w) A (Ln (.ref x) name v) Q E ⟨h,g,d,t,os⟩:=by
 have L0:Looks (model prog w) h (GY (.ref x)) (.ref C):=hc ▸ (Looks.ld hx).andThen .now
 have L1:=looks_findIn (M:=model prog w) X q1
 have L2:=looks_findIn (M:=model prog w) X q2
 have L3:=looks_subIn (M:=model prog w) X q6
 have L4:=looks_clsIn (M:=model prog w) X q3
 have f3:=CH.slot.bind (.ref x)
 unfold Ln callSpecial? specialOf
 repeat (any_goals (first | assumption | with_reducible refine L0.at ?_ | with_reducible refine L1.at ?_ | wp_step))
 refine FZ CH.slot.plain CH.entry ?_
 have hk:Ik "object.__setattr__"=some .slot:=CH.kind
 have hsplit:IM "object.__setattr__"=some ("object","__setattr__"):=CH.split
 have ha:=CH.args (.ref x) (.str name t) v
 simp only[Ew,hk,hsplit]
 unfold GC
 dsimp only[Dd,C8]
 refine AA (AA (L0.at (L3.at ?_)))
 simp only[Di,BP,if_false]
 have hpass:=zCO (.ref x) q4
 repeat (any_goals (first | assumption | with_reducible refine L0.at ?_ | with_reducible refine L2.at ?_ | with_reducible refine L4.at ?_ | rw[refuse_eq] | rw[hpass] | wp_step))
 rw[hc]
 refine AA (L4.at ?_)
 simp only[q5,Di,BP,if_false]
 obtain⟨oc,odc,oda,osl⟩:=ox
 dsimp only at hc hnc hdx hq ⊢
 subst hc
 rcases hdx with ⟨hdn,hmA⟩ | ⟨dx,hde,hne,hns⟩
 ·subst hdn
  dsimp only
  have hxs:h.objs.size≠x:=BV (AJ hx)
  have hx1:=AC { cls:=BM "dict",data:=Fv #[] } hx
  have hnd:∀ c,oda≠.cls c:=fun c z=>by rw[z]at hnc; cases hnc
  have fr:(Obj.mk (Ai C) (some h.objs.size) oda osl).isFreed=false:=by
   have:=(Heap.get?_some_iff.mp hx).2
   cases oda <;> first | rfl | exact this
  have hD:((h.push { cls:=BM "dict",data:=Fv #[] }).update x fun o=>{ cls:=o.cls,dict:=some h.objs.size,data:=o.data,slots:=o.slots }).get? h.objs.size=some { cls:=BM "dict",data:=Fv #[] } :=
   (Au _ _ (Az hxs)).trans (AN h rfl)
  have hN0:=Heap.Ns1.of_empty (⟨_,#[],_,hD,rfl,fun e he=>absurd he (by simp),fun _=>rfl⟩:Heap.Ns _ h.objs.size fun _=>none)
  have hX2:=BU (fun o=>{ cls:=o.cls,dict:=some h.objs.size,data:=o.data,slots:=o.slots }) hx1 fr
  have kp:∀ b o,b≠x->h.get? b=some o->((h.push { cls:=BM "dict",data:=Fv #[] }).update x fun o=>{ cls:=o.cls,dict:=some h.objs.size,data:=o.data,slots:=o.slots }).get? b=some o:=fun b o n e=>(Au _ _ (Az n)).trans (AC _ e)
  rw[if_neg (by simp[typeHasDict])]
  split
  ·rename_i c; exact absurd rfl (hnd c)
  ·refine AA (wpAny_alloc' (AA (wpAny_update' hx1 (AG ?_))))
   show AM _ _ (B9 h.objs.size (.str name t) name v) _ _ _
   unfold B9 ET
   refine AA (AG (AA (Lo hN0 fun h2 hn2 hs2=>?_)))
   obtain⟨oD,eD,pD,gD,dD,lD⟩:=hn2.count (JN name v Within.nil)
   refine AA (J9 gD (by rw[dD]; exact KA (Aa lD (by rw[BI,Ej,Bv]; omega))) ?_)
   wp_walk
   obtain⟨o',es,ep,r1,r2,r3,r4,r5⟩:=hn2
   exact hq h2 _ h.objs.size (.inr ⟨rfl,Cv (AL _)⟩) ((hs2.2 x (Az hxs)).trans hX2) hxs ⟨o',es,ep,r1,r2,r3,r4,fun y=>by rw[r5 y]; by_cases hy:y=name <;> simp[hy,hmA]⟩ fun b o n1 n2 e=>(hs2.2 b n2).trans (kp b o n1 e)
 ·subst hde
  dsimp only
  refine AG ?_
  show AM _ _ (B9 dx (.str name t) name v) _ _ _
  unfold B9 ET
  refine AA (AG (AA (Lo hns fun h2 hn2 hs2=>?_)))
  obtain⟨oD,eD,pD,gD,dD,lD⟩:=hn2.count (JN name v hw)
  refine AA (J9 gD (by rw[dD]; exact KA (Aa lD (by rw[BI,Bv]; omega))) ?_)
  wp_walk
  exact hq h2 _ dx (.inl rfl) ((hs2.2 x (Az hne)).trans hx) hne hn2 fun b o n1 n2 e=>(hs2.2 b n2).trans e
open PySem.W in
theorem zLb{K:Frag}{prog:AY}{w:Af}{A:Ao}{E:AB->AD->Prop}{h:Heap}{g:Array GH}{d:JR}{t:Nat}{os:Jg}{x C dx:Addr}{ox:Obj}{name:Str}{v:AB}{mA:Str->Option AB}{cd:ClassData}{ex:Bool}{Q:AB->AD->Prop}
  (X:K.In h) (hx:h.get? x=some ox) (hc:ox.cls=.ref C) (hnc:notCls ox=true) (hde:ox.dict=some dx) (hns:h.Ns1 dx mA) (hv:mA name=some v)
  (q0:findIn K (.ref C) "__getattribute__"=some (some (.builtin "BaseException.__getattribute__"))) (q01:findIn K (.ref C) "__getattr__"=some none) (q2:findIn K (.ref C) name=some none) (q3:clsIn K C=some cd) (q5:cd.hasDict=true) (q6:subIn K (.ref C) (.type "BaseException")=some true)
  (hh:handedOut v=pure v) (hq:Q v ⟨h,g,d,t+1,os⟩):AM (model prog w) A (getAttr (.ref x) name ex) Q E ⟨h,g,d,t,os⟩:=by
 have L0:Looks (model prog w) h (GY (.ref x)) (.ref C):=hc ▸ (Looks.ld hx).andThen .now
 have L1:=looks_findIn (M:=model prog w) X q0
 have L2:=looks_findIn (M:=model prog w) X q01
 have L3:=looks_subIn (M:=model prog w) X q6
 have L4:=looks_findIn (M:=model prog w) X q2
 have L5:=looks_clsIn (M:=model prog w) X q3
 have f3:=Dt.ga.bind (.ref x)
 have hx1:(Gf (Ai C) && B7 "BaseException.__getattribute__" == B7 "object.__getattribute__")=false:=by
  rw[show (B7 "BaseException.__getattribute__" == B7 "object.__getattribute__")=false by decide +kernel]; rfl
 unfold getAttr J3
 refine AA (Lk (BO (AA (L0.at (AA (L1.at ?_))))))
 dsimp only
 rw[if_neg (by rw[hx1]; decide)]
 unfold Ko hookBefore
 refine AA ?_
 rw[if_pos (show Gf (Ai C)=true from rfl)]
 refine L2.at ?_
 refine AA (B3 (BO ?_))
 unfold J6
 rw[if_neg (by rw[show Gf (B7 "BaseException.__getattribute__")=false from rfl]; simp)]
 repeat (any_goals (first | assumption | wp_step))
 refine FZ Dt.ga.plain Jf ?_
 have hk:Ik "BaseException.__getattribute__"=some .slot:=by decide +kernel
 have hsplit:IM "BaseException.__getattribute__"=some ("BaseException","__getattribute__"):=by decide +kernel
 simp only[Ew,hk,hsplit]
 unfold GC
 have ha:=J7 (.ref x) (.str name t)
 dsimp only[Dd,C8]
 refine AA (AA (L0.at (L3.at ?_)))
 simp only[Di,BP,if_false]
 repeat (first | assumption | with_reducible refine L0.at ?_ | with_reducible refine L4.at ?_ | with_reducible refine L5.at ?_ | wp_step)
 obtain⟨oc,odc,oda,osl⟩:=ox
 dsimp only at hc hnc hde ⊢
 subst hc hde
 split
 ·rename_i c; cases hnc
 ·unfold instanceDict
  have hn1:=hns.ns
  repeat (first | with_reducible refine GS hx ?_ | with_reducible refine L5.at ?_ | (with_reducible refine wpAny_nsGet hn1 ?_; rw[hv]) | wp_step)
  exact hq
noncomputable abbrev xδ (x C:Addr) (d:Option Addr) (da:Data):Heap->Prop:=fun h=>∃ o,h.get? x=some o/\o.cls=.ref C/\o.dict=d/\o.data=da
noncomputable def setKit (K:AH) (C:Addr) (ns:List Str):Bool:=Bj K (.ref C) "__setattr__" == some (some (.builtin "object.__setattr__")) && Ce K (.ref C) (.type "object") == some true &&
 (match Cf K C with
  | some cd=>decide (dropRefs cd.mro=veB) && cd.hasDict
  | none=>false) && ns.all fun n=>Bj K (.ref C) n == some none
theorem zJY{K:AH}{C:Addr}{ns:List Str}{n:Str}(h:setKit K C ns=true)(hn:n∈ns):Bj K (.ref C) "__setattr__"=some (some (.builtin "object.__setattr__"))/\Ce K (.ref C) (.type "object")=some true /\
  Bj K (.ref C) n=some none/\∃ cd,Cf K C=some cd/\dropRefs cd.mro=veB/\cd.hasDict=true:=by
 unfold setKit at h
 simp only[Ab,beq_iff_eq]at h
 obtain⟨⟨⟨h1,h2⟩,h3⟩,h4⟩:=h
 refine⟨h1,h2,by simpa using Ax.mp h4 n hn,?_⟩
 split at h3
 ·rename_i cd e
  rw[Ab]at h3
  exact⟨cd,e,of_decide_eq_true h3.1,h3.2⟩
 ·cases h3
theorem zDh{α:Type}:∀ {fs:List (Str×α)} {y:Str},fs.lookup y≠none->y∈fs.map (·.1)
 | [],_,h=>absurd rfl h
 | (n,v)::r,y,h=>by
  by_cases e:y=n
  ·rw[e]; simp
  ·have:(y == n)=false:=by simpa using e
   rw[Bf,this]at h
   exact AK _ (zDh h)
section
variable {X:Cx}{pins:List (Addr×Obj)}{σ:St}{H:Hp}{s:AD}{x C:Addr}{d:Option Addr}{da:Data}{fs:List (Str×V)}{name:Str}{ns:List Str}{v:V}{u:AB}{Q:Unit->AD->Prop}
theorem Inv.setX(I:Inv X pins σ H s)(hx:H x=some (.ext (xδ x C d da)))(hda:∃ vs,da=.fields vs)(hd:(d=none/\fs=[])\/∃ dx,d=some dx/\dx≠x/\H dx=some (.xd fs))(q:setKit X.K C ns=true)(hn:name∈ns)(rv:RelV v u)(hl:fs.length<=900)
  (k:∀ s' H' dx,Inv X pins σ H' s'->(d=some dx\/(d=none/\H dx=none))->dx≠x->(∀ b o,b≠x->b≠dx->H b=some o->H' b=some o)->H' x=some (.ext (xδ x C (some dx) da))->H' dx=some (.xd ((name,v)::fs))->Q () s'):AM (model X.prog X.w) X.A (Ln (.ref x) name u) Q X.xe s:=by
 obtain⟨vs,hda⟩:=hda
 obtain⟨q1,q2,q3,cd,q4,q5,q6⟩:=zJY q hn
 obtain⟨⟨ox,hox,hc,hdc,hdat⟩,_,_⟩:=(show ObjOk X.prog X.w H s.heap x (.ext (xδ x C d da)) from I.hok x _ hx)
 have hnc:DD ox=true:=by unfold DD; rw[hdat,hda]
 obtain⟨mA,hmA,hrel⟩:∃ mA:Str->Option AB,((ox.dict=none/\∀ n,mA n=none)\/∃ dx,ox.dict=some dx/\dx≠x/\s.heap.Ns1 dx mA)/\∀ f,RelO (fs.lookup f) (mA f):=by
  rcases hd with ⟨rfl,rfl⟩ | ⟨dx,rfl,hne,hxd⟩
  ·exact⟨fun _=>none,.inl ⟨hdc,fun _=>rfl⟩,fun f=>trivial⟩
  ·obtain⟨mA,n1,r1⟩:=(show ObjOk X.prog X.w H s.heap dx (.xd fs) from I.hok dx _ hxd)
   exact⟨mA,.inr ⟨dx,hdc,hne,n1⟩,r1⟩
 have hw:Within mA (fs.map (·.1)):=fun y hy=>by
  refine zDh fun z=>hy ?_
  have:=hrel y
  rw[z]at this
  cases e:mA y with
  | none=>rfl
  | some _=>rw[e]at this; exact this.elim
 obtain⟨h,g,dr,t,os⟩:=s
 refine zMA I.kIn hox hc hnc hmA q1 q3 q4 q5 q6 q2 hw (by rw[A7]; omega) fun h' tk dx c1 c2 c3 c4 c5=>?_
 dsimp only at hox hmA c1 c2 c4 c5
 have dxs:d=some dx\/(d=none/\h.get? dx=none):=by rw[← hdc]; exact c1
 have dxH:d=some dx\/(d=none/\H dx=none):=dxs.imp id fun ⟨a,b⟩=>⟨a,zA6 I.hok b⟩
 have xdT:∀ {o:HO},H dx=some o->o=.xd fs:=fun {o} e=>by
  rcases hd with ⟨rfl,rfl⟩ | ⟨dx',rfl,hne,hxd⟩
  ·rcases dxH with z | ⟨_,z⟩
   ·cases z
   ·rw[z]at e; cases e
  ·rcases dxH with z | ⟨z,_⟩
   ·cases z; rw[hxd]at e; cases e; rfl
   ·cases z
 have nd:∀ {b:Addr} {o:Obj},h.get? b=some o->H b=none->b≠dx:=fun {b o} e n z=>by
  subst z
  rcases dxs with z | ⟨_,z⟩
  ·rcases hd with ⟨rfl,_⟩ | ⟨dx',rfl,_,hxd⟩
   ·cases z
   ·cases z; rw[hxd]at n; cases n
  ·rw[z]at e; cases e
 have nx:∀ {b:Addr},H b=none->b≠x:=fun {b} n z=>by rw[z,hx]at n; cases n
 let H':Hp:=upd (upd H x (.ext (xδ x C (some dx) da))) dx (.xd ((name,v)::fs))
 have oth:∀ b o,b≠x->b≠dx->H b=some o->H' b=some o:=fun b o n1 n2 e=>by show upd _ _ _ b=_; rw[zAJ n2,zAJ n1]; exact e
 have atx:H' x=some (.ext (xδ x C (some dx) da)):=by show upd _ _ _ x=_; rw[zAJ (Az c3),zAf]
 have atd:H' dx=some (.xd ((name,v)::fs)):=zAf
 have kind:∀ {b:Addr} {o:HO},H b=some o->(∀ φ,o≠.ext φ)->(∀ l,o≠.xd l)->H' b=some o:=fun {b o} e n1 n2=>oth b o (fun z=>by rw[z,hx]at e; exact n1 _ (As e).symm) (fun z=>n2 fs (xdT (z ▸ e))) e
 refine k _ H' dx (I.un (t':=tk) { keep:=fun b o e n hb hx'=>c5 b o (nx n) (nd e n) e,slot:=fun b o e n hb hx'=>⟨o.slots,c5 b o (nx n) (nd e n) e⟩,free:=fun b o e n hx'=>?_,there:=fun b o e hx'=>?_,tups:=fun b xs e=>kind e (fun _ z=>by cases z) (fun _ z=>by cases z),frzs:=fun b o w e=>kind e (fun _ z=>by cases z) (fun _ z=>by cases z),tbls:=fun b ps e=>⟨#[],by rw[Array.append_empty]; exact kind e (fun _ z=>by cases z) fun _ z=>by cases z⟩ } fun b o e=>?_) dxH c3 oth atx atd
 ·show upd _ _ _ b=none; rw[zAJ (nd e n),zAJ (nx n)]; exact n
 ·by_cases z1:b=x
  ·rw[z1]; exact⟨_,c2⟩
  ·by_cases z2:b=dx
   ·rw[z2]
    obtain⟨o',es,ep,r,_⟩:=c4
    exact⟨o',r⟩
   ·exact⟨o,c5 b o z1 z2 e⟩
 ·by_cases z2:b=dx
  ·subst z2
   rw[atd]at e; cases e
   refine⟨_,c4,fun f=>?_⟩
   by_cases hf:f=name
   ·subst hf
    have:(f == f)=true:=by simp
    rw[Bf,this,if_pos rfl]; exact rv
   ·have:(f == name)=false:=by simpa using hf
    rw[Bf,this,if_neg hf]; exact hrel f
  ·by_cases z1:b=x
   ·subst z1
    rw[atx]at e; cases e
    exact⟨⟨_,c2,hc,rfl,hdat⟩,⟨_,c2⟩,fun h1 h2 ⟨o,r1,r2⟩ kk=>⟨o,kk o r1,r2⟩⟩
   ·have e':H b=some o:=by
     have e0:upd (upd H x (.ext (xδ x C (some dx) da))) dx (.xd ((name,v)::fs)) b=some o:=e
     rw[zAJ z2,zAJ z1]at e0; exact e0
    refine (I.hok b o e').stay (fun c w hc' ec=>c5 c w ?_ ?_ ec) (fun c ec=>kind ec (fun _ z=>by cases z) fun _ z=>by cases z) (fun c xs ec=>kind ec (fun _ z=>by first | cases z | (cases xs <;> cases z)) fun _ z=>by first | cases z | (cases xs <;> cases z))
    ·rcases hc' with rfl | hc'
     ·exact z1
     ·intro z; rw[z,hx]at hc'; cases hc'
    ·rcases hc' with rfl | hc'
     ·exact z2
     ·intro z; rw[z]at hc'; cases xdT hc'
end
noncomputable def sSetX (C:Addr) (i:Nat) (name:Str):TS:=fun D σ H=>∃ x v d da fs,σ[0]?=some (some (.ref x))/\σ[i]?=some (some v)/\H x=some (.ext (xδ x C d da))/\(∃ vs,da=.fields vs)/\((d=none/\fs=[])\/∃ dx,d=some dx/\dx≠x/\H dx=some (.xd fs))/\fs.length<=900 /\
 ∀ H' dx,(d=some dx\/(d=none/\H dx=none))->dx≠x->(∀ b o,b≠x->b≠dx->H b=some o->H' b=some o)->H' x=some (.ext (xδ x C (some dx) da))->H' dx=some (.xd ((name,v)::fs))->D.nx σ H'
theorem zMI{X:Cx}{self y name:Str}{p0 p1 p2 pos:Pos}{i:Nat}{C:Addr}{ns:List Str}(h0:PE X (.Name self p0) (tVar 0))(hi:PE X (.Name y p1) (tVar i))(q:setKit X.K C ns=true)(hn:name∈ns)
  (hs:CO (.Name y p1) (some (.Attribute (.Name self p0) name p2)) pos.line X.env=pure false):PS X (.Assign [.Attribute (.Name self p0) name p2] (.Name y p1) pos) (sSetX C i name):=by
 intro pins s σ H D I h
 obtain⟨x,v,d,da,fs,e0,ei,hx,hda,hd,hl,k⟩:=h
 refine plainObj_wpAny_Assign_Attribute (thn (hi pins s σ H (fun w H1=>w=v/\H1=H) I ⟨v,ei,rfl,rfl⟩) fun u s1 ⟨w,H1,I1,rw1,z1,z2⟩=>?_) hs
 subst z1 z2
 refine thn (h0 pins s1 σ H1 (fun w H2=>w=.ref x/\H2=H1) I1 ⟨_,e0,rfl,rfl⟩) fun ov s2 ⟨w2,H2,I2,rw2,z1,z2⟩=>?_
 subst z1 z2
 cases rw2
 exact I2.setX hx hda hd q hn rw1 hl fun s' H' dx I' c1 c2 c3 c4 c5=>⟨σ,H',I',k H' dx c1 c2 c3 c4 c5⟩
noncomputable def spI (C:Addr) (names:List Str):Sp:=fun vs H Q _=>∃ x args da,vs=.ref x::args/\args.length=names.length/\(∃ fl,da=.fields fl)/\H x=some (.ext (xδ x C none da)) /\
 ∀ dx H',H dx=none->dx≠x->(∀ b o,b≠x->H b=some o->H' b=some o)->H' x=some (.ext (xδ x C (some dx) da))->H' dx=some (.xd (names.zip args).reverse)->Q .non H'
section
variable {P:AY}{w:Af}{K:AH}{mg:Str->Option AB}{base:Heap}{k:Nat}{qual self a1 a2 f1 f2:Str}{st:Stmt}{f C:Addr}{fd:AZ}{p0 p1 p2 p3 p4 p5 p6 p7:Pos}
theorem zGb{N ps:List Str}{sc:B6}{x:Str}(S:FnScope N ps sc)(h:x∈ps):Vis sc x:=(S.par x h).imp id .inl
theorem zJ7(F:Fun K "__init__" qual st f fd)(S:FnScope [self,a1] [self,a1] (defScope st))(hb:defBody st=[.Assign [.Attribute (.Name self p0) f1 p1] (.Name a1 p2) p3])(q:setKit K C [f1]=true)
  (d0:(self == ("__debug__":Str))=false) (d1:(a1 == ("__debug__":Str))=false) (c0:(self == ("__classdict__":Str))=false) (c1:(a1 == ("__classdict__":Str))=false):FnOk P w K mg base CX0 (k+1) f fd [self,a1] (spI C [f1]):=by
 refine F.ok S (fun vs H Q E ⟨x,args,da,e,hl,_⟩=>by rw[e]; simp at hl ⊢; exact hl) fun cdv A outer s H vs Q E hr h=>?_
 obtain⟨x,args,da,rfl,hl,hda,hx,hq⟩:=h
 obtain⟨v,rfl⟩:=G7.mp hl
 rw[hb]
 refine⟨_,zEM (zMI (i:=1) (C:=C) (ns:=[f1]) (zCX rfl (zGb S (by simp)) d0 c0) (zCX rfl (zGb S (by simp)) d1 c1) q (by simp) rfl),x,v,none,da,[],rfl,rfl,hx,hda,.inl ⟨rfl,rfl⟩,by simp,fun H' dx z1 z2 z3 z4 z5=>?_⟩
 have hn:H dx=none:=by rcases z1 with z | ⟨_,z⟩; cases z; exact z
 exact hq dx H' hn z2 (fun b o n e=>z3 b o n (fun z=>by rw[z,hn]at e; cases e) e) z4 z5
end
noncomputable def excI (K:AH) (C fI:Addr):Bool:=(match K.lookup C with
 | some ⟨.type "type",_,.cls cd,sl⟩=>(match cd.mro,sl.toList with
  | .ref D::bm,[_,_,_,_,some (.builtin n),_]=>D == C && (n == "ValueError.__new__" && (!cd.hasDel && (PySem.W.tailIn K veB bm && (PySem.W.nsOkIn K cd.ns && Aw K cd.ns "__init__" == some (some (.ref fI))))))
  | _,_=>false)
 | _=>false) && (match K.lookup fI with
 | some o=>o.cls == .type "function"
 | none=>false) && Ce K (.ref C) (.type "BaseException") == some true
theorem zOW{K:AH}{h:Heap}{N:Addr}{m:Str->Option AB}{n:Str}{v:AB}(X:K.In h)(G:h.Ns N m)(e:Aw K N n=some (some v)):m n=some v:=by
 obtain⟨o,es,ep,ho,hd,_,hf⟩:=G
 unfold Aw at e
 split at e
 ·rename_i hq
  have z:=(X _ _ hq).symm.trans ho
  cases z; cases hd
  split at e
  ·rename_i en he
   cases e
   rw[← hf,show nsFind _ n=_ from rfl]
   unfold nsFind findBy
   rw[← Array.find?_toList,he]; rfl
  ·split at e <;> cases e
 ·cases e
theorem zGp{K:AH}{h:Heap}{C fI:Addr}(X:K.In h)(q:excI K C fI=true) :
  (∃ bm N nm qn bs hdct sn sub ab col dd k0 k1 k2 k3 k5 mN,h.get? C=some (Gs nm qn C N bs bm hdct sn sub ab col dd k0 k1 k2 k3 k5 "ValueError.__new__")/\h.Ns N mN/\mN "__init__"=some (.ref fI)/\Je h veB bm)/\(∃ oI,h.get? fI=some oI/\oI.cls=.type "function")/\Ce K (.ref C) (.type "BaseException")=some true:=by
 unfold excI at q
 simp only[Ab,beq_iff_eq]at q
 obtain⟨⟨q,q2⟩,q3⟩:=q
 refine⟨?_,?_,q3⟩
 ·split at q
  ·rename_i dd cdat sl ho
   split at q
   ·rename_i D bm k0 k1 k2 k3 n k5 hm hs
    simp only[Ab,beq_iff_eq,Fk]at q
    obtain⟨rfl,rfl,hdel,ht,hok,hni⟩:=q
    obtain⟨nm,bs,mro,ns,qn,hd,sn,sub,ab,col,del⟩:=cdat
    dsimp only at hm hdel hok hni
    subst hm hdel
    obtain rfl:sl=#[k0,k1,k2,k3,some (.builtin "ValueError.__new__"),k5]:=by
     obtain⟨l⟩:=sl
     simp only at hs
     rw[hs]
    have G:=Heap.Ns.of_isNs (HV X hok)
    exact⟨bm,ns,nm,qn,bs,hd,sn,sub,ab,col,dd,k0,k1,k2,k3,k5,_,X _ _ ho,G,zOW X G hni,HW X ht⟩
   ·cases q
  ·cases q
 ·split at q2
  ·rename_i o ho; exact⟨o,X _ _ ho,beq_iff_eq.mp q2⟩
  ·cases q2
noncomputable abbrev excD (t:Addr):Data:=.fields #[.ref t,.none,.none,.none,.bool false,.none]
section
variable {X:Cx}{pins:List (Addr×Obj)}{σ:St}{H:Hp}{s:AD}{C fI:Addr}{fd:AZ}{ps names:List Str}{k:Nat}{vs:List V}{us:List AB}{Q:AB->AD->Prop}
theorem zLC(I:Inv X pins σ H s)(hex:X.ex=[])(q:excI X.K C fI=true)(Fi:FnOk X.prog X.w X.K X.mg X.base CX0 k fI fd ps (spI C names))(hbd:Binds X.K fd ps [])(hr:Room (k+1) X.A)(rv:Vals vs us)(hl:vs.length=names.length)(hl2:names.length<=900)(hlp:ps.length=names.length+1)
  (kont:∀ e dx t s' H',Inv X pins σ H' s'->(∀ b o,H b=some o->H' b=some o)->H e=none->H dx=none->dx≠e->X.s₀.heap.get? e=none->H' e=some (.ext (xδ e C (some dx) (excD t)))->H' dx=some (.xd (names.zip vs).reverse)->Q (.ref e) s'):AM (model X.prog X.w) X.A (call (.ref C) us) Q X.xe s:=by
 obtain⟨⟨bm,N,nm,qn,bs,hdct,sn,sub,ab,col,dd,k0,k1,k2,k3,k5,mN,hC,hN,hi,T⟩,⟨oI,hoI,hcI⟩,_⟩:=zGp I.kIn q
 obtain⟨h,g,dr,t,os⟩:=s
 have hul:=rv.length
 refine zD4 Ds T (T.hasType (by decide)) hC hN hi hoI hcI (fun h' e hm=>?_) (Aa (by omega:us.length<=900) (by decide))
 obtain⟨tt,he,_,_⟩:=hm.there
 have new:=hm.new
 have hHe:H e=none:=zA6 I.hok new
 have a0:X.s₀.heap.get? e=none:=by
  cases q0:X.s₀.heap.get? e with
  | none=>rfl
  | some o=>obtain⟨o',q1⟩:=I.base.there e o q0 (by rw[hex]; exact fun z=>nomatch z); rw[show h.get? e=none from new]at q1; cases q1
 have I1:Inv X pins σ (upd H e (.ext (xδ e C none (excD tt)))) ⟨h',g,dr,t,os⟩:=(I.kept (t':=t) hm.keeps).track hHe a0 (fun z=>by
   obtain⟨m,⟨o,_,_,ho,_⟩,_⟩:=I.loc
   rw[z,show h.get? e=none from new]at ho; cases ho) (fun z c hc q=>by
   obtain⟨v,o,ho,_⟩:=I.cell z c hc
   rw[q,show h.get? e=none from new]at ho; cases ho) (fun p hp q=>by
   have:=(I.pin p hp).1
   rw[q,show h.get? e=none from new]at this; cases this) ⟨⟨_,he,rfl,rfl,rfl⟩,⟨_,he⟩,fun h1 h2 ⟨o,r1,r2⟩ kk=>⟨o,kk o r1,r2⟩⟩
 have hrA:Room k (X.A.under (Dy "type.__call__" { pos:=.ref C::us })):=⟨hr.hd,by rw[zII]; have:=hr.dp; omega,by rw[zHh]; have:=hr.un; omega,by
  have e:(X.A.under (Dy "type.__call__" { pos:=.ref C::us })).guards=X.A.guards:=by first | rfl | simp[FM,Code.guards,JT,guardIds,pushGuards]
  rw[e]; exact hr.gd⟩
 have hfrA:(X.A.under (Dy "type.__call__" { pos:=.ref C::us })).frames=X.A.frames:=by first | rfl | simp[FM,Code.envs,Gz,pushEnvs]
 generalize X.A.under (Dy "type.__call__" { pos:=.ref C::us })=A' at *
 have e0:Env0 X.prog X.w X.K X.mg X.base A' X.stack ⟨h',g,dr,t,os⟩ (upd H e (.ext (xδ e C none (excD tt)))):=let z:=I1.env0; ⟨hfrA.trans z.frames,z.mod,z.bs,z.bsz,z.funs,z.frf,z.hok,z.bare⟩
 have lenA:((.ref e::us)++([]:List AB)).length=ps.length:=by rw[BY,BI]; omega
 refine E4 (C7 (Fi.run A' X.stack ⟨h',g,dr,t,os⟩ (upd H e (.ext (xδ e C none (excD tt)))) ⟨.ref e::us,[]⟩ ((.ref e::us)++[]) (.ref e::vs) (fun v H'=>v=.non/\∃ dx,H dx=none/\dx≠e/\(∀ b o,H b=some o->H' b=some o)/\H' e=some (.ext (xδ e C (some dx) (excD tt)))/\H' dx=some (.xd (names.zip vs).reverse)) (fun _ _ _=>False) hrA e0 (hbd _ _ I1.kIn lenA) (by rw[BY]; exact .cons rfl rv)
  ⟨e,vs,_,rfl,hl,⟨_,rfl⟩,zAf,fun dx H' z1 z2 z3 z4 z5=>⟨rfl,dx,by rw[zAJ z2]at z1; exact z1,z2,fun b o eb=>z3 b o (fun z=>by rw[z,hHe]at eb; cases eb) (by rw[zAJ (fun z=>by rw[z,hHe]at eb; cases eb)]; exact eb),z4,z5⟩⟩) fun r s' hq=>?_)
 cases r with
 | error e=>exact hq.elim
 | ok fl =>
  cases fl with
  | ret u =>
   obtain⟨v,H',I',rv',rfl,dx,y1,y2,y3,y4,y5⟩:=I1.after hq
   exact⟨rv',kont e dx tt s' H' I' y3 hHe y1 y2 a0 y4 y5⟩
  | next=>exact Ay hq
  | brk=>exact Ay hq
  | cont=>exact Ay hq
end
noncomputable def rmv (H:Hp) (e:Addr):Hp:=fun b=>if b=e then none else H b
theorem zCG{H:Hp}{e:Addr}:rmv H e e=none:=by unfold rmv; rw[if_pos rfl]
theorem zCe{H:Hp}{e b:Addr}(h:b≠e):rmv H e b=H b:=by unfold rmv; rw[if_neg h]
section
variable {X:Cx}{pins:List (Addr×Obj)}{σ:St}{H:Hp}{s:AD}{e:Addr}{φ:Heap->Prop}
theorem Inv.untrack(I:Inv X pins σ H s)(he:H e=some (.ext φ)):Inv X pins σ (rmv H e) s:=by
 have oth:∀ {b:Addr} {o:HO},H b=some o->(∀ φ,o≠.ext φ)->rmv H e b=some o:=fun {b o} eb n=>by rw[zCe (fun z=>by rw[z,he]at eb; exact n _ (As eb).symm)]; exact eb
 have non:∀ {b:Addr},H b=none->rmv H e b=none:=fun {b} n=>by
  by_cases z:b=e
  ·rw[z]; exact zCG
  ·rw[zCe z]; exact n
 refine⟨I.ok,I.os,I.bare,{ keep:=I.base.keep,slot:=I.base.slot,free:=fun b ob q n hx=>non (I.base.free b ob q n hx),there:=I.base.there,tups:=fun b xs q=>oth (I.base.tups b xs q) (fun _ z=>by cases z),frzs:=fun b ob u q=>oth (I.base.frzs b ob u q) (fun _ z=>by cases z),tbls:=fun b ps q=>?_ },I.loc,I.cell,non I.free,fun x c q=>non (I.freeC x c q),fun p hp=>?_,fun b u q=>?_,I.len⟩
 ·obtain⟨m,e'⟩:=I.base.tbls b ps q; exact⟨m,oth e' fun _ z=>by cases z⟩
 ·obtain⟨p1,p2,p3,p4,p5⟩:=I.pin p hp
  exact⟨p1,non p2,p3,p4,p5⟩
 ·by_cases z:b=e
  ·rw[z,zCG]at q; cases q
  ·rw[zCe z]at q
   exact (I.hok b u q).stay (fun c v _ ec=>ec) (fun c ec=>oth ec fun _ z=>by cases z) (fun c xs ec=>oth ec fun _ z=>by first | cases z | (cases xs <;> cases z))
end
section
variable {P:AY}{w:Af}{K:AH}{mg:Str->Option AB}{base:Heap}{N:List Str}{qual:Str}{scope:B6}{f:Addr}{cd:AB}{A:Ao}{outer:List Env}{s₀ s:AD}{H₀ H:Hp}{E:XK}{pins:List (Addr×Obj)}{σ:St}
theorem zJq{e C T:Addr}{d:Option Addr}{h3:Heap}{S:List Addr}(I:Inv (cxOf (CXR P w) P w K mg base N qual scope f cd A outer s₀ H₀ E) pins σ H s)(hHe:H e=none)(e0:s₀.heap.get? e=none)(hS:∀ b∈S,H b=none/\s₀.heap.get? b=none)
  (c:Ch (frs ((cxOf (CXR P w) P w K mg base N qual scope f cd A outer s₀ H₀ E).env::outer)) S s.heap h3) (x3:Exc h3 e T (.ref C) d .none) (nT:s.heap.get? T=none) (hE:E (.ref C) d H):CXR P w outer H₀ s₀ E (.ref e) { s with heap:=h3 }:=by
 have habove:s₀.heap.objs.size<=(cxOf (CXR P w) P w K mg base N qual scope f cd A outer s₀ H₀ E).env.locals:=I.ok.above
 have hfs:frs ((cxOf (CXR P w) P w K mg base N qual scope f cd A outer s₀ H₀ E).env::outer)=(cxOf (CXR P w) P w K mg base N qual scope f cd A outer s₀ H₀ E).env.locals::frs outer:=rfl
 have hstk:∀ b∈frs ((cxOf (CXR P w) P w K mg base N qual scope f cd A outer s₀ H₀ E).env::outer),H b=none:=I.stackFree
 have bL:∀ b o,s₀.heap.get? b=some o->b∉frs outer->b∉frs ((cxOf (CXR P w) P w K mg base N qual scope f cd A outer s₀ H₀ E).env::outer):=fun b o eo hb z=>by
  rw[hfs]at z
  rcases AO.mp z with z | z
  ·exact absurd (z ▸ AJ eo) (IG.mpr habove)
  ·exact hb z
 have nS:∀ b o,s₀.heap.get? b=some o->b∉S:=fun b o q z=>by rw[(hS b z).2]at q; cases q
 have T0:s₀.heap.get? T=none:=by
  cases q0:s₀.heap.get? T with
  | none=>rfl
  | some o=>obtain⟨o',q1⟩:=I.base.there T o q0 (fun z=>nomatch z); rw[nT]at q1; cases q1
 refine⟨e,C,T,d,H,rfl,I.os,I.bare,{ keep:=fun b o q n hb hx'=>c.keep b o (bL b o q hb) (nS b o q) (I.base.keep b o q n hb hx'),slot:=fun b o q n hb hx'=>?_,free:=I.base.free,there:=fun b o q hx'=>?_,tups:=I.base.tups,frzs:=I.base.frzs,tbls:=I.base.tbls },I.hok.ch c hstk fun b z=>(hS b z).1,hHe,zA6 I.hok nT,e0,T0,x3,hE⟩
 ·obtain⟨sl,q1⟩:=I.base.slot b o q n hb hx'
  obtain⟨sl2,q2⟩:=c.slot b _ (nS b o q) q1
  exact⟨sl2,q2⟩
 ·obtain⟨o1,q1⟩:=I.base.there b o q hx'
  obtain⟨sl,q2⟩:=c.slot b o1 (nS b o q) q1
  exact⟨_,q2⟩
theorem zE3{e C dx t:Addr}(I:Inv (cxOf (CXR P w) P w K mg base N qual scope f cd A outer s₀ H₀ E) pins σ H s)(he:H e=some (.ext (xδ e C (some dx) (excD t))))(e0:s₀.heap.get? e=none)(hE:E (.ref C) (some dx) (rmv H e)) :
  (cxOf (CXR P w) P w K mg base N qual scope f cd A outer s₀ H₀ E).xe (.ref e) s:=by
 obtain⟨⟨oe,hoe,hc,hd,hda⟩,_,_⟩:=(show ObjOk P w H s.heap e (.ext (xδ e C (some dx) (excD t))) from I.hok e _ he)
 have hfun:s.heap.FunFrames base ((cxOf (CXR P w) P w K mg base N qual scope f cd A outer s₀ H₀ E).env::outer):=I.env0.funs
 show AM (model P w) _ (leaving _ (.ref e)) (fun _ s''=>CXR P w outer H₀ s₀ E (.ref e) s'') (fun e' s''=>CXR P w outer H₀ s₀ E e' s'') _
 unfold leaving
 refine AA (zDi (s:=s) (base:=base) I.ok.frames hfun rfl hoe hda rfl fun h2 T nT x2 c2=>?_)
 refine land (s:={ s with heap:=h2 }) x2 fun h3 x3 c3=>?_
 rw[hc,hd]at x3
 refine zJq (s:=s) (S:=[e,T]) (I.untrack he) zCG e0 (fun b z=>?_) ((c2.wide (fun _ z=>z) fun b z=>by rw[AF.mp z]; exact AQ).trans (c3.wide (fun _ z=>nomatch z) fun b z=>by rw[AF.mp z]; exact AK _ AQ)) x3 nT hE
 rcases AO.mp z with rfl | z
 ·exact⟨zCG,e0⟩
 ·rw[AF.mp z]
  refine⟨zA6 (I.untrack he).hok nT,?_⟩
  cases q0:s₀.heap.get? T with
  | none=>rfl
  | some o=>obtain⟨o',q1⟩:=I.base.there T o q0 (fun z=>nomatch z); rw[nT]at q1; cases q1
theorem zDC{H1:Hp}{s1:AD}{ev:AB}(I:Inv (cxOf (CXR P w) P w K mg base N qual scope f cd A outer s₀ H₀ E) pins σ H1 s1)(c:CXR P w ((cxOf (CXR P w) P w K mg base N qual scope f cd A outer s₀ H₀ E).env::outer) H1 s1 E ev s) :
  (cxOf (CXR P w) P w K mg base N qual scope f cd A outer s₀ H₀ E).xe ev s:=by
 obtain⟨a,C,T,d,H',rfl,os,hg,un,hok,hHa,hHT,ha,hT,x,hE⟩:=c
 have I0:Inv (cxOf (CXR P w) P w K mg base N qual scope f cd A outer s₀ H₀ E) pins σ H' s:=I.settle (S:=[]) (h'':=s.heap) os hg un hok ha hT hHa hHT (fun _ z=>nomatch z) ⟨fun _ _ _ _ q=>q,fun _ o _ q=>⟨o.slots,q⟩⟩
 have back:∀ b,s1.heap.get? b=none->s₀.heap.get? b=none:=fun b q=>by
  cases q0:s₀.heap.get? b with
  | none=>rfl
  | some o=>obtain⟨o',q1⟩:=I.base.there b o q0 (fun z=>nomatch z); rw[q]at q1; cases q1
 have hfun:s.heap.FunFrames base ((cxOf (CXR P w) P w K mg base N qual scope f cd A outer s₀ H₀ E).env::outer):=I0.env0.funs
 show AM (model P w) _ (leaving _ (.ref a)) (fun _ s''=>CXR P w outer H₀ s₀ E (.ref a) s'') (fun e' s''=>CXR P w outer H₀ s₀ E e' s'') _
 unfold leaving
 refine AA (zEg (base:=base) I0.ok.frames hfun rfl x fun h2 T2 n2 x2 c2=>?_)
 refine land (s:={ s with heap:=h2 }) x2 fun h3 x3 c3=>?_
 refine zJq (s:=s) (S:=[a,T,T2]) I0 hHa (back a ha) (fun b z=>?_) ((c2.wide (fun _ z=>z) fun b z=>?_).trans (c3.wide (fun _ z=>nomatch z) fun b z=>by rw[AF.mp z]; exact AK _ (AK _ AQ))) x3 n2 hE
 ·rcases AO.mp z with rfl | z
  ·exact⟨hHa,back b ha⟩
  ·rcases AO.mp z with rfl | z
   ·exact⟨hHT,back b hT⟩
   ·rw[AF.mp z]
    refine⟨zA6 hok n2,?_⟩
    cases q0:s₀.heap.get? T2 with
    | none=>rfl
    | some o=>obtain⟨o',q1⟩:=I0.base.there T2 o q0 (fun z=>nomatch z); rw[n2]at q1; cases q1
 ·rcases AO.mp z with rfl | z
  ·exact AQ
  ·rw[AF.mp z]; exact AK _ AQ
end
open PySem.W in
theorem zIV{K:Frag}{M:Gj}{A:Ao}{E:AB->AD->Prop}{s:AD}{env:Env}{x:Sem AB}{Q:Flow->AD->Prop}(hh:A.handled=none)
  (h:AM M A x (fun v s₁=>∃ e oe C t oC,v=.ref e/\K.In s₁.heap/\s₁.heap.get? C=some oC/\oC.cls=.type "type"/\s₁.heap.get? e=some oe/\oe.cls=.ref C/\oe.data=excD t/\subIn K (.ref C) (.type "BaseException")=some true/\E (.ref e) s₁) E s) :
  AM M A (raiseStmt env (some x) none) Q E s:=by
 unfold raiseStmt
 refine AA (BF h (fun v s₁ h₁=>?_) fun _ _ x=>x)
 obtain⟨e,oe,C,t,oC,rfl,KX,hC,hCt,he,hc,hda,hb,hE⟩:=h₁
 obtain⟨hp,g,d,tk,os⟩:=s₁
 obtain⟨oc,od,oda,osl⟩:=oe
 dsimp only at hc hda
 subst hc hda
 have L3:=looks_subIn (M:=M) KX hb
 repeat (first | with_reducible refine GS he ?_ | (with_reducible refine GS hC ?_; rw[hCt]) | with_reducible refine L3.at ?_ | wp_step)
 exact wpAny_raiseNew_none hh hE
section
variable {P:AY}{w:Af}{K:AH}{mg:Str->Option AB}{base:Heap}{N:List Str}{qual:Str}{scope:B6}{f:Addr}{cd:AB}{A:Ao}{outer:List Env}{s₀:AD}{H₀:Hp}{E:XK}
noncomputable def tRaiseX (C:Addr) (names:List Str) (E:XK) (ta:TA):TS:=fun _ σ H=>ta σ H fun vs H1=>vs.length=names.length/\∀ dx H',H1 dx=none->(∀ b o,H1 b=some o->H' b=some o)->H' dx=some (.xd (names.zip vs).reverse)->E (.ref C) (some dx) H'
theorem zJz{x:Str}{np cpos pos:Pos}{e:Expr}{es:List Expr}{ta:TA}{C fI:Addr}{fd:AZ}{ps names:List Str}{k:Nat}(q:excI K C fI=true)(Fi:FnOk P w K mg base CX0 k fI fd ps (spI C names))(hbd:Binds K fd ps [])(hl2:names.length<=900)(hlp:ps.length=names.length+1)
  (hr:Room (k+1) (cxOf (CXR P w) P w K mg base N qual scope f cd A outer s₀ H₀ E).A) (hkp:An K (.ref C)=true)
  (hg:Gl (cxOf (CXR P w) P w K mg base N qual scope f cd A outer s₀ H₀ E) x) (hm:mg x=some (.ref C)) (ha:PA (cxOf (CXR P w) P w K mg base N qual scope f cd A outer s₀ H₀ E) (e::es) ta) (hdb:(x == ("__debug__":Str))=false)
  (he:AI (e::es) (cxOf (CXR P w) P w K mg base N qual scope f cd A outer s₀ H₀ E).env=(false,eval e (cxOf (CXR P w) P w K mg base N qual scope f cd A outer s₀ H₀ E).env)::AI es (cxOf (CXR P w) P w K mg base N qual scope f cd A outer s₀ H₀ E).env) (hpl:(Bd cpos (AI es (cxOf (CXR P w) P w K mg base N qual scope f cd A outer s₀ H₀ E).env)).any (·.1)=false) :
  PS (cxOf (CXR P w) P w K mg base N qual scope f cd A outer s₀ H₀ E) (.Raise (some (.Call (.Name x np) (e::es) [] cpos)) none pos) (tRaiseX C names E ta):=by
 intro pins s σ H D I h
 rw[arm_exec_Raise]
 simp only[evalOpt,Option.map]
 refine AA (DH (zIV (K:=K) hr.hd (AA (BF ?_ (fun v s₃ h₃=>AA (DH (AG h₃))) fun _ _ z=>z))))
 refine Bz (zBL I hg hm ?_ hdb)
 refine CV (h₀:=base) I.ok.mod.kin hkp (thn (ha cpos pins s σ H _ I h) fun us s1 z=>?_) he hpl
 obtain⟨vs,H1,I1,r,hl,hq⟩:=z
 refine⟨I1.kIn,?_⟩
 rw[C8]
 refine zLC I1 rfl q Fi hbd hr r hl hl2 hlp fun e' dx t s' H' I' y3 hHe y1 y2 a0 y4 y5=>?_
 obtain⟨⟨bm,N',nm,qn,bs,hdct,sn,sub,ab,col,dd,k0,k1,k2,k3,k5,mN,hC,_⟩,_,hb⟩:=zGp I'.kIn q
 obtain⟨⟨oe,hoe,hc,_,hda⟩,_,_⟩:=(show ObjOk P w H' s'.heap e' (.ext (xδ e' C (some dx) (excD t))) from I'.hok e' _ y4)
 exact⟨e',oe,C,t,_,rfl,I'.kIn,hC,rfl,hoe,hc,hda,hb,zE3 I' y4 a0 (hq dx (rmv H' e') y1 (fun b o eb=>by rw[zCe (fun z=>by rw[z,hHe]at eb; cases eb)]; exact y3 b o eb) (by rw[zCe y2]; exact y5))⟩
noncomputable def tExprX (sp:Sp) (E:XK) (t:TA):TS:=fun D σ H=>t σ H fun vs H1=>sp vs H1 (fun _ H2=>D.nx σ H2) E
theorem zKj{x:Str}{p pos epos:Pos}{e:Expr}{es:List Expr}{t:TA}{f':Addr}{fd:AZ}{ps:List Str}{sp:Sp}{k:Nat}(F:FnOk P w K mg base (CXR P w) k f' fd ps sp)(hr:Room k (cxOf (CXR P w) P w K mg base N qual scope f cd A outer s₀ H₀ E).A)
  (hg:Gl (cxOf (CXR P w) P w K mg base N qual scope f cd A outer s₀ H₀ E) x) (hm:mg x=some (.ref f')) (hk:An K (.ref f')=true) (hb:Binds K fd ps [])
  (ha:∀ E',PA ((cxOf (CXR P w) P w K mg base N qual scope f cd A outer s₀ H₀ E).on E') (e::es) t) (hdb:(x == ("__debug__":Str))=false)
  (he:AI (e::es) (cxOf (CXR P w) P w K mg base N qual scope f cd A outer s₀ H₀ E).env=(false,eval e (cxOf (CXR P w) P w K mg base N qual scope f cd A outer s₀ H₀ E).env)::AI es (cxOf (CXR P w) P w K mg base N qual scope f cd A outer s₀ H₀ E).env) (hpl:(Bd pos (AI es (cxOf (CXR P w) P w K mg base N qual scope f cd A outer s₀ H₀ E).env)).any (·.1)=false)
  (hsw:CO (.Call (.Name x p) (e::es) [] pos) none epos.line (cxOf (CXR P w) P w K mg base N qual scope f cd A outer s₀ H₀ E).env=pure false) :
  PS (cxOf (CXR P w) P w K mg base N qual scope f cd A outer s₀ H₀ E) (.Expr (.Call (.Name x p) (e::es) [] pos) epos) (tExprX sp E t):=by
 intro pins s σ H D I h
 refine Kq (BF (zD8 (W:=E) (Q:=fun _ H2=>D.nx σ H2) F hr hg hm hk hb ha hdb he hpl I h) (fun v s1 z=>?_) fun e' s1 z=>?_) I.quiet hsw
 ·obtain⟨v',H1,I1,r1,q1⟩:=z
  exact⟨σ,H1,I1,q1⟩
 ·obtain⟨H1,s0,I1,c⟩:=z
  exact zDC I1 c
end
noncomputable def getKit (K:AH) (C:Addr) (n:Str):Bool:=Bj K (.ref C) "__getattribute__" == some (some (.builtin "BaseException.__getattribute__")) && Bj K (.ref C) "__getattr__" == some none && Bj K (.ref C) n == some none && Ce K (.ref C) (.type "BaseException") == some true &&
 (match Cf K C with
  | some cd=>cd.hasDict
  | none=>false)
noncomputable def handV:V->Bool
 | .int _=>true
 | .str _=>true
 | _=>false
noncomputable def tGetX (K:AH) (to:TE) (n:Str):TE:=fun σ H Q=>to σ H fun x H1=>∃ a C dx fs v,x=.ref a/\H1 a=some (.ext (xφ a C (some dx)))/\H1 dx=some (.xd fs)/\fs.lookup n=some v/\getKit K C n=true/\handV v=true/\Q v H1
theorem zMw{X:Cx}{o:Expr}{to:TE}{n:Str}{pos:Pos}(ho:PE X o to)(hb:CU o n X.env (eval o X.env)=eval o X.env):PE X (.Attribute o n pos) (tGetX X.K to n):=by
 intro pins s σ H Q I h
 refine zL4 hb (thn (ho pins s σ H _ I h) fun u s1 ⟨x,H1,I1,rx,a,C,dx,fs,v,ex,ha,hd,hlk,q,hv,k⟩=>?_)
 subst ex
 obtain rfl:u=Ai a:=rx
 unfold getKit at q
 simp only[Ab,beq_iff_eq]at q
 obtain⟨⟨⟨⟨q1,q2⟩,q3⟩,q4⟩,q5⟩:=q
 split at q5
 rotate_left
 ·cases q5
 rename_i cd hcd
 obtain⟨⟨oe,hoe,hc,hdc,hnc⟩,_,_⟩:=(show ObjOk X.prog X.w H1 s1.heap a (.ext (xφ a C (some dx))) from I1.hok a _ ha)
 obtain⟨mA,hns,hrel⟩:=(show ObjOk X.prog X.w H1 s1.heap dx (.xd fs) from I1.hok dx _ hd)
 have hr:=hrel n
 rw[hlk]at hr
 cases hm:mA n with
 | none=>rw[hm]at hr; exact hr.elim
 | some w =>
  rw[hm]at hr
  have hh:handedOut w=pure w:=by
   cases v with
   | int i=>obtain⟨t,rfl⟩:=(show ∃ t,w=Bb i t from hr); rfl
   | str x=>obtain⟨t,rfl⟩:=(show ∃ t,w=Ex x t from hr); rfl
   | _=>cases hv
  obtain⟨hp,g,d,t,os⟩:=s1
  exact zLb I1.kIn hoe hc hnc hdc hns hm q1 q2 q3 hcd q5 q4 hh ⟨v,H1,I1.tok _,hr,k⟩
end L2
namespace D
open PySem L2
noncomputable def isXs:S->Option (Str×List (Str×V))
 | .v (.x c fs)=>some (c,fs)
 | _=>none
noncomputable def isXg:G->Option (Str×List (Str×V))
 | .v (.x c fs)=>some (c,fs)
 | _=>none
theorem zMP{s:S}{z:Str×List (Str×V)}(h:isXs s=some z):s=.v (.x z.1 z.2):=by
 unfold isXs at h
 split at h
 ·cases h; rfl
 ·cases h
theorem zG3{s:G}{z:Str×List (Str×V)}(h:isXg s=some z):s=.v (.x z.1 z.2):=by
 unfold isXg at h
 split at h
 ·cases h; rfl
 ·cases h
def XiE (K:Fg) (E:XK) (c:Str) (fs:List (Str×V)) (H:Hp):Prop:=∀ (C:Addr) (d:Option Addr) (H':Hp),Aw K AR c=some (some (.ref C))->(∀ b o,H b=some o->H' b=some o)->((d=none/\fs=[])\/∃ dx,d=some dx/\H' dx=some (.xd fs))->E (.ref C) d H'
noncomputable def OkX (K:Fg) (C:Fr) (E:XK) (D:Ends):O->Prop
 | .rt s Γ=>(∀ z,isXs s=some z->∀ w σ H,Rep K C w Γ σ H->XiE K E z.1 z.2 H)/\(isXs s=none->∀ w σ H v,Rep K C w Γ σ H->SOk K C w σ H v s->D.rt v H)
 | o=>OkO K C D o
def SimX (K:Fg) (E:XK) (ts:TS) (g:DS):Prop:=∀ (C:Fr) (w:W) (Γ:En) (σ:St) (H:Hp) (D:Ends) (o:O),C.pins.map (·.1)=(none:Option Nat).toList->Rep K C w Γ σ H->g Γ=some o->OkX K C E D o->ts D σ H
noncomputable def noX:O->Option O
 | .rt s Γ=>match isXs s with
  | some _=>none
  | none=>some (.rt s Γ)
 | o=>some o
noncomputable def dN (g:DS):DS:=fun Γ=>(g Γ).bind noX
theorem zJw{o o':O}(h:noX o=some o'):o=o'/\∀ K C E D,OkX K C E D o' ↔ OkO K C D o':=by
 cases o with
 | nx Γ=>cases h; exact⟨rfl,fun _ _ _ _=>KB⟩
 | bk Γ=>cases h; exact⟨rfl,fun _ _ _ _=>KB⟩
 | ct Γ=>cases h; exact⟨rfl,fun _ _ _ _=>KB⟩
 | rt s Γ =>
  unfold noX at h
  dsimp only at h
  split at h
  ·cases h
  ·rename_i hn
   cases h
   exact⟨rfl,fun K C E D=>⟨fun z=>z.2 hn,fun z=>⟨fun y hy=>by (rw[hn]at hy; cases hy),fun _=>z⟩⟩⟩
section
variable {K:Fg}{E:XK}
theorem zMq{ts:TS}{g:DS}(h:SimS K none ts g):SimX K E ts (dN g):=by
 intro C w Γ σ H D o hp R e k
 obtain⟨o1,e1,e⟩:=bind_some e
 obtain⟨rfl,hk⟩:=zJw e
 exact h C w Γ σ H D o1 hp R e1 ((hk K C E D).mp k)
theorem zIi{ts:TS}{g:DS}(h:SimX K E ts g):SimS K none ts (dN g):=by
 intro C w Γ σ H D o hp R e k
 obtain⟨o1,e1,e⟩:=bind_some e
 obtain⟨rfl,hk⟩:=zJw e
 exact h C w Γ σ H D o1 hp R e1 ((hk K C E D).mpr k)
theorem zJV:SimX K E tNext dNext:=fun C w Γ σ H D o _ R e k=>by cases e; exact k w σ H R
theorem zKX{t u:TS}{f g:DS}(h1:SimX K E t f)(h2:SimX K E u g):SimX K E (tSeq t u) (dSeq f g):=by
 intro C w Γ σ H D o hp R e k
 obtain⟨o1,e1,e⟩:=bind_some e
 refine h1 C w Γ σ H _ o1 hp R e1 ?_
 cases o1 with
 | nx Γ1=>exact fun w' σ' H' R'=>h2 C w' Γ1 σ' H' D o hp R' e k
 | rt s Γ1=>cases e; exact k
 | bk Γ1=>cases e; exact k
 | ct Γ1=>cases e; exact k
theorem zMk{tc:TT}{t u:TS}{c:DT}{f g:DS}(hc:SimT K tc c)(h1:SimX K E t f)(h2:SimX K E u g):SimX K E (tIfS tc t u) (dIf c f g):=by
 intro C w Γ σ H D o hp R e k
 obtain⟨⟨p,G1⟩,e1,e⟩:=bind_some e
 refine hc C w Γ σ H p G1 _ R e1 fun H1 R1 _=>?_
 cases p with
 | true=>exact (if_pos rfl).mpr (h1 C w G1 σ H1 D o hp R1 (by simpa using e) k)
 | false=>exact (if_neg AU).mpr (h2 C w G1 σ H1 D o hp R1 (by simpa using e) k)
noncomputable def atomsS:List S->Option (List V)
 | []=>some []
 | .v (.a v)::r=>(atomsS r).map fun vs=>v::vs
 | _=>none
noncomputable def dRaiseX (c:Str) (names:List Str) (fa:DA):DS:=fun Γ=>(fa Γ).bind fun p=>(atomsS p.1).bind fun vs=>if vs.length=names.length then some (.rt (.v (.x c (names.zip vs).reverse)) p.2) else none
theorem zEQ{C:Fr}{w:W}{σ:St}{H:Hp}:∀ {ss:List S} {vs us:List V},atomsS ss=some us->SOks K C w σ H vs ss->vs=us
 | [],[],us,e,_=>by cases e; rfl
 | [],_::_,us,e,h=>h.elim
 | s::ss,[],us,e,h=>h.elim
 | s::ss,v::vs,us,e,h=>by
  unfold atomsS at e
  split at e
  ·rename_i z; cases z
  ·rename_i u r z
   cases z
   obtain⟨us',e1,e2⟩:=zAE e
   subst e2
   have h1:v=u:=(show Im K H v (.a u) from h.1).inva
   rw[h1,zEQ e1 h.2]
  ·cases e
theorem zHM{c:Str}{names:List Str}{Ca:Addr}{ta:TA}{fa:DA}(ha:SimA K ta fa)(hc:Aw K AR c=some (some (.ref Ca))):SimX K E (tRaiseX Ca names E ta) (dRaiseX c names fa):=by
 intro C w Γ σ H D o hp R e k
 obtain⟨⟨ss,Γ1⟩,e1,e⟩:=bind_some e
 obtain⟨us,e2,e⟩:=bind_some e
 split at e
 ·rename_i hl
  cases e
  refine ha C w Γ σ H ss Γ1 _ R e1 fun vs H1 R1 ev1 o1 _=>?_
  have hv:=zEQ e2 o1
  subst hv
  exact⟨hl,fun dx H' _ ext hx=>k.1 (c,(names.zip vs).reverse) rfl w σ H1 R1 Ca (some dx) H' hc ext (.inr ⟨dx,rfl,hx⟩)⟩
 ·cases e
end
noncomputable def spX (K:Fg) (n:Nat) (F:DF):Sp:=fun vs H Q E=>vs.length=n/\∃ (w:W) (gs:List G) (r:G) (ys:List T),w.L=[]/\F gs=some (r,ys)/\Rep K ⟨H,w.L,[]⟩ w (gs.map some) (vs.map some) H /\
 (∀ z,isXg r=some z->∀ H',(∀ b o,H b=some o->H' b=some o)->XiE K E z.1 z.2 H')/\(isXg r=none->∀ v H',(∀ b o,H b=some o->H' b=some o)->ROk K H H' v r->Q v H')
section
variable {K:Fg}
theorem zFF{ts:TS}{g:DS}{N:List Str}{np:Nat}{vs:List V}{H:Hp}{Q:VK}{E:XK}(hb:SimX K E ts g)(h:spX K np (fnD none np N.length g) vs H Q E):ts { nx:=fun _ H'=>Q .non H',rt:=Q } (L2.start N vs) H:=by
 obtain⟨hn,w,gs,r,ys,hw,e,R,k1,k2⟩:=h
 have hg:gs.length=np:=zB3 _ _ e
 have e0:=e
 unfold fnD at e0
 rw[if_pos hg]at e0
 obtain⟨o,e1,e0⟩:=bind_some e0
 have plain:isXg r=none->noX o=some o->ts { nx:=fun _ H'=>Q .non H',rt:=Q } (L2.start N vs) H:=fun hr ho=>by
  have e':fnD none np N.length (dN g) gs=some (r,ys):=by
   unfold fnD dN
   rw[if_pos hg,e1,Av,ho,Av]
   exact e0
  exact zC2 (E:=E) (zIi hb) ⟨hn,w,gs,r,ys,e',R,rfl,(fun p hp=>by rw[hw]at hp; cases hp),fun v H' ev _ hv=>k2 hr v H' (fun b o hb=>ev b o hb (by rw[hw]; exact nofun)) hv⟩
 cases o with
 | nx Γ'=>cases e0; exact plain rfl rfl
 | bk Γ'=>cases e0
 | ct Γ'=>cases e0
 | rt s Γ' =>
  obtain⟨r',e2,e0⟩:=zAE e0
  cases e0
  cases hs:isXs s with
  | none =>
   refine plain ?_ (by unfold noX; dsimp only; rw[hs])
   cases s with
   | v t=>cases e2; cases t <;> first | rfl | cases hs
   | l xs=>cases e2; rfl
   | d xs=>cases e2; rfl
   | s i =>
    unfold resG at e2
    dsimp only at e2
    split at e2
    ·cases e2
    ·split at e2 <;> cases e2 <;> rfl
  | some z =>
   have:=zMP hs
   subst this
   cases e2
   have R0:Rep K ⟨H,w.L,[]⟩ w (gs.map some++Ad (N.length - np) none) (L2.start N vs) H:=by
    unfold L2.start
    rw[hn]
    exact R.more _
   exact hb _ w _ _ H _ _ rfl R0 e1 ⟨fun y hy w' σ' H' R'=>by cases hy; exact k1 z rfl H' fun b o hb=>R'.frame b o hb (by rw[hw]; exact nofun),fun hy=>by cases hy⟩
end
def SXX {ι:Type} (K:Fg) (E:XK) (X:ι->Cx) (s:Stmt) (f:DS):Prop:=∃ t,(∀ j,PS (X j) s t)/\SimX K E t f
def BXX {ι:Type} (K:Fg) (E:XK) (X:ι->Cx) (s:List Stmt) (f:DS):Prop:=∃ t,(∀ j,PSs (X j) s t)/\SimX K E t f
structure FX(P:AY)(wd:Af)(K:Fg)(mg:Str->Option AB)(base:Heap)(k:Nat)(x:Str)(n:Nat)(F:DF):Prop where
 ex:∃ (f:Addr) (fd:AZ) (ps:List Str),FnOk P wd K mg base (CXR P wd) k f fd ps (spX K n F)/\mg x=some (.ref f)/\An K (.ref f)=true/\Binds K fd ps []
 len:∀ gs r,F gs=some r->gs.length=n
structure XC(P:AY)(wd:Af)(K:Fg)(mg:Str->Option AB)(base:Heap)(k:Nat)(c:Str)(names:List Str):Prop where
 ex:∃ (C fI:Addr) (fd:AZ) (ps:List Str),Aw K AR c=some (some (.ref C))/\mg c=some (.ref C)/\excI K C fI=true/\FnOk P wd K mg base CX0 k fI fd ps (spI C names)/\Binds K fd ps []/\names.length<=900/\ps.length=names.length+1/\An K (.ref C)=true
section
variable {ι:Type}{P:AY}{wd:Af}{base:Heap}{K:Fg}{mg:Str->Option AB}{E:XK}{k k' n:Nat}{X:ι->Cx}{c e:Expr}{es:List Expr}{st:Stmt}{sts sts':List Stmt}{f g:DS}{ta:DT}{da:DA}{F:DF}{pos:Pos}{x y cn nm:Str}
theorem zCc(h:SX K X none st f):SXX K E X st (dN f):=let ⟨_,p,s⟩:=h; ⟨_,p,zMq s⟩
theorem zGY:BXX K E X [] dNext:=⟨_,fun _=>zGe,zJV⟩
theorem zB8(h:SXX K E X st f):BXX K E X [st] f:=let ⟨_,p,s⟩:=h; ⟨_,fun j=>zEM (p j),s⟩
theorem zCH(h:SXX K E X st f)(h2:BXX K E X sts g):BXX K E X (st::sts) (dSeq f g):=let ⟨_,p,s⟩:=h; let ⟨_,q,u⟩:=h2; ⟨_,fun j=>zF2 (p j) (q j),zKX s u⟩
theorem zI6(hc:TX K X c ta)(h1:BXX K E X sts f)(h2:BXX K E X sts' g):SXX K E X (.If c sts sts' pos) (dIf ta f g):=let ⟨_,p,s⟩:=hc; let ⟨_,q,u⟩:=h1; let ⟨_,q',u'⟩:=h2; ⟨_,fun j=>zLa (p j) (q j) (q' j),zMk s u u'⟩
noncomputable def dDropX (n:Nat) (F:DF) (fa:DA):DS:=fun Γ=>(fa Γ).bind fun p=>(argsG none p.2 0 p.1).bind fun gs=>if gs.length=n then (F gs).bind fun q=>match isXg q.1 with
 | some z=>some (.rt (.v (.x z.1 z.2)) p.2)
 | none=>some (.nx p.2) else none
theorem zID{t:TA}{fa:DA}(ha:SimA K t fa):SimX K E (tExprX (spX K n F) E t) (dDropX n F fa):=by
 intro C w Γ σ H D o hp R e k
 obtain⟨⟨ss,Γ1⟩,e1,e⟩:=bind_some e
 obtain⟨gs,e2,e⟩:=bind_some e
 dsimp only at e e2
 split at e
 rotate_left
 ·cases e
 rename_i hn
 obtain⟨⟨r,ys⟩,e3,e⟩:=bind_some e
 refine ha C w Γ σ H ss Γ1 _ R e1 fun vs H1 R1 ev1 o1 _=>?_
 have Rc:=zDS R1 o1 e2
 refine⟨by rw[o1.len,← zBQ e2]; exact hn,⟨[],fun q=>∃ o,H1 q=some o⟩,gs,r,ys,rfl,e3,Rc,fun z hz H' ext=>?_,fun hz v H' ext hr=>?_⟩
 ·dsimp only at e
  rw[hz]at e
  cases e
  exact k.1 z rfl w σ H' (R1.evo0 ext)
 ·dsimp only at e
  rw[hz]at e
  cases e
  exact k w σ H' (R1.evo0 ext)
def CatX (K:Fg) (mg:Str->Option AB) (y:Str) (cs:List Str):Prop:=∃ D,mg y=some (.ref D)/\∀ c∈cs,∀ C,Aw K AR c=some (some (.ref C))->catches K C D=true
noncomputable def XGC (K:Fg) (gk:List (Str×Str)):Bool:=gk.all fun q=>match Aw K AR q.1 with
 | some (some (.ref C))=>getKit K C q.2
 | _=>false
noncomputable def dGetX (gk:List (Str×Str)) (n:Str) (f:DE):DE:=fun Γ=>(f Γ).bind fun p=>match p.1 with
 | .v (.x c fs)=>if (c,n)∈gk then (fs.lookup n).bind fun v=>if handV v=true then some (.v (.a v),p.2) else none else none
 | _=>none
theorem zKT{gk:List (Str×Str)}{n:Str}{to:TE}{fo:DE}(hk:XGC K gk=true)(ho:SimE K to fo):SimE K (tGetX K to n) (dGetX gk n fo):=by
 intro C w Γ σ H s Γ' Q R e k
 obtain⟨⟨a,G1⟩,e1,e⟩:=bind_some e
 dsimp only at e
 split at e
 ·rename_i c fs
  split at e
  ·rename_i hc
   obtain⟨v,e2,e⟩:=bind_some e
   split at e
   ·rename_i hv
    cases e
    refine ho C w Γ σ H _ _ _ R e1 fun u H1 R1 ev1 o1 n1=>?_
    obtain⟨p,rfl,Ca,d,h1,h2,h3⟩:=(show Im K H1 u (.x c fs) from o1).invx
    have hq:=Ax.mp hk _ hc
    dsimp only at hq
    rw[h1]at hq
    rcases h3 with ⟨rfl,rfl⟩ | ⟨dx,rfl,h4⟩
    ·cases e2
    ·exact⟨p,Ca,dx,fs,v,rfl,h2,h4,e2,hq,hv,k _ H1 R1 ev1 SOk.atom trivial⟩
   ·cases e
  ·cases e
 ·cases e
end
section
variable {P:AY}{wd:Af}{base:Heap}{K:Fg}{mg:Str->Option AB}{E:XK}{k k' n:Nat}{N:List Str}{qual:Str}{sc:B6}{f:Addr}{cdv:AB}{A:Ao}{outer:List Env}{s:AD}{H:Hp}{e:Expr}{es:List Expr}{da:DA}{F:DF}{x:Str}{names:List Str}{p np cpos pos epos:Pos}
theorem zI5(M:Fm K mg k (cxR P wd K mg base N qual sc f cdv A outer s H E))(G:XC P wd K mg base k' x names)(ha:AX K (cxR P wd K mg base N qual sc f cdv A outer s H E) (e::es) da)(hk:k'+1<=k:=by first | exact AL _ | decide | omega)
  (hg:Gl ((cxR P wd K mg base N qual sc f cdv A outer s H E) ()) x:=by rfl) (hdb:(x == ("__debug__":Str))=false:=by decide)
  (he:AI (e::es) ((cxR P wd K mg base N qual sc f cdv A outer s H E) ()).env=(false,eval e ((cxR P wd K mg base N qual sc f cdv A outer s H E) ()).env)::AI es ((cxR P wd K mg base N qual sc f cdv A outer s H E) ()).env:=by rfl) (hpl:(Bd cpos (AI es ((cxR P wd K mg base N qual sc f cdv A outer s H E) ()).env)).any (·.1)=false:=by rfl) :
  SXX K E (cxR P wd K mg base N qual sc f cdv A outer s H E) (.Raise (some (.Call (.Name x np) (e::es) [] cpos)) none pos) (dRaiseX x names da):=by
 obtain⟨t,pa,sa⟩:=ha
 obtain⟨C,fI,fd,ps,h1,h2,h3,h4,h5,h6,h7,h8⟩:=G.ex
 exact⟨_,fun j=>zJz h3 h4 h5 h6 h7 ((M.room ()).mono hk) h8 hg h2 (pa ()) hdb he hpl,zHM sa h1⟩
theorem zKa(M:Fm K mg k (cxR P wd K mg base N qual sc f cdv A outer s H E))(G:FX P wd K mg base k' x n F)(ha:AX K (onF (cxR P wd K mg base N qual sc f cdv A outer s H E)) (e::es) da)(hk:k'<=k:=by first | exact AL _ | decide | omega)
  (hg:Gl ((cxR P wd K mg base N qual sc f cdv A outer s H E) ()) x:=by rfl) (hdb:(x == ("__debug__":Str))=false:=by decide)
  (he:AI (e::es) ((cxR P wd K mg base N qual sc f cdv A outer s H E) ()).env=(false,eval e ((cxR P wd K mg base N qual sc f cdv A outer s H E) ()).env)::AI es ((cxR P wd K mg base N qual sc f cdv A outer s H E) ()).env:=by rfl) (hpl:(Bd pos (AI es ((cxR P wd K mg base N qual sc f cdv A outer s H E) ()).env)).any (·.1)=false:=by rfl)
  (hsw:CO (.Call (.Name x p) (e::es) [] pos) none epos.line ((cxR P wd K mg base N qual sc f cdv A outer s H E) ()).env=pure false:=by rfl) :
  SXX K E (cxR P wd K mg base N qual sc f cdv A outer s H E) (.Expr (.Call (.Name x p) (e::es) [] pos) epos) (dDropX n F da):=by
 obtain⟨t,pa,sa⟩:=ha
 obtain⟨f',fd,ps,h1,h2,h3,h4⟩:=G.ex
 exact⟨_,fun j=>zKj h1 ((M.room ()).mono hk) hg h2 h3 h4 (fun E'=>pa ((),E')) hdb he hpl hsw,zID sa⟩
end
section
variable {P:AY}{wd:Af}{base:Heap}{K:Fg}{mg:Str->Option AB}{k:Nat}
theorem zOB{x:Str}{st:Stmt}{f:Addr}{fd:AZ}{N ps:List Str}{g:DS}(F:Fun K x x st f fd)(S:FnScope N ps (defScope st))(hm:mg x=some (.ref f))(hb:Binds K fd ps [])
  (body:∀ (cdv:AB) (A:Ao) (outer:List Env) (s:AD) (H:Hp) (E:XK),Fm K mg k (cxR P wd K mg base N x (defScope st) f cdv A outer s H E)->Fb P wd base (cxR P wd K mg base N x (defScope st) f cdv A outer s H E)->BXX K E (cxR P wd K mg base N x (defScope st) f cdv A outer s H E) (defBody st) g) :
  FX P wd K mg base (k+1) x ps.length (fnD none ps.length N.length g):=by
 refine⟨⟨f,fd,ps,?_,hm,F.kp,hb⟩,zB3⟩
 obtain⟨oc,od,kV,doc,pm,an,cdv,ct,osl,rfl,lk,hcd⟩:=F.ex
 refine zHs lk hcd S (fun vs H Q E h=>h.1) fun A outer s H vs Q E hr h=>?_
 obtain⟨t,p,u⟩:=body cdv A outer s H E ⟨fun _=>rfl,fun _=>rfl,fun _=>rfl,fun _=>hr⟩ ⟨fun _=>rfl,fun _=>rfl,fun _=>rfl⟩
 exact⟨t,p (),zFF u h⟩
theorem zO3{C fI:Addr}{fd:AZ}{ps names:List Str}{c:Str}(h1:Aw K AR c=some (some (.ref C)))(h2:mg c=some (.ref C))(h3:excI K C fI=true)(h4:FnOk P wd K mg base CX0 k fI fd ps (spI C names))(h5:Binds K fd ps [])(h6:names.length<=900)(h7:ps.length=names.length+1)(h8:An K (.ref C)=true):XC P wd K mg base k c names:=⟨⟨C,fI,fd,ps,h1,h2,h3,h4,h5,h6,h7,h8⟩⟩
end
section
variable {g:DS}{Γ:En}{n:Nat}{F:DF}{fa:DA}{c nn:Str}{names cs:List Str}{i:Option Nat}{j:Nat}{fs:DS}{gk:List (Str×Str)}{f:DE}
@[simp] theorem zRg:dN g Γ=bnd (g Γ) (f:=⟨noX⟩):=(rfl)
@[simp] theorem zQ4{Γ:En}:noX (.nx Γ)=some (.nx Γ):=(rfl)
@[simp] theorem zRf{Γ:En}{v:List T}:noX (.rt (.v (.t v)) Γ)=some (.rt (.v (.t v)) Γ):=(rfl)
theorem zHY:dRaiseX c names fa Γ=bnd (fa Γ) (f:=⟨fun p=>(atomsS p.1).bind fun vs=>if vs.length=names.length then some (.rt (.v (.x c (names.zip vs).reverse)) p.2) else none⟩):=(rfl)
theorem zCW:dDropX n F fa Γ=bnd (fa Γ) (f:=⟨fun p=>bnd (argsG none p.2 0 p.1) (f:=⟨fun gs=>if gs.length=n then (F gs).bind fun q=>match isXg q.1 with
 | some z=>some (.rt (.v (.x z.1 z.2)) p.2)
 | none=>some (.nx p.2) else none⟩)⟩):=(rfl)
end
structure XC0(K:Fg)(mg:Str->Option AB)(c:Str):Prop where
 ex:∃ C:Addr,Aw K AR c=some (some (.ref C))/\mg c=some (.ref C)/\EB K C veB "ValueError.__new__"=true/\An K (.ref C)=true
end D
namespace D
open PySem L2
end D
namespace D
open PySem L2
abbrev DJ:=Str->En->Option (Str×En)
end D
namespace D
open PySem L2
end D
namespace L2
open PySem PySem.Spec PyProof.Rows
section
variable {P:AY}{w:Af}{K:AH}{mg:Str->Option AB}{base:Heap}{N:List Str}{qual:Str}{scope:B6}{f:Addr}{cd:AB}{A:Ao}{outer:List Env}{s₀:AD}{H₀:Hp}{E:XK}
noncomputable def tCallX (sp:Sp) (E:XK) (t:TA):TE:=fun σ H Q=>t σ H fun vs H1=>sp vs H1 Q E
theorem zKw{x:Str}{p pos:Pos}{e:Expr}{es:List Expr}{t:TA}{f':Addr}{fd:AZ}{ps:List Str}{sp:Sp}{k:Nat}(F:FnOk P w K mg base (CXR P w) k f' fd ps sp)(hr:Room k (cxOf (CXR P w) P w K mg base N qual scope f cd A outer s₀ H₀ E).A)
  (hg:Gl (cxOf (CXR P w) P w K mg base N qual scope f cd A outer s₀ H₀ E) x) (hm:mg x=some (.ref f')) (hk:An K (.ref f')=true) (hb:Binds K fd ps [])
  (ha:∀ E',PA ((cxOf (CXR P w) P w K mg base N qual scope f cd A outer s₀ H₀ E).on E') (e::es) t) (hdb:(x == ("__debug__":Str))=false)
  (he:AI (e::es) (cxOf (CXR P w) P w K mg base N qual scope f cd A outer s₀ H₀ E).env=(false,eval e (cxOf (CXR P w) P w K mg base N qual scope f cd A outer s₀ H₀ E).env)::AI es (cxOf (CXR P w) P w K mg base N qual scope f cd A outer s₀ H₀ E).env) (hpl:(Bd pos (AI es (cxOf (CXR P w) P w K mg base N qual scope f cd A outer s₀ H₀ E).env)).any (·.1)=false) :
  PE (cxOf (CXR P w) P w K mg base N qual scope f cd A outer s₀ H₀ E) (.Call (.Name x p) (e::es) [] pos) (tCallX sp E t):=by
 intro pins s σ H Q I h
 refine BF (zD8 (W:=E) (Q:=Q) F hr hg hm hk hb ha hdb he hpl I h) (fun v s1 z=>z) fun e' s1 z=>?_
 obtain⟨H1,s0,I1,c⟩:=z
 exact zDC I1 c
end
end L2
namespace D
open PySem L2
abbrev Xv:=(Str×List (Str×V))×En
abbrev DEX:=En->Option (Except Xv (S×En))
abbrev DAX:=En->Option (Except Xv (List S×En))
noncomputable def OkR (K:Fg) (C:Fr) (w:W) (E:XK) (σ:St) (H:Hp) (Q:VK):Except Xv (S×En)->Prop
 | .ok p=>∀ v H',Rep K C w p.2 σ H'->Evo w.L H H'->SOk K C w σ H' v p.1->Nw H v p.1->Q v H'
 | .error z=>∀ H',Rep K C w z.2 σ H'->XiE K E z.1.1 z.1.2 H'
noncomputable def OkRs (K:Fg) (C:Fr) (w:W) (E:XK) (σ:St) (H:Hp) (Q:List V->Hp->Prop):Except Xv (List S×En)->Prop
 | .ok p=>∀ vs H',Rep K C w p.2 σ H'->Evo w.L H H'->SOks K C w σ H' vs p.1->Nws H vs p.1->Q vs H'
 | .error z=>∀ H',Rep K C w z.2 σ H'->XiE K E z.1.1 z.1.2 H'
def SimEX (K:Fg) (E:XK) (te:TE) (f:DEX):Prop:=∀ (C:Fr) (w:W) (Γ:En) (σ:St) (H:Hp) (r:Except Xv (S×En)) (Q:VK),Rep K C w Γ σ H->f Γ=some r->OkR K C w E σ H Q r->te σ H Q
def SimAX (K:Fg) (E:XK) (ta:TA) (f:DAX):Prop:=∀ (C:Fr) (w:W) (Γ:En) (σ:St) (H:Hp) (r:Except Xv (List S×En)) (Q:List V->Hp->Prop),Rep K C w Γ σ H->f Γ=some r->OkRs K C w E σ H Q r->ta σ H Q
section
variable {K:Fg}{E:XK}{n:Nat}{F:DF}
noncomputable def dCallX (n:Nat) (F:DF) (fa:DA):DEX:=fun Γ=>(fa Γ).bind fun p=>(argsG none p.2 0 p.1).bind fun gs=>if gs.length=n then (F gs).bind fun q=>match q.1 with
 | .v (.x c fs)=>some (.error ((c,fs),p.2))
 | .v t=>some (.ok (.v t,p.2))
 | _=>none else none
theorem zDx{t:TA}{fa:DA}(ha:SimA K t fa):SimEX K E (tCallX (spX K n F) E t) (dCallX n F fa):=by
 intro C w Γ σ H o Q R e k
 obtain⟨⟨ss,Γ1⟩,e1,e⟩:=bind_some e
 obtain⟨gs,e2,e⟩:=bind_some e
 dsimp only at e e2
 split at e
 rotate_left
 ·cases e
 rename_i hn
 obtain⟨⟨r,ys⟩,e3,e⟩:=bind_some e
 refine ha C w Γ σ H ss Γ1 _ R e1 fun vs H1 R1 ev1 o1 _=>?_
 have Rc:=zDS R1 o1 e2
 refine⟨by rw[o1.len,← zBQ e2]; exact hn,⟨[],fun q=>∃ o,H1 q=some o⟩,gs,r,ys,rfl,e3,Rc,fun z hz H' ext=>?_,fun hz v H' ext hr=>?_⟩
 ·dsimp only at e
  have:=zG3 hz
  subst this
  cases e
  exact k H' (R1.evo0 ext)
 ·dsimp only at e
  split at e
  ·cases hz
  ·cases e
   exact k v H' (R1.evo0 ext) (ev1.trans fun b o eb _=>ext b o eb) (show Im K H' v _ from hr) trivial
  ·cases e
noncomputable def dConsX (f:DEX) (g:DAX):DAX:=fun Γ=>(f Γ).bind fun r=>match r with
 | .error z=>some (.error z)
 | .ok p=>(g p.2).map fun r=>match r with
  | .error z=>.error z
  | .ok q=>.ok (p.1::q.1,q.2)
theorem zHL{ta:TE}{tr:TA}{fa:DEX}{fr:DAX}(ha:SimEX K E ta fa)(hr:SimAX K E tr fr):SimAX K E (tCons ta tr) (dConsX fa fr):=by
 intro C w Γ σ H r Q R e k
 obtain⟨r1,e1,e⟩:=bind_some e
 refine ha C w Γ σ H r1 _ R e1 ?_
 cases r1 with
 | error z=>cases e; exact k
 | ok p =>
  obtain⟨r2,e2,e⟩:=zAE e
  intro v1 H1 R1 ev1 o1 n1
  refine hr C w p.2 σ H1 r2 _ R1 e2 ?_
  cases r2 with
  | error z=>cases e; exact k
  | ok q =>
   cases e
   exact fun vs H2 R2 ev2 o2 n2=>k (v1::vs) H2 R2 (ev1.trans ev2) ⟨o1.evo ev2 R1.lst,o2⟩ ⟨n1,n2.back ev1 R1.lst⟩
noncomputable def dSetX (i:Nat) (f:DEX):DS:=fun Γ=>(f Γ).bind fun r=>match r with
 | .error z=>some (.rt (.v (.x z.1.1 z.1.2)) z.2)
 | .ok p=>(setS i p.1 p.2).map .nx
theorem zKK{te:TE}{f:DEX}{i:Nat}(h:SimEX K E te f):SimX K E (tAsg te (gName i)) (dSetX i f):=by
 intro C w Γ σ H D o hp R e k
 obtain⟨r,e1,e⟩:=bind_some e
 refine h C w Γ σ H r _ R e1 ?_
 cases r with
 | error z=>cases e; exact fun H' R'=>k.1 z.1 rfl w σ H' R'
 | ok p =>
  obtain⟨Γ1,e2,e⟩:=zAE e
  subst e
  intro v H1 R1 _ o1 _
  obtain⟨w',R'⟩:=zD1 R1 o1 e2 (zA3 hp (fun z=>by cases z))
  exact k w' _ H1 R'
end
def EXX {ι:Type} (K:Fg) (E:XK) (X:ι->Cx) (e:Expr) (f:DEX):Prop:=∃ t,(∀ j,PE (X j) e t)/\SimEX K E t f
def AXX {ι:Type} (K:Fg) (E:XK) (X:ι->Cx) (es:List Expr) (f:DAX):Prop:=∃ t,(∀ j,PA (X j) es t)/\SimAX K E t f
section
variable {ι:Type}{P:AY}{wd:Af}{base:Heap}{K:Fg}{mg:Str->Option AB}{E:XK}{k k' n:Nat}{X:ι->Cx}{e:Expr}{es:List Expr}{fa:DE}{fx:DEX}{gx:DAX}{pos:Pos}{x:Str}
theorem zPZ(ha:EXX K E X e fx)(hr:AXX K E X es gx)(hs:∀ j,AI (e::es) (X j).env=(false,eval e (X j).env)::AI es (X j).env:=by intro _; rfl):AXX K E X (e::es) (dConsX fx gx) :=
 let ⟨_,p,s⟩:=ha; let ⟨_,q,u⟩:=hr; ⟨_,fun j=>zC7 (p j) (q j) (hs j),zHL s u⟩
theorem zL8(i:Nat){pos':Pos}(h:EXX K E X e fx)(hN:∀ j,(X j).N.Nodup:=by intro _; show (D4 _); decide +kernel)(hx':∀ j,(X j).N[i]?=some x:=by intro _; rfl)(hx:∀ j,Loc (X j).env.scope x:=by intro _; first | exact Ep rfl | exact Dw rfl)
  (hs:∀ j,CO e (some (.Name x pos')) pos.line (X j).env=pure false:=by intro _; rfl) (hf:∀ j,(X j).fn x=true\/(X j).env.scope.names.lookup x=some .local:=by intro _; first | exact .inl rfl | exact .inr rfl):SXX K E X (.Assign [.Name x pos'] e pos) (dSetX i fx) :=
 let ⟨_,p,s⟩:=h; ⟨_,fun j=>zJU (hN j) (hx' j) (hx j) (p j) (hs j) (hf j),zKK s⟩
end
section
variable {P:AY}{wd:Af}{base:Heap}{K:Fg}{mg:Str->Option AB}{E:XK}{k k' n:Nat}{N:List Str}{qual:Str}{sc:B6}{f:Addr}{cdv:AB}{A:Ao}{outer:List Env}{s:AD}{H:Hp}{e:Expr}{es:List Expr}{da:DA}{F:DF}{x:Str}{p pos:Pos}
theorem zJ9(M:Fm K mg k (cxR P wd K mg base N qual sc f cdv A outer s H E))(G:FX P wd K mg base k' x n F)(ha:AX K (onF (cxR P wd K mg base N qual sc f cdv A outer s H E)) (e::es) da)(hk:k'<=k:=by first | exact AL _ | decide | omega)
  (hg:Gl ((cxR P wd K mg base N qual sc f cdv A outer s H E) ()) x:=by rfl) (hdb:(x == ("__debug__":Str))=false:=by decide)
  (he:AI (e::es) ((cxR P wd K mg base N qual sc f cdv A outer s H E) ()).env=(false,eval e ((cxR P wd K mg base N qual sc f cdv A outer s H E) ()).env)::AI es ((cxR P wd K mg base N qual sc f cdv A outer s H E) ()).env:=by rfl) (hpl:(Bd pos (AI es ((cxR P wd K mg base N qual sc f cdv A outer s H E) ()).env)).any (·.1)=false:=by rfl) :
  EXX K E (cxR P wd K mg base N qual sc f cdv A outer s H E) (.Call (.Name x p) (e::es) [] pos) (dCallX n F da):=by
 obtain⟨t,pa,sa⟩:=ha
 obtain⟨f',fd,ps,h1,h2,h3,h4⟩:=G.ex
 exact⟨_,fun j=>zKw h1 ((M.room ()).mono hk) hg h2 h3 h4 (fun E'=>pa ((),E')) hdb he hpl,zDx sa⟩
end
section
variable {Γ:En}{f:DE}{fx:DEX}{gx:DAX}{n i:Nat}{F:DF}{fa:DA}
@[simp] theorem zBR:dCallX n F fa Γ=(fa Γ).bind fun p=>(argsG none p.2 0 p.1).bind fun gs=>if gs.length=n then (F gs).bind fun q=>match q.1 with
 | .v (.x c fs)=>some (.error ((c,fs),p.2))
 | .v t=>some (.ok (.v t,p.2))
 | _=>none else none:=(rfl)
@[simp] theorem zPc:dSetX i fx Γ=(fx Γ).bind fun r=>match r with
 | .error z=>some (.rt (.v (.x z.1.1 z.1.2)) z.2)
 | .ok p=>(setS i p.1 p.2).map .nx:=(rfl)
end
end D
namespace L2
open PySem PySem.Spec PyProof.Rows
def PEX (X:Cx) (E:XK) (e:Expr) (te:TE):Prop:=∀ (pins:List (Addr×Obj)) (s:AD) (σ:St) (H:Hp) (Q:VK),Inv X pins σ H s->te σ H Q ->
 AM (model X.prog X.w) X.A (eval e X.env) (EP X pins σ Q) (fun e s'=>∃ H1 s1,Inv X pins σ H1 s1/\CXR X.prog X.w X.stack H1 s1 E e s') s
section
variable {X:Cx}{E:XK}{e:Expr}{es:List Expr}{te:TE}{t:TA}{pos:Pos}
noncomputable abbrev xeP (X:Cx) (E:XK) (pins:List (Addr×Obj)) (σ:St):AB->AD->Prop:=fun e s'=>∃ H1 s1,Inv X pins σ H1 s1/\CXR X.prog X.w X.stack H1 s1 E e s'
end
section
variable {X:Cx}{e:Expr}{te:XK->TE}{ts:TS}{j i:Nat}{n y z:Str}{Dc:Addr}{np hpos epos tpos zpos:Pos}{b₀:Stmt}{suite:List Stmt}
noncomputable def tTryF (K:AH) (Dc:Addr) (j i:Nat) (te:XK->TE) (ts:TS):TS:=fun D σ H=>te (wishX K Dc j ts D σ) σ H (fun v H2=>D.nx (σ.set i (some v)) H2)
end
end L2
namespace D
open PySem L2
noncomputable def compDX (tg:En->T->Option En) (dc:DT) (de:DEX):List T->En->Option (Except Xv (List T×En))
 | [],Γ=>some (.ok ([],Γ))
 | t::r,Γ=>(tg Γ t).bind fun Γ1=>(dc Γ1).bind fun p=>if p.1=true then (de p.2).bind fun a=>match a with
   | .error z=>some (.error z)
   | .ok q=>q.1.tree.bind fun t'=>(compDX tg dc de r q.2).map fun z=>match z with
    | .error z=>.error z
    | .ok z=>.ok (t'::z.1,z.2)
  else compDX tg dc de r p.2
def EXF {ι:Type} (K:Fg) (X:ι->Cx) (e:Expr) (f:DEX):Prop:=∃ te:XK->TE,(∀ j E,PEX (X j) E e (te E))/\∀ E,SimEX K E (te E) f
section
variable {ι:Type}{P:AY}{wd:Af}{base:Heap}{K:Fg}{mg:Str->Option AB}{E:XK}{k k' n:Nat}{X:ι->Cx}{e:Expr}{es:List Expr}{fa:DE}{fx:DEX}{gx:DAX}{da:DA}{F:DF}{p pos:Pos}{x:Str}
theorem zFa(M:Fm K mg k X)(B:Fb P wd base X)(G:FX P wd K mg base k' x n F)(ha:AX K (onF X) (e::es) da)(hk:k'<=k:=by first | exact AL _ | decide | omega)
  (hg:∀ j,Gl (X j) x:=by intro _; rfl) (hdb:(x == ("__debug__":Str))=false:=by decide) (he:∀ i,AI (e::es) (X i).env=(false,eval e (X i).env)::AI es (X i).env:=by intro _; rfl) (hpl:∀ i,(Bd pos (AI es (X i).env)).any (·.1)=false:=by intro _; rfl) :
  EXF K X (.Call (.Name x p) (e::es) [] pos) (dCallX n F da):=by
 obtain⟨t,pa,sa⟩:=ha
 obtain⟨f,fd,ps,g1,g2,g3,g4⟩:=G.ex
 refine⟨fun E=>tCallX (spX K n F) E t,fun i E pins s σ H Q I h=>?_,fun E=>zDx sa⟩
 exact zD8 (X:=X i) (W:=E) (k:=k') (f:=f) (fd:=fd) (ps:=ps) (sp:=spX K n F) (t:=t) (by rw[B.P,B.w,M.K,M.mg,B.b]; exact g1) ((M.room i).mono hk) (hg i) (by rw[M.mg]; exact g2) (by rw[M.K]; exact g3) (by rw[M.K]; exact g4) (fun E'=>pa (i,E')) hdb (he i) (hpl i) I h
noncomputable def dTryF (i:Nat) (f:DEX) (cs:List Str) (j:Nat) (fs:DS):DS:=fun Γ=>(f Γ).bind fun r=>match r with
 | .error z=>if z.1.1∈cs then (fs (z.2.set j (some (.v (.x z.1.1 z.1.2))))).map (goO j) else none
 | .ok p=>(setS i p.1 p.2).map .nx
theorem zI3{ip:Option Nat}{i:Nat}{cs:List Str}{Dc:Addr}{j:Nat}{te:XK->TE}{ts:TS}{f:DEX}{fs:DS}(ha:∀ E,SimEX K E (te E) f)(hs:SimS K ip ts fs)(hj:ip≠some j)(hi:ip≠some i)
  (hcat:∀ c∈cs,∀ C,Aw K AR c=some (some (.ref C))->catches K C Dc=true):SimS K ip (tTryF K Dc j i te ts) (dTryF i f cs j fs):=by
 intro C w Γ σ H D o hp R e k
 have hnj:∀ q∈C.pins,q.1≠j:=zA3 hp hj
 obtain⟨r,e1,e⟩:=bind_some e
 refine ha _ C w Γ σ H r _ R e1 ?_
 cases r with
 | error z =>
  dsimp only at e
  split at e
  rotate_left
  ·cases e
  rename_i hc
  obtain⟨o',e4,rfl⟩:=zAE e
  intro H' R' Ca d H'' hns ext' hd
  refine⟨Ca,rfl,hcat z.1.1 hc Ca hns,fun a ha'=>?_⟩
  have R2:Rep K C w z.2 σ H'':=R'.evo0 ext'
  have R3:Rep K C w z.2 σ (upd H'' a (xo a Ca d)):=R2.new ha'
  have hx:GOk K w (upd H'' a (xo a Ca d)) (.ref a) (.v (.x z.1.1 z.1.2)):=Im.exc ⟨Ca,d,hns,zAf,hd.imp id fun ⟨dx,q1,q2⟩=>⟨dx,q1,by rw[zAJ (fun y=>by rw[y,ha']at q2; cases q2)]; exact q2⟩⟩
  exact hs C w _ _ _ (endsJ j D) o' hp (R3.setv rfl hx hnj) e4 (zNr hnj k)
 | ok p =>
  obtain⟨Γ2,e4,rfl⟩:=zAE e
  intro v H1 R1 _ o1 _
  obtain⟨w',R'⟩:=zD1 R1 o1 e4 (zA3 hp hi)
  exact k w' _ H1 R'
end
section
variable {Γ:En}{fx:DEX}{i j:Nat}{cs:List Str}{fs:DS}{ix:List (Option Nat)}{di:DI}{tg:En->T->Option En}{dc:DT}{t:T}{r:List T}
theorem zAs:dTryF i fx cs j fs Γ=(fx Γ).bind fun r=>match r with
 | .error z=>if z.1.1∈cs then (fs (z.2.set j (some (.v (.x z.1.1 z.1.2))))).map (goO j) else none
 | .ok p=>(setS i p.1 p.2).map .nx:=(rfl)
end
end D
namespace L2
open PySem PySem.Spec PyProof.Rows
structure RoomH(k:Nat)(A:Ao):Prop where
 dp:A.depth+3 * k+5 < HB
 un:A.units+16 * k+200 < Ks
 gd:A.guards=some []
theorem RoomH.mono{j k:Nat}{A:Ao}(r:RoomH k A)(h:j<=k):RoomH j A:=⟨by have:=r.dp; omega,by have:=r.un; omega,r.gd⟩
structure FnOkH(P:AY)(w:Af)(K:AH)(mg:Str->Option AB)(base:Heap)(k:Nat)(f:Addr)(fd:AZ)(ps:List Str)(sp:Sp):Prop where
 len:∀ vs H Q E,sp vs H Q E->vs.length=ps.length
 run:∀ (A:Ao) (outer:List Env) (s:AD) (H:Hp) (args:Args) (us:List AB) (vs:List V) (Q:VK) (E:XK),RoomH k A->Env0 P w K mg base A outer s H->GL s fd args (ps.zip us)->Vals vs us->sp vs H Q E ->
  DK (model P w) A (.call (.ref f) args) (CR CX0 outer P w H s Q E) s
noncomputable abbrev cxH (CX:CXT) (P:AY) (w:Af) (K:AH) (mg:Str->Option AB) (base:Heap) (N:List Str) (qual:Str) (scope:B6) (f:Addr) (cd:AB) (A:Ao) (outer:List Env) (s:AD) (H:Hp) (E:XK):Cx:={ cxOf CX P w K mg base N qual scope f cd A outer s H E with calm:=false }
theorem zHa{CX:CXT}{P:AY}{w:Af}{K:AH}{mg:Str->Option AB}{base:Heap}{N ps:List Str}{qual:Str}{scope:B6}{f:Addr}{cd:AB}{A:Ao}{outer:List Env}{s s1:AD}{H:Hp}{E:XK}{us:List AB}{vs:List V}
  (S:FnScope N ps scope) (e0:Env0 P w K mg base A outer s H) (hl:vs.length=ps.length) (r:Vals vs us)
  (x:InCallC s s.heap.objs.size (HD (E5 qual scope s.heap.objs.size f cd).kindOf (ps.zip us) fun _=>none) (BJ (s.heap.objs.size+1) scope.names []) (HE (E5 qual scope s.heap.objs.size f cd).kindOf (ps.zip us) fun _=>none) s1) :
  Inv (cxH CX P w K mg base N qual scope f cd A outer s H E) [] (start N vs) H s1:=by
 have hpl:ps.length<=N.length:=by have:=congrArg GA S.pre; rw[CT]at this; omega
 obtain⟨h1,tk,rfl,hk⟩:=x.done
 have noA:∀ b:Addr,b∉(cxH CX P w K mg base N qual scope f cd A outer s H E).ex:=fun b z=>absurd (show b∈([]:List Addr) from z) (by simp)
 refine⟨⟨e0.mod,S.kind,rfl,rfl,AL _,fun y z c h1 h2=>?_,fun y hy=>?_,fun y c _ h=>?_,fun z=>IW z,G0 e0.frames,.inr ⟨rfl,rfl⟩,fun b z=>absurd z (noA b),e0.bs,e0.bsz,fun b _ _=>noA b,fun b z=>absurd z (noA b),e0.funs,e0.frf⟩,
  rfl,e0.bare,Un.kept hk,⟨_,x.toInCall.ns,fun i y v h1 h2 h3=>?_⟩,fun y c h=>⟨_,x.cell y c h⟩,e0.hok.fresh (AL _),fun y c h=>?_,fun p hp=>absurd (show p∈([]:List (Addr×Obj)) from hp) (by simp),e0.hok.kept hk,?_⟩
 ·exact Lc x.apart (A6 h1) (A6 h2)
 ·have hy:scope.names.lookup y=some .cell\/scope.names.lookup y=some .free:=hy
  rcases hy with hy | hy
  ·exact zB9 hy
  ·exact absurd rfl (S.nofree _ (A6 hy))
 ·exact CN (x.above y c (A6 h))
 ·have hi:i < vs.length:=by
   unfold start at h2
   by_cases hi:i < vs.length
   ·exact hi
   ·rw[CC (by simpa using hi)]at h2
    rw[EO]at h2
    split at h2 <;> cases h2
  have ha:vs[i]?=some v:=by
   unfold start at h2
   rw[BG (by simpa using hi),Ae]at h2
   cases e:vs[i]? with
   | none=>rw[e]at h2; cases h2
   | some a=>rw[e]at h2; cases h2; rfl
  obtain⟨u,hu,rv⟩:=r.get ha
  have hp:ps[i]?=some y:=by
   rw[← S.pre,Gm (by omega)]; exact h1
  have ndP:ps.Nodup:=by rw[← S.pre]; exact S.nd.sublist (IB _ _)
  refine⟨u,rv,?_⟩
  rcases S.par y (Dj hp) with k | k
  ·exact .inl ⟨k,zCj ndP hp hu k⟩
  ·obtain⟨c,e⟩:=zB9 (n:=s.heap.objs.size+1) k
   refine .inr ⟨.inl k,c,e,?_⟩
   have q:=x.cell y c e
   rw[zCd ndP hp hu (by show scope.names.lookup y≠_; rw[k]; decide)]at q
   exact q
 ·exact e0.hok.fresh (CN (x.above y c (A6 h)))
 ·unfold start
  show _=N.length
  rw[Aq,A7,HF]
  omega
theorem zNR{P:AY}{w:Af}{K:AH}{mg:Str->Option AB}{base:Heap}{k:Nat}{f:Addr}{name qual:Str}{params:Jr}{body:List Stmt}{scope:B6}{dV kV doc pm cdv ct oc:AB}{an od:Option Addr}
  {osl:Array (Option AB)} {N ps:List Str} {sp:Sp} (lk:K.lookup f=some ⟨oc,od,.func (Br name qual params body scope dV kV doc pm an cdv ct),osl⟩) (hcd:Bi K cdv qual=true) (S:FnScope N ps scope)
  (len:∀ vs H Q E,sp vs H Q E->vs.length=ps.length)
  (hbody:∀ (A:Ao) (outer:List Env) (s:AD) (H:Hp) (vs:List V) (Q:VK) (E:XK),sp vs H Q E ->
   ∃ t,PSs (cxH CX0 P w K mg base N qual scope f cdv A outer s H E) body t/\t { nx:=fun _ H'=>Q .non H',rt:=Q } (start N vs) H) :
  FnOkH P w K mg base (k+1) f (Br name qual params body scope dV kV doc pm an cdv ct) ps sp:=by
 refine⟨len,fun A outer s H args us vs Q E hr e0 hb r hsp=>?_⟩
 have hl:=len _ _ _ _ hsp
 have KX:K.In s.heap:=e0.mod.kin.keeps fun b o e=>(e0.bs b o e).1
 have lim:s.heap.NoLimit:=e0.mod.nolimit.keeps fun b o e=>(e0.bs b o e).1
 have hkind:∀ y∈ps.zip us,scope.names.lookup y.1=some .local\/(scope.names.lookup y.1=some .cell/\((BJ (s.heap.objs.size+1) scope.names []).lookup y.1).isSome=true):=fun ⟨n,v⟩ hy=>by
  rcases S.par n (Ee hy).1 with q | q
  ·exact .inl q
  ·exact .inr ⟨q,CW _ _ _ (.inl q)⟩
 refine IP (by have:=hr.dp; omega) (KX _ _ lk) rfl S.co S.gen rfl (HG KX hcd) (hb _ _ _ _ ?_)
 refine HH S.kind hkind fun env he s1 x=>?_
 subst he
 refine⟨lim.keeps x.toInCall.keep,Ld ?_⟩
 obtain⟨t,ht,hq⟩:=hbody A outer s H vs Q E hsp
 have I:Inv (cxH CX0 P w K mg base N qual scope f cdv A outer s H E) [] (start N vs) H s1:=zHa S e0 hl r x
 refine BF (ht [] s1 (start N vs) H _ I hq) (fun fl s' hs=>?_) fun e s' hs=>hs
 have fin:∀ {σ':St} {H':Hp} {v:V} {u:AB},Inv (cxH CX0 P w K mg base N qual scope f cdv A outer s H E) [] σ' H' s'->RelV v u->Q v H'->CE outer P w H s Q u s' :=
  fun {σ' H' v u} J rv q=>⟨v,H',J.os,J.bare,J.base,J.hok,rv,q⟩
 cases fl with
 | ret u =>
  obtain⟨v,σ',H',J,rv,q⟩:=hs
  exact fin J rv q
 | next =>
  obtain⟨σ',H',J,q⟩:=hs
  exact fin (v:=V.non) (u:=A0) J rfl q
 | brk =>
  obtain⟨_,_,_,q⟩:=hs
  exact Ay q
 | cont =>
  obtain⟨_,_,_,q⟩:=hs
  exact Ay q
section
variable {X:Cx}{k:Nat}{f:Addr}{fd:AZ}{ps:List Str}{sp:Sp}{E:XK}{x:Str}{p pos:Pos}{e:Expr}{es:List Expr}{t:TA}
theorem zK5(F:FnOkH X.prog X.w X.K X.mg X.base k f fd ps sp)(hr:RoomH k X.A)(hg:Gl X x)(hm:X.mg x=some (.ref f))(hk:An X.K (.ref f)=true)(hb:Binds X.K fd ps [])(hx:Passes CX0 X E)
  (ha:PA X (e::es) t) (hdb:(x == ("__debug__":Str))=false:=by decide) (he:AI (e::es) X.env=(false,eval e X.env)::AI es X.env:=by rfl) (hpl:(Bd pos (AI es X.env)).any (·.1)=false:=by rfl) :
  PE X (.Call (.Name x p) (e::es) [] pos) (tCall sp [] E t):=by
 intro pins s σ H Q I h
 refine Bz (zBL I hg hm ?_ hdb)
 refine CV (h₀:=X.base) I.ok.mod.kin hk (thn (ha pos pins s σ H _ I h) fun us s1 ⟨vs,H1,I1,r,q⟩=>⟨I1.kIn,?_⟩) he hpl
 have r2:Vals (vs++[]) (us++[]):=r.append .nil
 have hl:(us++([]:List AB)).length=ps.length:=by rw[← r2.length]; exact F.len _ _ _ _ q
 refine E4 (C7 (F.run X.A X.stack s1 H1 ⟨us,[]⟩ (us++[]) (vs++[]) Q E hr I1.env0 (hb s1 us I1.kIn hl) r2 q) fun r s' hq=>?_)
 cases r with
 | error e=>exact hx pins σ H1 s1 e s' I1 hq
 | ok fl =>
  cases fl with
  | ret u=>exact I1.after hq
  | next=>exact Ay hq
  | brk=>exact Ay hq
  | cont=>exact Ay hq
end
end L2
namespace D
open PySem L2
structure Fh{ι:Type}(K:Fg)(mg:Str->Option AB)(X:ι->Cx):Prop where
 K:∀ j,(X j).K=K
 mg:∀ j,(X j).mg=mg
structure Fi{ι:Type}(K:Fg)(mg:Str->Option AB)(k:Nat)(X:ι->Cx):Prop extends Fh K mg X where
 room:∀ j,RoomH k (X j).A
structure FH(P:AY)(wd:Af)(K:Fg)(mg:Str->Option AB)(base:Heap)(k:Nat)(x:Str)(ip:Option Nat)(n:Nat)(F:DF):Prop where
 ex:∃ (f:Addr) (fd:AZ) (ps:List Str),FnOkH P wd K mg base k f fd ps (spD K ip n F)/\mg x=some (.ref f)/\An K (.ref f)=true/\Binds K fd ps []
 len:∀ gs r,F gs=some r->gs.length=n
section
variable {ι:Type}{P:AY}{wd:Af}{base:Heap}{K:Fg}{mg:Str->Option AB}{k k' n:Nat}{X:ι->Cx}{ip:Option Nat}{a e:Expr}{es:List Expr}{fa:DE}{da:DA}{F:DF}{p pos:Pos}{x:Str}
theorem Fm.inn(M:Fm K mg k X):Fi K mg k (innF X):=⟨⟨fun q=>M.K q.1,fun q=>M.mg q.1⟩,fun q=>⟨(M.room q.1).dp,(M.room q.1).un,(M.room q.1).gd⟩⟩
theorem Fb.inn(B:Fb P wd base X):Fb P wd base (innF X):=⟨fun q=>B.P q.1,fun q=>B.w q.1,fun q=>B.b q.1⟩
theorem zF8(M:Fi K mg k X)(B:Fb P wd base X)(D0:FH P wd K mg base k' x ip n F)(ha:AX K X (e::es) da)(hk:k'<=k:=by first | exact AL _ | decide | omega)(hg:∀ j,Gl (X j) x:=by intro _; rfl)(hdb:(x == ("__debug__":Str))=false:=by decide)
  (he:∀ j,AI (e::es) (X j).env=(false,eval e (X j).env)::AI es (X j).env:=by intro _; rfl) (hpl:∀ j,(Bd pos (AI es (X j).env)).any (·.1)=false:=by intro _; rfl) :
  EX K X (.Call (.Name x p) (e::es) [] pos) (dCall ip F [] da):=by
 obtain⟨f,fd,ps,h1,h2,h3,h4⟩:=D0.ex
 obtain⟨t,q,u⟩:=ha
 refine⟨tCall (spD K ip n F) [] E0 t,fun j=>?_,zDF D0.len u⟩
 have hF:FnOkH (X j).prog (X j).w (X j).K (X j).mg (X j).base k' f fd ps (spD K ip n F):=by rw[B.P,B.w,M.K,M.mg,B.b]; exact h1
 exact zK5 hF ((M.room j).mono hk) (hg j) (by rw[M.mg]; exact h2) (by rw[M.K]; exact h3) (by rw[M.K]; exact h4) pass0 (q j) hdb (he j) (hpl j)
theorem zHS(M:Fh K mg X)(ha:EX K X a fa)(he:∀ j whole,G9 a (X j).env whole=(do let v ← whole; H9 a.pos; holding [v] (truthy v)):=by intro _ _; rfl):TX K X a (dTru fa) :=
 let ⟨te,p,s⟩:=ha; ⟨(fun σ H Q=>te σ H fun x H'=>∃ k,TruV K x H' k/\Q k H'),fun j=>by have:=zFT (p j) (he j); rw[M.K j]at this; exact this,zGh s⟩
theorem zCR{id:String}{h:En->List S->Option S}(M:Fh K mg X)(hc:CalR K X (.builtin id) h)(hm:mg x=none)(hv:B0 x=some (.builtin id))(ha:AX K X (e::es) da)(hg:∀ j,Gl (X j) x:=by intro _; rfl)(hn:x≠"__name__":=by decide)(hdb:(x == ("__debug__":Str))=false:=by decide)
  (he:∀ j,AI (e::es) (X j).env=(false,eval e (X j).env)::AI es (X j).env:=by intro _; rfl) (hpl:∀ j,(Bd pos (AI es (X j).env)).any (·.1)=false:=by intro _; rfl):EX K X (.Call (.Name x p) (e::es) [] pos) (dCB h da) :=
 let ⟨_,p,s⟩:=hc.ex; let ⟨_,q,u⟩:=ha; ⟨_,fun j=>zF6 (p j) (hg j) (by rw[M.mg]; exact hm) hv (q j) hn hdb (he j) (hpl j),zFk s u⟩
theorem zNL{N:String}(M:Fh K mg X)(hm:mg x=none)(hv:B0 x=some (.type N))(hg:∀ j,Gl (X j) x:=by intro _; rfl)(hn:x≠"__name__":=by decide)(hd:(x == ("__debug__":Str))=false:=by decide):EX K X (.Name x pos) (dC (.ty N)) :=
 ⟨_,fun j=>zLG (hg j) (by rw[M.mg]; exact hm) hv hn hd,zCy⟩
theorem zBe(M:Fh K mg X)(h:NK K mg x)(hg:∀ j,Gl (X j) x:=by intro _; rfl)(hd:(x == ("__debug__":Str))=false:=by decide):EX K X (.Name x pos) (dFn x):=by
 obtain⟨f,h1,h2⟩:=h
 exact⟨_,fun j=>zEI (v:=.ref f) (hg j) (by rw[M.mg]; exact h2) rfl hd,zIv h1⟩
theorem zBz{cs:List Str}{mro:List (Str×List Str)}(M:Fh K mg X)(hx:XKC K cs mro=true):CalR K X (.builtin "isinstance") (isXS cs mro):=⟨_,fun j=>by have:=zK4 (X:=X j); rw[M.K j]at this; exact this,zJa hx⟩
theorem zKg{gk:List (Str×Str)}{n:Str}{o:Expr}{fo:DE}(M:Fh K mg X)(hk:XGC K gk=true)(ho:EX K X o fo)(hb:∀ j,CU o n (X j).env (eval o (X j).env)=eval o (X j).env:=by intro _; rfl):EX K X (.Attribute o n pos) (dGetX gk n fo) :=
 let ⟨_,p,s⟩:=ho; ⟨_,fun j=>by have:=zMw (n:=n) (pos:=pos) (p j) (hb j); rw[M.K j]at this; exact this,zKT hk s⟩
end
section
variable {P:AY}{wd:Af}{base:Heap}{K:Fg}{mg:Str->Option AB}{k:Nat}
noncomputable abbrev cxh1 (P:AY) (wd:Af) (K:Fg) (mg:Str->Option AB) (base:Heap) (N:List Str) (qual:Str) (sc:B6) (f:Addr) (cdv:AB) (A:Ao) (outer:List Env) (s:AD) (H:Hp) (E:XK):Unit->Cx:=fun _=>(cxH CX0 P wd K mg base N qual sc f cdv A outer s H E).nox
theorem zOo{x:Str}{st:Stmt}{f:Addr}{fd:AZ}{N ps:List Str}{ip:Option Nat}{g:DS}(F:Fun K x x st f fd)(S:FnScope N ps (defScope st))(hm:mg x=some (.ref f))(hb:Binds K fd ps [])
  (body:∀ (cdv:AB) (A:Ao) (outer:List Env) (s:AD) (H:Hp) (E:XK),Fh K mg (cxh1 P wd K mg base N x (defScope st) f cdv A outer s H E)->BX K (cxh1 P wd K mg base N x (defScope st) f cdv A outer s H E) ip (defBody st) g) :
  FH P wd K mg base (k+1) x ip ps.length (fnD ip ps.length N.length g):=by
 refine⟨⟨f,fd,ps,?_,hm,F.kp,hb⟩,zB3⟩
 obtain⟨oc,od,kV,doc,pm,an,cdv,ct,osl,rfl,lk,hcd⟩:=F.ex
 refine zNR lk hcd S (fun vs H Q E h=>h.1) fun A outer s H vs Q E h=>?_
 obtain⟨t,p,u⟩:=body cdv A outer s H E ⟨fun _=>rfl,fun _=>rfl⟩
 exact⟨t,(p ()).nox,zC2 u h⟩
end
end D
namespace L2
open PySem PySem.Spec PyProof.Rows
section
variable {X:Cx}{k:Nat}{f Dc:Addr}{fd:AZ}{ps:List Str}{sp:Sp}{x y n z:Str}{p pos np hpos tpos zp1 zp2 ep1 ep2 ipos:Pos}{e c e1 e2:Expr}{es:List Expr}{t:TA}{ts:TS}{b₀:Stmt}{suite:List Stmt}{i j:Nat}{ds:List AB}{dvs:List V}{tc:TT}{te1 te2:XK->TE}
theorem zKp{pins:List (Addr×Obj)}{s:AD}{σ:St}{H:Hp}{Q:VK}{W:XK}(F:FnOk X.prog X.w X.K X.mg X.base (CXR X.prog X.w) k f fd ps sp)(hr:Room k X.A)(hg:Gl X x)(hm:X.mg x=some (.ref f))(hk:An X.K (.ref f)=true)(hb:Binds X.K fd ps ds)(hd:Vals dvs ds)
  (ha:∀ E',PA (X.on E') (e::es) t) (hdb:(x == ("__debug__":Str))=false) (he:AI (e::es) X.env=(false,eval e X.env)::AI es X.env) (hpl:(Bd pos (AI es X.env)).any (·.1)=false)
  (I:Inv X pins σ H s) (h:t σ H fun vs H1=>sp (vs++dvs) H1 Q W) :
  AM (model X.prog X.w) X.A (eval (.Call (.Name x p) (e::es) [] pos) X.env) (EP X pins σ Q) (xeP X W pins σ) s:=by
 refine Bz (zBL I hg hm ?_ hdb)
 refine CV (h₀:=X.base) I.ok.mod.kin hk (thn (ha (xeP X W pins σ) pos pins s σ H _ I.on h) fun us s1 z=>?_) he hpl
 obtain⟨vs,H1,I1',r,q⟩:=z
 have I1:Inv X pins σ H1 s1:=I1'.off
 refine⟨I1.kIn,?_⟩
 have r2:Vals (vs++dvs) (us++ds):=r.append hd
 have hl:(us++ds).length=ps.length:=by rw[← r2.length]; exact F.len _ _ _ _ q
 refine E4 (C7 (F.run X.A X.stack s1 H1 ⟨us,[]⟩ (us++ds) (vs++dvs) Q W hr I1.env0 (hb s1 us I1.kIn hl) r2 q) fun r s' hq=>?_)
 cases r with
 | error e=>exact⟨H1,s1,I1,hq⟩
 | ok fl =>
  cases fl with
  | ret u=>exact I1.after hq
  | next=>exact Ay hq
  | brk=>exact Ay hq
  | cont=>exact Ay hq
noncomputable def tCallXd (sp:Sp) (dvs:List V) (E:XK) (t:TA):TE:=fun σ H Q=>t σ H fun vs H1=>sp (vs++dvs) H1 Q E
theorem zK0(hc:∀ E',PT (X.on E') c tc)(h1:∀ E,PEX X E e1 (te1 E))(h2:∀ E,PEX X E e2 (te2 E))(hi:X.N[i]?=some z)(hzl:Loc X.env.scope z)(hzf:X.fn z=true\/X.env.scope.names.lookup z=some .local)
  (hst:X.stack=X.env::X.outer) (hex:X.ex=[]) (hfr:X.env.frame=some X.env.locals) (hN:X.N.Nodup) (hj:X.N[j]?=some n) (hk:X.env.scope.names.lookup n=some .local) (hgy:Gl X y) (hmy:X.mg y=some (.ref Dc)) (hyd:(y == ("__debug__":Str))=false)
  (hs:∀ a E',PSs (X.inn a E') (b₀::suite) ts) (hsw1:CO e1 (some (.Name z zp1)) ep1.line X.env=pure false) (hsw2:CO e2 (some (.Name z zp2)) ep2.line X.env=pure false) :
  PS X (.Try [.If c [.Assign [.Name z zp1] e1 ep1] [.Assign [.Name z zp2] e2 ep2] ipos] [.ExceptHandler (some (.Name y np)) (some n) (b₀::suite) hpos] [] [] tpos) (tTryF X.K Dc j i (fun E=>tIf tc (te1 E) (te2 E)) ts):=by
 intro pins s σ H D I h
 have go:∀ {H1:Hp} {s1 s':AD} {e':AB},Inv X pins σ H1 s1->CXR X.prog X.w X.stack H1 s1 (wishX X.K Dc j ts D σ) e' s'->_:=fun I1 c=>zJM (np:=np) (hpos:=hpos) hst hex hfr hN hj hk hgy hmy hyd hs I1 c
 refine wpAny_Try_except ?_
 refine Dn (wpAny_If ?_)
 refine BF (hc (xeP X (wishX X.K Dc j ts D σ) pins σ) pins s σ H _ I.on h) (fun d s1 q=>?_) fun e' s1 q=>?_
 ·obtain⟨H1,I1,q1⟩:=q
  have I1':Inv X pins σ H1 s1:=I1.off
  cases d with
  | true =>
   refine Dn (GK (BF (h1 _ pins s1 σ H1 _ I1' q1) (fun v s2 q=>?_) fun e' s2 q=>?_) hsw1)
   ·obtain⟨v',H2,I2,r2,q2⟩:=q
    exact zAz I2 hN hi hzl r2 (fun s3 I3=>Bu (Bu (Bu ⟨_,H2,I3,q2⟩))) hzf
   ·obtain⟨H2,s0,I2,c2⟩:=q
    exact go I2 c2
  | false =>
   refine Dn (GK (BF (h2 _ pins s1 σ H1 _ I1' q1) (fun v s2 q=>?_) fun e' s2 q=>?_) hsw2)
   ·obtain⟨v',H2,I2,r2,q2⟩:=q
    exact zAz I2 hN hi hzl r2 (fun s3 I3=>Bu (Bu (Bu ⟨_,H2,I3,q2⟩))) hzf
   ·obtain⟨H2,s0,I2,c2⟩:=q
    exact go I2 c2
 ·obtain⟨H1,s0,I1,c1⟩:=q
  exact go I1 c1
end
end L2
namespace D
open PySem L2
noncomputable def dRaise0 (c:Str):DS:=fun Γ=>some (.rt (.v (.x c [])) Γ)
section
variable {K:Fg}{E:XK}{n:Nat}{F:DF}{dvs:List V}
theorem zGE{c:Str}{Ca:Addr}(hc:Aw K AR c=some (some (.ref Ca))):SimX K E (tRaise Ca E) (dRaise0 c):=by
 intro C w Γ σ H D o hp R e k
 cases e
 exact k.1 (c,[]) rfl w σ H R Ca none H hc (fun _ _ h=>h) (.inl ⟨rfl,rfl⟩)
noncomputable def dCallXd (n:Nat) (F:DF) (dvs:List V) (fa:DA):DEX:=fun Γ=>(fa Γ).bind fun p=>(argsG none p.2 0 (p.1++dvs.map fun v=>.v (.a v))).bind fun gs=>if gs.length=n then (F gs).bind fun q=>match q.1 with
 | .v (.x c fs)=>some (.error ((c,fs),p.2))
 | .v t=>some (.ok (.v t,p.2))
 | _=>none else none
theorem zGR{t:TA}{fa:DA}(ha:SimA K t fa):SimEX K E (tCallXd (spX K n F) dvs E t) (dCallXd n F dvs fa):=by
 intro C w Γ σ H o Q R e k
 obtain⟨⟨ss,Γ1⟩,e1,e⟩:=bind_some e
 obtain⟨gs,e2,e⟩:=bind_some e
 dsimp only at e e2
 split at e
 rotate_left
 ·cases e
 rename_i hn
 obtain⟨⟨r,ys⟩,e3,e⟩:=bind_some e
 refine ha C w Γ σ H ss Γ1 _ R e1 fun vs H1 R1 ev1 o1 _=>?_
 have o2:=o1.app dvs
 have Rc:=zDS R1 o2 e2
 refine⟨by rw[o2.len,← zBQ e2]; exact hn,⟨[],fun q=>∃ o,H1 q=some o⟩,gs,r,ys,rfl,e3,Rc,fun z hz H' ext=>?_,fun hz v H' ext hr=>?_⟩
 ·dsimp only at e
  have:=zG3 hz
  subst this
  cases e
  exact k H' (R1.evo0 ext)
 ·dsimp only at e
  split at e
  ·cases hz
  ·cases e
   exact k v H' (R1.evo0 ext) (ev1.trans fun b o eb _=>ext b o eb) (show Im K H' v _ from hr) trivial
  ·cases e
noncomputable def dIfEX (dc:DT) (f g:DEX):DEX:=fun Γ=>(dc Γ).bind fun p=>if p.1=true then f p.2 else g p.2
theorem OkR.later{C:Fr}{w:W}{Γ:En}{σ:St}{H H1:Hp}{Q:VK}{r:Except Xv (S×En)}(k:OkR K C w E σ H Q r)(ev:Evo w.L H H1)(R1:Rep K C w Γ σ H1):OkR K C w E σ H1 Q r:=by
 cases r with
 | error z=>exact k
 | ok p=>exact fun v H2 R2 ev2 o n=>k v H2 R2 (ev.trans ev2) o (n.back ev R1.lst)
theorem zKG{tc:TT}{ta tb:TE}{dc:DT}{f g:DEX}(hc:SimT K tc dc)(ha:SimEX K E ta f)(hb:SimEX K E tb g):SimEX K E (tIf tc ta tb) (dIfEX dc f g):=by
 intro C w Γ σ H r Q R e k
 obtain⟨⟨p,G1⟩,e1,e⟩:=bind_some e
 refine hc C w Γ σ H p G1 _ R e1 fun H1 R1 ev1=>?_
 cases p with
 | true=>exact (if_pos rfl).mpr (ha C w G1 σ H1 r Q R1 (by simpa using e) (k.later ev1 R1))
 | false=>exact (if_neg AU).mpr (hb C w G1 σ H1 r Q R1 (by simpa using e) (k.later ev1 R1))
end
structure FXd(P:AY)(wd:Af)(K:Fg)(mg:Str->Option AB)(base:Heap)(k:Nat)(x:Str)(n:Nat)(F:DF)(dvs:List V):Prop where
 ex:∃ (f:Addr) (fd:AZ) (ps:List Str) (ds:List AB),FnOk P wd K mg base (CXR P wd) k f fd ps (spX K n F)/\mg x=some (.ref f)/\An K (.ref f)=true/\Binds K fd ps ds/\Vals dvs ds
section
variable {ι:Type}{P:AY}{wd:Af}{base:Heap}{K:Fg}{mg:Str->Option AB}{k k' n:Nat}{X:ι->Cx}{e e1 e2 c:Expr}{es:List Expr}{da:DA}{F:DF}{p pos:Pos}{x:Str}{dvs:List V}{fx1 fx2:DEX}{dc:DT}
theorem zEV(M:Fm K mg k X)(B:Fb P wd base X)(G:FXd P wd K mg base k' x n F dvs)(ha:AX K (onF X) (e::es) da)(hk:k'<=k:=by first | exact AL _ | decide | omega)
  (hg:∀ j,Gl (X j) x:=by intro _; rfl) (hdb:(x == ("__debug__":Str))=false:=by decide) (he:∀ i,AI (e::es) (X i).env=(false,eval e (X i).env)::AI es (X i).env:=by intro _; rfl) (hpl:∀ i,(Bd pos (AI es (X i).env)).any (·.1)=false:=by intro _; rfl) :
  EXF K X (.Call (.Name x p) (e::es) [] pos) (dCallXd n F dvs da):=by
 obtain⟨t,pa,sa⟩:=ha
 obtain⟨f,fd,ps,ds,g1,g2,g3,g4,g5⟩:=G.ex
 refine⟨fun E=>tCallXd (spX K n F) dvs E t,fun i E pins s σ H Q I h=>?_,fun E=>zGR sa⟩
 exact zKp (X:=X i) (W:=E) (k:=k') (f:=f) (fd:=fd) (ps:=ps) (sp:=spX K n F) (t:=t) (by rw[B.P,B.w,M.K,M.mg,B.b]; exact g1) ((M.room i).mono hk) (hg i) (by rw[M.mg]; exact g2) (by rw[M.K]; exact g3) (by rw[M.K]; exact g4) g5 (fun E'=>pa (i,E')) hdb (he i) (hpl i) I h
variable {ip:Option Nat}{fs:DS}{cs:List Str}{b₀:Stmt}{suite:List Stmt}{np hpos tpos zp1 zp2 ep1 ep2 ipos:Pos}{y z nm:Str}
theorem zFl(m j:Nat)(M:Fm K mg k X)(hcat:CatX K mg y cs)(hc:TX K (onF X) c dc)(h1:EXF K X e1 fx1)(h2:EXF K X e2 fx2)(hs:BX K (innF X) ip (b₀::suite) fs)
  (hjp:ip≠some j:=by decide) (hmp:ip≠some m:=by decide) (hN:∀ i,(X i).N.Nodup:=by intro _; show (D4 _); decide +kernel) (hj:∀ i,(X i).N[j]?=some nm:=by intro _; rfl) (hkl:∀ i,(X i).env.scope.names.lookup nm=some .local:=by intro _; rfl)
  (hm:∀ i,(X i).N[m]?=some z:=by intro _; rfl) (hzl:∀ i,Loc (X i).env.scope z:=by intro _; first | exact Ep rfl | exact Dw rfl) (hzf:∀ i,(X i).fn z=true\/(X i).env.scope.names.lookup z=some .local:=by intro _; first | exact .inl rfl | exact .inr rfl)
  (hgy:∀ i,Gl (X i) y:=by intro _; rfl) (hst:∀ i,(X i).stack=(X i).env::(X i).outer:=by intro _; rfl) (hex:∀ i,(X i).ex=[]:=by intro _; rfl) (hfr:∀ i,(X i).env.frame=some (X i).env.locals:=by intro _; rfl) (hyd:(y == ("__debug__":Str))=false:=by decide)
  (hsw1:∀ i,CO e1 (some (.Name z zp1)) ep1.line (X i).env=pure false:=by intro _; rfl) (hsw2:∀ i,CO e2 (some (.Name z zp2)) ep2.line (X i).env=pure false:=by intro _; rfl) :
  SX K X ip (.Try [.If c [.Assign [.Name z zp1] e1 ep1] [.Assign [.Name z zp2] e2 ep2] ipos] [.ExceptHandler (some (.Name y np)) (some nm) (b₀::suite) hpos] [] [] tpos) (dTryF m (dIfEX dc fx1 fx2) cs j fs):=by
 obtain⟨tc,pc,sc⟩:=hc
 obtain⟨t1,pa1,sa1⟩:=h1
 obtain⟨t2,pa2,sa2⟩:=h2
 obtain⟨ts,pss,ss⟩:=hs
 obtain⟨Dc,d1,d2⟩:=hcat
 refine⟨tTryF K Dc j m (fun E=>tIf tc (t1 E) (t2 E)) ts,fun i=>?_,zI3 (fun E=>zKG sc (sa1 E) (sa2 E)) ss hjp hmp d2⟩
 have:=zK0 (X:=X i) (Dc:=Dc) (j:=j) (n:=nm) (ts:=ts) (np:=np) (hpos:=hpos) (tpos:=tpos) (ep1:=ep1) (ep2:=ep2) (zp1:=zp1) (zp2:=zp2) (ipos:=ipos) (fun E'=>pc (i,E')) (pa1 i) (pa2 i) (hm i) (hzl i) (hzf i) (hst i) (hex i) (hfr i) (hN i) (hj i) (hkl i) (hgy i) (by rw[M.mg]; exact d1) hyd (fun a E'=>pss (i,a,E')) (hsw1 i) (hsw2 i)
 rw[M.K i]at this
 exact this
end
section
variable {P:AY}{wd:Af}{base:Heap}{K:Fg}{mg:Str->Option AB}{E:XK}{k k' n:Nat}{N:List Str}{qual:Str}{sc:B6}{f:Addr}{cdv:AB}{A:Ao}{outer:List Env}{s:AD}{H:Hp}{x:Str}{np cpos pos:Pos}
theorem zIJ(G:XC0 K mg x)(hg:Gl ((cxR P wd K mg base N qual sc f cdv A outer s H E) ()) x:=by rfl)(hdb:(x == ("__debug__":Str))=false:=by decide) :
  SXX K E (cxR P wd K mg base N qual sc f cdv A outer s H E) (.Raise (some (.Call (.Name x np) [] [] cpos)) none pos) (dRaise0 x):=by
 obtain⟨C,h1,h2,h3,h4⟩:=G.ex
 exact⟨_,fun j=>zKu h3 hg h2 hdb,zGE h1⟩
theorem zJK{x:Str}{st:Stmt}{T f:Addr}{fd:AZ}{N ps:List Str}{g:DS}{dvs:List V}{ds:List AB}(F:FunD K x x st T f fd)(S:FnScope N ps (defScope st))(hm:mg x=some (.ref f))(hb:Binds K fd ps [])(hb2:Binds K fd ps ds)(hv:Vals dvs ds)
  (body:∀ (cdv:AB) (A:Ao) (outer:List Env) (s:AD) (H:Hp) (E:XK),Fm K mg k (cxR P wd K mg base N x (defScope st) f cdv A outer s H E)->Fb P wd base (cxR P wd K mg base N x (defScope st) f cdv A outer s H E)->BXX K E (cxR P wd K mg base N x (defScope st) f cdv A outer s H E) (defBody st) g) :
  FX P wd K mg base (k+1) x ps.length (fnD none ps.length N.length g)/\FXd P wd K mg base (k+1) x ps.length (fnD none ps.length N.length g) dvs:=by
 have ok:FnOk P wd K mg base (CXR P wd) (k+1) f fd ps (spX K ps.length (fnD none ps.length N.length g)):=by
  obtain⟨oc,od,kV,doc,pm,an,cdv,ct,osl,rfl,lk,hcd⟩:=F.ex
  refine zHs lk hcd S (fun vs H Q E h=>h.1) fun A outer s H vs Q E hr h=>?_
  obtain⟨t,p,u⟩:=body cdv A outer s H E ⟨fun _=>rfl,fun _=>rfl,fun _=>rfl,fun _=>hr⟩ ⟨fun _=>rfl,fun _=>rfl,fun _=>rfl⟩
  obtain⟨t,p,u⟩:=body cdv A outer s H E ⟨fun _=>rfl,fun _=>rfl,fun _=>rfl,fun _=>hr⟩ ⟨fun _=>rfl,fun _=>rfl,fun _=>rfl⟩
  exact⟨t,p (),zFF u h⟩
 exact⟨⟨⟨f,fd,ps,ok,hm,F.kp,hb⟩,zB3⟩,⟨⟨f,fd,ps,ds,ok,hm,F.kp,hb2,hv⟩⟩⟩
end
noncomputable def eqAS:En->S->S->Option S:=eqA fun x y=>decide (x=y)
theorem zNU{ι:Type}{K:Fg}{X:ι->Cx}:CmpR K X .Eq eqAS:=⟨_,fun _=>zLS,zEd⟩
section
variable {Γ:En}{n:Nat}{F:DF}{dvs:List V}{fa:DA}{dc:DT}{f g:DEX}{c:Str}{a b:Bool}
@[simp] theorem zOO:dRaise0 c Γ=some (.rt (.v (.x c [])) Γ):=(rfl)
@[simp] theorem zOX:dCallXd n F dvs fa Γ=(fa Γ).bind fun p=>(argsG none p.2 0 (p.1++dvs.map fun v=>.v (.a v))).bind fun gs=>if gs.length=n then (F gs).bind fun q=>match q.1 with
 | .v (.x c fs)=>some (.error ((c,fs),p.2))
 | .v t=>some (.ok (.v t,p.2))
 | _=>none else none:=(rfl)
@[simp] theorem zPX:dIfEX dc f g Γ=(dc Γ).bind fun p=>if p.1=true then f p.2 else g p.2:=(rfl)
@[simp] theorem zP3:eqAS Γ (.v (.a (.bl a))) (.v (.a (.bl b)))=some (.v (.a (.bl (decide (a=b))))):=by
 cases a <;> cases b <;> rfl
end
end D
namespace Lw
open PySem.W (mg_of mg_none_of nsIn fnOf)
open PyProof.Rows (boot_isinstance boot_max boot_min boot_repr boot_sorted boot_sum boot_tuple)
open PySem L2 D
def top (i:Nat):Stmt:=PySem.Challenge.pw_fivecups_k24_what_isn_t_danced.main.body.getD i (.Pass ⟨0,0,0,0⟩)
section
variable {P:AY}{wd:Af}{K:AH}{mg:Str->Option AB}{base:Heap}
noncomputable def zB6:T:=.t (([1,3,0,4,2]:List Int).map V.int |>.map T.a)
noncomputable def zBo:T:=.t (([1,2,3,4,0]:List Int).map V.int |>.map T.a)
noncomputable abbrev csX:List Str:=["CupError","BadText","NoDance","NoRing","TooHeavy","OtherSizes","NoName","NoRow"]
noncomputable abbrev mroX:List (Str×List Str):=[("CupError",["CupError"]),("BadText",["BadText","CupError"]),("NoDance",["NoDance","CupError"]),("NoRing",["NoRing","CupError"]),("TooHeavy",["TooHeavy","CupError"]),("OtherSizes",["OtherSizes","CupError"]),("NoName",["NoName","CupError"]),("NoRow",["NoRow","CupError"])]
noncomputable abbrev gkX:List (Str×Str):=[("BadText","row"),("NoDance","word"),("NoDance","at"),("TooHeavy","weight"),("NoName","name")]
noncomputable def ini (s:Stmt):Stmt:=match s with
 | .ClassDef _ _ _ (b::_) _ _ _ _ _ _ _=>b
 | s=>s
local macro_rules | `(tactic| walk_at "s") => `(tactic| exact ⟨rfl,rfl,rfl,by decide +kernel,rfl,by decide +kernel,by decide +kernel⟩)
noncomputable abbrev zBB:Stmt:=ini (top 5)
theorem zFg:FnScope ["self","weight"] ["self","weight"] (defScope zBB):=by walk_at "s"
abbrev zDs:Nat:=12
abbrev zA2:Nat:=12
abbrev zCl:Nat:=12
abbrev zAn:Nat:=12
abbrev st_4:Stmt:=top 48
theorem sc_4:FnScope ["_law_script","_law_k","_law_cell","_law_seed"] ["_law_script","_law_k"] (defScope st_4):=by walk_at "s"
noncomputable def d_4:DS:=dSeq (dSet 2 (dOp addS (dOp mulS (dC (.int 7919)) (jV 1)) (dC (.int 11))))
 (dSeq (dIf (dTest (dOp ltS (jV 1) (dCB lenS (jW (jV 0) qQ)))) (dSet 2 (dOp ixS (jV 0) (jV 1))) (dIf (dTest (dOp gtS (dCB lenS (jW (jV 0) qQ)) (dC (.int 0)))) (dSet 2 (dOp addS (jV 2) (dOp mulS (dOp modS (dOp ixS (jV 0) (dOp modS (jV 1) (dCB lenS (jW (jV 0) qQ)))) (dC (.int 2147483629))) (dC (.int 69623))))) dNext))
 (dSeq (dSet 3 (dOp addS (dOp modS (dOp addS (dOp mulS (dOp modS (jV 2) (dC (.int 2147483629))) (dC (.int 48271))) (dOp mulS (dC (.int 40692)) (jV 1))) (dC (.int 2147483629))) (dC (.int 1))))
 (dRet (dLst (jW (dOp ixS (dLst (jW (dC (.int 0)) (jW (jV 2) qQ))) (dCB intS (jW (dOp geS (jV 2) (dOp powS (dC (.int 10)) (dC (.int 18)))) qQ))) (jW (jV 3) qQ))))))
noncomputable def F_4:DF:=fnD none 2 4 d_4
theorem ok_4{f:Addr}{fd:AZ}(Fn:Fun K "_law_box" "_law_box" st_4 f fd)(hm:mg "_law_box"=some (.ref f))(hb:Binds K fd ["_law_script","_law_k"] [])(z_int:mg "int"=none)(z_len:mg "len"=none):FD P wd K mg base (1) "_law_box" none 2 F_4 :=
 zAO (k:=0) Fn sc_4 hm hb fun cdv A outer s H E M B=>zAA (zAG 2 (zAK M (zAt jJ (jZ 1)) jJ) (hN:=fun _=>sc_4.nd))
 (zAA (zAN (tx_c zBI (jZ 1) (zAc M (zAm M) z_len BC (jQ (jZ 0) jY))) (zAD (zAG 2 (zAC M (jZ 0) (jZ 1)) (hN:=fun _=>sc_4.nd))) (zAD (zAN (tx_c zBG (zAc M (zAm M) z_len BC (jQ (jZ 0) jY)) jJ) (zAD (zAG 2 (zAK M (jZ 2) (zAt (zBC (zAC M (jZ 0) (zBC (jZ 1) (zAc M (zAm M) z_len BC (jQ (jZ 0) jY)))) jJ) jJ)) (hN:=fun _=>sc_4.nd))) zAL)))
 (zAA (zAG 3 (zAK M (zBC (zAK M (zAt (zBC (jZ 2) jJ) jJ) (zAt jJ (jZ 1))) jJ) jJ) (hN:=fun _=>sc_4.nd))
 (zAD (zAF (zAZ (jQ (zAC M (zAZ (jQ jJ (jQ (jZ 2) jY))) (zBH M (zCU) z_int (by decide +kernel) (jQ (ex_c zOs (jZ 2) (zNh jJ jJ)) jY))) (jQ (jZ 3) jY)))))))
abbrev st_5:Stmt:=top 49
theorem sc_5:FnScope ["_law_box_here","_law_wide","_law_digit","_law_one"] ["_law_box_here","_law_wide"] (defScope st_5):=by walk_at "s"
noncomputable def d_5:DS:=dSeq (dIf (dTest (dOp gtS (dOp ixS (jV 0) (dC (.int 0))) (dC (.int 0)))) (dSeq (dSet 2 (dOp modS (dOp ixS (jV 0) (dC (.int 0))) (jV 1)))
 (dSeq (dSetIx 0 (dOp fdivS (dOp ixS (jV 0) (dC (.int 0))) (jV 1)) (dC (.int 0)))
 (dRet (jV 2)))) dNext)
 (dSeq (dSet 3 (dOp modS (dOp mulS (dOp ixS (jV 0) (dC (.int 1))) (dC (.int 69623))) (dC (.int 2147483647))))
 (dSeq (dSetIx 0 (dOp addS (dOp modS (dOp addS (dOp mulS (jV 3) (dC (.int 48271))) (dC (.int 30103))) (dC (.int 2147483629))) (dC (.int 1))) (dC (.int 1)))
 (dRet (dOp modS (dOp fdivS (dOp addS (dOp mulS (jV 3) (dC (.int 2147483647))) (dOp ixS (jV 0) (dC (.int 1)))) (dC (.int 8191))) (jV 1)))))
noncomputable def F_5:DF:=fnD (some 0) 2 4 d_5
theorem ok_5{f:Addr}{fd:AZ}(Fn:Fun K "_law_take" "_law_take" st_5 f fd)(hm:mg "_law_take"=some (.ref f))(hb:Binds K fd ["_law_box_here","_law_wide"] []) :FD P wd K mg base (1) "_law_take" (some 0) 2 F_5 :=
 zAO (k:=0) Fn sc_5 hm hb fun cdv A outer s H E M B=>zAA (zAN (tx_c zBG (zAC M (jZ 0) jJ) jJ) (zAA (zAG 2 (zBC (zAC M (jZ 0) jJ) (jZ 1)) (hN:=fun _=>sc_5.nd))
 (zAA (zDJ 0 (zBn (zAC M (jZ 0) jJ) (jZ 1)) (pv' 0) jJ)
 (zAD (zAF (jZ 2))))) zAL)
 (zAA (zAG 3 (zBC (zAt (zAC M (jZ 0) jJ) jJ) jJ) (hN:=fun _=>sc_5.nd))
 (zAA (zDJ 0 (zAK M (zBC (zAK M (zAt (jZ 3) jJ) jJ) jJ) jJ) (pv' 0) jJ)
 (zAD (zAF (zBC (zBn (zAK M (zAt (jZ 3) jJ) (zAC M (jZ 0) jJ)) jJ) (jZ 1))))))
abbrev st_1:Stmt:=top 52
theorem sc_1:FnScope ["_law_box_here","_law_questions","_law_room","_law_down","_law_form","_law_first","_law_one","_law_second","_law_other","_law_head"] ["_law_box_here","_law_questions","_law_room","_law_down"] (defScope st_1):=by walk_at "s"
noncomputable def d_1 (rec:DF):DS:=dSeq (dSet 4 (dCall (some 0) F_5 [] (jW (jV 0) (jW (dC (.int 10)) qQ))))
 (dSeq (dIf (dOr (dTest (dOp ltS (jV 2) (dC (.int 2)))) (dOr (dTest (dOp ltS (jV 3) (dC (.int 2)))) (dTest (dOp eqS (jV 4) (dC (.int 0)))))) (dRet (dOp ixS (dLst (jW (dTup (jW (dC (.str "ask")) (jW (dCall (some 0) F_5 [] (jW (jV 0) (jW (jV 1) qQ))) qQ))) (jW (dTup (jW (dC (.str "yes")) qQ)) (jW (dTup (jW (dC (.str "no")) qQ)) qQ)))) (dCB max2S (jW (dC (.int 0)) (jW (dOp subS (dCall (some 0) F_5 [] (jW (jV 0) (jW (dC (.int 8)) qQ))) (dC (.int 5))) qQ))))) dNext)
 (dSeq (dIf (dOr (dTest (dOp ltS (jV 4) (dC (.int 3)))) (dTest (dOp ltS (jV 2) (dC (.int 3))))) (dRet (dTup (jW (dC (.str "not")) (jW (dCall (some 0) rec [] (jW (jV 0) (jW (jV 1) (jW (dOp subS (jV 2) (dC (.int 1))) (jW (dOp subS (jV 3) (dC (.int 1))) qQ))))) qQ)))) dNext)
 (dSeq (dSet 5 (dOp addS (dC (.int 1)) (dCall (some 0) F_5 [] (jW (jV 0) (jW (dOp subS (jV 2) (dC (.int 2))) qQ)))))
 (dSeq (dSet 6 (dCall (some 0) rec [] (jW (jV 0) (jW (jV 1) (jW (jV 5) (jW (dOp subS (jV 3) (dC (.int 1))) qQ))))))
 (dSeq (dIf (dAnd (dTest (dOp eqS (jV 4) (dC (.int 9)))) (dAnd (dTest (dOp gtS (jV 2) (dC (.int 3)))) (dTest (dOp ltS (jV 5) (dOp subS (jV 2) (dC (.int 2))))))) (dSeq (dSet 7 (dOp addS (dC (.int 1)) (dCall (some 0) F_5 [] (jW (jV 0) (jW (dOp subS (dOp subS (jV 2) (dC (.int 2))) (jV 5)) qQ)))))
 (dSeq (dSet 8 (dCall (some 0) rec [] (jW (jV 0) (jW (jV 1) (jW (jV 7) (jW (dOp subS (jV 3) (dC (.int 1))) qQ))))))
 (dRet (dTup (jW (dC (.str "most")) (jW (jV 6) (jW (jV 8) (jW (dCall (some 0) rec [] (jW (jV 0) (jW (jV 1) (jW (dOp subS (dOp subS (dOp subS (jV 2) (dC (.int 1))) (jV 5)) (jV 7)) (jW (dOp subS (jV 3) (dC (.int 1))) qQ))))) qQ)))))))) dNext)
 (dSeq (dSet 9 (dOp ixS (dLst (jW (dC (.str "and")) (jW (dC (.str "or")) (jW (dC (.str "either")) qQ)))) (dOp modS (jV 4) (dC (.int 3)))))
 (dRet (dTup (jW (jV 9) (jW (jV 6) (jW (dCall (some 0) rec [] (jW (jV 0) (jW (jV 1) (jW (dOp subS (dOp subS (jV 2) (dC (.int 1))) (jV 5)) (jW (dOp subS (jV 3) (dC (.int 1))) qQ))))) qQ)))))))))))
noncomputable def F_1:Nat->DF
 | 0=>fun _=>none
 | n+1=>fnD (some 0) 4 10 (d_1 (F_1 n))
theorem ok_1{f:Addr}{fd:AZ}(Fn:Fun K "_law_saying" "_law_saying" st_1 f fd)(hm:mg "_law_saying"=some (.ref f))(hb:Binds K fd ["_law_box_here","_law_questions","_law_room","_law_down"] [])(z_max:mg "max"=none)(D_5:FD P wd K mg base (1) "_law_take" (some 0) 2 F_5)(n:Nat):FD P wd K mg base (1+n) "_law_saying" (some 0) 4 (F_1 n):=by
 induction n with
 | zero=>exact zC6 Fn hm hb rfl
 | succ n ih =>
  have Drec:=ih
  exact zAO (k:=1+n) Fn sc_1 hm hb fun cdv A outer s H E M B=>zAA (zAG 4 (zAB M B D_5 (jQ (jZ 0) (jQ jJ jY))) (hN:=fun _=>sc_1.nd))   (zAA (zAN (tx_w (zBi (tx_c zBI (jZ 2) jJ) (zBi (tx_c zBI (jZ 3) jJ) (zB4 (tx_c (zAa M) (jZ 4) jJ))))) (zAD (zAF (zAC M (zAZ (jQ (zAH (jQ zAI (jQ (zAB M B D_5 (jQ (jZ 0) (jQ (jZ 1) jY))) jY))) (jQ (zAH (jQ zAI jY)) (jQ (zAH (jQ zAI jY)) jY)))) (zAc M (zGi M) z_max boot_max (jQ jJ (jQ (zAW (zAB M B D_5 (jQ (jZ 0) (jQ jJ jY))) jJ) jY)))))) zAL)   (zAA (zAN (tx_w (zBi (tx_c zBI (jZ 4) jJ) (zB4 (tx_c zBI (jZ 2) jJ)))) (zAD (zAF (zAH (jQ zAI (jQ (zAB M B Drec (jQ (jZ 0) (jQ (jZ 1) (jQ (zAW (jZ 2) jJ) (jQ (zAW (jZ 3) jJ) jY))))) jY))))) zAL)   (zAA (zAG 5 (zAK M jJ (zAB M B D_5 (jQ (jZ 0) (jQ (zAW (jZ 2) jJ) jY)))) (hN:=fun _=>sc_1.nd))   (zAA (zAG 6 (zAB M B Drec (jQ (jZ 0) (jQ (jZ 1) (jQ (jZ 5) (jQ (zAW (jZ 3) jJ) jY))))) (hN:=fun _=>sc_1.nd))   (zAA (zAN (tx_w (zCm (tx_c (zAa M) (jZ 4) jJ) (zCm (tx_c zBG (jZ 2) jJ) (zC1 (tx_c zBI (jZ 5) (zAW (jZ 2) jJ)))))) (zAA (zAG 7 (zAK M jJ (zAB M B D_5 (jQ (jZ 0) (jQ (zAW (zAW (jZ 2) jJ) (jZ 5)) jY)))) (hN:=fun _=>sc_1.nd))   (zAA (zAG 8 (zAB M B Drec (jQ (jZ 0) (jQ (jZ 1) (jQ (jZ 7) (jQ (zAW (jZ 3) jJ) jY))))) (hN:=fun _=>sc_1.nd))   (zAD (zAF (zAH (jQ zAI (jQ (jZ 6) (jQ (jZ 8) (jQ (zAB M B Drec (jQ (jZ 0) (jQ (jZ 1) (jQ (zAW (zAW (zAW (jZ 2) jJ) (jZ 5)) (jZ 7)) (jQ (zAW (jZ 3) jJ) jY))))) jY))))))))) zAL)   (zAA (zAG 9 (zAC M (zAZ (jQ zAI (jQ zAI (jQ zAI jY)))) (zBC (jZ 4) jJ)) (hN:=fun _=>sc_1.nd))   (zAD (zAF (zAH (jQ (jZ 9) (jQ (jZ 6) (jQ (zAB M B Drec (jQ (jZ 0) (jQ (jZ 1) (jQ (zAW (zAW (jZ 2) jJ) (jZ 5)) (jQ (zAW (jZ 3) jJ) jY))))) jY))))))))))))
noncomputable def zDf (rec:DF):DE:=dCall none rec [] (jW (jV 0) qQ)
noncomputable def zCb (rec:DF):DT:=dTru (dCB isiS (jW (jV 0) (jW (dC (.ty "tuple")) qQ)))
abbrev st_3:Stmt:=top 53
theorem sc_3:FnScope ["_law_saying_here","_law_some"] ["_law_saying_here"] (defScope st_3):=by walk_at "s"
noncomputable def d_3 (rec:DF):DS:=dSeq (dSet 1 (dComp none [none] (dSeqI (dSl (jV 0) (dPart (dC (.int 1))) dNoPart)) (gdName 0) ((zCb rec)) ((zDf rec))))
 (dSeq (dIf (dTest (dOp (inS false) (dOp ixS (jV 0) (dC (.int 0))) (dTup (jW (dC (.str "yes")) (jW (dC (.str "no")) (jW (dC (.str "ask")) qQ)))))) (dRet (dC (.int 1))) dNext)
 (dSeq (dIf (dTest (dOp eqS (dOp ixS (jV 0) (dC (.int 0))) (dC (.str "not")))) (dRet (dOp ixS (jV 1) (dC (.int 0)))) dNext)
 (dSeq (dIf (dTest (dOp eqS (dOp ixS (jV 0) (dC (.int 0))) (dC (.str "most")))) (dRet (dOp addS (dOp mulS (dC (.int 12)) (dOp addS (dOp ixS (jV 1) (dC (.int 0))) (dOp ixS (jV 1) (dC (.int 1))))) (dOp mulS (dC (.int 4)) (dOp ixS (jV 1) (dC (.int 2)))))) dNext)
 (dRet (dOp mulS (dOp addS (dOp ixS (jV 1) (dC (.int 0))) (dOp ixS (jV 1) (dC (.int 1)))) (dOp ixS (dLst (jW (dC (.int 2)) (jW (dC (.int 8)) qQ))) (dCB intS (jW (dOp eqS (dOp ixS (jV 0) (dC (.int 0))) (dC (.str "either"))) qQ))))))))
noncomputable def F_3:Nat->DF
 | 0=>fun _=>none
 | n+1=>fnD none 1 2 (d_3 (F_3 n))
theorem ok_3{f:Addr}{fd:AZ}(Fn:Fun K "_law_weight" "_law_weight" st_3 f fd)(hm:mg "_law_weight"=some (.ref f))(hb:Binds K fd ["_law_saying_here"] [])(z_int:mg "int"=none)(z_isinstance:mg "isinstance"=none)(z_tuple:mg "tuple"=none)(n:Nat):FD P wd K mg base (0+n) "_law_weight" none 1 (F_3 n):=by
 induction n with
 | zero=>exact zC6 Fn hm hb rfl
 | succ n ih =>
  have Drec:=ih
  exact zAO (k:=0+n) Fn sc_3 hm hb fun cdv A outer s H E M B=>zAA (zD6 1 none (N':=["_law_one"]) (ix:=[none]) M (fun _=>⟨rfl,by kernel_rfl⟩) (zBP M (zA8 M (jZ 0) (zAp jJ) zAr)) (zAj 0 (hN:=fun _=>(by show (["_law_one"]:List Str).Nodup; decide +kernel))) (zFb (tx_v M.comp (zAc M.comp (zJd M.comp) z_isinstance boot_isinstance (jQ (jZ 0) (jQ (zLZ M.comp z_tuple DV) jY))))) (zAB M.comp B.comp Drec (jQ (jZ 0) jY)) (hix:=hix0) (hN:=fun _=>sc_3.nd))   (zAA (zAN (tx_c (zHP M) (zAC M (jZ 0) jJ) (zAH (jQ zAI (jQ zAI (jQ zAI jY))))) (zAD (zAF jJ)) zAL)   (zAA (zAN (tx_c (zAa M) (zAC M (jZ 0) jJ) zAI) (zAD (zAF (zAC M (jZ 1) jJ))) zAL)   (zAA (zAN (tx_c (zAa M) (zAC M (jZ 0) jJ) zAI) (zAD (zAF (zAK M (zAt jJ (zAK M (zAC M (jZ 1) jJ) (zAC M (jZ 1) jJ))) (zAt jJ (zAC M (jZ 1) jJ))))) zAL)   (zAD (zAF (zAt (zAK M (zAC M (jZ 1) jJ) (zAC M (jZ 1) jJ)) (zAC M (zAZ (jQ jJ (jQ jJ jY))) (zBH M (zCU) z_int (by decide +kernel) (jQ (ex_c (zAa M) (zAC M (jZ 0) jJ) zAI) jY)))))))))
abbrev st_2:Stmt:=top 55
theorem sc_2:FnScope ["_law_box_here","_law_questions","_law_most","_law_down","_law_form","_law_head","_law_room","_law_last","_law_third","_law_first","_law_one"] ["_law_box_here","_law_questions","_law_most","_law_down"] (defScope st_2):=by walk_at "s"
noncomputable def d_2 (rec:DF):DS:=dSeq (dSet 4 (dCall (some 0) F_5 [] (jW (jV 0) (jW (dC (.int 8)) qQ))))
 (dSeq (dIf (dOr (dTest (dOp ltS (jV 2) (dC (.int 4)))) (dOr (dTest (dOp ltS (jV 3) (dC (.int 2)))) (dTest (dOp eqS (jV 4) (dC (.int 0)))))) (dRet (dCall (some 0) (F_1 zA2) [] (jW (jV 0) (jW (jV 1) (jW (dC (.int 1)) (jW (dC (.int 1)) qQ)))))) dNext)
 (dSeq (dIf (dTest (dOp eqS (jV 4) (dC (.int 1)))) (dRet (dTup (jW (dC (.str "not")) (jW (dCall (some 0) rec [] (jW (jV 0) (jW (jV 1) (jW (jV 2) (jW (dOp subS (jV 3) (dC (.int 1))) qQ))))) qQ)))) dNext)
 (dSeq (dPar3 5 6 7 (jW (dOp ixS (dLst (jW (dC (.str "and")) (jW (dC (.str "or")) qQ))) (dOp modS (jV 4) (dC (.int 2)))) (jW (dOp fdivS (jV 2) (dC (.int 2))) (jW (dTup qQ) qQ))))
 (dSeq (dIf (dAnd (dTest (dOp eqS (jV 4) (dC (.int 4)))) (dTest (dOp gtS (jV 2) (dC (.int 15))))) (dPar2 5 6 (jW (dC (.str "either")) (jW (dOp fdivS (jV 2) (dC (.int 8))) qQ))) dNext)
 (dSeq (dIf (dAnd (dTest (dOp ltS (jV 4) (dC (.int 4)))) (dTest (dOp gtS (jV 2) (dC (.int 27))))) (dSeq (dSet 8 (dOp addS (dC (.int 1)) (dCall (some 0) F_5 [] (jW (jV 0) (jW (dOp fdivS (dOp subS (jV 2) (dC (.int 24))) (dC (.int 4))) qQ)))))
 (dSeq (dPar2 5 6 (jW (dC (.str "most")) (jW (dOp fdivS (dOp subS (jV 2) (dOp mulS (dC (.int 4)) (jV 8))) (dC (.int 12))) qQ)))
 (dSet 7 (dTup (jW (dCall (some 0) rec [] (jW (jV 0) (jW (jV 1) (jW (jV 8) (jW (dOp subS (jV 3) (dC (.int 1))) qQ))))) qQ))))) dNext)
 (dSeq (dSet 9 (dOp addS (dC (.int 1)) (dCall (some 0) F_5 [] (jW (jV 0) (jW (dOp subS (jV 6) (dC (.int 1))) qQ)))))
 (dSeq (dSet 10 (dCall (some 0) rec [] (jW (jV 0) (jW (jV 1) (jW (jV 9) (jW (dOp subS (jV 3) (dC (.int 1))) qQ))))))
 (dRet (dOp addS (dTup (jW (jV 5) (jW (jV 10) (jW (dCall (some 0) rec [] (jW (jV 0) (jW (jV 1) (jW (dOp subS (jV 6) (jV 9)) (jW (dOp subS (jV 3) (dC (.int 1))) qQ))))) qQ)))) (jV 7))))))))))
noncomputable def F_2:Nat->DF
 | 0=>fun _=>none
 | n+1=>fnD (some 0) 4 11 (d_2 (F_2 n))
theorem ok_2{f:Addr}{fd:AZ}(Fn:Fun K "_law_weighed" "_law_weighed" st_2 f fd)(hm:mg "_law_weighed"=some (.ref f))(hb:Binds K fd ["_law_box_here","_law_questions","_law_most","_law_down"] [])(D_5:FD P wd K mg base (1) "_law_take" (some 0) 2 F_5)(D_1:FD P wd K mg base (13) "_law_saying" (some 0) 4 (F_1 zA2))(n:Nat):FD P wd K mg base (13+n) "_law_weighed" (some 0) 4 (F_2 n):=by
 induction n with
 | zero=>exact zC6 Fn hm hb rfl
 | succ n ih =>
  have Drec:=ih
  exact zAO (k:=13+n) Fn sc_2 hm hb fun cdv A outer s H E M B=>zAA (zAG 4 (zAB M B D_5 (jQ (jZ 0) (jQ jJ jY))) (hN:=fun _=>sc_2.nd))   (zAA (zAN (tx_w (zBi (tx_c zBI (jZ 2) jJ) (zBi (tx_c zBI (jZ 3) jJ) (zB4 (tx_c (zAa M) (jZ 4) jJ))))) (zAD (zAF (zAB M B D_1 (jQ (jZ 0) (jQ (jZ 1) (jQ jJ (jQ jJ jY))))))) zAL)   (zAA (zAN (tx_c (zAa M) (jZ 4) jJ) (zAD (zAF (zAH (jQ zAI (jQ (zAB M B Drec (jQ (jZ 0) (jQ (jZ 1) (jQ (jZ 2) (jQ (zAW (jZ 3) jJ) jY))))) jY))))) zAL)   (zAA (zLr 5 6 7 M (jQ (zAC M (zAZ (jQ zAI (jQ zAI jY))) (zBC (jZ 4) jJ)) (jQ (zBn (jZ 2) jJ) (jQ (zAH jY) jY))) (hN:=fun _=>sc_2.nd))   (zAA (zAN (tx_w (zCm (tx_c (zAa M) (jZ 4) jJ) (zC1 (tx_c zBG (jZ 2) jJ)))) (zAD (zJC 5 6 M (jQ zAI (jQ (zBn (jZ 2) jJ) jY)) (hN:=fun _=>sc_2.nd))) zAL)   (zAA (zAN (tx_w (zCm (tx_c zBI (jZ 4) jJ) (zC1 (tx_c zBG (jZ 2) jJ)))) (zAA (zAG 8 (zAK M jJ (zAB M B D_5 (jQ (jZ 0) (jQ (zBn (zAW (jZ 2) jJ) jJ) jY)))) (hN:=fun _=>sc_2.nd))   (zAA (zJC 5 6 M (jQ zAI (jQ (zBn (zAW (jZ 2) (zAt jJ (jZ 8))) jJ) jY)) (hN:=fun _=>sc_2.nd))   (zAD (zAG 7 (zAH (jQ (zAB M B Drec (jQ (jZ 0) (jQ (jZ 1) (jQ (jZ 8) (jQ (zAW (jZ 3) jJ) jY))))) jY)) (hN:=fun _=>sc_2.nd))))) zAL)   (zAA (zAG 9 (zAK M jJ (zAB M B D_5 (jQ (jZ 0) (jQ (zAW (jZ 6) jJ) jY)))) (hN:=fun _=>sc_2.nd))   (zAA (zAG 10 (zAB M B Drec (jQ (jZ 0) (jQ (jZ 1) (jQ (jZ 9) (jQ (zAW (jZ 3) jJ) jY))))) (hN:=fun _=>sc_2.nd))   (zAD (zAF (zAK M (zAH (jQ (jZ 5) (jQ (jZ 10) (jQ (zAB M B Drec (jQ (jZ 0) (jQ (jZ 1) (jQ (zAW (jZ 6) (jZ 9)) (jQ (zAW (jZ 3) jJ) jY))))) jY)))) (jZ 7)))))))))))
noncomputable def zDn (rec:DF):DE:=dCall none rec [] (jW (jV 0) qQ)
noncomputable def zCr (rec:DF):DT:=dTru (dCB isiS (jW (jV 0) (jW (dC (.ty "tuple")) qQ)))
abbrev st_0:Stmt:=top 54
theorem sc_0:FnScope ["_law_saying_here"] ["_law_saying_here"] (defScope st_0):=by walk_at "s"
noncomputable def d_0 (rec:DF):DS:=dRet (dOp addS (dC (.int 1)) (dCB sumS (jW (dComp none [none] (dSeqI (dSl (jV 0) (dPart (dC (.int 1))) dNoPart)) (gdName 0) ((zCr rec)) ((zDn rec))) qQ)))
noncomputable def F_0:Nat->DF
 | 0=>fun _=>none
 | n+1=>fnD none 1 1 (d_0 (F_0 n))
theorem ok_0{f:Addr}{fd:AZ}(Fn:Fun K "_law_many_parts" "_law_many_parts" st_0 f fd)(hm:mg "_law_many_parts"=some (.ref f))(hb:Binds K fd ["_law_saying_here"] [])(z_isinstance:mg "isinstance"=none)(z_sum:mg "sum"=none)(z_tuple:mg "tuple"=none)(n:Nat):FD P wd K mg base (0+n) "_law_many_parts" none 1 (F_0 n):=by
 induction n with
 | zero=>exact zC6 Fn hm hb rfl
 | succ n ih =>
  have Drec:=ih
  exact zAO (k:=0+n) Fn sc_0 hm hb fun cdv A outer s H E M B=>zAD (zAF (zAK M jJ (zAc M (zM2 M) z_sum boot_sum (jQ (zBY none (N':=["_law_one"]) (ix:=[none]) M (fun _=>⟨rfl,by kernel_rfl⟩) (zBP M (zA8 M (jZ 0) (zAp jJ) zAr)) (zAj 0 (hN:=fun _=>(by show (["_law_one"]:List Str).Nodup; decide +kernel))) (zFb (tx_v M.comp (zAc M.comp (zJd M.comp) z_isinstance boot_isinstance (jQ (jZ 0) (jQ (zLZ M.comp z_tuple DV) jY))))) (zAB M.comp B.comp Drec (jQ (jZ 0) jY)) (hix:=hix0)) jY))))
noncomputable def zB2:DT:=dOr (dTest (dOp gtS (dCall none (F_3 zAn) [] (jW (jV 4) qQ)) (jV 3))) (dTest (dOp gtS (dCall none (F_0 zDs) [] (jW (jV 4) qQ)) (jV 2)))
noncomputable def zDa:DS:=dSet 4 (dOp ixS (jV 4) (dOp addS (dC (.int 1)) (dCall (some 0) F_5 [] (jW (jV 0) (jW (dOp subS (dCB lenS (jW (jV 4) qQ)) (dC (.int 1))) qQ)))))
abbrev st_6:Stmt:=top 56
theorem sc_6:FnScope ["_law_box_here","_law_questions","_law_room","_law_most","_law_found"] ["_law_box_here","_law_questions","_law_room","_law_most"] (defScope st_6):=by walk_at "s"
noncomputable def d_6:DS:=dSeq (dSet 4 (dCall (some 0) (F_1 zA2) [] (jW (jV 0) (jW (jV 1) (jW (jV 2) (jW (dC (.int 5)) qQ))))))
 (dSeq (dIf (dTest (dOp eqS (dCall (some 0) F_5 [] (jW (jV 0) (jW (dC (.int 2)) qQ))) (dC (.int 0)))) (dSet 4 (dCall (some 0) (F_2 zCl) [] (jW (jV 0) (jW (jV 1) (jW (jV 3) (jW (dC (.int 5)) qQ)))))) dNext)
 (dSeq (dWhile (zB2) (zDa) fuelX)
 (dRet (jV 4))))
noncomputable def F_6:DF:=fnD (some 0) 4 5 d_6
theorem ok_6{f:Addr}{fd:AZ}(Fn:Fun K "_law_light" "_law_light" st_6 f fd)(hm:mg "_law_light"=some (.ref f))(hb:Binds K fd ["_law_box_here","_law_questions","_law_room","_law_most"] [])(z_len:mg "len"=none)(D_5:FD P wd K mg base (1) "_law_take" (some 0) 2 F_5)(D_1:FD P wd K mg base (13) "_law_saying" (some 0) 4 (F_1 zA2))(D_3:FD P wd K mg base (12) "_law_weight" none 1 (F_3 zAn))(D_2:FD P wd K mg base (25) "_law_weighed" (some 0) 4 (F_2 zCl))(D_0:FD P wd K mg base (12) "_law_many_parts" none 1 (F_0 zDs)):FD P wd K mg base (26) "_law_light" (some 0) 4 F_6 :=
 zAO (k:=25) Fn sc_6 hm hb fun cdv A outer s H E M B=>zAA (zAG 4 (zAB M B D_1 (jQ (jZ 0) (jQ (jZ 1) (jQ (jZ 2) (jQ jJ jY))))) (hN:=fun _=>sc_6.nd))
 (zAA (zAN (tx_c (zAa M) (zAB M B D_5 (jQ (jZ 0) (jQ jJ jY))) jJ) (zAD (zAG 4 (zAB M B D_2 (jQ (jZ 0) (jQ (jZ 1) (jQ (jZ 3) (jQ jJ jY))))) (hN:=fun _=>sc_6.nd))) zAL)
 (zAA (zBa fuelX (fun _=>Bk) (tx_w (zBi (tx_c zBG (zAB M B D_3 (jQ (jZ 4) jY)) (jZ 3)) (zB4 (tx_c zBG (zAB M B D_0 (jQ (jZ 4) jY)) (jZ 2))))) (zAD (zAG 4 (zAC M (jZ 4) (zAK M jJ (zAB M B D_5 (jQ (jZ 0) (jQ (zAW (zAc M (zAm M) z_len BC (jQ (jZ 4) jY)) jJ) jY))))) (hN:=fun _=>sc_6.nd))))
 (zAD (zAF (jZ 4)))))
noncomputable def zN2:DT:=dTest (dOp neS (dOp ixS (jV 0) (dOp ixS (jV 1) (dUn negS (dC (.int 1))))) (dC (.int 0)))
noncomputable def zNM:DS:=dDrop (dMut 1 hAppend (jW (dOp ixS (jV 0) (dOp ixS (jV 1) (dUn negS (dC (.int 1))))) qQ))
abbrev st_7:Stmt:=top 57
theorem sc_7:FnScope ["_law_thing","_law_row"] ["_law_thing"] (defScope st_7):=by walk_at "s"
noncomputable def d_7:DS:=dSeq (dIf (dTest (dOp neS (dCB sortedS (jW (jV 0) qQ)) (dLst (jW (dC (.int 0)) (jW (dC (.int 1)) (jW (dC (.int 2)) (jW (dC (.int 3)) (jW (dC (.int 4)) qQ)))))))) (dRet (dC (.bl false))) dNext)
 (dSeq (dSet 1 (dLst (jW (dC (.int 0)) qQ)))
 (dSeq (dWhile (zN2) (zNM) fuelX)
 (dRet (dOp eqS (dCB lenS (jW (jV 1) qQ)) (dC (.int 5))))))
noncomputable def F_7:DF:=fnD none 1 2 d_7
theorem ok_7{f:Addr}{fd:AZ}(Fn:Fun K "_law_is_ring" "_law_is_ring" st_7 f fd)(hm:mg "_law_is_ring"=some (.ref f))(hb:Binds K fd ["_law_thing"] [])(z_len:mg "len"=none)(z_sorted:mg "sorted"=none):FD P wd K mg base (1) "_law_is_ring" none 1 F_7 :=
 zAO (k:=0) Fn sc_7 hm hb fun cdv A outer s H E M B=>zAA (zAN (tx_c (zDe M) (zAc M (zEf M) z_sorted boot_sorted (jQ (jZ 0) jY)) (zAZ (jQ jJ (jQ jJ (jQ jJ (jQ jJ (jQ jJ jY))))))) (zAD (zAF zIA)) zAL)
 (zAA (zAG 1 (zAZ (jQ jJ jY)) (hN:=fun _=>sc_7.nd))
 (zAA (zBa fuelX (fun _=>Bk) (tx_c (zDe M) (zAC M (jZ 0) (zAC M (jZ 1) (zB1 jJ))) jJ) (zAD (zBb (zBV M Bs Bt (fun _=>zBN) zBE (pv' 1) (jQ (zAC M (jZ 0) (zAC M (jZ 1) (zB1 jJ))) jY)))))
 (zAD (zAF (ex_c (zAa M) (zAc M (zAm M) z_len BC (jQ (jZ 1) jY)) jJ)))))
abbrev st_8:Stmt:=top 59
theorem sc_8:FnScope ["_law_saying_here","_law_ring_here","_law_most","_law_great"] ["_law_saying_here","_law_ring_here","_law_most"] (defScope st_8):=by walk_at "s"
noncomputable def d_8:DS:=dSeq (dIf (dNot (dTru (dCall none F_7 [] (jW (jV 1) qQ)))) (dRet (dTup (jW (dC (.str "no ring")) qQ))) dNext)
 (dSeq (dSet 3 (dCall none (F_3 zAn) [] (jW (jV 0) qQ)))
 (dSeq (dIf (dTest (dOp gtS (jV 3) (jV 2))) (dRet (dTup (jW (dC (.str "too heavy")) (jW (jV 3) qQ)))) dNext)
 (dRet (dTup (jW (dC (.str "made")) qQ)))))
noncomputable def F_8:DF:=fnD none 3 4 d_8
theorem ok_8{f:Addr}{fd:AZ}(Fn:Fun K "_law_due" "_law_due" st_8 f fd)(hm:mg "_law_due"=some (.ref f))(hb:Binds K fd ["_law_saying_here","_law_ring_here","_law_most"] [])(D_3:FD P wd K mg base (12) "_law_weight" none 1 (F_3 zAn))(D_7:FD P wd K mg base (1) "_law_is_ring" none 1 F_7):FD P wd K mg base (13) "_law_due" none 3 F_8 :=
 zAO (k:=12) Fn sc_8 hm hb fun cdv A outer s H E M B=>zAA (zAN (zFR (tx_v M (zAB M B D_7 (jQ (jZ 1) jY)))) (zAD (zAF (zAH (jQ zAI jY)))) zAL)
 (zAA (zAG 3 (zAB M B D_3 (jQ (jZ 0) jY)) (hN:=fun _=>sc_8.nd))
 (zAA (zAN (tx_c zBG (jZ 3) (jZ 2)) (zAD (zAF (zAH (jQ zAI (jQ (jZ 3) jY))))) zAL)
 (zAD (zAF (zAH (jQ zAI jY))))))
noncomputable def zFs:DS:=dSetIx 4 (dOp ixS (jV 3) (dOp modS (dOp addS (jV 5) (dC (.int 1))) (jV 1))) (jV 6)
noncomputable def zCT:DT:=dTest (dOp gtS (dCB lenS (jW (jV 2) qQ)) (dC (.int 0)))
noncomputable def zDz:DS:=dDrop (dMut 3 hAppend (jW (dMut 2 hPopAt (jW (dCall (some 0) F_5 [] (jW (jV 0) (jW (dCB lenS (jW (jV 2) qQ)) qQ))) qQ)) qQ))
abbrev st_9:Stmt:=top 51
theorem sc_9:FnScope ["_law_box_here","_law_cups","_law_left","_law_row","_law_found","_law_k","_law_place"] ["_law_box_here","_law_cups"] (defScope st_9):=by walk_at "s"
noncomputable def d_9:DS:=dSeq (dSet 2 (dListRng (jW (dC (.int 1)) (jW (jV 1) qQ))))
 (dSeq (dSet 3 (dLst (jW (dC (.int 0)) qQ)))
 (dSeq (dWhile (zCT) (zDz) fuelX)
 (dSeq (dSet 4 (dOp mulS (dLst (jW (dC (.int 0)) qQ)) (jV 1)))
 (dSeq (dFor (some 0) (dEnum (jW (jV 3) qQ)) (gdTup 2 (gdCons (gdName 5) (gdCons (gdName 6) gdNil))) (zFs))
 (dRet (dCB tupleS (jW (jV 4) qQ)))))))
noncomputable def F_9:DF:=fnD (some 0) 2 7 d_9
theorem ok_9{f:Addr}{fd:AZ}(Fn:Fun K "_law_ring" "_law_ring" st_9 f fd)(hm:mg "_law_ring"=some (.ref f))(hb:Binds K fd ["_law_box_here","_law_cups"] [])(z_enumerate:mg "enumerate"=none)(z_len:mg "len"=none)(z_list:mg "list"=none)(z_range:mg "range"=none)(z_tuple:mg "tuple"=none)(D_5:FD P wd K mg base (1) "_law_take" (some 0) 2 F_5):FD P wd K mg base (2) "_law_ring" (some 0) 2 F_9 :=
 zAO (k:=1) Fn sc_9 hm hb fun cdv A outer s H E M B=>zAA (zAG 2 (zCF M z_list z_range (jQ jJ (jQ (jZ 1) jY))) (hN:=fun _=>sc_9.nd))
 (zAA (zAG 3 (zAZ (jQ jJ jY)) (hN:=fun _=>sc_9.nd))
 (zAA (zBa fuelX (fun _=>Bk) (tx_c zBG (zAc M (zAm M) z_len BC (jQ (jZ 2) jY)) jJ) (zAD (zBb (zBV M Bs Bt (fun _=>zBN) zBE (pv' 3) (jQ (zBV M DQ DR (fun _=>zFm) zEa (pv' 2) (jQ (zAB M B D_5 (jQ (jZ 0) (jQ (zAc M (zAm M) z_len BC (jQ (jZ 2) jY)) jY))) jY)) jY)))))
 (zAA (zAG 4 (zAt (zAZ (jQ jJ jY)) (jZ 1)) (hN:=fun _=>sc_9.nd))
 (zAA (zDt M (fun _=>Bk) (zMz M z_enumerate (jQ (jZ 3) jY)) (zJt 2 M (zBu (zAj 5 (hN:=fun _=>sc_9.nd)) (zBu (zAj 6 (hN:=fun _=>sc_9.nd)) zGn))) (zAD (zDJ 4 (zAC M (jZ 3) (zBC (zAK M (jZ 5) jJ) (jZ 1))) (pv' 4) (jZ 6))))
 (zAD (zAF (zBH M (zBK M) z_tuple DV (jQ (jZ 4) jY))))))))
noncomputable def zC0:DT:=dTest (dOp gtS (dCB lenS (jW (jV 2) qQ)) (dC (.int 0)))
noncomputable def zEF:DS:=dSet 3 (dOp addS (jV 3) (dTup (jW (dMut 2 hPopAt (jW (dCall (some 0) F_5 [] (jW (jV 0) (jW (dCB lenS (jW (jV 2) qQ)) qQ))) qQ)) qQ)))
abbrev zIO:Stmt:=top 50
theorem zE7:FnScope ["_law_box_here","_law_cups","_law_left","_law_found"] ["_law_box_here","_law_cups"] (defScope zIO):=by walk_at "s"
noncomputable def d_10:DS:=dSeq (dSet 2 (dListRng (jW (jV 1) qQ)))
 (dSeq (dSet 3 (dTup qQ))
 (dSeq (dWhile (zC0) (zEF) fuelX)
 (dRet (jV 3))))
noncomputable def F_10:DF:=fnD (some 0) 2 4 d_10
theorem zN8{f:Addr}{fd:AZ}(Fn:Fun K "_law_turning" "_law_turning" zIO f fd)(hm:mg "_law_turning"=some (.ref f))(hb:Binds K fd ["_law_box_here","_law_cups"] [])(z_len:mg "len"=none)(z_list:mg "list"=none)(z_range:mg "range"=none)(D_5:FD P wd K mg base (1) "_law_take" (some 0) 2 F_5):FD P wd K mg base (2) "_law_turning" (some 0) 2 F_10 :=
 zAO (k:=1) Fn zE7 hm hb fun cdv A outer s H E M B=>zAA (zAG 2 (zCF M z_list z_range (jQ (jZ 1) jY)) (hN:=fun _=>zE7.nd))
 (zAA (zAG 3 (zAH jY) (hN:=fun _=>zE7.nd))
 (zAA (zBa fuelX (fun _=>Bk) (tx_c zBG (zAc M (zAm M) z_len BC (jQ (jZ 2) jY)) jJ) (zAD (zAG 3 (zAK M (jZ 3) (zAH (jQ (zBV M DQ DR (fun _=>zFm) zEa (pv' 2) (jQ (zAB M B D_5 (jQ (jZ 0) (jQ (zAc M (zAm M) z_len BC (jQ (jZ 2) jY)) jY))) jY)) jY))) (hN:=fun _=>zE7.nd))))
 (zAD (zAF (jZ 3)))))
abbrev zHI:Stmt:=top 58
theorem zDj:FnScope ["_law_box_here","_law_ring_here","_law_form","_law_at","_law_twice"] ["_law_box_here"] (defScope zHI):=by walk_at "s"
noncomputable def d_11:DS:=dSeq (dSet 1 (dCall (some 0) F_9 [] (jW (jV 0) (jW (dC (.int 5)) qQ))))
 (dSeq (dSet 2 (dCall (some 0) F_5 [] (jW (jV 0) (jW (dC (.int 8)) qQ))))
 (dSeq (dSet 3 (dCall (some 0) F_5 [] (jW (jV 0) (jW (dC (.int 5)) qQ))))
 (dSeq (dIf (dTest (dOp ltS (jV 2) (dC (.int 4)))) (dRet (jV 1)) dNext)
 (dSeq (dIf (dTest (dOp eqS (jV 2) (dC (.int 4)))) (dRet (dCall (some 0) F_10 [] (jW (jV 0) (jW (dOp addS (dC (.int 3)) (dCall (some 0) F_5 [] (jW (jV 0) (jW (dC (.int 3)) qQ)))) qQ)))) dNext)
 (dSeq (dIf (dTest (dOp eqS (jV 2) (dC (.int 5)))) (dRet (dOp addS (dOp addS (dSl (jV 1) dNoPart (dPart (jV 3))) (dTup (jW (dOp subS (dCall (some 0) F_5 [] (jW (jV 0) (jW (dC (.int 8)) qQ))) (dC (.int 2))) qQ))) (dSl (jV 1) (dPart (dOp addS (jV 3) (dC (.int 1)))) dNoPart))) dNext)
 (dSeq (dIf (dTest (dOp eqS (jV 2) (dC (.int 6)))) (dSeq (dSet 4 (dOp addS (dSl (jV 1) dNoPart (dPart (dOp addS (jV 3) (dC (.int 1))))) (dSl (jV 1) (dPart (jV 3)) dNoPart)))
 (dRet (dOp ixS (dLst (jW (dOp addS (dSl (jV 1) dNoPart (dPart (jV 3))) (dSl (jV 1) (dPart (dOp addS (jV 3) (dC (.int 1)))) dNoPart)) (jW (dOp addS (jV 1) (dTup (jW (dC (.int 5)) qQ))) (jW (dTup qQ) (jW (jV 4) qQ))))) (dCall (some 0) F_5 [] (jW (jV 0) (jW (dC (.int 4)) qQ)))))) dNext)
 (dRet (dOp ixS (dLst (jW (dTup (jW (dC (.int 0)) (jW (dC (.int 1)) (jW (dC (.int 2)) (jW (dC (.int 3)) (jW (dC (.int 4)) qQ)))))) (jW (dOp addS (dOp addS (dSl (jV 1) dNoPart (dPart (jV 3))) (dTup (jW (dOp ixS (jV 1) (dOp subS (jV 3) (dC (.int 1)))) qQ))) (dSl (jV 1) (dPart (dOp addS (jV 3) (dC (.int 1)))) dNoPart)) (jW (dTup (jW (dC (.int 1)) (jW (dC (.int 0)) (jW (dC (.int 3)) (jW (dC (.int 4)) (jW (dC (.int 2)) qQ)))))) qQ)))) (dCall (some 0) F_5 [] (jW (jV 0) (jW (dC (.int 3)) qQ)))))))))))
noncomputable def F_11:DF:=fnD (some 0) 1 5 d_11
theorem zOw{f:Addr}{fd:AZ}(Fn:Fun K "_law_aim" "_law_aim" zHI f fd)(hm:mg "_law_aim"=some (.ref f))(hb:Binds K fd ["_law_box_here"] [])(D_5:FD P wd K mg base (1) "_law_take" (some 0) 2 F_5)(D_9:FD P wd K mg base (2) "_law_ring" (some 0) 2 F_9)(D_10:FD P wd K mg base (2) "_law_turning" (some 0) 2 F_10):FD P wd K mg base (3) "_law_aim" (some 0) 1 F_11 :=
 zAO (k:=2) Fn zDj hm hb fun cdv A outer s H E M B=>zAA (zAG 1 (zAB M B D_9 (jQ (jZ 0) (jQ jJ jY))) (hN:=fun _=>zDj.nd))
 (zAA (zAG 2 (zAB M B D_5 (jQ (jZ 0) (jQ jJ jY))) (hN:=fun _=>zDj.nd))
 (zAA (zAG 3 (zAB M B D_5 (jQ (jZ 0) (jQ jJ jY))) (hN:=fun _=>zDj.nd))
 (zAA (zAN (tx_c zBI (jZ 2) jJ) (zAD (zAF (jZ 1))) zAL)
 (zAA (zAN (tx_c (zAa M) (jZ 2) jJ) (zAD (zAF (zAB M B D_10 (jQ (jZ 0) (jQ (zAK M jJ (zAB M B D_5 (jQ (jZ 0) (jQ jJ jY)))) jY))))) zAL)
 (zAA (zAN (tx_c (zAa M) (jZ 2) jJ) (zAD (zAF (zAK M (zAK M (zA8 M (jZ 1) zAr (zAp (jZ 3))) (zAH (jQ (zAW (zAB M B D_5 (jQ (jZ 0) (jQ jJ jY))) jJ) jY))) (zA8 M (jZ 1) (zAp (zAK M (jZ 3) jJ)) zAr)))) zAL)
 (zAA (zAN (tx_c (zAa M) (jZ 2) jJ) (zAA (zAG 4 (zAK M (zA8 M (jZ 1) zAr (zAp (zAK M (jZ 3) jJ))) (zA8 M (jZ 1) (zAp (jZ 3)) zAr)) (hN:=fun _=>zDj.nd))
 (zAD (zAF (zAC M (zAZ (jQ (zAK M (zA8 M (jZ 1) zAr (zAp (jZ 3))) (zA8 M (jZ 1) (zAp (zAK M (jZ 3) jJ)) zAr)) (jQ (zAK M (jZ 1) (zAH (jQ jJ jY))) (jQ (zAH jY) (jQ (jZ 4) jY))))) (zAB M B D_5 (jQ (jZ 0) (jQ jJ jY))))))) zAL)
 (zAD (zAF (zAC M (zAZ (jQ (zAH (jQ jJ (jQ jJ (jQ jJ (jQ jJ (jQ jJ jY)))))) (jQ (zAK M (zAK M (zA8 M (jZ 1) zAr (zAp (jZ 3))) (zAH (jQ (zAC M (jZ 1) (zAW (jZ 3) jJ)) jY))) (zA8 M (jZ 1) (zAp (zAK M (jZ 3) jJ)) zAr)) (jQ (zAH (jQ jJ (jQ jJ (jQ jJ (jQ jJ (jQ jJ jY)))))) jY)))) (zAB M B D_5 (jQ (jZ 0) (jQ jJ jY))))))))))))
abbrev zHG:Stmt:=top 32
theorem zOG:FnScope ["cups","thing"] ["cups","thing"] (defScope zHG):=by walk_at "s"
noncomputable def d_12:DS:=dRet (dOp eqS (dCB sortedS (jW (jV 1) qQ)) (dListRng (jW (jV 0) qQ)))
noncomputable def F_12:DF:=fnD none 2 2 d_12
theorem zOb{f:Addr}{fd:AZ}(Fn:Fun K "is_turning" "is_turning" zHG f fd)(hm:mg "is_turning"=some (.ref f))(hb:Binds K fd ["cups","thing"] [])(z_list:mg "list"=none)(z_range:mg "range"=none)(z_sorted:mg "sorted"=none):FD P wd K mg base (1) "is_turning" none 2 F_12 :=
 zAO (k:=0) Fn zOG hm hb fun cdv A outer s H E M B=>zAD (zAF (ex_c (zAa M) (zAc M (zEf M) z_sorted boot_sorted (jQ (jZ 1) jY)) (zCF M z_list z_range (jQ (jZ 0) jY))))
noncomputable def zMl:DT:=dTest (dOp neS (dOp ixS (jV 0) (dOp ixS (jV 2) (dUn negS (dC (.int 1))))) (jV 1))
noncomputable def zL3:DS:=dDrop (dMut 2 hAppend (jW (dOp ixS (jV 0) (dOp ixS (jV 2) (dUn negS (dC (.int 1))))) qQ))
abbrev zHF:Stmt:=top 10
theorem zLJ:FnScope ["turning","place","row"] ["turning","place"] (defScope zHF):=by walk_at "s"
noncomputable def d_13:DS:=dSeq (dSet 2 (dLst (jW (jV 1) qQ)))
 (dSeq (dWhile (zMl) (zL3) fuelX)
 (dRet (dCB tupleS (jW (jV 2) qQ))))
noncomputable def F_13:DF:=fnD none 2 3 d_13
theorem zPE{f:Addr}{fd:AZ}(Fn:Fun K "row_from" "row_from" zHF f fd)(hm:mg "row_from"=some (.ref f))(hb:Binds K fd ["turning","place"] [])(z_tuple:mg "tuple"=none):FD P wd K mg base (1) "row_from" none 2 F_13 :=
 zAO (k:=0) Fn zLJ hm hb fun cdv A outer s H E M B=>zAA (zAG 2 (zAZ (jQ (jZ 1) jY)) (hN:=fun _=>zLJ.nd))
 (zAA (zBa fuelX (fun _=>Bk) (tx_c (zDe M) (zAC M (jZ 0) (zAC M (jZ 2) (zB1 jJ))) (jZ 1)) (zAD (zBb (zBV M Bs Bt (fun _=>zBN) zBE (pv' 2) (jQ (zAC M (jZ 0) (zAC M (jZ 2) (zB1 jJ))) jY)))))
 (zAD (zAF (zBH M (zBK M) z_tuple DV (jQ (jZ 2) jY)))))
noncomputable def zMW:DE:=jV 0
noncomputable def zLu:DT:=dAnd (dTest (dOp gtS (dCB lenS (jW (jV 0) qQ)) (dC (.int 1)))) (dTest (dOp eqS (dOp ixS (jV 0) (dC (.int 0))) (dCB min1S (jW (jV 0) qQ))))
noncomputable def zMV:DE:=dCall none F_13 [] (jW (jV 1) (jW (jV 0) qQ))
abbrev zIC:Stmt:=top 11
theorem zLM:FnScope ["turning","rows"] ["turning"] (defScope zIC):=by walk_at "s"
noncomputable def d_14:DS:=dSeq (dSet 1 (dComp none [none,some 0] (dRng1 (jW (dCB lenS (jW (jV 0) qQ)) qQ)) (gdName 0) dYes (zMV)))
 (dRet (dComp none [none] (dSeqI (jV 1)) (gdName 0) (zLu) (zMW)))
noncomputable def F_14:DF:=fnD none 1 2 d_14
theorem zOT{f:Addr}{fd:AZ}(Fn:Fun K "rings_of" "rings_of" zIC f fd)(hm:mg "rings_of"=some (.ref f))(hb:Binds K fd ["turning"] [])(z_len:mg "len"=none)(z_min:mg "min"=none)(z_range:mg "range"=none)(D_13:FD P wd K mg base (1) "row_from" none 2 F_13):FD P wd K mg base (2) "rings_of" none 1 F_14 :=
 zAO (k:=1) Fn zLM hm hb fun cdv A outer s H E M B=>zAA (zD6 1 none (N':=["place","turning"]) (ix:=[none,some 0]) M (fun _=>⟨rfl,by kernel_rfl⟩) (zC3 M z_range (jQ (zAc M (zAm M) z_len BC (jQ (jZ 0) jY)) jY)) (zAj 0 (hN:=fun _=>(by show (["place","turning"]:List Str).Nodup; decide +kernel))) zBs (zAB M.comp B.comp D_13 (jQ (jZ 1) (jQ (jZ 0) jY))) (hix:=hix0) (hN:=fun _=>zLM.nd))
 (zAD (zAF (zBY none (N':=["row"]) (ix:=[none]) M (fun _=>⟨rfl,by kernel_rfl⟩) (zBP M (jZ 1)) (zAj 0 (hN:=fun _=>(by show (["row"]:List Str).Nodup; decide +kernel))) (zFb (tx_w (zCm (tx_c zBG (zAc M.comp (zAm M.comp) z_len BC (jQ (jZ 0) jY)) jJ) (zC1 (tx_c (zAa M.comp) (zAC M.comp (jZ 0) jJ) (zAc M.comp (zL5 M.comp) z_min K7 (jQ (jZ 0) jY))))))) (jZ 0) (hix:=hix0))))
noncomputable def zMh:DE:=dCB lenS (jW (jV 0) qQ)
abbrev zG6:Stmt:=top 12
theorem zO8:FnScope ["turning"] ["turning"] (defScope zG6):=by walk_at "s"
noncomputable def d_15:DS:=dRet (dOp eqS (dComp none [none] (dSeqI (dCall none F_14 [] (jW (jV 0) qQ))) (gdName 0) dYes (zMh)) (dLst (jW (dCB lenS (jW (jV 0) qQ)) qQ)))
noncomputable def F_15:DF:=fnD none 1 1 d_15
theorem zOc{f:Addr}{fd:AZ}(Fn:Fun K "is_ring" "is_ring" zG6 f fd)(hm:mg "is_ring"=some (.ref f))(hb:Binds K fd ["turning"] [])(z_len:mg "len"=none)(D_14:FD P wd K mg base (2) "rings_of" none 1 F_14):FD P wd K mg base (3) "is_ring" none 1 F_15 :=
 zAO (k:=2) Fn zO8 hm hb fun cdv A outer s H E M B=>zAD (zAF (ex_c (zAa M) (zBY none (N':=["ring"]) (ix:=[none]) M (fun _=>⟨rfl,by kernel_rfl⟩) (zBP M (zAB M B D_14 (jQ (jZ 0) jY))) (zAj 0 (hN:=fun _=>(by show (["ring"]:List Str).Nodup; decide +kernel))) zBs (zAc M.comp (zAm M.comp) z_len BC (jQ (jZ 0) jY)) (hix:=hix0)) (zAZ (jQ (zAc M (zAm M) z_len BC (jQ (jZ 0) jY)) jY))))
abbrev zIN:Stmt:=top 37
theorem zOA:FnScope ["thing"] ["thing"] (defScope zIN):=by walk_at "s"
noncomputable def d_16:DS:=dRet (dAndV (dCall none F_12 [] (jW (dC (.int 5)) (jW (jV 0) qQ))) (dCall none F_15 [] (jW (jV 0) qQ)))
noncomputable def F_16:DF:=fnD none 1 1 d_16
theorem zOe{f:Addr}{fd:AZ}(Fn:Fun K "is_ring_of_five" "is_ring_of_five" zIN f fd)(hm:mg "is_ring_of_five"=some (.ref f))(hb:Binds K fd ["thing"] [])(D_12:FD P wd K mg base (1) "is_turning" none 2 F_12)(D_15:FD P wd K mg base (3) "is_ring" none 1 F_15):FD P wd K mg base (4) "is_ring_of_five" none 1 F_16 :=
 zAO (k:=3) Fn zOA hm hb fun cdv A outer s H E M B=>zAD (zAF (zN0 (zAB M B D_12 (jQ jJ (jQ (jZ 0) jY))) (zNB (zAB M B D_15 (jQ (jZ 0) jY)))))
abbrev zG4:Stmt:=top 18
theorem zOp:FnScope ["saying"] ["saying"] (defScope zG4):=by walk_at "s"
noncomputable def d_17:DS:=dRet (dIfE (dTest (dOp eqS (dOp ixS (jV 0) (dC (.int 0))) (dC (.str "ask")))) (dTup qQ) (dSl (jV 0) (dPart (dC (.int 1))) dNoPart))
noncomputable def F_17:DF:=fnD none 1 1 d_17
theorem zOq{f:Addr}{fd:AZ}(Fn:Fun K "inner" "inner" zG4 f fd)(hm:mg "inner"=some (.ref f))(hb:Binds K fd ["saying"] []) :FD P wd K mg base (1) "inner" none 1 F_17 :=
 zAO (k:=0) Fn zOp hm hb fun cdv A outer s H E M B=>zAD (zAF (zLT (tx_c (zAa M) (zAC M (jZ 0) jJ) zAI) (zAH jY) (zA8 M (jZ 0) (zAp jJ) zAr)))
noncomputable def zMQ:DE:=dOp getKS (jV 1) (jV 0)
abbrev zHx:Stmt:=top 13
theorem zLX:FnScope ["one","other","led"] ["one","other"] (defScope zHx):=by walk_at "s"
noncomputable def d_18:DS:=dSeq (dSet 2 (dDZip (jW (dOp ixS (dCall none F_14 [] (jW (jV 0) qQ)) (dC (.int 0))) (jW (dOp ixS (dCall none F_14 [] (jW (jV 1) qQ)) (dC (.int 0))) qQ))))
 (dRet (dCB tupleS (jW (dComp none [none,some 2] (dRng1 (jW (dCB lenS (jW (jV 0) qQ)) qQ)) (gdName 0) dYes (zMQ)) qQ)))
noncomputable def F_18:DF:=fnD none 2 3 d_18
theorem zOj{f:Addr}{fd:AZ}(Fn:Fun K "leading" "leading" zHx f fd)(hm:mg "leading"=some (.ref f))(hb:Binds K fd ["one","other"] [])(z_dict:mg "dict"=none)(z_len:mg "len"=none)(z_range:mg "range"=none)(z_tuple:mg "tuple"=none)(z_zip:mg "zip"=none)(D_14:FD P wd K mg base (2) "rings_of" none 1 F_14):FD P wd K mg base (3) "leading" none 2 F_18 :=
 zAO (k:=2) Fn zLX hm hb fun cdv A outer s H E M B=>zAA (zAG 2 (zMb M z_zip z_dict (jQ (zAC M (zAB M B D_14 (jQ (jZ 0) jY)) jJ) (jQ (zAC M (zAB M B D_14 (jQ (jZ 1) jY)) jJ) jY))) (hN:=fun _=>zLX.nd))
 (zAD (zAF (zBH M (zBK M) z_tuple DV (jQ (zBY none (N':=["place","led"]) (ix:=[none,some 2]) M (fun _=>⟨rfl,by kernel_rfl⟩) (zC3 M z_range (jQ (zAc M (zAm M) z_len BC (jQ (jZ 0) jY)) jY)) (zAj 0 (hN:=fun _=>(by show (["place","led"]:List Str).Nodup; decide +kernel))) zBs (zKi M.comp (jZ 1) (jZ 0)) (hix:=hix0)) jY))))
noncomputable def zD7:DE:=dOp ixS (jV 1) (jV 0)
abbrev zHu:Stmt:=top 28
theorem zOd:FnScope ["one","other"] ["one","other"] (defScope zHu):=by walk_at "s"
noncomputable def d_19:DS:=dRet (dCB tupleS (jW (dComp none [none,some 1] (dSeqI (jV 0)) (gdName 0) dYes (zD7)) qQ))
noncomputable def F_19:DF:=fnD none 2 2 d_19
theorem zPF{f:Addr}{fd:AZ}(Fn:Fun K "then" "then" zHu f fd)(hm:mg "then"=some (.ref f))(hb:Binds K fd ["one","other"] [])(z_tuple:mg "tuple"=none):FD P wd K mg base (1) "then" none 2 F_19 :=
 zAO (k:=0) Fn zOd hm hb fun cdv A outer s H E M B=>zAD (zAF (zBH M (zBK M) z_tuple DV (jQ (zBY none (N':=["place","other"]) (ix:=[none,some 1]) M (fun _=>⟨rfl,by kernel_rfl⟩) (zBP M (jZ 0)) (zAj 0 (hN:=fun _=>(by show (["place","other"]:List Str).Nodup; decide +kernel))) zBs (zAC M.comp (jZ 1) (jZ 0)) (hix:=hix0)) jY)))
noncomputable def zD3:DE:=dIndex (jV 1) (jW (jV 0) qQ)
abbrev zIL:Stmt:=top 29
theorem zO1:FnScope ["turning"] ["turning"] (defScope zIL):=by walk_at "s"
noncomputable def d_20:DS:=dRet (dCB tupleS (jW (dComp none [none,some 0] (dRng1 (jW (dCB lenS (jW (jV 0) qQ)) qQ)) (gdName 0) dYes (zD3)) qQ))
noncomputable def F_20:DF:=fnD none 1 1 d_20
theorem zPH{f:Addr}{fd:AZ}(Fn:Fun K "back" "back" zIL f fd)(hm:mg "back"=some (.ref f))(hb:Binds K fd ["turning"] [])(z_len:mg "len"=none)(z_range:mg "range"=none)(z_tuple:mg "tuple"=none):FD P wd K mg base (1) "back" none 1 F_20 :=
 zAO (k:=0) Fn zO1 hm hb fun cdv A outer s H E M B=>zAD (zAF (zBH M (zBK M) z_tuple DV (jQ (zBY none (N':=["place","turning"]) (ix:=[none,some 0]) M (fun _=>⟨rfl,by kernel_rfl⟩) (zC3 M z_range (jQ (zAc M (zAm M) z_len BC (jQ (jZ 0) jY)) jY)) (zAj 0 (hN:=fun _=>(by show (["place","turning"]:List Str).Nodup; decide +kernel))) zBs (zKU M.comp (jZ 1) (jQ (jZ 0) jY)) (hix:=hix0)) jY)))
abbrev zIE:Stmt:=top 31
theorem zOi:FnScope ["a","b"] ["a","b"] (defScope zIE):=by walk_at "s"
noncomputable def d_21:DS:=dRet (dCall none F_19 [] (jW (dCall none F_19 [] (jW (jV 0) (jW (jV 1) qQ))) (jW (dCall none F_19 [] (jW (dCall none F_20 [] (jW (jV 0) qQ)) (jW (dCall none F_20 [] (jW (jV 1) qQ)) qQ))) qQ)))
noncomputable def F_21:DF:=fnD none 2 2 d_21
theorem zOY{f:Addr}{fd:AZ}(Fn:Fun K "there_back" "there_back" zIE f fd)(hm:mg "there_back"=some (.ref f))(hb:Binds K fd ["a","b"] [])(D_19:FD P wd K mg base (1) "then" none 2 F_19)(D_20:FD P wd K mg base (1) "back" none 1 F_20):FD P wd K mg base (2) "there_back" none 2 F_21 :=
 zAO (k:=1) Fn zOi hm hb fun cdv A outer s H E M B=>zAD (zAF (zAB M B D_19 (jQ (zAB M B D_19 (jQ (jZ 0) (jQ (jZ 1) jY))) (jQ (zAB M B D_19 (jQ (zAB M B D_20 (jQ (jZ 0) jY)) (jQ (zAB M B D_20 (jQ (jZ 1) jY)) jY))) jY))))
abbrev zHN:Stmt:=top 30
theorem zO4:FnScope ["turning","by"] ["turning","by"] (defScope zHN):=by walk_at "s"
noncomputable def d_22:DS:=dRet (dCall none F_19 [] (jW (dCall none F_19 [] (jW (dCall none F_20 [] (jW (jV 1) qQ)) (jW (jV 0) qQ))) (jW (jV 1) qQ)))
noncomputable def F_22:DF:=fnD none 2 2 d_22
theorem zN9{f:Addr}{fd:AZ}(Fn:Fun K "about" "about" zHN f fd)(hm:mg "about"=some (.ref f))(hb:Binds K fd ["turning","by"] [])(D_19:FD P wd K mg base (1) "then" none 2 F_19)(D_20:FD P wd K mg base (1) "back" none 1 F_20):FD P wd K mg base (2) "about" none 2 F_22 :=
 zAO (k:=1) Fn zO4 hm hb fun cdv A outer s H E M B=>zAD (zAF (zAB M B D_19 (jQ (zAB M B D_19 (jQ (zAB M B D_20 (jQ (jZ 1) jY)) (jQ (jZ 0) jY))) (jQ (jZ 1) jY))))
abbrev zHi:Stmt:=top 36
theorem zLN:FnScope ["ring","by"] ["ring"] (defScope zHi):=by walk_at "s"
noncomputable def d_23:DS:=dSeq (dSet 1 (dCall none F_18 [] (jW (dCall none F_21 [] (jW (dK zBo) (jW (dK zB6) qQ))) (jW (jV 0) qQ))))
 (dRet (dTup (jW (dCall none F_22 [] (jW (dK zBo) (jW (jV 1) qQ))) (jW (dCall none F_22 [] (jW (dK zB6) (jW (jV 1) qQ))) qQ))))
noncomputable def F_23:DF:=fnD none 1 2 d_23
theorem zOH{f:Addr}{fd:AZ}(Fn:Fun K "apart" "apart" zHi f fd)(hm:mg "apart"=some (.ref f))(hb:Binds K fd ["ring"] [])(k_OVER:KV K mg "OVER" zB6)(k_THERE:KV K mg "THERE" zBo)(D_18:FD P wd K mg base (3) "leading" none 2 F_18)(D_21:FD P wd K mg base (2) "there_back" none 2 F_21)(D_22:FD P wd K mg base (2) "about" none 2 F_22):FD P wd K mg base (4) "apart" none 1 F_23 :=
 zAO (k:=3) Fn zLN hm hb fun cdv A outer s H E M B=>zAA (zAG 1 (zAB M B D_18 (jQ (zAB M B D_21 (jQ (ex_k zBo M k_THERE) (jQ (ex_k zB6 M k_OVER) jY))) (jQ (jZ 0) jY))) (hN:=fun _=>zLN.nd))
 (zAD (zAF (zAH (jQ (zAB M B D_22 (jQ (ex_k zBo M k_THERE) (jQ (jZ 1) jY))) (jQ (zAB M B D_22 (jQ (ex_k zB6 M k_OVER) (jQ (jZ 1) jY))) jY)))))
abbrev zHE:Stmt:=top 39
theorem zDk:FnScope ["piece","saying","ring","pair","there"] ["piece"] (defScope zHE):=by walk_at "s"
noncomputable def d_24:DS:=dSeq (dSet 1 (dOp ixS (jV 0) (dC (.int 0))))
 (dSeq (dSet 2 (dOp ixS (jV 0) (dC (.int 1))))
 (dSeq (dIf (dTest (dOp eqS (dOp ixS (jV 1) (dC (.int 0))) (dC (.str "not")))) (dRet (dLst (jW (dTup (jW (dOp ixS (jV 1) (dC (.int 1))) (jW (dCall none F_20 [] (jW (jV 2) qQ)) qQ))) qQ))) dNext)
 (dSeq (dIf (dTest (dOp eqS (dOp ixS (jV 1) (dC (.int 0))) (dC (.str "and")))) (dSeq (dSet 3 (dCall none F_23 [] (jW (jV 2) qQ)))
 (dSeq (dSet 4 (dLst (jW (dTup (jW (dOp ixS (jV 1) (dC (.int 1))) (jW (dOp ixS (jV 3) (dC (.int 0))) qQ))) (jW (dTup (jW (dOp ixS (jV 1) (dC (.int 2))) (jW (dOp ixS (jV 3) (dC (.int 1))) qQ))) qQ))))
 (dRet (dOp addS (jV 4) (dLst (jW (dTup (jW (dOp ixS (jV 1) (dC (.int 1))) (jW (dCall none F_20 [] (jW (dOp ixS (jV 3) (dC (.int 0))) qQ)) qQ))) (jW (dTup (jW (dOp ixS (jV 1) (dC (.int 2))) (jW (dCall none F_20 [] (jW (dOp ixS (jV 3) (dC (.int 1))) qQ)) qQ))) qQ))))))) dNext)
 (dRet (dLst qQ)))))
noncomputable def F_24:DF:=fnD none 1 5 d_24
theorem zO5{f:Addr}{fd:AZ}(Fn:Fun K "pieces_in" "pieces_in" zHE f fd)(hm:mg "pieces_in"=some (.ref f))(hb:Binds K fd ["piece"] [])(D_20:FD P wd K mg base (1) "back" none 1 F_20)(D_23:FD P wd K mg base (4) "apart" none 1 F_23):FD P wd K mg base (5) "pieces_in" none 1 F_24 :=
 zAO (k:=4) Fn zDk hm hb fun cdv A outer s H E M B=>zAA (zAG 1 (zAC M (jZ 0) jJ) (hN:=fun _=>zDk.nd))
 (zAA (zAG 2 (zAC M (jZ 0) jJ) (hN:=fun _=>zDk.nd))
 (zAA (zAN (tx_c (zAa M) (zAC M (jZ 1) jJ) zAI) (zAD (zAF (zAZ (jQ (zAH (jQ (zAC M (jZ 1) jJ) (jQ (zAB M B D_20 (jQ (jZ 2) jY)) jY))) jY)))) zAL)
 (zAA (zAN (tx_c (zAa M) (zAC M (jZ 1) jJ) zAI) (zAA (zAG 3 (zAB M B D_23 (jQ (jZ 2) jY)) (hN:=fun _=>zDk.nd))
 (zAA (zAG 4 (zAZ (jQ (zAH (jQ (zAC M (jZ 1) jJ) (jQ (zAC M (jZ 3) jJ) jY))) (jQ (zAH (jQ (zAC M (jZ 1) jJ) (jQ (zAC M (jZ 3) jJ) jY))) jY))) (hN:=fun _=>zDk.nd))
 (zAD (zAF (zAK M (jZ 4) (zAZ (jQ (zAH (jQ (zAC M (jZ 1) jJ) (jQ (zAB M B D_20 (jQ (zAC M (jZ 3) jJ) jY)) jY))) (jQ (zAH (jQ (zAC M (jZ 1) jJ) (jQ (zAB M B D_20 (jQ (zAC M (jZ 3) jJ) jY)) jY))) jY)))))))) zAL)
 (zAD (zAF (zAZ jY))))))
noncomputable def zLf:DT:=dTru (jV 3)
noncomputable def zMG:DS:=dSeq (dSet 4 (dMut 3 hPop qQ))
 (dSeq (dDrop (dMut 2 hAppend (jW (jV 4) qQ)))
 (dDrop (dMut 3 hExtend (jW (dLRev (jW (dCallV 1 [("inner",1,F_17),("pieces_in",1,F_24)] (jW (jV 4) qQ)) qQ)) qQ))))
abbrev zG9:Stmt:=top 15
theorem zE6:FnScope ["whole","inside_of","found","rest","part"] ["whole","inside_of"] (defScope zG9):=by walk_at "s"
noncomputable def d_25:DS:=dSeq (dSet 2 (dLst qQ))
 (dSeq (dSet 3 (dLst (jW (jV 0) qQ)))
 (dSeq (dWhile (zLf) (zMG) fuelX)
 (dRet (jV 2))))
noncomputable def F_25:DF:=fnD none 2 5 d_25
theorem zOt{f:Addr}{fd:AZ}(Fn:Fun K "all_within" "all_within" zG9 f fd)(hm:mg "all_within"=some (.ref f))(hb:Binds K fd ["whole","inside_of"] [])(z_list:mg "list"=none)(z_reversed:mg "reversed"=none)(D_17:FD P wd K mg base (1) "inner" none 1 F_17)(D_24:FD P wd K mg base (5) "pieces_in" none 1 F_24):FD P wd K mg base (6) "all_within" none 2 F_25 :=
 zAO (k:=5) Fn zE6 hm hb fun cdv A outer s H E M B=>zAA (zAG 2 (zAZ jY) (hN:=fun _=>zE6.nd))
 (zAA (zAG 3 (zAZ (jQ (jZ 0) jY)) (hN:=fun _=>zE6.nd))
 (zAA (zBa fuelX (fun _=>Bk) (tx_v M (jZ 3)) (zAA (zAG 4 (zGa M DQ DR (fun _=>zJE) zGz (pv' 3)) (hN:=fun _=>zE6.nd))
 (zAA (zBb (zBV M Bs Bt (fun _=>zBN) zBE (pv' 2) (jQ (jZ 4) jY)))
 (zAD (zBb (zBV M PySem.F.slot_list_extend PySem.F.type_list_extend (fun _=>zIw) zHQ (pv' 3) (jQ (zMB M z_list z_reversed (jQ (zDP (k':=5) 1 M B (zBO D_17 (zBO D_24 (zGD))) (jQ (jZ 4) jY)) jY)) jY)))))))
 (zAD (zAF (jZ 2)))))
abbrev zH1:Stmt:=top 20
theorem zLQ:FnScope ["part","inside","word"] ["part","inside"] (defScope zH1):=by walk_at "s"
noncomputable def d_26:DS:=dSeq (dSet 2 (dOp ixS (jV 0) (dC (.int 0))))
 (dSeq (dIf (dTest (dOp eqS (jV 2) (dC (.str "not")))) (dRet (dOp ixS (jV 1) (dC (.int 0)))) dNext)
 (dSeq (dIf (dTest (dOp (inS false) (jV 2) (dTup (jW (dC (.str "and")) (jW (dC (.str "or")) qQ))))) (dRet (dOp mulS (dC (.int 2)) (dOp addS (dOp ixS (jV 1) (dC (.int 0))) (dOp ixS (jV 1) (dC (.int 1)))))) dNext)
 (dSeq (dIf (dTest (dOp eqS (jV 2) (dC (.str "either")))) (dRet (dOp mulS (dC (.int 8)) (dOp addS (dOp ixS (jV 1) (dC (.int 0))) (dOp ixS (jV 1) (dC (.int 1)))))) dNext)
 (dSeq (dIf (dTest (dOp eqS (jV 2) (dC (.str "most")))) (dRet (dOp addS (dOp mulS (dC (.int 12)) (dOp addS (dOp ixS (jV 1) (dC (.int 0))) (dOp ixS (jV 1) (dC (.int 1))))) (dOp mulS (dC (.int 4)) (dOp ixS (jV 1) (dC (.int 2)))))) dNext)
 (dRet (dC (.int 1)))))))
noncomputable def F_26:DF:=fnD none 2 3 d_26
theorem zPG{f:Addr}{fd:AZ}(Fn:Fun K "weight_of" "weight_of" zH1 f fd)(hm:mg "weight_of"=some (.ref f))(hb:Binds K fd ["part","inside"] []) :FD P wd K mg base (1) "weight_of" none 2 F_26 :=
 zAO (k:=0) Fn zLQ hm hb fun cdv A outer s H E M B=>zAA (zAG 2 (zAC M (jZ 0) jJ) (hN:=fun _=>zLQ.nd))
 (zAA (zAN (tx_c (zAa M) (jZ 2) zAI) (zAD (zAF (zAC M (jZ 1) jJ))) zAL)
 (zAA (zAN (tx_c (zHP M) (jZ 2) (zAH (jQ zAI (jQ zAI jY)))) (zAD (zAF (zAt jJ (zAK M (zAC M (jZ 1) jJ) (zAC M (jZ 1) jJ))))) zAL)
 (zAA (zAN (tx_c (zAa M) (jZ 2) zAI) (zAD (zAF (zAt jJ (zAK M (zAC M (jZ 1) jJ) (zAC M (jZ 1) jJ))))) zAL)
 (zAA (zAN (tx_c (zAa M) (jZ 2) zAI) (zAD (zAF (zAK M (zAt jJ (zAK M (zAC M (jZ 1) jJ) (zAC M (jZ 1) jJ))) (zAt jJ (zAC M (jZ 1) jJ))))) zAL)
 (zAD (zAF jJ))))))
abbrev zHm:Stmt:=top 23
theorem zOF:FnScope ["s","t"] ["s","t"] (defScope zHm):=by walk_at "s"
noncomputable def d_27:DS:=dRet (dTup (jW (dC (.str "not")) (jW (dTup (jW (dC (.str "and")) (jW (dTup (jW (dC (.str "not")) (jW (jV 0) qQ))) (jW (dTup (jW (dC (.str "not")) (jW (jV 1) qQ))) qQ)))) qQ)))
noncomputable def F_27:DF:=fnD none 2 2 d_27
theorem zOy{f:Addr}{fd:AZ}(Fn:Fun K "either_or_both" "either_or_both" zHm f fd)(hm:mg "either_or_both"=some (.ref f))(hb:Binds K fd ["s","t"] []) :FD P wd K mg base (1) "either_or_both" none 2 F_27 :=
 zAO (k:=0) Fn zOF hm hb fun cdv A outer s H E M B=>zAD (zAF (zAH (jQ zAI (jQ (zAH (jQ zAI (jQ (zAH (jQ zAI (jQ (jZ 0) jY))) (jQ (zAH (jQ zAI (jQ (jZ 1) jY))) jY)))) jY))))
abbrev zH3:Stmt:=top 24
theorem zCu:FnScope ["part","inside","word","s","t"] ["part","inside"] (defScope zH3):=by walk_at "s"
noncomputable def d_28:DS:=dSeq (dSet 2 (dOp ixS (jV 0) (dC (.int 0))))
 (dSeq (dIf (dTest (dOp (inS false) (jV 2) (dTup (jW (dC (.str "yes")) (jW (dC (.str "no")) (jW (dC (.str "ask")) qQ)))))) (dRet (jV 0)) dNext)
 (dSeq (dIf (dTest (dOp eqS (jV 2) (dC (.str "or")))) (dRet (dCall none F_27 [] (jW (dOp ixS (jV 1) (dC (.int 0))) (jW (dOp ixS (jV 1) (dC (.int 1))) qQ)))) dNext)
 (dSeq (dIf (dTest (dOp eqS (jV 2) (dC (.str "either")))) (dSeq (dSet 3 (dOp ixS (jV 1) (dC (.int 0))))
 (dSeq (dSet 4 (dOp ixS (jV 1) (dC (.int 1))))
 (dRet (dCall none F_27 [] (jW (dTup (jW (dC (.str "and")) (jW (jV 3) (jW (dTup (jW (dC (.str "not")) (jW (jV 4) qQ))) qQ)))) (jW (dTup (jW (dC (.str "and")) (jW (dTup (jW (dC (.str "not")) (jW (jV 3) qQ))) (jW (jV 4) qQ)))) qQ)))))) dNext)
 (dSeq (dIf (dTest (dOp eqS (jV 2) (dC (.str "most")))) (dSeq (dSet 3 (dOp ixS (jV 1) (dC (.int 0))))
 (dSeq (dSet 4 (dOp ixS (jV 1) (dC (.int 1))))
 (dRet (dCall none F_27 [] (jW (dTup (jW (dC (.str "and")) (jW (jV 3) (jW (jV 4) qQ)))) (jW (dTup (jW (dC (.str "and")) (jW (dOp ixS (jV 1) (dC (.int 2))) (jW (dCall none F_27 [] (jW (jV 3) (jW (jV 4) qQ))) qQ)))) qQ)))))) dNext)
 (dRet (dCB tupleS (jW (dOp addS (dLst (jW (jV 2) qQ)) (jV 1)) qQ)))))))
noncomputable def F_28:DF:=fnD none 2 5 d_28
theorem zPA{f:Addr}{fd:AZ}(Fn:Fun K "spelled_of" "spelled_of" zH3 f fd)(hm:mg "spelled_of"=some (.ref f))(hb:Binds K fd ["part","inside"] [])(z_tuple:mg "tuple"=none)(D_27:FD P wd K mg base (1) "either_or_both" none 2 F_27):FD P wd K mg base (2) "spelled_of" none 2 F_28 :=
 zAO (k:=1) Fn zCu hm hb fun cdv A outer s H E M B=>zAA (zAG 2 (zAC M (jZ 0) jJ) (hN:=fun _=>zCu.nd))
 (zAA (zAN (tx_c (zHP M) (jZ 2) (zAH (jQ zAI (jQ zAI (jQ zAI jY))))) (zAD (zAF (jZ 0))) zAL)
 (zAA (zAN (tx_c (zAa M) (jZ 2) zAI) (zAD (zAF (zAB M B D_27 (jQ (zAC M (jZ 1) jJ) (jQ (zAC M (jZ 1) jJ) jY))))) zAL)
 (zAA (zAN (tx_c (zAa M) (jZ 2) zAI) (zAA (zAG 3 (zAC M (jZ 1) jJ) (hN:=fun _=>zCu.nd))
 (zAA (zAG 4 (zAC M (jZ 1) jJ) (hN:=fun _=>zCu.nd))
 (zAD (zAF (zAB M B D_27 (jQ (zAH (jQ zAI (jQ (jZ 3) (jQ (zAH (jQ zAI (jQ (jZ 4) jY))) jY)))) (jQ (zAH (jQ zAI (jQ (zAH (jQ zAI (jQ (jZ 3) jY))) (jQ (jZ 4) jY)))) jY))))))) zAL)
 (zAA (zAN (tx_c (zAa M) (jZ 2) zAI) (zAA (zAG 3 (zAC M (jZ 1) jJ) (hN:=fun _=>zCu.nd))
 (zAA (zAG 4 (zAC M (jZ 1) jJ) (hN:=fun _=>zCu.nd))
 (zAD (zAF (zAB M B D_27 (jQ (zAH (jQ zAI (jQ (jZ 3) (jQ (jZ 4) jY)))) (jQ (zAH (jQ zAI (jQ (zAC M (jZ 1) jJ) (jQ (zAB M B D_27 (jQ (jZ 3) (jQ (jZ 4) jY))) jY)))) jY))))))) zAL)
 (zAD (zAF (zBH M (zBK M) z_tuple DV (jQ (zAK M (zAZ (jQ (jZ 2) jY)) (jZ 1)) jY))))))))
abbrev zHt:Stmt:=top 41
theorem zLO:FnScope ["steps","turning","last"] ["steps","turning"] (defScope zHt):=by walk_at "s"
noncomputable def d_29:DS:=dSeq (dSet 2 (dOp ixS (jV 0) (dUn negS (dC (.int 1)))))
 (dRet (dOp addS (dSl (jV 0) dNoPart (dPart (dUn negS (dC (.int 1))))) (dTup (jW (dTup (jW (dOp ixS (jV 2) (dC (.int 0))) (jW (dCall none F_19 [] (jW (dOp ixS (jV 2) (dC (.int 1))) (jW (jV 1) qQ))) (jW (dCall none F_19 [] (jW (dOp ixS (jV 2) (dC (.int 2))) (jW (jV 1) qQ))) qQ)))) qQ))))
noncomputable def F_29:DF:=fnD none 2 3 d_29
theorem zOn{f:Addr}{fd:AZ}(Fn:Fun K "last_followed" "last_followed" zHt f fd)(hm:mg "last_followed"=some (.ref f))(hb:Binds K fd ["steps","turning"] [])(D_19:FD P wd K mg base (1) "then" none 2 F_19):FD P wd K mg base (2) "last_followed" none 2 F_29 :=
 zAO (k:=1) Fn zLO hm hb fun cdv A outer s H E M B=>zAA (zAG 2 (zAC M (jZ 0) (zB1 jJ)) (hN:=fun _=>zLO.nd))
 (zAD (zAF (zAK M (zA8 M (jZ 0) zAr (zAp (zB1 jJ))) (zAH (jQ (zAH (jQ (zAC M (jZ 2) jJ) (jQ (zAB M B D_19 (jQ (zAC M (jZ 2) jJ) (jQ (jZ 1) jY))) (jQ (zAB M B D_19 (jQ (zAC M (jZ 2) jJ) (jQ (jZ 1) jY))) jY)))) jY)))))
abbrev zHf:Stmt:=top 27
theorem zO6:FnScope ["cups"] ["cups"] (defScope zHf):=by walk_at "s"
noncomputable def d_30:DS:=dRet (dTupRng (jW (jV 0) qQ))
noncomputable def F_30:DF:=fnD none 1 1 d_30
theorem zOC{f:Addr}{fd:AZ}(Fn:Fun K "still" "still" zHf f fd)(hm:mg "still"=some (.ref f))(hb:Binds K fd ["cups"] [])(z_range:mg "range"=none)(z_tuple:mg "tuple"=none):FD P wd K mg base (1) "still" none 1 F_30 :=
 zAO (k:=0) Fn zO6 hm hb fun cdv A outer s H E M B=>zAD (zAF (zIb M z_tuple z_range (jQ (jZ 0) jY)))
abbrev zHO:Stmt:=top 40
theorem zLL:FnScope ["saying","ring","turning"] ["saying","ring"] (defScope zHO):=by walk_at "s"
noncomputable def d_31:DS:=dSeq (dIf (dTest (dOp eqS (dOp ixS (jV 0) (dC (.int 0))) (dC (.str "ask")))) (dRet (dTup (jW (dOp ixS (jV 0) (dC (.int 1))) (jW (jV 1) (jW (dCall none F_30 [] (jW (dC (.int 5)) qQ)) qQ))))) dNext)
 (dSeq (dSet 2 (dIfE (dTest (dOp eqS (dOp ixS (jV 0) (dC (.int 0))) (dC (.str "yes")))) (jV 1) (dCall none F_30 [] (jW (dC (.int 5)) qQ))))
 (dRet (dTup (jW (dC (.int 0)) (jW (jV 2) (jW (jV 2) qQ))))))
noncomputable def F_31:DF:=fnD none 2 3 d_31
theorem zOR{f:Addr}{fd:AZ}(Fn:Fun K "bare_step" "bare_step" zHO f fd)(hm:mg "bare_step"=some (.ref f))(hb:Binds K fd ["saying","ring"] [])(D_30:FD P wd K mg base (1) "still" none 1 F_30):FD P wd K mg base (2) "bare_step" none 2 F_31 :=
 zAO (k:=1) Fn zLL hm hb fun cdv A outer s H E M B=>zAA (zAN (tx_c (zAa M) (zAC M (jZ 0) jJ) zAI) (zAD (zAF (zAH (jQ (zAC M (jZ 0) jJ) (jQ (jZ 1) (jQ (zAB M B D_30 (jQ jJ jY)) jY)))))) zAL)
 (zAA (zAG 2 (zLT (tx_c (zAa M) (zAC M (jZ 0) jJ) zAI) (jZ 1) (zAB M B D_30 (jQ jJ jY))) (hN:=fun _=>zLL.nd))
 (zAD (zAF (zAH (jQ jJ (jQ (jZ 2) (jQ (jZ 2) jY)))))))
abbrev zHg:Stmt:=top 42
theorem zLY:FnScope ["piece","inside","word"] ["piece","inside"] (defScope zHg):=by walk_at "s"
noncomputable def d_32:DS:=dSeq (dSet 2 (dOp ixS (dOp ixS (jV 0) (dC (.int 0))) (dC (.int 0))))
 (dSeq (dIf (dTest (dOp eqS (jV 2) (dC (.str "not")))) (dRet (dCall none F_29 [] (jW (dOp ixS (jV 1) (dC (.int 0))) (jW (dOp ixS (jV 0) (dC (.int 1))) qQ)))) dNext)
 (dSeq (dIf (dTest (dOp eqS (jV 2) (dC (.str "and")))) (dRet (dOp addS (dOp addS (dOp addS (dOp ixS (jV 1) (dC (.int 0))) (dOp ixS (jV 1) (dC (.int 1)))) (dOp ixS (jV 1) (dC (.int 2)))) (dOp ixS (jV 1) (dC (.int 3))))) dNext)
 (dRet (dTup (jW (dCall none F_31 [] (jW (dOp ixS (jV 0) (dC (.int 0))) (jW (dOp ixS (jV 0) (dC (.int 1))) qQ))) qQ)))))
noncomputable def F_32:DF:=fnD none 2 3 d_32
theorem zOV{f:Addr}{fd:AZ}(Fn:Fun K "steps_of" "steps_of" zHg f fd)(hm:mg "steps_of"=some (.ref f))(hb:Binds K fd ["piece","inside"] [])(D_29:FD P wd K mg base (2) "last_followed" none 2 F_29)(D_31:FD P wd K mg base (2) "bare_step" none 2 F_31):FD P wd K mg base (3) "steps_of" none 2 F_32 :=
 zAO (k:=2) Fn zLY hm hb fun cdv A outer s H E M B=>zAA (zAG 2 (zAC M (zAC M (jZ 0) jJ) jJ) (hN:=fun _=>zLY.nd))
 (zAA (zAN (tx_c (zAa M) (jZ 2) zAI) (zAD (zAF (zAB M B D_29 (jQ (zAC M (jZ 1) jJ) (jQ (zAC M (jZ 0) jJ) jY))))) zAL)
 (zAA (zAN (tx_c (zAa M) (jZ 2) zAI) (zAD (zAF (zAK M (zAK M (zAK M (zAC M (jZ 1) jJ) (zAC M (jZ 1) jJ)) (zAC M (jZ 1) jJ)) (zAC M (jZ 1) jJ)))) zAL)
 (zAD (zAF (zAH (jQ (zAB M B D_31 (jQ (zAC M (jZ 0) jJ) (jQ (zAC M (jZ 0) jJ) jY))) jY))))))
noncomputable def zG2:DE:=dOp ixS (jV 0) (dC (.int 0))
abbrev zHe:Stmt:=top 45
theorem zCt:FnScope ["piece","inside","pair","i","j","k","papers"] ["piece","inside"] (defScope zHe):=by walk_at "s"
noncomputable def d_33:DS:=dSeq (dIf (dTest (dOp eqS (dOp ixS (dOp ixS (jV 0) (dC (.int 0))) (dC (.int 0))) (dC (.str "not")))) (dRet (dTup (jW (dTup (jW (dC (.str "not")) (jW (dOp ixS (dOp ixS (jV 1) (dC (.int 0))) (dC (.int 0))) qQ))) (jW (dOp ixS (dOp ixS (jV 1) (dC (.int 0))) (dC (.int 1))) qQ)))) dNext)
 (dSeq (dIf (dTest (dOp eqS (dOp ixS (dOp ixS (jV 0) (dC (.int 0))) (dC (.int 0))) (dC (.str "and")))) (dSeq (dSet 2 (dCall none F_23 [] (jW (dOp ixS (jV 0) (dC (.int 1))) qQ)))
 (dSeq (dSet 3 (dOp ixS (dOp ixS (jV 1) (dC (.int 0))) (dC (.int 1))))
 (dSeq (dSet 4 (dOp addS (jV 3) (dOp ixS (dOp ixS (jV 1) (dC (.int 1))) (dC (.int 1)))))
 (dSeq (dSet 5 (dOp addS (jV 4) (dOp ixS (dOp ixS (jV 1) (dC (.int 2))) (dC (.int 1)))))
 (dSeq (dSet 6 (dCB tupleS (jW (dComp none [none] (dSeqI (jV 1)) (gdName 0) dYes (zG2)) qQ)))
 (dRet (dTup (jW (dOp addS (dTup (jW (dC (.str "and")) (jW (jV 3) (jW (jV 4) (jW (jV 5) (jW (dOp ixS (jV 2) (dC (.int 0))) (jW (dOp ixS (jV 2) (dC (.int 1))) qQ))))))) (jV 6)) (jW (dOp addS (jV 5) (dOp ixS (dOp ixS (jV 1) (dC (.int 3))) (dC (.int 1)))) qQ))))))))) dNext)
 (dRet (dTup (jW (dTup (jW (dC (.str "step")) qQ)) (jW (dC (.int 1)) qQ)))))
noncomputable def F_33:DF:=fnD none 2 7 d_33
theorem zO2{f:Addr}{fd:AZ}(Fn:Fun K "paper_of" "paper_of" zHe f fd)(hm:mg "paper_of"=some (.ref f))(hb:Binds K fd ["piece","inside"] [])(z_tuple:mg "tuple"=none)(D_23:FD P wd K mg base (4) "apart" none 1 F_23):FD P wd K mg base (5) "paper_of" none 2 F_33 :=
 zAO (k:=4) Fn zCt hm hb fun cdv A outer s H E M B=>zAA (zAN (tx_c (zAa M) (zAC M (zAC M (jZ 0) jJ) jJ) zAI) (zAD (zAF (zAH (jQ (zAH (jQ zAI (jQ (zAC M (zAC M (jZ 1) jJ) jJ) jY))) (jQ (zAC M (zAC M (jZ 1) jJ) jJ) jY))))) zAL)
 (zAA (zAN (tx_c (zAa M) (zAC M (zAC M (jZ 0) jJ) jJ) zAI) (zAA (zAG 2 (zAB M B D_23 (jQ (zAC M (jZ 0) jJ) jY)) (hN:=fun _=>zCt.nd))
 (zAA (zAG 3 (zAC M (zAC M (jZ 1) jJ) jJ) (hN:=fun _=>zCt.nd))
 (zAA (zAG 4 (zAK M (jZ 3) (zAC M (zAC M (jZ 1) jJ) jJ)) (hN:=fun _=>zCt.nd))
 (zAA (zAG 5 (zAK M (jZ 4) (zAC M (zAC M (jZ 1) jJ) jJ)) (hN:=fun _=>zCt.nd))
 (zAA (zAG 6 (zBH M (zBK M) z_tuple DV (jQ (zBY none (N':=["told"]) (ix:=[none]) M (fun _=>⟨rfl,by kernel_rfl⟩) (zBP M (jZ 1)) (zAj 0 (hN:=fun _=>(by show (["told"]:List Str).Nodup; decide +kernel))) zBs (zAC M.comp (jZ 0) jJ) (hix:=hix0)) jY)) (hN:=fun _=>zCt.nd))
 (zAD (zAF (zAH (jQ (zAK M (zAH (jQ zAI (jQ (jZ 3) (jQ (jZ 4) (jQ (jZ 5) (jQ (zAC M (jZ 2) jJ) (jQ (zAC M (jZ 2) jJ) jY))))))) (jZ 6)) (jQ (zAK M (jZ 5) (zAC M (zAC M (jZ 1) jJ) jJ)) jY)))))))))) zAL)
 (zAD (zAF (zAH (jQ (zAH (jQ zAI jY)) (jQ jJ jY))))))
noncomputable def zMj:DE:=dMut 1 hPop qQ
noncomputable def zMo:DS:=dSeq (dSet 5 (dComp (some (1,3)) [none,some 3] (dSeqI (dCallV 1 [("inner",1,F_17),("pieces_in",1,F_24)] (jW (jV 4) qQ))) (gdName 0) dYes (zMj)))
 (dDrop (dMut 3 hAppend (jW (dCallV 2 [("weight_of",2,F_26),("spelled_of",2,F_28),("steps_of",2,F_32),("paper_of",2,F_33)] (jW (jV 4) (jW (jV 5) qQ))) qQ)))
abbrev zHo:Stmt:=top 16
theorem zE5:FnScope ["whole","inside_of","put","told","part","inside"] ["whole","inside_of","put"] (defScope zHo):=by walk_at "s"
noncomputable def d_34:DS:=dSeq (dSet 3 (dLst qQ))
 (dSeq (dFor none (dRevL (jW (dCall none F_25 [] (jW (jV 0) (jW (jV 1) qQ))) qQ)) (gdName 4) (zMo))
 (dRet (dOp ixS (jV 3) (dC (.int 0)))))
noncomputable def F_34:DF:=fnD none 3 6 d_34
theorem zOZ{f:Addr}{fd:AZ}(Fn:Fun K "fold_within" "fold_within" zHo f fd)(hm:mg "fold_within"=some (.ref f))(hb:Binds K fd ["whole","inside_of","put"] [])(z_reversed:mg "reversed"=none)(D_17:FD P wd K mg base (1) "inner" none 1 F_17)(D_24:FD P wd K mg base (5) "pieces_in" none 1 F_24)(D_25:FD P wd K mg base (6) "all_within" none 2 F_25)(D_26:FD P wd K mg base (1) "weight_of" none 2 F_26)(D_28:FD P wd K mg base (2) "spelled_of" none 2 F_28)(D_32:FD P wd K mg base (3) "steps_of" none 2 F_32)(D_33:FD P wd K mg base (5) "paper_of" none 2 F_33):FD P wd K mg base (7) "fold_within" none 3 F_34 :=
 zAO (k:=6) Fn zE5 hm hb fun cdv A outer s H E M B=>zAA (zAG 3 (zAZ jY) (hN:=fun _=>zE5.nd))
 (zAA (zDt M (fun _=>Bk) (zL6 M z_reversed (jQ (zAB M B D_25 (jQ (jZ 0) (jQ (jZ 1) jY))) jY)) (zAj 4 (hN:=fun _=>zE5.nd)) (zAA (zD6 5 (some (1,3)) (N':=["one","told"]) (ix:=[none,some 3]) M (fun _=>⟨rfl,by kernel_rfl⟩) (zBP M (zDP (k':=5) 1 M B (zBO D_17 (zBO D_24 (zGD))) (jQ (jZ 4) jY))) (zAj 0 (hN:=fun _=>(by show (["one","told"]:List Str).Nodup; decide +kernel))) zBs (zGa M.comp DQ DR (fun _=>zJE) zGz (pv' 1)) (hix:=hix1 (by decide)) (hN:=fun _=>zE5.nd))
 (zAD (zBb (zBV M Bs Bt (fun _=>zBN) zBE (pv' 3) (jQ (zDP (k':=5) 2 M B (zBO D_26 (zBO D_28 (zBO D_32 (zBO D_33 (zGD))))) (jQ (jZ 4) (jQ (jZ 5) jY))) jY))))))
 (zAD (zAF (zAC M (jZ 3) jJ))))
abbrev zH5:Stmt:=top 19
theorem zO7:FnScope ["saying","put"] ["saying","put"] (defScope zH5):=by walk_at "s"
noncomputable def d_35:DS:=dRet (dCall none F_34 [] (jW (jV 0) (jW (dFn "inner") (jW (jV 1) qQ))))
noncomputable def F_35:DF:=fnD none 2 2 d_35
theorem zOr{f:Addr}{fd:AZ}(Fn:Fun K "folded" "folded" zH5 f fd)(hm:mg "folded"=some (.ref f))(hb:Binds K fd ["saying","put"] [])(n_inner:NK K mg "inner")(D_34:FD P wd K mg base (7) "fold_within" none 3 F_34):FD P wd K mg base (8) "folded" none 2 F_35 :=
 zAO (k:=7) Fn zO7 hm hb fun cdv A outer s H E M B=>zAD (zAF (zAB M B D_34 (jQ (jZ 0) (jQ (zCE M n_inner) (jQ (jZ 1) jY)))))
abbrev zHl:Stmt:=top 21
theorem zOQ:FnScope ["saying"] ["saying"] (defScope zHl):=by walk_at "s"
noncomputable def d_36:DS:=dRet (dCall none F_35 [] (jW (jV 0) (jW (dFn "weight_of") qQ)))
noncomputable def F_36:DF:=fnD none 1 1 d_36
theorem zPK{f:Addr}{fd:AZ}(Fn:Fun K "weight" "weight" zHl f fd)(hm:mg "weight"=some (.ref f))(hb:Binds K fd ["saying"] [])(n_weight_of:NK K mg "weight_of")(D_35:FD P wd K mg base (8) "folded" none 2 F_35):FD P wd K mg base (9) "weight" none 1 F_36 :=
 zAO (k:=8) Fn zOQ hm hb fun cdv A outer s H E M B=>zAD (zAF (zAB M B D_35 (jQ (jZ 0) (jQ (zCE M n_weight_of) jY))))
abbrev zG8:Stmt:=top 38
theorem zOL:FnScope ["saying","ring","most"] ["saying","ring","most"] (defScope zG8):=by walk_at "s"
noncomputable def d_37:DS:=dSeq (dIf (dNot (dTru (dCall none F_16 [] (jW (jV 1) qQ)))) (dRaise0 "NoRing") dNext)
 (dIf (dTest (dOp gtS (dCall none F_36 [] (jW (jV 0) qQ)) (jV 2))) (dRaiseX "TooHeavy" ["weight"] (jW (dCall none F_36 [] (jW (jV 0) qQ)) qQ)) dNext)
noncomputable def F_37:DF:=fnD none 3 3 d_37
theorem zOz{f:Addr}{fd:AZ}(Fn:Fun K "look_at_making" "look_at_making" zG8 f fd)(hm:mg "look_at_making"=some (.ref f))(hb:Binds K fd ["saying","ring","most"] [])(D_16:FD P wd K mg base (4) "is_ring_of_five" none 1 F_16)(D_36:FD P wd K mg base (9) "weight" none 1 F_36)(x_TooHeavy:XC P wd K mg base 1 "TooHeavy" ["weight"])(y_NoRing:XC0 K mg "NoRing"):FX P wd K mg base (10) "look_at_making" 3 F_37 :=
 zOB (k:=9) Fn zOL hm hb fun cdv A outer s H E M B=>zCH (zI6 (zFR (tx_v M (zAB M B D_16 (jQ (jZ 1) jY)))) (zB8 (zIJ y_NoRing)) (zGY))
 (zB8 (zI6 (tx_c zBG (zAB M B D_36 (jQ (jZ 0) jY)) (jZ 2)) (zB8 (zI5 M x_TooHeavy (jQ (zAB M B D_36 (jQ (jZ 0) jY)) jY))) (zGY)))
abbrev zHK:Stmt:=top 25
theorem zOx:FnScope ["saying"] ["saying"] (defScope zHK):=by walk_at "s"
noncomputable def d_38:DS:=dRet (dCall none F_35 [] (jW (jV 0) (jW (dFn "spelled_of") qQ)))
noncomputable def F_38:DF:=fnD none 1 1 d_38
theorem zOJ{f:Addr}{fd:AZ}(Fn:Fun K "spelled" "spelled" zHK f fd)(hm:mg "spelled"=some (.ref f))(hb:Binds K fd ["saying"] [])(n_spelled_of:NK K mg "spelled_of")(D_35:FD P wd K mg base (8) "folded" none 2 F_35):FD P wd K mg base (9) "spelled" none 1 F_38 :=
 zAO (k:=8) Fn zOx hm hb fun cdv A outer s H E M B=>zAD (zAF (zAB M B D_35 (jQ (jZ 0) (jQ (zCE M n_spelled_of) jY))))
abbrev zCv:Stmt:=top 43
theorem zOM:FnScope ["saying","questions","ring","most"] ["saying","questions","ring","most"] (defScope zCv):=by walk_at "s"
noncomputable def d_39:DS:=dSeq (dDropX 3 F_37 (jW (jV 0) (jW (jV 2) (jW (jV 3) qQ))))
 (dN (dRet (dTup (jW (dC (.int 5)) (jW (jV 1) (jW (dCall none F_34 [] (jW (dTup (jW (dCall none F_38 [] (jW (jV 0) qQ)) (jW (jV 2) qQ))) (jW (dFn "pieces_in") (jW (dFn "steps_of") qQ)))) qQ))))))
noncomputable def F_39:DF:=fnD none 4 4 d_39
theorem zPD{pT f:Addr}{fd:AZ}{ds:List AB}(Fn:FunD K "made" "made" zCv pT f fd)(hm:mg "made"=some (.ref f))(hb:Binds K fd ["saying","questions","ring","most"] [])(hb2:Binds K fd ["saying","questions","ring","most"] ds)(hv:Vals [.int 128] ds)(n_pieces_in:NK K mg "pieces_in")(n_steps_of:NK K mg "steps_of")(D_34:FD P wd K mg base (7) "fold_within" none 3 F_34)(D_38:FD P wd K mg base (9) "spelled" none 1 F_38)(X_p_look_at_making:FX P wd K mg base (10) "look_at_making" 3 F_37):FX P wd K mg base (11) "made" 4 F_39/\FXd P wd K mg base (11) "made" 4 F_39 [.int 128] :=
 zJK (k:=10) Fn zOM hm hb hb2 hv fun cdv A outer s H E M B=>zCH (zKa M X_p_look_at_making (jQ (jZ 0) (jQ (jZ 2) (jQ (jZ 3) jY))))
 (zB8 (zCc (zAF (zAH (jQ jJ (jQ (jZ 1) (jQ (zAB M B D_34 (jQ (zAH (jQ (zAB M B D_38 (jQ (jZ 0) jY)) (jQ (jZ 2) jY))) (jQ (zCE M n_pieces_in) (jQ (zCE M n_steps_of) jY)))) jY)))))))
abbrev zH8:Stmt:=top 60
theorem zLP:FnScope ["_law_e","_law_others"] ["_law_e"] (defScope zH8):=by walk_at "s"
noncomputable def d_40:DS:=dSeq (dSet 1 (dCB (isXS csX mroX) (jW (jV 0) (jW (dTup (jW (dFn "BadText") (jW (dFn "NoDance") (jW (dFn "NoName") (jW (dFn "NoRow") (jW (dFn "OtherSizes") qQ)))))) qQ))))
 (dSeq (dIf (dOr (dTru (jV 1)) (dOr (dNot (dTru (dCB (isXS csX mroX) (jW (jV 0) (jW (dC (.ty "ValueError")) qQ))))) (dTest (dOp eqAS (dCB (isXS csX mroX) (jW (jV 0) (jW (dFn "NoRing") qQ))) (dCB (isXS csX mroX) (jW (jV 0) (jW (dFn "TooHeavy") qQ))))))) (dRet (dTup (jW (dC (.str "another refusal")) qQ))) dNext)
 (dSeq (dIf (dTru (dCB (isXS csX mroX) (jW (jV 0) (jW (dFn "NoRing") qQ)))) (dRet (dTup (jW (dC (.str "no ring")) qQ))) dNext)
 (dRet (dTup (jW (dC (.str "too heavy")) (jW (dGetX gkX "weight" (jV 0)) qQ))))))
noncomputable def F_40:DF:=fnD none 1 2 d_40
theorem zOu{f:Addr}{fd:AZ}(Fn:Fun K "_law_refused" "_law_refused" zH8 f fd)(hm:mg "_law_refused"=some (.ref f))(hb:Binds K fd ["_law_e"] [])(z_ValueError:mg "ValueError"=none)(z_XG:XGC K gkX=true)(z_XK:XKC K csX mroX=true)(z_isinstance:mg "isinstance"=none)(n_BadText:NK K mg "BadText")(n_NoDance:NK K mg "NoDance")(n_NoName:NK K mg "NoName")(n_NoRing:NK K mg "NoRing")(n_NoRow:NK K mg "NoRow")(n_OtherSizes:NK K mg "OtherSizes")(n_TooHeavy:NK K mg "TooHeavy"):FH P wd K mg base (1) "_law_refused" none 1 F_40 :=
 zOo (k:=0) Fn zLP hm hb fun cdv A outer s H E M=>zAA (zAG 1 (zCR M (zBz M z_XK) z_isinstance boot_isinstance (jQ (jZ 0) (jQ (zAH (jQ (zBe M n_BadText) (jQ (zBe M n_NoDance) (jQ (zBe M n_NoName) (jQ (zBe M n_NoRow) (jQ (zBe M n_OtherSizes) jY)))))) jY))) (hN:=fun _=>zLP.nd))
 (zAA (zAN (tx_w (zBi (zHS M (jZ 1)) (zBi (zFR (zHS M (zCR M (zBz M z_XK) z_isinstance boot_isinstance (jQ (jZ 0) (jQ (zNL M z_ValueError (by decide +kernel)) jY))))) (zB4 (tx_c zNU (zCR M (zBz M z_XK) z_isinstance boot_isinstance (jQ (jZ 0) (jQ (zBe M n_NoRing) jY))) (zCR M (zBz M z_XK) z_isinstance boot_isinstance (jQ (jZ 0) (jQ (zBe M n_TooHeavy) jY)))))))) (zAD (zAF (zAH (jQ zAI jY)))) zAL)
 (zAA (zAN (zHS M (zCR M (zBz M z_XK) z_isinstance boot_isinstance (jQ (jZ 0) (jQ (zBe M n_NoRing) jY)))) (zAD (zAF (zAH (jQ zAI jY)))) zAL)
 (zAD (zAF (zAH (jQ zAI (jQ (zKg M z_XG (jZ 0)) jY)))))))
abbrev zHv:Stmt:=top 61
theorem zLI:FnScope ["_law_saying_here","_law_ring_here","_law_most","_law_found","_law_e"] ["_law_saying_here","_law_ring_here","_law_most"] (defScope zHv):=by walk_at "s"
noncomputable def d_41:DS:=dSeq (dTryF 3 (dIfEX (dTest (dOp (isNoneS false) (jV 2) (dC .non))) (dCallXd 4 F_39 [.int 128] (jW (jV 0) (jW (dC (.int 10)) (jW (jV 1) qQ)))) (dCallX 4 F_39 (jW (jV 0) (jW (dC (.int 10)) (jW (jV 1) (jW (jV 2) qQ)))))) ["NoRing","TooHeavy"] 4 (dRet (dCall none F_40 [] (jW (jV 4) qQ))))
 (dRet (dOp ixS (dLst (jW (dTup (jW (dC (.str "too many steps")) qQ)) (jW (dTup (jW (dC (.str "made")) qQ)) qQ))) (dCB intS (jW (dChain ltS leS (dC (.int 0)) (dCB lenS (jW (dOp ixS (jV 3) (dC (.int 2))) qQ)) (dCall none (F_3 zAn) [] (jW (jV 0) qQ))) qQ))))
noncomputable def F_41:DF:=fnD none 3 5 d_41
theorem zOm{f:Addr}{fd:AZ}(Fn:Fun K "_law_heard" "_law_heard" zHv f fd)(hm:mg "_law_heard"=some (.ref f))(hb:Binds K fd ["_law_saying_here","_law_ring_here","_law_most"] [])(z_int:mg "int"=none)(z_len:mg "len"=none)(D_3:FD P wd K mg base (12) "_law_weight" none 1 (F_3 zAn))(D_40:FH P wd K mg base (1) "_law_refused" none 1 F_40)(cat_CupError_NoRing:Cat K mg "CupError" "NoRing")(cat_CupError_TooHeavy:Cat K mg "CupError" "TooHeavy")(X_p_made:FX P wd K mg base (11) "made" 4 F_39)(Xd_p_made:FXd P wd K mg base (11) "made" 4 F_39 [.int 128])(catx_CupError_p_made:CatX K mg "CupError" ["NoRing","TooHeavy"]):FD P wd K mg base (13) "_law_heard" none 3 F_41 :=
 zAO (k:=12) Fn zLI hm hb fun cdv A outer s H E M B=>zAA (zFl 3 4 M catx_CupError_p_made (tx_c zHk (jZ 2) zDv) (zEV M B Xd_p_made (jQ (jZ 0) (jQ jJ (jQ (jZ 1) jY)))) (zFa M B X_p_made (jQ (jZ 0) (jQ jJ (jQ (jZ 1) (jQ (jZ 2) jY))))) (zAD (zAF (zF8 (M.inn) (B.inn) D_40 (jQ (jZ 4) jY)))) (hN:=fun _=>zLI.nd))
 (zAD (zAF (zAC M (zAZ (jQ (zAH (jQ zAI jY)) (jQ (zAH (jQ zAI jY)) jY))) (zBH M (zCU) z_int (by decide +kernel) (jQ (zFr zBI zLU jJ (zAc M (zAm M) z_len BC (jQ (zAC M (jZ 3) jJ) jY)) (zAB M B D_3 (jQ (jZ 0) jY))) jY)))))
abbrev zCx:Stmt:=top 46
theorem zIG:FnScope ["saying","questions","ring","most","dance","paper"] ["saying","questions","ring","most"] (defScope zCx):=by walk_at "s"
noncomputable def d_42:DS:=dSeq (dSetX 4 (dCallX 4 F_39 (jW (jV 0) (jW (jV 1) (jW (jV 2) (jW (jV 3) qQ))))))
 (dSeq (dN (dSet 5 (dOp ixS (dCall none F_34 [] (jW (dTup (jW (dCall none F_38 [] (jW (jV 0) qQ)) (jW (jV 2) qQ))) (jW (dFn "pieces_in") (jW (dFn "paper_of") qQ)))) (dC (.int 0)))))
 (dN (dRet (dTup (jW (jV 4) (jW (jV 5) qQ))))))
noncomputable def F_42:DF:=fnD none 4 6 d_42
theorem zOv{pT f:Addr}{fd:AZ}{ds:List AB}(Fn:FunD K "made_with_paper" "made_with_paper" zCx pT f fd)(hm:mg "made_with_paper"=some (.ref f))(hb:Binds K fd ["saying","questions","ring","most"] [])(hb2:Binds K fd ["saying","questions","ring","most"] ds)(hv:Vals [.int 128] ds)(n_paper_of:NK K mg "paper_of")(n_pieces_in:NK K mg "pieces_in")(D_34:FD P wd K mg base (7) "fold_within" none 3 F_34)(D_38:FD P wd K mg base (9) "spelled" none 1 F_38)(X_p_made:FX P wd K mg base (11) "made" 4 F_39):FX P wd K mg base (12) "made_with_paper" 4 F_42/\FXd P wd K mg base (12) "made_with_paper" 4 F_42 [.int 128] :=
 zJK (k:=11) Fn zIG hm hb hb2 hv fun cdv A outer s H E M B=>zCH (zL8 4 (zJ9 M X_p_made (jQ (jZ 0) (jQ (jZ 1) (jQ (jZ 2) (jQ (jZ 3) jY))))) (hN:=fun _=>zIG.nd))
 (zCH (zCc (zAG 5 (zAC M (zAB M B D_34 (jQ (zAH (jQ (zAB M B D_38 (jQ (jZ 0) jY)) (jQ (jZ 2) jY))) (jQ (zCE M n_pieces_in) (jQ (zCE M n_paper_of) jY)))) jJ) (hN:=fun _=>zIG.nd)))
 (zB8 (zCc (zAF (zAH (jQ (jZ 4) (jQ (jZ 5) jY)))))))
abbrev zHb:Stmt:=top 62
theorem zLK:FnScope ["_law_saying_here","_law_ring_here","_law_most","_law_found","_law_e"] ["_law_saying_here","_law_ring_here","_law_most"] (defScope zHb):=by walk_at "s"
noncomputable def d_43:DS:=dSeq (dTryF 3 (dIfEX (dTest (dOp (isNoneS false) (jV 2) (dC .non))) (dCallXd 4 F_42 [.int 128] (jW (jV 0) (jW (dC (.int 10)) (jW (jV 1) qQ)))) (dCallX 4 F_42 (jW (jV 0) (jW (dC (.int 10)) (jW (jV 1) (jW (jV 2) qQ)))))) ["NoRing","TooHeavy"] 4 (dRet (dCall none F_40 [] (jW (jV 4) qQ))))
 (dRet (dOp ixS (dLst (jW (dTup (jW (dC (.str "too many steps")) qQ)) (jW (dTup (jW (dC (.str "made")) qQ)) qQ))) (dCB intS (jW (dChain ltS leS (dC (.int 0)) (dCB lenS (jW (dOp ixS (dOp ixS (jV 3) (dC (.int 0))) (dC (.int 2))) qQ)) (dCall none (F_3 zAn) [] (jW (jV 0) qQ))) qQ))))
noncomputable def F_43:DF:=fnD none 3 5 d_43
theorem zOk{f:Addr}{fd:AZ}(Fn:Fun K "_law_heard_with_paper" "_law_heard_with_paper" zHb f fd)(hm:mg "_law_heard_with_paper"=some (.ref f))(hb:Binds K fd ["_law_saying_here","_law_ring_here","_law_most"] [])(z_int:mg "int"=none)(z_len:mg "len"=none)(D_3:FD P wd K mg base (12) "_law_weight" none 1 (F_3 zAn))(D_40:FH P wd K mg base (1) "_law_refused" none 1 F_40)(cat_CupError_NoRing:Cat K mg "CupError" "NoRing")(cat_CupError_TooHeavy:Cat K mg "CupError" "TooHeavy")(X_p_made_with_paper:FX P wd K mg base (12) "made_with_paper" 4 F_42)(Xd_p_made_with_paper:FXd P wd K mg base (12) "made_with_paper" 4 F_42 [.int 128])(catx_CupError_p_made_with_paper:CatX K mg "CupError" ["NoRing","TooHeavy"]):FD P wd K mg base (13) "_law_heard_with_paper" none 3 F_43 :=
 zAO (k:=12) Fn zLK hm hb fun cdv A outer s H E M B=>zAA (zFl 3 4 M catx_CupError_p_made_with_paper (tx_c zHk (jZ 2) zDv) (zEV M B Xd_p_made_with_paper (jQ (jZ 0) (jQ jJ (jQ (jZ 1) jY)))) (zFa M B X_p_made_with_paper (jQ (jZ 0) (jQ jJ (jQ (jZ 1) (jQ (jZ 2) jY))))) (zAD (zAF (zF8 (M.inn) (B.inn) D_40 (jQ (jZ 4) jY)))) (hN:=fun _=>zLK.nd))
 (zAD (zAF (zAC M (zAZ (jQ (zAH (jQ zAI jY)) (jQ (zAH (jQ zAI jY)) jY))) (zBH M (zCU) z_int (by decide +kernel) (jQ (zFr zBI zLU jJ (zAc M (zAm M) z_len BC (jQ (zAC M (zAC M (jZ 3) jJ) jJ) jY)) (zAB M B D_3 (jQ (jZ 0) jY))) jY)))))
noncomputable def zBJ:DS:=dSeq (dSet 9 (dCB reprS (jW (dCall none F_8 [] (jW (jV 4) (jW (jV 7) (jW (dOp ixS (dLst (jW (jV 8) (jW (dC (.int 128)) qQ))) (dCB intS (jW (dOp (isNoneS false) (jV 8) (dC .non)) qQ))) qQ)))) qQ)))
 (dIf (dOr (dTest (dOp neS (dCB reprS (jW (dCall none F_41 [] (jW (jV 4) (jW (jV 7) (jW (jV 8) qQ)))) qQ)) (jV 9))) (dTest (dOp neS (dCB reprS (jW (dCall none F_43 [] (jW (jV 4) (jW (jV 7) (jW (jV 8) qQ)))) qQ)) (jV 9)))) (dRet (dC (.bl false))) dNext)
noncomputable def zBr:DS:=dSeq (dSet 3 (dCall none F_4 [] (jW (jV 0) (jW (jV 2) qQ))))
 (dSeq (dSet 4 (dCall (some 0) (F_1 zA2) [] (jW (jV 3) (jW (dC (.int 10)) (jW (dC (.int 24)) (jW (dC (.int 6)) qQ))))))
 (dSeq (dIf (dTest (dOp eqS (dCall (some 0) F_5 [] (jW (jV 3) (jW (dC (.int 2)) qQ))) (dC (.int 0)))) (dSet 4 (dCall (some 0) F_6 [] (jW (jV 3) (jW (dC (.int 10)) (jW (dC (.int 24)) (jW (dC (.int 60)) qQ)))))) dNext)
 (dSeq (dSet 5 (dCall none (F_3 zAn) [] (jW (jV 4) qQ)))
 (dSeq (dSet 6 (dLst (jW (dC .non) (jW (dC (.int 128)) (jW (dOp addS (dC (.int 1)) (dCall (some 0) F_5 [] (jW (jV 3) (jW (dC (.int 128)) qQ)))) (jW (dCB min2S (jW (dC (.int 128)) (jW (jV 5) qQ))) (jW (dCB max2S (jW (dC (.int 1)) (jW (dCB min2S (jW (dC (.int 128)) (jW (dOp subS (jV 5) (dC (.int 1))) qQ))) qQ))) qQ)))))))
 (dDrop (dMut 1 hAppend (jW (dTup (jW (jV 4) (jW (dCall (some 0) F_11 [] (jW (jV 3) qQ)) (jW (dOp ixS (jV 6) (dCall (some 0) F_5 [] (jW (jV 3) (jW (dC (.int 5)) qQ)))) qQ)))) qQ)))))))
abbrev zBS:Stmt:=top 63
theorem zA5:FnScope ["_law_script","_law_given","_law_k","_law_box_here","_law_saying_here","_law_great","_law_some","_law_ring_here","_law_most","_law_due_here"] ["_law_script"] (defScope zBS):=by walk_at "s"
noncomputable def zLV:DS:=dSeq (dSet 1 (dLst qQ))
 (dSeq (dFor none (dRng1 (jW (dOp addS (dC (.int 1)) (dCB lenS (jW (dSl (jV 0) dNoPart (dPart (dC (.int 4)))) qQ))) qQ)) (gdName 2) (zBr))
 (dSeq (dFor none (dSeqI (dOp addS (jV 1) (dSl (jV 1) dNoPart (dPart (dC (.int 1)))))) (gdTup 3 (gdCons (gdName 4) (gdCons (gdName 7) (gdCons (gdName 8) gdNil)))) (zBJ))
 (dRet (dC (.bl true)))))
noncomputable def zCC:DF:=fnD none 1 10 zLV
theorem zNQ{f:Addr}{fd:AZ}(Fn:Fun K "law" "law" zBS f fd)(z_int:mg "int"=none)(z_len:mg "len"=none)(z_max:mg "max"=none)(z_min:mg "min"=none)(z_range:mg "range"=none)(z_repr:mg "repr"=none)(D_4:FD P wd K mg base (1) "_law_box" none 2 F_4)(D_5:FD P wd K mg base (1) "_law_take" (some 0) 2 F_5)(D_1:FD P wd K mg base (13) "_law_saying" (some 0) 4 (F_1 zA2))(D_3:FD P wd K mg base (12) "_law_weight" none 1 (F_3 zAn))(D_6:FD P wd K mg base (26) "_law_light" (some 0) 4 F_6)(D_8:FD P wd K mg base (13) "_law_due" none 3 F_8)(D_11:FD P wd K mg base (3) "_law_aim" (some 0) 1 F_11)(D_41:FD P wd K mg base (13) "_law_heard" none 3 F_41)(D_43:FD P wd K mg base (13) "_law_heard_with_paper" none 3 F_43):FnOk P wd K mg base CX0 27 f fd ["_law_script"] (spD K none 1 zCC) :=
 zO0 (k:=26) Fn zA5 fun cdv A outer s H E M B=>zAA (zAG 1 (zAZ jY) (hN:=fun _=>zA5.nd))
 (zAA (zDt M (fun _=>Bk) (zC3 M z_range (jQ (zAK M jJ (zAc M (zAm M) z_len BC (jQ (zA8 M (jZ 0) zAr (zAp jJ)) jY))) jY)) (zAj 2 (hN:=fun _=>zA5.nd)) (zAA (zAG 3 (zAB M B D_4 (jQ (jZ 0) (jQ (jZ 2) jY))) (hN:=fun _=>zA5.nd))
 (zAA (zAG 4 (zAB M B D_1 (jQ (jZ 3) (jQ jJ (jQ jJ (jQ jJ jY))))) (hN:=fun _=>zA5.nd))
 (zAA (zAN (tx_c (zAa M) (zAB M B D_5 (jQ (jZ 3) (jQ jJ jY))) jJ) (zAD (zAG 4 (zAB M B D_6 (jQ (jZ 3) (jQ jJ (jQ jJ (jQ jJ jY))))) (hN:=fun _=>zA5.nd))) zAL)
 (zAA (zAG 5 (zAB M B D_3 (jQ (jZ 4) jY)) (hN:=fun _=>zA5.nd))
 (zAA (zAG 6 (zAZ (jQ zDv (jQ jJ (jQ (zAK M jJ (zAB M B D_5 (jQ (jZ 3) (jQ jJ jY)))) (jQ (zAc M (zGu M) z_min K7 (jQ jJ (jQ (jZ 5) jY))) (jQ (zAc M (zGi M) z_max boot_max (jQ jJ (jQ (zAc M (zGu M) z_min K7 (jQ jJ (jQ (zAW (jZ 5) jJ) jY))) jY))) jY)))))) (hN:=fun _=>zA5.nd))
 (zAD (zBb (zBV M Bs Bt (fun _=>zBN) zBE (pv' 1) (jQ (zAH (jQ (jZ 4) (jQ (zAB M B D_11 (jQ (jZ 3) jY)) (jQ (zAC M (jZ 6) (zAB M B D_5 (jQ (jZ 3) (jQ jJ jY)))) jY)))) jY))))))))))
 (zAA (zDt M (fun _=>Bk) (zBP M (zAK M (jZ 1) (zA8 M (jZ 1) zAr (zAp jJ)))) (zJt 3 M (zBu (zAj 4 (hN:=fun _=>zA5.nd)) (zBu (zAj 7 (hN:=fun _=>zA5.nd)) (zBu (zAj 8 (hN:=fun _=>zA5.nd)) zGn)))) (zAA (zAG 9 (zAc M (zEK M) z_repr KC (jQ (zAB M B D_8 (jQ (jZ 4) (jQ (jZ 7) (jQ (zAC M (zAZ (jQ (jZ 8) (jQ jJ jY))) (zBH M (zCU) z_int (by decide +kernel) (jQ (ex_c zHk (jZ 8) zDv) jY))) jY)))) jY)) (hN:=fun _=>zA5.nd))
 (zAD (zAN (tx_w (zBi (tx_c (zDe M) (zAc M (zEK M) z_repr KC (jQ (zAB M B D_41 (jQ (jZ 4) (jQ (jZ 7) (jQ (jZ 8) jY)))) jY)) (jZ 9)) (zB4 (tx_c (zDe M) (zAc M (zEK M) z_repr KC (jQ (zAB M B D_43 (jQ (jZ 4) (jQ (jZ 7) (jQ (jZ 8) jY)))) jY)) (jZ 9))))) (zAD (zAF zIA)) zAL))))
 (zAD (zAF zIA))))
noncomputable abbrev tb_1:Tb:=[("inner",1,F_17),("pieces_in",1,F_24)]
noncomputable abbrev tb_2:Tb:=[("weight_of",2,F_26),("spelled_of",2,F_28),("steps_of",2,F_32),("paper_of",2,F_33)]
end
theorem zMJ(a b w:Int)(h0:0 < w)(h1:w < 1073741824):∃ r a' b',0<=r/\r < w/\F_5 [.l [iT a,iT b],.v (iT w)]=some (.v (iT r),[iT a',iT b']):=by
 have h2:CDiv a w:=⟨h0,h1⟩
 by_cases h:0 < a
 ·refine⟨a % w,a / w,b,GT _ (by omega),Fc _ h0,?_⟩
  simp[F_5,fnD,d_5,h,h0,h2,ixN]
 ·refine⟨(b * 69623 % 2147483647 * 2147483647+((b * 69623 % 2147483647 * 48271+30103) % 2147483629+1)) / 8191 % w,a,(b * 69623 % 2147483647 * 48271+30103) % 2147483629+1,GT _ (by omega),Fc _ h0,?_⟩
  simp[F_5,fnD,d_5,h,h0,h2,ixN,CMul,CDiv]
theorem zAV(a b:Int)(w:Nat)(h0:0 < w)(h1:w<=1000000000):∃ (r:Nat) (a' b':Int),r < w/\F_5 [.l [iT a,iT b],.v (iT (w:Int))]=some (.v (iT (r:Int)),[iT a',iT b']):=by
 obtain⟨r,a',b',r0,r1,e⟩:=zMJ a b w (by omega) (by omega)
 obtain⟨n,rfl⟩:∃ n:Nat,r=n:=⟨r.toNat,by omega⟩
 exact⟨n,a',b',by omega,e⟩
theorem zNt(ns:List Int)(k:Int)(hk:0<=k)(hk1:k < 1000):∃ a b,F_4 [.k (intsT ns),.v (iT k)]=some (.l [iT a,iT b],[]):=by
 have hl:(intsT ns).length=ns.length:=by simp[intsT]
 have fin:∀ c:Int,∃ a,atI [T.a (V.int 0),T.a (V.int c)] (if (1000000000000000000:Int)<=c then 1 else 0)=some (iT a):=fun c=>by
  split
  ·exact⟨c,rfl⟩
  ·exact⟨0,rfl⟩
 have c1:CMul 7919 k:=.inl ⟨by decide,by decide⟩
 have c2:CMul 40692 k:=.inl ⟨by decide,by decide⟩
 have c3:∀ m:Int,CMul m 69623:=fun m=>.inr ⟨by decide,by decide⟩
 have c4:∀ m:Int,CMul m 48271:=fun m=>.inr ⟨by decide,by decide⟩
 have c5:CPow 10 18:=⟨by decide,by decide,by decide⟩
 by_cases h1:k < ns.length
 ·obtain⟨z,hz⟩:=zDT ns hk h1
  obtain⟨a,ha⟩:=fin z
  refine⟨a,(z % 2147483629 * 48271+40692 * k) % 2147483629+1,?_⟩
  simp[F_4,fnD,d_4,hl,h1,c1,c2,c3,c4,c5,hz,ha,gd,zEJ]
 ·by_cases h2:0 < ns.length
  ·obtain⟨z,hz⟩:=zDT ns (i:=k % ns.length) (GT _ (by omega)) (Fc _ (by omega))
   obtain⟨a,ha⟩:=fin (7919 * k+11+z % 2147483629 * 69623)
   refine⟨a,((7919 * k+11+z % 2147483629 * 69623) % 2147483629 * 48271+40692 * k) % 2147483629+1,?_⟩
   simp[F_4,fnD,d_4,hl,h1,h2,c1,c2,c3,c4,c5,hz,ha,gd,zEJ]
  ·obtain⟨a,ha⟩:=fin (7919 * k+11)
   refine⟨a,((7919 * k+11) % 2147483629 * 48271+40692 * k) % 2147483629+1,?_⟩
   simp[F_4,fnD,d_4,hl,h1,h2,c1,c2,c3,c4,c5,ha,gd,zEJ]
theorem zEY{tg:En->T->Option En}{b:DS}{t:T}{r:List T}{Γ Γ1 Γ2:En}(h1:tg Γ t=some Γ1)(h2:b Γ1=some (.nx Γ2)):forD tg b (t::r) Γ=forD tg b r Γ2:=by
 rw[zCh,h1,Av,h2,Av]
@[simp] theorem zP5(a b:String):(BQ a=BQ b)=(a=b):=by
 refine propext ⟨fun h=>?_,fun h=>by rw[h]⟩
 rw[HX,HX]at h
 have h2:=congrArg (fun s=>s.cps.toList) h
 simp only[List.toList_toArray]at h2
 refine String.toList_inj.mp (List.map_inj_right (fun x y e=>?_) |>.mp h2)
 exact Char.ext (UInt32.toNat_inj.mp e)
@[simp] theorem zQE(a b:Str):(a == b)=decide (a=b):=by
 by_cases h:a=b
 ·rw[decide_eq_true h,h]; exact beq_self_eq_true b
 ·rw[decide_eq_false h]
  exact beq_eq_false_iff_ne.mpr h
inductive Sy where
 | yes | no | ask (q:Nat) | nt (a:Sy) | an (a b:Sy) | or (a b:Sy) | ei (a b:Sy) | mo (a b c:Sy)
noncomputable abbrev sT (x:Str):T:=.a (.str x)
noncomputable def Sy.t:Sy->T
 | .yes=>.t [sT "yes"]
 | .no=>.t [sT "no"]
 | .ask q=>.t [sT "ask",iT q]
 | .nt a=>.t [sT "not",a.t]
 | .an a b=>.t [sT "and",a.t,b.t]
 | .or a b=>.t [sT "or",a.t,b.t]
 | .ei a b=>.t [sT "either",a.t,b.t]
 | .mo a b c=>.t [sT "most",a.t,b.t,c.t]
noncomputable def Sy.kids:Sy->List Sy
 | .yes=>[]
 | .no=>[]
 | .ask _=>[]
 | .nt a=>[a]
 | .an a b=>[a,b]
 | .or a b=>[a,b]
 | .ei a b=>[a,b]
 | .mo a b c=>[a,b,c]
noncomputable def Sy.parts:Sy->Nat
 | .yes=>1
 | .no=>1
 | .ask _=>1
 | .nt a=>1+a.parts
 | .an a b=>1+a.parts+b.parts
 | .or a b=>1+a.parts+b.parts
 | .ei a b=>1+a.parts+b.parts
 | .mo a b c=>1+a.parts+b.parts+c.parts
noncomputable def Sy.down:Sy->Nat
 | .yes=>1
 | .no=>1
 | .ask _=>1
 | .nt a=>1+a.down
 | .an a b=>1+max a.down b.down
 | .or a b=>1+max a.down b.down
 | .ei a b=>1+max a.down b.down
 | .mo a b c=>1+max a.down (max b.down c.down)
noncomputable def Sy.wt:Sy->Nat
 | .yes=>1
 | .no=>1
 | .ask _=>1
 | .nt a=>a.wt
 | .an a b=>2 * (a.wt+b.wt)
 | .or a b=>2 * (a.wt+b.wt)
 | .ei a b=>8 * (a.wt+b.wt)
 | .mo a b c=>12 * (a.wt+b.wt)+4 * c.wt
noncomputable def Sy.qs (q:Nat):Sy->Prop
 | .yes=>True
 | .no=>True
 | .ask k=>k < q
 | .nt a=>a.qs q
 | .an a b=>a.qs q/\b.qs q
 | .or a b=>a.qs q/\b.qs q
 | .ei a b=>a.qs q/\b.qs q
 | .mo a b c=>a.qs q/\b.qs q/\c.qs q
theorem Sy.parts_pos:∀ s:Sy,1<=s.parts
 | .yes=>AL _
 | .no=>AL _
 | .ask _=>AL _
 | .nt a=>by simp only[Sy.parts]; omega
 | .an a b=>by simp only[Sy.parts]; omega
 | .or a b=>by simp only[Sy.parts]; omega
 | .ei a b=>by simp only[Sy.parts]; omega
 | .mo a b c=>by simp only[Sy.parts]; omega
theorem Sy.down_pos:∀ s:Sy,1<=s.down
 | .yes=>AL _
 | .no=>AL _
 | .ask _=>AL _
 | .nt a=>by simp only[Sy.down]; omega
 | .an a b=>by simp only[Sy.down]; omega
 | .or a b=>by simp only[Sy.down]; omega
 | .ei a b=>by simp only[Sy.down]; omega
 | .mo a b c=>by simp only[Sy.down]; omega
noncomputable def Sy.rs (f:Sy->T):Sy->Rs
 | .yes=>.mk (Sy.t .yes) (f .yes) []
 | .no=>.mk (Sy.t .no) (f .no) []
 | .ask q=>.mk (Sy.t (.ask q)) (f (.ask q)) []
 | .nt a=>.mk (Sy.t (.nt a)) (f (.nt a)) [a.rs f]
 | .an a b=>.mk (Sy.t (.an a b)) (f (.an a b)) [a.rs f,b.rs f]
 | .or a b=>.mk (Sy.t (.or a b)) (f (.or a b)) [a.rs f,b.rs f]
 | .ei a b=>.mk (Sy.t (.ei a b)) (f (.ei a b)) [a.rs f,b.rs f]
 | .mo a b c=>.mk (Sy.t (.mo a b c)) (f (.mo a b c)) [a.rs f,b.rs f,c.rs f]
theorem Sy.rs_e(f:Sy->T)(s:Sy):(s.rs f).e=s.t:=by cases s <;> rfl
theorem Sy.rs_v(f:Sy->T)(s:Sy):(s.rs f).v=f s:=by cases s <;> rfl
theorem Sy.rs_pre(f:Sy->T):∀ s:Sy,(s.rs f).pre.length=s.parts
 | .yes=>by simp[Sy.rs,zAd,zAS,Sy.parts]
 | .no=>by simp[Sy.rs,zAd,zAS,Sy.parts]
 | .ask _=>by simp[Sy.rs,zAd,zAS,Sy.parts]
 | .nt a=>by simp[Sy.rs,zAd,zAS,zAU,Sy.parts,a.rs_pre f]; omega
 | .an a b=>by simp[Sy.rs,zAd,zAS,zAU,Sy.parts,a.rs_pre f,b.rs_pre f]; omega
 | .or a b=>by simp[Sy.rs,zAd,zAS,zAU,Sy.parts,a.rs_pre f,b.rs_pre f]; omega
 | .ei a b=>by simp[Sy.rs,zAd,zAS,zAU,Sy.parts,a.rs_pre f,b.rs_pre f]; omega
 | .mo a b c=>by simp[Sy.rs,zAd,zAS,zAU,Sy.parts,a.rs_pre f,b.rs_pre f,c.rs_pre f]; omega
theorem cut1(x:T)(r:List T):cutT (x::r) (some 1) none=r:=zFH (x::r) 1
theorem zBA(s:Sy):F_17 [.v s.t]=some (.v (.t (s.kids.map Sy.t)),[]):=by
 cases s <;> simp[F_17,fnD,d_17,Sy.t,Sy.kids,gd,cut1,zN7]
theorem Sy.rs_in(f:Sy->T):∀ s:Sy,(s.rs f).In F_17
 | .yes=>zAq.mpr ⟨.inl (zBA .yes),zAg⟩
 | .no=>zAq.mpr ⟨.inl (zBA .no),zAg⟩
 | .ask q=>zAq.mpr ⟨.inl (zBA (.ask q)),zAg⟩
 | .nt a=>zAq.mpr ⟨.inl (by simpa [Sy.kids,Sy.rs_e] using zBA (.nt a)),zAM.mpr ⟨a.rs_in f,zAg⟩⟩
 | .an a b=>zAq.mpr ⟨.inl (by simpa [Sy.kids,Sy.rs_e] using zBA (.an a b)),zAM.mpr ⟨a.rs_in f,zAM.mpr ⟨b.rs_in f,zAg⟩⟩⟩
 | .or a b=>zAq.mpr ⟨.inl (by simpa [Sy.kids,Sy.rs_e] using zBA (.or a b)),zAM.mpr ⟨a.rs_in f,zAM.mpr ⟨b.rs_in f,zAg⟩⟩⟩
 | .ei a b=>zAq.mpr ⟨.inl (by simpa [Sy.kids,Sy.rs_e] using zBA (.ei a b)),zAM.mpr ⟨a.rs_in f,zAM.mpr ⟨b.rs_in f,zAg⟩⟩⟩
 | .mo a b c=>zAq.mpr ⟨.inl (by simpa [Sy.kids,Sy.rs_e] using zBA (.mo a b c)),zAM.mpr ⟨a.rs_in f,zAM.mpr ⟨b.rs_in f,zAM.mpr ⟨c.rs_in f,zAg⟩⟩⟩⟩
theorem Sy.rs_put(f:Sy->T){put:DF}(h:∀ s:Sy,put [.v s.t,.r (s.kids.map f)]=some (.v (f s),[])):∀ s:Sy,(s.rs f).Put put
 | .yes=>zAl.mpr ⟨h .yes,zAe⟩
 | .no=>zAl.mpr ⟨h .no,zAe⟩
 | .ask q=>zAl.mpr ⟨h (.ask q),zAe⟩
 | .nt a=>zAl.mpr ⟨by simpa [Sy.kids,Sy.rs_v] using h (.nt a),zAP.mpr ⟨a.rs_put f h,zAe⟩⟩
 | .an a b=>zAl.mpr ⟨by simpa [Sy.kids,Sy.rs_v] using h (.an a b),zAP.mpr ⟨a.rs_put f h,zAP.mpr ⟨b.rs_put f h,zAe⟩⟩⟩
 | .or a b=>zAl.mpr ⟨by simpa [Sy.kids,Sy.rs_v] using h (.or a b),zAP.mpr ⟨a.rs_put f h,zAP.mpr ⟨b.rs_put f h,zAe⟩⟩⟩
 | .ei a b=>zAl.mpr ⟨by simpa [Sy.kids,Sy.rs_v] using h (.ei a b),zAP.mpr ⟨a.rs_put f h,zAP.mpr ⟨b.rs_put f h,zAe⟩⟩⟩
 | .mo a b c=>zAl.mpr ⟨by simpa [Sy.kids,Sy.rs_v] using h (.mo a b c),zAP.mpr ⟨a.rs_put f h,zAP.mpr ⟨b.rs_put f h,zAP.mpr ⟨c.rs_put f h,zAe⟩⟩⟩⟩
noncomputable def orS (s t:Sy):Sy:=.nt (.an (.nt s) (.nt t))
noncomputable def Sy.spell:Sy->Sy
 | .yes=>.yes
 | .no=>.no
 | .ask q=>.ask q
 | .nt a=>.nt a.spell
 | .an a b=>.an a.spell b.spell
 | .or a b=>orS a.spell b.spell
 | .ei a b=>orS (.an a.spell (.nt b.spell)) (.an (.nt a.spell) b.spell)
 | .mo a b c=>orS (.an a.spell b.spell) (.an c.spell (orS a.spell b.spell))
theorem zNY(x y:T):F_27 [.v x,.v y]=some (.v (.t [sT "not",.t [sT "and",.t [sT "not",x],.t [sT "not",y]]]),[]):=by
 have g2:(2:Nat)<=AE:=by decide
 have g3:(3:Nat)<=AE:=by decide
 simp[F_27,fnD,d_27,gd,g2,g3]
theorem zEw(s:Sy):F_28 [.v s.t,.r (s.kids.map fun k=>k.spell.t)]=some (.v s.spell.t,[]):=by
 have g1:(1:Nat)<=AE:=by decide
 have g2:(2:Nat)<=AE:=by decide
 have g3:(3:Nat)<=AE:=by decide
 have g4:(4:Nat)<=AE:=by decide
 cases s <;> simp[F_28,fnD,d_28,Sy.t,Sy.kids,Sy.spell,orS,gd,g1,g2,g3,g4,zNY,inS,atomsOf,flatV,inV,eqV]
theorem zFA:F_34=fnD none 3 6 (fwD (fnD none 2 5 (awD tb_1)) tb_1 tb_2):=rfl
theorem zDu:tb_1.find? (fun q=>decide (q.1=("inner":Str)))=some (("inner":Str),1,F_17):=by rfl
theorem zDX:tb_2.find? (fun q=>decide (q.1=("spelled_of":Str)))=some (("spelled_of":Str),2,F_28):=by rfl
theorem zDq(s:Sy)(h:s.parts<=80000):F_38 [.v s.t]=some (.v s.spell.t,[]):=by
 have:=zBD zDu zDX (s.rs fun k=>k.spell.t) (s.rs_in _) (s.rs_put _ zEw) (by rw[Sy.rs_pre]; exact h)
 rw[← zFA,Sy.rs_e,Sy.rs_v]at this
 simp[F_38,fnD,d_38,F_35,d_35,this]
theorem zCa(q:Nat)(hq0:0 < q)(hq:q<=100):∀ (n:Nat) (a b:Int) (room down:Nat),1<=n->down<=n->1<=room->room<=1000->∃ (s:Sy) (a' b':Int),s.down<=max 1 down/\s.parts<=room/\s.qs q /\
  F_1 n [.l [iT a,iT b],.v (iT (q:Int)),.v (iT (room:Int)),.v (iT (down:Int))]=some (.v s.t,[iT a',iT b']):=by
 intro n
 induction n with
 | zero=>intro a b room down h; omega
 | succ n ih =>
  intro a b room down _ hd hr hr2
  obtain⟨f,a1,b1,hf,e1⟩:=zAV a b 10 (by decide) (by decide)
  have e1':F_5 [.l [iT a,iT b],.v (iT 10)]=some (.v (iT (f:Int)),[iT a1,iT b1]):=e1
  simp only[iT]at e1' ⊢
  clear e1
  by_cases leaf:room < 2\/down < 2\/f=0
  ·obtain⟨k,a2,b2,hk,e2⟩:=zAV a1 b1 q hq0 (by omega)
   obtain⟨g,a3,b3,hg,e3⟩:=zAV a2 b2 8 (by decide) (by decide)
   have e3':F_5 [.l [iT a2,iT b2],.v (iT 8)]=some (.v (iT (g:Int)),[iT a3,iT b3]):=e3
   simp only[iT]at e2 e3'
   have fin:∀ (s:Sy) (i:Nat),(if (5:Int) < (g:Int) then (g:Int) - 5 else 0)=(i:Int)->[Sy.t (.ask k),Sy.t .yes,Sy.t .no][i]?=some s.t->F_1 (n+1) [.l [.a (.int a),.a (.int b)],.v (.a (.int (q:Int))),.v (.a (.int (room:Int))),.v (.a (.int (down:Int)))]=some (.v s.t,[.a (.int a3),.a (.int b3)]):=fun s i mx es=>by
    simp only[Sy.t,iT]at es
    by_cases h1:(room:Int) < 2
    ·simp[F_1,fnD,d_1,e1',e2,e3',h1,mx,zAw,es]
    ·by_cases h2:(down:Int) < 2
     ·simp[F_1,fnD,d_1,e1',e2,e3',h1,h2,mx,zAw,es]
     ·have h3:f=0:=by omega
      simp[F_1,fnD,d_1,e1',e2,e3',h1,h2,h3,mx,zAw,es]
   have hm:(1:Nat)<=max 1 down:=Cp _ _
   by_cases c1:g<=5
   ·exact⟨.ask k,a3,b3,hm,hr,hk,fin _ 0 (by rw[if_neg (by omega)]; rfl) rfl⟩
   ·by_cases c2:g=6
    ·subst c2
     exact⟨.yes,a3,b3,hm,hr,trivial,fin _ 1 (by decide) rfl⟩
    ·have:g=7:=by omega
     subst this
     exact⟨.no,a3,b3,hm,hr,trivial,fin _ 2 (by decide) rfl⟩
  ·have m1:¬ (room:Int) < 2:=by omega
   have m2:¬ (down:Int) < 2:=by omega
   have m3:¬ f=0:=by omega
   have m3':¬ (f:Int)=0:=by omega
   have d1:(down:Int) - 1=((down - 1:Nat):Int):=by omega
   by_cases nt:f < 3\/room < 3
   ·obtain⟨s,a2,b2,h1,h2,h3,e2⟩:=ih a1 b1 (room - 1) (down - 1) (by omega) (by omega) (by omega) (by omega)
    have r1:(room:Int) - 1=((room - 1:Nat):Int):=by omega
    refine⟨.nt s,a2,b2,by simp only[Sy.down]; omega,by simp only[Sy.parts]; omega,h3,?_⟩
    simp only[iT,Sy.t]at e2 ⊢
    generalize s.t=S at *
    by_cases h:(f:Int) < 3
    ·simp[F_1,fnD,d_1,e1',m1,m2,m3,m3',h,r1,d1,e2]
    ·have h':(room:Int) < 3:=by omega
     simp[F_1,fnD,d_1,e1',m1,m2,m3,m3',h,h',r1,d1,e2]
   ·have n1:¬ (f:Int) < 3:=by omega
    have n2:¬ (room:Int) < 3:=by omega
    obtain⟨k1,a2,b2,hk1,e2⟩:=zAV a1 b1 (room - 2) (by omega) (by omega)
    have r2:(room:Int) - 2=((room - 2:Nat):Int):=by omega
    obtain⟨x1,hx1⟩:∃ x1:Nat,x1=1+k1:=⟨1+k1,rfl⟩
    obtain⟨s1,a3,b3,h1,h2,h3,e3⟩:=ih a2 b2 x1 (down - 1) (by omega) (by omega) (by omega) (by omega)
    have c1:(1:Int)+(k1:Int)=(x1:Int):=by omega
    by_cases mo:f=9/\room > 3/\x1 < room - 2
    ·obtain⟨k2,a4,b4,hk2,e4⟩:=zAV a3 b3 (room - 2 - x1) (by omega) (by omega)
     obtain⟨x2,hx2⟩:∃ x2:Nat,x2=1+k2:=⟨1+k2,rfl⟩
     have c2:(1:Int)+(k2:Int)=(x2:Int):=by omega
     obtain⟨s2,a5,b5,u1,u2,u3,e5⟩:=ih a4 b4 x2 (down - 1) (by omega) (by omega) (by omega) (by omega)
     obtain⟨s3,a6,b6,v1,v2,v3,e6⟩:=ih a5 b5 (room - 1 - x1 - x2) (down - 1) (by omega) (by omega) (by omega) (by omega)
     have r3:((room - 2:Nat):Int) - (x1:Int)=((room - 2 - x1:Nat):Int):=by omega
     have r4:(room:Int) - 1 - (x1:Int) - (x2:Int)=((room - 1 - x1 - x2:Nat):Int):=by omega
     have q1:(f:Int)=9:=by omega
     have q2:(3:Int) < (room:Int):=by omega
     have q3:(x1:Int) < ((room - 2:Nat):Int):=by omega
     refine⟨.mo s1 s2 s3,a6,b6,by simp only[Sy.down]; omega,by simp only[Sy.parts]; omega,⟨h3,u3,v3⟩,?_⟩
     simp only[iT,Sy.t]at e2 e3 e4 e5 e6 ⊢
     rw[q1]at e1'
     simp[F_1,fnD,d_1,e1',m1,m2,n2,r2,e2,c1,d1,e3,q2,q3,r3,e4,c2,e5,r4,e6]
    ·obtain⟨s2,a4,b4,u1,u2,u3,e4⟩:=ih a3 b3 (room - 1 - x1) (down - 1) (by omega) (by omega) (by omega) (by omega)
     have r3:(room:Int) - 1 - (x1:Int)=((room - 1 - x1:Nat):Int):=by omega
     simp only[iT]at e2 e3 e4
     have fin:∀ (w:Str) (i:Nat),(f:Int) % 3=(i:Int)->[sT "and",sT "or",sT "either"][i]?=some (sT w)->F_1 (n+1) [.l [.a (.int a),.a (.int b)],.v (.a (.int (q:Int))),.v (.a (.int (room:Int))),.v (.a (.int (down:Int)))]=some (.v (.t [sT w,s1.t,s2.t]),[.a (.int a4),.a (.int b4)]):=fun w i ei es=>by
      simp only[sT]at es ⊢
      by_cases q1:(f:Int)=9
      ·have hi:i=0:=by omega
       subst hi
       simp at es
       subst es
       by_cases q2:(3:Int) < (room:Int)
       ·have q3:¬ (x1:Int) < ((room - 2:Nat):Int):=by omega
        simp[F_1,fnD,d_1,e1',m1,m2,m3,m3',n1,n2,r2,e2,c1,d1,e3,q1,q2,q3,r3,e4]
       ·simp[F_1,fnD,d_1,e1',m1,m2,m3,m3',n1,n2,r2,e2,c1,d1,e3,q1,q2,r3,e4]
      ·simp[F_1,fnD,d_1,e1',m1,m2,m3,m3',n1,n2,r2,e2,c1,d1,e3,q1,ei,zAw,es,r3,e4]
     have hf3:f % 3=0\/f % 3=1\/f % 3=2:=by omega
     rcases hf3 with h | h | h
     ·exact⟨.an s1 s2,a4,b4,by simp only[Sy.down]; omega,by simp only[Sy.parts]; omega,⟨h3,u3⟩,fin "and" 0 (by omega) rfl⟩
     ·exact⟨.or s1 s2,a4,b4,by simp only[Sy.down]; omega,by simp only[Sy.parts]; omega,⟨h3,u3⟩,fin "or" 1 (by omega) rfl⟩
     ·exact⟨.ei s1 s2,a4,b4,by simp only[Sy.down]; omega,by simp only[Sy.parts]; omega,⟨h3,u3⟩,fin "either" 2 (by omega) rfl⟩
theorem lw_q(rec:DF)(s:Sy):zCb rec [some (.v s.t)]=some (true,[some (.v s.t)]):=by
 cases s <;> simp[zCb,Sy.t,isiS,tyN,subTy]
theorem lw_i(rec:DF)(i:Int):zCb rec [some (.v (iT i))]=some (false,[some (.v (iT i))]):=by
 simp[zCb,isiS,tyN,subTy]
theorem lw_e(rec:DF)(s:Sy)(m:Nat)(h:rec [.v s.t]=some (.v (iT (m:Int)),[])):zDf rec [some (.v s.t)]=some (.v (iT (m:Int)),[some (.v s.t)]):=by
 simp only[iT]at h ⊢
 simp[zDf,h]
theorem zBc:∀ (n:Nat) (s:Sy),s.down<=n->F_3 n [.v s.t]=some (.v (iT (s.wt:Int)),[]):=by
 intro n
 induction n with
 | zero=>intro s h; have:=s.down_pos; omega
 | succ n ih =>
  intro s h
  have g1:(1:Nat)<=AE:=by decide
  have g2:(2:Nat)<=AE:=by decide
  have g3:(3:Nat)<=AE:=by decide
  have c12:∀ x:Int,CMul 12 x:=fun x=>.inl ⟨by decide,by decide⟩
  have c4:∀ x:Int,CMul 4 x:=fun x=>.inl ⟨by decide,by decide⟩
  have c2:∀ x:Int,CMul x 2:=fun x=>.inr ⟨by decide,by decide⟩
  have c8:∀ x:Int,CMul x 8:=fun x=>.inr ⟨by decide,by decide⟩
  have ea:∀ k:Sy,k.down<=n->zDf (F_3 n) [some (.v k.t)]=some (.v (.a (.int (k.wt:Int))),[some (.v k.t)]):=fun k hk=>lw_e _ k _ (ih k hk)
  have qi:=fun i:Int=>lw_i (F_3 n) i
  have qk:=lw_q (F_3 n)
  simp only[iT]at qi
  cases s with
  | yes=>simp[F_3,fnD,d_3,Sy.t,Sy.wt,cut1,zAX,gd,g1,g2,g3,inS,atomsOf,flatV,inV,eqV]
  | no=>simp[F_3,fnD,d_3,Sy.t,Sy.wt,cut1,zAX,gd,g1,g2,g3,inS,atomsOf,flatV,inV,eqV]
  | ask q=>simp[F_3,fnD,d_3,Sy.t,Sy.wt,cut1,zAb,zAX,gd,g1,g2,g3,inS,atomsOf,flatV,inV,eqV,qi]
  | nt a =>
   have h1:=ea a (by simp only[Sy.down]at h; omega)
   simp[F_3,fnD,d_3,Sy.t,Sy.wt,cut1,zAb,zAX,gd,g1,g2,g3,inS,atomsOf,flatV,inV,eqV,qk,h1]
  | an a b =>
   have h1:=ea a (by simp only[Sy.down]at h; omega)
   have h2:=ea b (by simp only[Sy.down]at h; omega)
   simp[F_3,fnD,d_3,Sy.t,Sy.wt,cut1,zAb,zAX,gd,g1,g2,g3,inS,atomsOf,flatV,inV,eqV,qk,h1,h2,c2]
   omega
  | or a b =>
   have h1:=ea a (by simp only[Sy.down]at h; omega)
   have h2:=ea b (by simp only[Sy.down]at h; omega)
   simp[F_3,fnD,d_3,Sy.t,Sy.wt,cut1,zAb,zAX,gd,g1,g2,g3,inS,atomsOf,flatV,inV,eqV,qk,h1,h2,c2]
   omega
  | ei a b =>
   have h1:=ea a (by simp only[Sy.down]at h; omega)
   have h2:=ea b (by simp only[Sy.down]at h; omega)
   simp[F_3,fnD,d_3,Sy.t,Sy.wt,cut1,zAb,zAX,gd,g1,g2,g3,inS,atomsOf,flatV,inV,eqV,qk,h1,h2,c8]
   omega
  | mo a b c =>
   have h1:=ea a (by simp only[Sy.down]at h; omega)
   have h2:=ea b (by simp only[Sy.down]at h; omega)
   have h3:=ea c (by simp only[Sy.down]at h; omega)
   simp[F_3,fnD,d_3,Sy.t,Sy.wt,cut1,zAb,zAX,gd,g1,g2,g3,inS,atomsOf,flatV,inV,eqV,qk,h1,h2,h3,c12,c4]
theorem lp_q(rec:DF)(s:Sy):zCr rec [some (.v s.t)]=some (true,[some (.v s.t)]):=by
 cases s <;> simp[zCr,Sy.t,isiS,tyN,subTy]
theorem lp_i(rec:DF)(i:Int):zCr rec [some (.v (iT i))]=some (false,[some (.v (iT i))]):=by
 simp[zCr,isiS,tyN,subTy]
theorem lp_e(rec:DF)(s:Sy)(m:Nat)(h:rec [.v s.t]=some (.v (iT (m:Int)),[])):zDn rec [some (.v s.t)]=some (.v (iT (m:Int)),[some (.v s.t)]):=by
 simp only[iT]at h ⊢
 simp[zDn,h]
theorem zIH:∀ (n:Nat) (s:Sy),s.down<=n->F_0 n [.v s.t]=some (.v (iT (s.parts:Int)),[]):=by
 intro n
 induction n with
 | zero=>intro s h; have:=s.down_pos; omega
 | succ n ih =>
  intro s h
  have g1:(1:Nat)<=AE:=by decide
  have g2:(2:Nat)<=AE:=by decide
  have g3:(3:Nat)<=AE:=by decide
  have ea:∀ k:Sy,k.down<=n->zDn (F_0 n) [some (.v k.t)]=some (.v (.a (.int (k.parts:Int))),[some (.v k.t)]):=fun k hk=>lp_e _ k _ (ih k hk)
  have qi:=fun i:Int=>lp_i (F_0 n) i
  have qk:=lp_q (F_0 n)
  simp only[iT]at qi
  cases s with
  | yes=>simp[F_0,fnD,d_0,Sy.t,Sy.parts,cut1,zAX,gd,sumS,intsOf]
  | no=>simp[F_0,fnD,d_0,Sy.t,Sy.parts,cut1,zAX,gd,sumS,intsOf]
  | ask q=>simp[F_0,fnD,d_0,Sy.t,Sy.parts,cut1,zAb,zAX,gd,g1,sumS,intsOf,qi]
  | nt a =>
   have h1:=ea a (by simp only[Sy.down]at h; omega)
   simp[F_0,fnD,d_0,Sy.t,Sy.parts,cut1,zAb,zAX,gd,g1,sumS,intsOf,qk,h1]
  | an a b =>
   have h1:=ea a (by simp only[Sy.down]at h; omega)
   have h2:=ea b (by simp only[Sy.down]at h; omega)
   simp[F_0,fnD,d_0,Sy.t,Sy.parts,cut1,zAb,zAX,gd,g1,g2,sumS,intsOf,qk,h1,h2]
   omega
  | or a b =>
   have h1:=ea a (by simp only[Sy.down]at h; omega)
   have h2:=ea b (by simp only[Sy.down]at h; omega)
   simp[F_0,fnD,d_0,Sy.t,Sy.parts,cut1,zAb,zAX,gd,g1,g2,sumS,intsOf,qk,h1,h2]
   omega
  | ei a b =>
   have h1:=ea a (by simp only[Sy.down]at h; omega)
   have h2:=ea b (by simp only[Sy.down]at h; omega)
   simp[F_0,fnD,d_0,Sy.t,Sy.parts,cut1,zAb,zAX,gd,g1,g2,sumS,intsOf,qk,h1,h2]
   omega
  | mo a b c =>
   have h1:=ea a (by simp only[Sy.down]at h; omega)
   have h2:=ea b (by simp only[Sy.down]at h; omega)
   have h3:=ea c (by simp only[Sy.down]at h; omega)
   simp[F_0,fnD,d_0,Sy.t,Sy.parts,cut1,zAb,zAX,gd,g1,g2,g3,sumS,intsOf,qk,h1,h2,h3]
   omega
theorem zFj(q n dn:Nat)(ih:∀ (a b:Int) (most:Nat),1<=most->most<=1000->∃ (s:Sy) (a' b':Int),s.down<=max 1 (dn - 1)/\s.qs q/\F_2 n [.l [iT a,iT b],.v (iT (q:Int)),.v (iT (most:Int)),.v (iT ((dn - 1:Nat):Int))]=some (.v s.t,[iT a',iT b']))(a b:Int)(y:Nat)(h2:2<=y)(hy:y<=1000) :
  ∃ (k x:Nat) (s1 s2:Sy) (a1 b1 a2 b2 a3 b3:Int),(s1.down<=max 1 (dn - 1)/\s1.qs q/\s2.down<=max 1 (dn - 1)/\s2.qs q)/\(1:Int)+(k:Int)=(x:Int) /\
   F_5 [.l [.a (.int a),.a (.int b)],.v (.a (.int ((y:Int) - 1)))]=some (.v (.a (.int (k:Int))),[.a (.int a1),.a (.int b1)]) /\
   F_2 n [.l [.a (.int a1),.a (.int b1)],.v (.a (.int (q:Int))),.v (.a (.int (x:Int))),.v (.a (.int ((dn - 1:Nat):Int)))]=some (.v s1.t,[.a (.int a2),.a (.int b2)]) /\
   F_2 n [.l [.a (.int a2),.a (.int b2)],.v (.a (.int (q:Int))),.v (.a (.int ((y:Int) - (x:Int)))),.v (.a (.int ((dn - 1:Nat):Int)))]=some (.v s2.t,[.a (.int a3),.a (.int b3)]):=by
 obtain⟨k,a1,b1,hk,e1⟩:=zAV a b (y - 1) (by omega) (by omega)
 obtain⟨s1,a2,b2,u1,u2,e2⟩:=ih a1 b1 (1+k) (by omega) (by omega)
 obtain⟨s2,a3,b3,v1,v2,e3⟩:=ih a2 b2 (y - (1+k)) (by omega) (by omega)
 rw[show ((y - 1:Nat):Int)=(y:Int) - 1 by omega]at e1
 rw[show ((y - (1+k):Nat):Int)=(y:Int) - ((1+k:Nat):Int) by omega]at e3
 exact⟨k,1+k,s1,s2,a1,b1,a2,b2,a3,b3,⟨u1,u2,v1,v2⟩,by omega,e1,e2,e3⟩
theorem zHw(q:Nat)(hq0:0 < q)(hq:q<=100):∀ (n:Nat) (a b:Int) (most down:Nat),1<=n->down<=n->1<=most->most<=1000->∃ (s:Sy) (a' b':Int),s.down<=max 1 down/\s.qs q /\
  F_2 n [.l [iT a,iT b],.v (iT (q:Int)),.v (iT (most:Int)),.v (iT (down:Int))]=some (.v s.t,[iT a',iT b']):=by
 intro n
 induction n with
 | zero=>intro a b most down h; omega
 | succ n ih =>
  intro a b most down _ hd hm hm2
  obtain⟨f,a1,b1,hf,e1⟩:=zAV a b 8 (by decide) (by decide)
  have e1':F_5 [.l [iT a,iT b],.v (iT 8)]=some (.v (iT (f:Int)),[iT a1,iT b1]):=e1
  simp only[iT]at e1' ⊢
  clear e1
  by_cases leaf:most < 4\/down < 2\/f=0
  ·obtain⟨s,a2,b2,h1,h2,h3,e2⟩:=zCa q hq0 hq zA2 a1 b1 1 1 (by decide) (by decide) (by decide) (by decide)
   have e2':F_1 zA2 [.l [.a (.int a1),.a (.int b1)],.v (.a (.int (q:Int))),.v (.a (.int 1)),.v (.a (.int 1))]=some (.v s.t,[.a (.int a2),.a (.int b2)]):=e2
   refine⟨s,a2,b2,by omega,h3,?_⟩
   by_cases h1:(most:Int) < 4
   ·simp[F_2,fnD,d_2,e1',h1,e2']
   ·by_cases h2:(down:Int) < 2
    ·simp[F_2,fnD,d_2,e1',h1,h2,e2']
    ·have h3:f=0:=by omega
     simp[F_2,fnD,d_2,e1',h1,h2,h3,e2']
  ·have l1:¬ (most:Int) < 4:=by omega
   have l2:¬ (down:Int) < 2:=by omega
   have l3:¬ f=0:=by omega
   have c4:(down:Int) - 1=((down - 1:Nat):Int):=by omega
   by_cases one:f=1
   ·subst one
    obtain⟨s,a2,b2,h1,h2,e2⟩:=ih a1 b1 most (down - 1) (by omega) (by omega) hm hm2
    refine⟨.nt s,a2,b2,by simp only[Sy.down]; omega,h2,?_⟩
    simp only[iT,Sy.t]at e2 ⊢
    simp[F_2,fnD,d_2,e1',l1,l2,c4,e2]
   ·have o1:¬ (f:Int)=1:=by omega
    have ih':=fun a b mm h1 h2=>ih a b mm (down - 1) (by omega) (by omega) h1 h2
    have d2:CDiv (most:Int) 2:=⟨by decide,by decide⟩
    have d8:CDiv (most:Int) 8:=⟨by decide,by decide⟩
    obtain⟨w0,ew,hw0⟩:∃ w0:Str,atI [.a (.str "and"),.a (.str "or")] ((f:Int) % 2)=some (sT w0)/\(w0="and"\/w0="or"):=by
     have:f % 2=0\/f % 2=1:=by omega
     rcases this with h | h
     ·exact⟨"and",by rw[show (f:Int) % 2=((0:Nat):Int) by omega]; rfl,.inl rfl⟩
     ·exact⟨"or",by rw[show (f:Int) % 2=((1:Nat):Int) by omega]; rfl,.inr rfl⟩
    obtain⟨hh,ehh⟩:∃ hh:Nat,hh=most / 2:=⟨most / 2,rfl⟩
    obtain⟨hg,ehg⟩:∃ hg:Nat,hg=most / 8:=⟨most / 8,rfl⟩
    have m2:(most:Int) / 2=(hh:Int):=by omega
    have m8:(most:Int) / 8=(hg:Int):=by omega
    by_cases mst:f < 4/\most > 27
    ·obtain⟨z4,ez4⟩:∃ z4:Nat,z4=(most - 24) / 4:=⟨(most - 24) / 4,rfl⟩
     obtain⟨k,a2,b2,hk,e2⟩:=zAV a1 b1 z4 (by omega) (by omega)
     obtain⟨x,hx⟩:∃ x:Nat,x=1+k:=⟨1+k,rfl⟩
     have c1:(1:Int)+(k:Int)=(x:Int):=by omega
     have d4:∀ z:Int,CDiv z 4:=fun z=>⟨by decide,by decide⟩
     have d12:∀ z:Int,CDiv z 12:=fun z=>⟨by decide,by decide⟩
     have cm4:CMul 4 (x:Int):=.inl ⟨by decide,by decide⟩
     have m24:((most:Int) - 24) / 4=(z4:Int):=by omega
     obtain⟨y,hy⟩:∃ y:Nat,y=(most - 4 * x) / 12:=⟨_,rfl⟩
     have m12:((most:Int) - 4 * (x:Int)) / 12=(y:Int):=by omega
     obtain⟨s0,a3,b3,h01,h02,e3⟩:=ih' a2 b2 x (by omega) (by omega)
     obtain⟨k',x',s1,s2,a4,b4,a5,b5,a6,b6,⟨u1,u2,v1,v2⟩,c5,t1,t2,t3⟩:=zFj q n down ih' a3 b3 y (by omega) (by omega)
     refine⟨.mo s1 s2 s0,a6,b6,by simp only[Sy.down]; omega,⟨u2,v2,h02⟩,?_⟩
     have f4:(f:Int) < 4:=by omega
     have f4':¬ (f:Int)=4:=by omega
     have b27:(27:Int) < (most:Int):=by omega
     simp only[iT,Sy.t]at e2 e3 ⊢
     simp[F_2,fnD,d_2,e1',l1,l2,l3,o1,one,ew,d2,m2,f4,f4',b27,d4,m24,e2,c1,d12,cm4,m12,c4,e3,t1,c5,t2,t3]
    ·by_cases ei:f=4/\most > 15
     ·obtain⟨k',x',s1,s2,a4,b4,a5,b5,a6,b6,⟨u1,u2,v1,v2⟩,c5,t1,t2,t3⟩:=zFj q n down ih' a1 b1 hg (by omega) (by omega)
      refine⟨.ei s1 s2,a6,b6,by simp only[Sy.down]; omega,⟨u2,v2⟩,?_⟩
      obtain⟨rfl,h15⟩:=ei
      have b15:(15:Int) < (most:Int):=by omega
      simp only[Sy.t]
      have ew':atI [T.a (.str "and"),.a (.str "or")] 0=some (sT "and"):=rfl
      simp[F_2,fnD,d_2,e1',l1,l2,d2,m2,ew',b15,d8,m8,c4,t1,c5,t2,t3]
     ·obtain⟨k',x',s1,s2,a4,b4,a5,b5,a6,b6,⟨u1,u2,v1,v2⟩,c5,t1,t2,t3⟩:=zFj q n down ih' a1 b1 hh (by omega) (by omega)
      have go:F_2 (n+1) [.l [.a (.int a),.a (.int b)],.v (.a (.int (q:Int))),.v (.a (.int (most:Int))),.v (.a (.int (down:Int)))]=some (.v (.t [sT w0,s1.t,s2.t]),[.a (.int a6),.a (.int b6)]):=by
       by_cases f4:f=4
       ·have b15:¬ (15:Int) < (most:Int):=by omega
        have f4':(f:Int)=4:=by omega
        have f4'':¬ (f:Int) < 4:=by omega
        have z:atI [T.a (.str "and"),.a (.str "or")] ((4:Int) % 2)=some (sT "and"):=rfl
        rw[f4']at ew
        cases As (z.symm.trans ew)
        simp[F_2,fnD,d_2,e1',l1,l2,l3,o1,one,ew,d2,m2,f4',f4'',b15,c4,t1,c5,t2,t3]
       ·have f4':¬ (f:Int)=4:=by omega
        by_cases f3:(f:Int) < 4
        ·have b27:¬ (27:Int) < (most:Int):=by omega
         simp[F_2,fnD,d_2,e1',l1,l2,l3,o1,one,ew,d2,m2,f4,f4',f3,b27,c4,t1,c5,t2,t3]
        ·simp[F_2,fnD,d_2,e1',l1,l2,l3,o1,one,ew,d2,m2,f4,f4',f3,c4,t1,c5,t2,t3]
      rcases hw0 with rfl | rfl
      ·exact⟨.an s1 s2,a6,b6,by simp only[Sy.down]; omega,⟨u2,v2⟩,go⟩
      ·exact⟨.or s1 s2,a6,b6,by simp only[Sy.down]; omega,⟨u2,v2⟩,go⟩
theorem Sy.head(s:Sy)(h:s.kids≠[]):∃ w:Str,s.t=.t (sT w::s.kids.map Sy.t):=by
 cases s with
 | yes=>exact absurd rfl h
 | no=>exact absurd rfl h
 | ask q=>exact absurd rfl h
 | nt a=>exact⟨_,rfl⟩
 | an a b=>exact⟨_,rfl⟩
 | or a b=>exact⟨_,rfl⟩
 | ei a b=>exact⟨_,rfl⟩
 | mo a b c=>exact⟨_,rfl⟩
theorem Sy.leaf(s:Sy)(h:s.kids=[]):s.wt=1/\s.parts=1:=by
 cases s with
 | yes=>exact⟨rfl,rfl⟩
 | no=>exact⟨rfl,rfl⟩
 | ask q=>exact⟨rfl,rfl⟩
 | nt a=>cases h
 | an a b=>cases h
 | or a b=>cases h
 | ei a b=>cases h
 | mo a b c=>cases h
theorem Sy.kid{q:Nat}{s k:Sy}(h:k∈s.kids):k.down < s.down/\(s.qs q->k.qs q):=by
 cases s with
 | yes=>cases h
 | no=>cases h
 | ask q=>cases h
 | nt a =>
  simp only[Sy.kids,AO,A8,or_false]at h
  subst h
  exact⟨by simp only[Sy.down]; omega,fun z=>z⟩
 | an a b =>
  simp only[Sy.kids,AO,A8,or_false]at h
  rcases h with rfl | rfl
  ·exact⟨by simp only[Sy.down]; omega,fun z=>z.1⟩
  ·exact⟨by simp only[Sy.down]; omega,fun z=>z.2⟩
 | or a b =>
  simp only[Sy.kids,AO,A8,or_false]at h
  rcases h with rfl | rfl
  ·exact⟨by simp only[Sy.down]; omega,fun z=>z.1⟩
  ·exact⟨by simp only[Sy.down]; omega,fun z=>z.2⟩
 | ei a b =>
  simp only[Sy.kids,AO,A8,or_false]at h
  rcases h with rfl | rfl
  ·exact⟨by simp only[Sy.down]; omega,fun z=>z.1⟩
  ·exact⟨by simp only[Sy.down]; omega,fun z=>z.2⟩
 | mo a b c =>
  simp only[Sy.kids,AO,A8,or_false]at h
  rcases h with rfl | rfl | rfl
  ·exact⟨by simp only[Sy.down]; omega,fun z=>z.1⟩
  ·exact⟨by simp only[Sy.down]; omega,fun z=>z.2.1⟩
  ·exact⟨by simp only[Sy.down]; omega,fun z=>z.2.2⟩
theorem Sy.kids3(s:Sy):s.kids.length<=3:=by cases s <;> simp[Sy.kids]
theorem zDr(q room most:Nat)(h1:1<=room)(h2:1<=most):∀ (m:Nat) (s:Sy) (a b:Int) (fuel:Nat),s.down<=m->s.down<=12->m < fuel->s.qs q->∃ (s':Sy) (a' b':Int),s'.down<=s.down/\s'.qs q/\s'.wt<=most/\s'.parts<=room /\
  dWhile zB2 zDa fuel [some (.l [iT a,iT b]),some (.v (iT (q:Int))),some (.v (iT (room:Int))),some (.v (iT (most:Int))),some (.v s.t)]=some (.nx [some (.l [iT a',iT b']),some (.v (iT (q:Int))),some (.v (iT (room:Int))),some (.v (iT (most:Int))),some (.v s'.t)]):=by
 intro m
 induction m with
 | zero=>intro s a b fuel h; have:=s.down_pos; omega
 | succ m ih =>
  intro s a b fuel hd h12 hf hq
  obtain⟨f,rfl⟩:∃ f,fuel=f+1:=⟨fuel - 1,by omega⟩
  have ew:=zBc zAn s h12
  have ep:=zIH zDs s h12
  by_cases c:s.wt > most\/s.parts > room
  ·have hk:s.kids≠[]:=fun z=>by have:=s.leaf z; omega
   obtain⟨w,et⟩:=s.head hk
   obtain⟨j,a1,b1,hj,e1⟩:=zAV a b s.kids.length (Dr.mpr hk) (by have:=s.kids3; omega)
   obtain⟨k,ek⟩:∃ k,s.kids[j]?=some k:=⟨s.kids[j],by simp[hj]⟩
   have hm:k∈s.kids:=Dj ek
   obtain⟨kd,kq⟩:=Sy.kid (q:=q) hm
   obtain⟨s',a',b',u1,u2,u3,u4,e2⟩:=ih k a1 b1 f (by omega) (by omega) (by omega) (kq hq)
   refine⟨s',a',b',by omega,u2,u3,u4,?_⟩
   rw[← e2,zAu]
   have test:zB2 [some (.l [iT a,iT b]),some (.v (iT (q:Int))),some (.v (iT (room:Int))),some (.v (iT (most:Int))),some (.v s.t)]=some (true,[some (.l [iT a,iT b]),some (.v (iT (q:Int))),some (.v (iT (room:Int))),some (.v (iT (most:Int))),some (.v s.t)]):=by
    simp only[iT]at ew ep ⊢
    by_cases c1:s.wt > most
    ·have:(most:Int) < (s.wt:Int):=by omega
     simp[zB2,ew,this]
    ·have c1':¬ (most:Int) < (s.wt:Int):=by omega
     have:(room:Int) < (s.parts:Int):=by omega
     simp[zB2,ew,ep,c1',this]
   have body:zDa [some (.l [iT a,iT b]),some (.v (iT (q:Int))),some (.v (iT (room:Int))),some (.v (iT (most:Int))),some (.v s.t)]=some (.nx [some (.l [iT a1,iT b1]),some (.v (iT (q:Int))),some (.v (iT (room:Int))),some (.v (iT (most:Int))),some (.v k.t)]):=by
    simp only[iT]at e1 ⊢
    have el:((s.kids.map Sy.t).length+1:Nat)=s.kids.length+1:=by simp
    have ei:atI (sT w::s.kids.map Sy.t) (1+(j:Int))=some k.t:=by
     rw[show (1:Int)+(j:Int)=((j+1:Nat):Int) by omega,zAw]
     simp[ek]
    rw[et]
    simp only[sT]at ei ⊢
    simp[zDa,e1,ei]
   rw[test,Av,if_pos rfl,body,Av]
  ·have c1:¬ (most:Int) < (s.wt:Int):=by omega
   have c2:¬ (room:Int) < (s.parts:Int):=by omega
   refine⟨s,a,b,AL _,hq,by omega,by omega,?_⟩
   rw[zAu]
   simp only[iT]at ew ep ⊢
   simp[zB2,ew,ep,c1,c2]
theorem zKI(q room most:Nat)(hq0:0 < q)(hq:q<=100)(h1:1<=room)(h1':room<=1000)(h2:1<=most)(h2':most<=1000)(a b:Int):∃ (s:Sy) (a' b':Int),s.down<=6/\s.qs q/\s.wt<=most/\s.parts<=room /\
  F_6 [.l [iT a,iT b],.v (iT (q:Int)),.v (iT (room:Int)),.v (iT (most:Int))]=some (.v s.t,[iT a',iT b']):=by
 obtain⟨s,a1,b1,u1,u2,u3,e1⟩:=zCa q hq0 hq zA2 a b room 5 (by decide) (by decide) h1 h1'
 obtain⟨c,a2,b2,hc,e2⟩:=zAV a1 b1 2 (by decide) (by decide)
 have e1':F_1 zA2 [.l [.a (.int a),.a (.int b)],.v (.a (.int (q:Int))),.v (.a (.int (room:Int))),.v (.a (.int 5))]=some (.v s.t,[.a (.int a1),.a (.int b1)]):=e1
 have e2':F_5 [.l [.a (.int a1),.a (.int b1)],.v (.a (.int 2))]=some (.v (.a (.int (c:Int))),[.a (.int a2),.a (.int b2)]):=e2
 by_cases c0:c=0
 ·obtain⟨s2,a3,b3,v1,v2,e3⟩:=zHw q hq0 hq zCl a2 b2 most 5 (by decide) (by decide) h2 h2'
  have e3':F_2 zCl [.l [.a (.int a2),.a (.int b2)],.v (.a (.int (q:Int))),.v (.a (.int (most:Int))),.v (.a (.int 5))]=some (.v s2.t,[.a (.int a3),.a (.int b3)]):=e3
  obtain⟨s',a',b',w1,w2,w3,w4,e4⟩:=zDr q room most h1 h2 12 s2 a3 b3 fuelX (by omega) (by omega) (by rw[zBt]; omega) v2
  refine⟨s',a',b',by omega,w2,w3,w4,?_⟩
  simp only[iT]at e4
  simp[F_6,fnD,d_6,e1',e2',c0,e3',e4]
 ·obtain⟨s',a',b',w1,w2,w3,w4,e4⟩:=zDr q room most h1 h2 12 s a2 b2 fuelX (by omega) (by omega) (by rw[zBt]; omega) u3
  refine⟨s',a',b',by omega,w2,w3,w4,?_⟩
  simp only[iT]at e4
  simp[F_6,fnD,d_6,e1',e2',c0,e4]
theorem zAh:∀ s:Sy,s.spell.down<=7 * s.down
 | .yes=>by simp[Sy.spell,Sy.down]
 | .no=>by simp[Sy.spell,Sy.down]
 | .ask _=>by simp[Sy.spell,Sy.down]
 | .nt a=>by have:=zAh a; simp only[Sy.spell,Sy.down]; omega
 | .an a b=>by have:=zAh a; have:=zAh b; simp only[Sy.spell,Sy.down]; omega
 | .or a b=>by have:=zAh a; have:=zAh b; simp only[Sy.spell,orS,Sy.down]; omega
 | .ei a b=>by have:=zAh a; have:=zAh b; simp only[Sy.spell,orS,Sy.down]; omega
 | .mo a b c=>by have:=zAh a; have:=zAh b; have:=zAh c; simp only[Sy.spell,orS,Sy.down]; omega
theorem zFX:∀ (m:Nat) (ls fs:List Nat) (a b n:Int) (fuel:Nat),ls.length=m->m < fuel->ls.length+fs.length<=5->∃ fs' a' b',fs'.Perm (fs++ls) /\
  dWhile zC0 zEF fuel [some (.l [iT a,iT b]),some (.v (iT n)),some (.l (tvT ls)),some (.v (tuT fs))]=some (.nx [some (.l [iT a',iT b']),some (.v (iT n)),some (.l []),some (.v (tuT fs'))]):=by
 intro m
 induction m with
 | zero =>
  intro ls fs a b n fuel hl hf h5
  obtain rfl:ls=[]:=Gy.mp hl
  obtain⟨f,rfl⟩:∃ f,fuel=f+1:=⟨fuel - 1,by omega⟩
  exact⟨fs,a,b,by simp,by rw[zAu]; simp[zC0]⟩
 | succ m ih =>
  intro ls fs a b n fuel hl hf h5
  obtain⟨f,rfl⟩:∃ f,fuel=f+1:=⟨fuel - 1,by omega⟩
  obtain⟨r,a',b',hr,e⟩:=zAV a b ls.length (by omega) (by omega)
  obtain⟨z,hz⟩:∃ z,ls[r]?=some z:=⟨ls[r],by simp[hr]⟩
  obtain⟨fs',a2,b2,hp,e2⟩:=ih (ls.eraseIdx r) (fs++[z]) a' b' n f (by rw[Cy hr]; omega) (by omega) (by rw[Cy hr]; simp; omega)
  refine⟨fs',a2,b2,hp.trans (zDg hz),?_⟩
  rw[← e2,zAu]
  have hpos:(0:Int) < ls.length:=by omega
  have hb:inR 9223372036854775807 (r:Int)=true:=zBk (by omega)
  have g1:ls.length<=AE:=zAT (by omega)
  have g2:fs.length+1<=AE:=zAT (by omega)
  have g3:(1:Nat)<=AE:=by decide
  simp[zC0,zEF,hpos,e,hb,zCp hr,hz,gd,g1,g2,g3,show 0 < ls.length by omega,zEk]
theorem zHd(a b:Int)(n:Nat)(hn:n<=5):∃ t a' b',IsT n t/\F_10 [.l [iT a,iT b],.v (iT (n:Int))]=some (.v (tuT t),[iT a',iT b']):=by
 obtain⟨t,a',b',hp,e⟩:=zFX n (A5 n) [] a b n fuelX (by simp) (by rw[zBt]; omega) (by simp; exact hn)
 refine⟨t,a',b',zDD (by simpa using hp),?_⟩
 simp only[tuT,tvT,BE]at e
 simp[F_10,fnD,d_10,zBv n (by omega),zC4,gd,e]
noncomputable def allL (n:Nat):Nat->List (List Nat)
 | 0=>[[]]
 | m+1=>(allL n m).flatMap fun r=>(A5 n).map fun k=>k::r
theorem zFZ{n:Nat}:∀ {t:List Nat},(∀ k∈t,k < n)->t∈allL n t.length
 | [],_=>AF.mpr rfl
 | k::r,h=>List.mem_flatMap.mpr ⟨r,zFZ fun x hx=>h x (AK _ hx),C0.mpr ⟨k,Ey.mpr (h k AQ),rfl⟩⟩
noncomputable def ndB:List Nat->Bool
 | []=>true
 | k::r=>!(r.contains k) && ndB r
theorem zJo:∀ {t:List Nat},t.Nodup->ndB t=true
 | [],_=>rfl
 | k::r,h=>by
  have h':=Bp.mp h
  simp[ndB,h'.1,zJo h'.2]
noncomputable def turns (n:Nat):List (List Nat):=(allL n n).filter ndB
theorem zCs{n:Nat}{t:List Nat}(h:IsT n t):t∈turns n:=by
 refine Dm.mpr ⟨?_,zJo h.nd⟩
 have:=zFZ h.lt
 rw[h.len]at this
 exact this
noncomputable def isTr:Option (G×List T)->Bool
 | some (.v (.a (.bl true)),[])=>true
 | _=>false
theorem zL0:∀ {x:Option (G×List T)},isTr x=true->x=some (.v (.a (.bl true)),[])
 | some (.v (.a (.bl true)),[]),_=>rfl
noncomputable def ringF (row:List Nat) (m:Nat):List (Nat×Nat)->List Nat->List Nat
 | [],f=>f
 | (p,k)::r,f=>ringF row m r (f.set p (row.getD ((k+1) % m) 0))
noncomputable def ringOf (n:Nat) (row:List Nat):List Nat:=ringF row n row.zipIdx (Ad n 0)
noncomputable def isTb (n:Nat) (t:List Nat):Bool:=t.length == n && (t.all fun k=>decide (k < n)) && ndB t
theorem zJi:∀ {t:List Nat},ndB t=true->t.Nodup
 | [],_=>Iw
 | k::r,h=>by
  simp only[ndB,Ab,Fk]at h
  refine Bp.mpr ⟨fun hm=>?_,zJi h.2⟩
  have:r.contains k=true:=by simpa using hm
  rw[h.1]at this; cases this
theorem zGf{n:Nat}{t:List Nat}(h:isTb n t=true):IsT n t:=by
 simp only[isTb,Ab,beq_iff_eq,Ax,decide_eq_true_eq]at h
 exact⟨h.1.1,h.1.2,zJi h.2⟩
theorem zKL:([3,4,5].all fun n=>(turns n).all fun row=>isTb n (ringOf n row) || row.getD 0 0 != 0)=true:=by decide +kernel
theorem zKo(t:List Nat):enumT (tvT t)=(t.zipIdx 0).map fun q=>.t [iT (q.2:Int),iT (q.1:Int)]:=by
 unfold enumT
 simp[List.zipIdx_map,HY]
theorem zIs:∀ (m:Nat) (ls fs:List Nat) (a b n:Int) (o4 o5 o6:Option G) (fuel:Nat),ls.length=m->m < fuel->ls.length+fs.length<=5->∃ fs' a' b',(fs'.Perm (fs++ls)/\(fs≠[]->fs'.getD 0 0=fs.getD 0 0)) /\
  dWhile zCT zDz fuel [some (.l [iT a,iT b]),some (.v (iT n)),some (.l (tvT ls)),some (.l (tvT fs)),o4,o5,o6]=some (.nx [some (.l [iT a',iT b']),some (.v (iT n)),some (.l []),some (.l (tvT fs')),o4,o5,o6]):=by
 intro m
 induction m with
 | zero =>
  intro ls fs a b n o4 o5 o6 fuel hl hf h5
  obtain rfl:ls=[]:=Gy.mp hl
  obtain⟨f,rfl⟩:∃ f,fuel=f+1:=⟨fuel - 1,by omega⟩
  exact⟨fs,a,b,⟨by simp,fun _=>rfl⟩,by rw[zAu]; simp[zCT]⟩
 | succ m ih =>
  intro ls fs a b n o4 o5 o6 fuel hl hf h5
  obtain⟨f,rfl⟩:∃ f,fuel=f+1:=⟨fuel - 1,by omega⟩
  obtain⟨r,a',b',hr,e⟩:=zAV a b ls.length (by omega) (by omega)
  obtain⟨z,hz⟩:∃ z,ls[r]?=some z:=⟨ls[r],by simp[hr]⟩
  obtain⟨fs',a2,b2,⟨hp,hh⟩,e2⟩:=ih (ls.eraseIdx r) (fs++[z]) a' b' n o4 o5 o6 f (by rw[Cy hr]; omega) (by omega) (by rw[Cy hr]; simp; omega)
  refine⟨fs',a2,b2,⟨hp.trans (zDg hz),fun h0=>?_⟩,?_⟩
  ·rw[hh (by simp)]
   cases fs with
   | nil=>exact absurd rfl h0
   | cons x r=>rfl
  rw[← e2,zAu]
  have hpos:(0:Int) < ls.length:=by omega
  have hb:inR 9223372036854775807 (r:Int)=true:=zBk (by omega)
  have g1:ls.length<=AE:=zAT (by omega)
  have g2:fs.length<=AE:=zAT (by omega)
  have g3:fs.length < AE:=zGj (by omega)
  simp[zCT,zDz,hpos,e,hb,zCp hr,hz,gd,g1,g2,g3,show 0 < ls.length by omega,zEk]
theorem zKy(n:Nat)(row:List Nat)(hn:0 < n)(hrow:row.length=n)(b0 b2:Option G):∀ (its:List (Nat×Nat)) (f:List Nat) (o5 o6:Option G),(∀ q∈its,q.1 < f.length/\q.2 < 100)->∃ o5' o6',
  forD (gdTup 2 (gdCons (gdName 5) (gdCons (gdName 6) gdNil))) zFs (its.map fun q=>.t [iT (q.2:Int),iT (q.1:Int)]) [b0,some (.v (iT (n:Int))),b2,some (.r (tvT row)),some (.l (tvT f)),o5,o6] =
   some (.nx [b0,some (.v (iT (n:Int))),b2,some (.r (tvT row)),some (.l (tvT (ringF row n its f))),o5',o6']):=by
 intro its
 induction its with
 | nil=>intro f o5 o6 _; exact⟨o5,o6,by rw[BE,zCD]; rfl⟩
 | cons q r ih =>
  intro f o5 o6 h
  obtain⟨p,k⟩:=q
  have h1:=h (p,k) AQ
  have hm:(k+1) % n < n:=Nat.mod_lt _ hn
  have h2:atI (tvT row) (((k:Int)+1) % (n:Int))=some (iT ((row.getD ((k+1) % n) 0:Nat):Int)):=by
   have e:((k:Int)+1) % (n:Int)=(((k+1) % n:Nat):Int):=by simp
   rw[e]
   refine zIm ?_
   rw[D5,Bw (by omega)]; rfl
  have hn':(0:Int) < (n:Int):=by omega
  have h3:ixN f.length (p:Int)=some p:=zGZ h1.1
  obtain⟨o5',o6',e⟩:=ih (f.set p (row.getD ((k+1) % n) 0)) (some (.v (iT (k:Int)))) (some (.v (iT (p:Int)))) (fun q hq=>by have:=h q (AK _ hq); simpa using this)
  refine⟨o5',o6',?_⟩
  rw[Ak,zCh]
  have hs:(tvT f).set p (iT ((row.getD ((k+1) % n) 0:Nat):Int))=tvT (f.set p (row.getD ((k+1) % n) 0)):=by simp[tvT,List.map_set]
  have h3':ixN (tvT f).length (p:Int)=some p:=by simpa using h3
  simp only[ringF]
  rw[← e,← hs]
  generalize row.getD ((k+1) % n) 0=z at *
  generalize tvT row=RR at *
  generalize tvT f=FF at *
  simp only[iT]at h2 ⊢
  simp[zFs,hn',hn,h2,h3']
theorem zMv(a b:Int)(n:Nat)(h3:3<=n)(hn:n<=5):∃ row a' b',IsT n (ringOf n row)/\row.Perm (A5 n)/\row.getD 0 0=0/\F_9 [.l [iT a,iT b],.v (iT (n:Int))]=some (.v (tuT (ringOf n row)),[iT a',iT b']):=by
 obtain⟨row,a',b',⟨hp,hh⟩,e⟩:=zIs (n - 1) ((E1 1 (n - 1))) [0] a b n none none none fuelX (by simp) (by rw[zBt]; omega) (by simp; omega)
 have hpr:row.Perm (A5 n):=by
  have e0:[0]++E1 1 (n - 1)=A5 n:=by
   obtain⟨m,rfl⟩:∃ m,n=m+1:=⟨n - 1,by omega⟩
   rw[List.range_eq_range',IT]
   simp
  rw[← e0]; exact hp
 have hrt:=zDD hpr
 have h0:=hh (by simp)
 have hT:IsT n (ringOf n row):=by
  have:=Ax.mp zKL n (by simp; omega)
  have:=Ax.mp this row (zCs hrt)
  simp only[GE,bne_iff_ne,ne_eq]at this
  rcases this with z | z
  ·exact zGf z
  ·exact absurd h0 z
 refine⟨row,a',b',hT,hpr,h0,?_⟩
 obtain⟨o5,o6,e2⟩:=zKy n row (by omega) hrt.len (some (.l [iT a',iT b'])) (some (.l [])) row.zipIdx (Ad n 0) none none (fun q hq=>by
  have h:=List.mem_zipIdx hq
  have hl:=hrt.len
  refine⟨?_,by omega⟩
  have:q.1∈row:=by rw[h.2.2]; exact ES _
  simpa using hrt.lt _ this)
 have r1:rngS [.v (.a (.int 1)),.v (.a (.int (n:Int)))]=some (rngT 1 (n - 1)):=zIk 1 n (by omega) (by omega)
 have r2:rngT 1 (n - 1)=tvT (E1 1 (n - 1)):=by
  simp[rngT,List.range'_eq_map_range,HY]
 have m1:∀ Γ,mulS Γ (.l [.a (.int 0)]) (.v (.a (.int (n:Int))))=some (.l (tvT (Ad n 0))):=fun Γ=>by
  rw[zKf [.a (.int 0)] n (by simp; omega) (by omega)]
  congr 2
  simp[tvT]
 have g1:(1:Nat)<=AE:=by decide
 have gl:(tvT row).length<=AE:=zAT (by simp[hrt.len]; omega)
 have en:dEnum (jW (jV 3) qQ) [some (.l [iT a',iT b']),some (.v (iT (n:Int))),some (.l []),some (.l (tvT row)),some (.l (tvT (Ad n 0))),none,none]=some (((row.zipIdx 0).map fun q=>.t [iT (q.2:Int),iT (q.1:Int)],[3]),[some (.l [iT a',iT b']),some (.v (iT (n:Int))),some (.l []),some (.l (tvT row)),some (.l (tvT (Ad n 0))),none,none]):=by
  rw[← zKo]
  generalize tvT row=RR at *
  simp[dEnum,gd,gl]
 unfold ringOf
 simp only[tvT,Ak,BE,iT,Int.ofNat_zero]at e
 have e':dWhile zCT zDz fuelX [some (.l [iT a,iT b]),some (.v (iT (n:Int))),some (.l (tvT (E1 1 (n - 1)))),some (.l [.a (.int 0)]),none,none,none]=some (.nx [some (.l [iT a',iT b']),some (.v (iT (n:Int))),some (.l []),some (.l (tvT row)),none,none,none]):=e
 rw[← r2]at e'
 generalize (row.zipIdx 0).map (fun q=>T.t [iT (q.2:Int),iT (q.1:Int)])=EE at *
 simp only[tuT]
 generalize tvT (ringF row n row.zipIdx (Ad n 0))=Z at *
 generalize tvT (Ad n 0)=R0 at *
 generalize tvT row=RR at *
 simp only[iT]at *
 simp[F_9,fnD,d_9,r1,gd,g1,e',m1,en,frz1,e2]
noncomputable def rings5:List (List Nat):=[[1,2,3,4,0],[1,2,4,0,3],[1,3,4,2,0],[1,3,0,4,2],[1,4,3,0,2],[1,4,0,2,3],[2,3,1,4,0],[2,4,1,0,3],[2,4,3,1,0],[2,0,3,4,1],[2,3,4,0,1],[2,0,4,1,3],[3,2,4,1,0],[3,4,0,1,2],[3,4,1,2,0],[3,0,4,2,1],[3,2,0,4,1],[3,0,1,4,2],[4,2,3,0,1],[4,3,0,2,1],[4,3,1,0,2],[4,0,3,1,2],[4,2,0,1,3],[4,0,1,2,3]]
noncomputable def invs:List Nat->Nat
 | []=>0
 | k::r=>(r.filter fun x=>decide (x < k)).length+invs r
noncomputable def evB (t:List Nat):Bool:=invs t % 2 == 0
noncomputable def natsT':List T->Option (List Nat)
 | []=>some []
 | .a (.int n)::r=>if 0<=n then (natsT' r).map fun ks=>n.toNat::ks else none
 | _=>none
theorem natsT'_eq:∀ {ts:List T} {ks:List Nat},natsT' ts=some ks->ts=tvT ks
 | [],ks,e=>by cases e; rfl
 | t::r,ks,e=>by
  unfold natsT' at e
  split at e
  ·rename_i h; cases h
  ·rename_i n r' h
   cases h
   split at e
   ·rename_i h0
    obtain⟨ms,e1,e⟩:=zAE e
    subst e
    rw[natsT'_eq e1]
    simp[tvT]; omega
   ·cases e
  ·cases e
noncomputable def apO (r:List Nat):Option (List Nat×List Nat):=match F_23 [.v (tuT r)] with
 | some (.v (.t [.t as,.t bs]),[])=>(natsT' as).bind fun a=>(natsT' bs).map fun b=>(a,b)
 | _=>none
noncomputable def apL (r:List Nat):List Nat×List Nat:=(apO r).getD ([],[])
theorem zNz{r:List Nat}{p:List Nat×List Nat}(h:apO r=some p):F_23 [.v (tuT r)]=some (.v (.t [tuT p.1,tuT p.2]),[]):=by
 unfold apO at h
 split at h
 ·rename_i as bs e
  obtain⟨a,e1,h⟩:=bind_some h
  obtain⟨b,e2,h⟩:=zAE h
  subst h
  rw[e,natsT'_eq e1,natsT'_eq e2]
 ·cases h
noncomputable def chkA (r:List Nat):Bool:=match apO r with
 | some (a,b)=>rings5.contains a && rings5.contains b && (thenL (thenL a b) (thenL (backL a) (backL b)) == r)
 | none=>false
theorem allA5:rings5.all chkA=true:=by decide +kernel
theorem allB5:(rings5.all fun r=>rings5.contains (backL r) && isTb 5 r && evB r && isTr (F_16 [.v (tuT r)]))=true:=by decide +kernel
theorem allC5:((turns 5).all fun t=>!evB t || rings5.all fun r=>evB (thenL t r))=true:=by decide +kernel
structure Rg(r:List Nat):Prop where
 mem:r∈rings5
theorem Rg.facts{r:List Nat}(h:Rg r):Rg (backL r)/\IsT 5 r/\evB r=true/\F_16 [.v (tuT r)]=some (.v (.a (.bl true)),[]):=by
 have:=Ax.mp allB5 r h.mem
 simp only[Ab]at this
 exact⟨⟨by simpa using this.1.1.1⟩,zGf this.1.1.2,this.1.2,zL0 this.2⟩
theorem Rg.isT{r:List Nat}(h:Rg r):IsT 5 r:=h.facts.2.1
theorem Rg.back{r:List Nat}(h:Rg r):Rg (backL r):=h.facts.1
theorem Rg.ap{r:List Nat}(h:Rg r):F_23 [.v (tuT r)]=some (.v (.t [tuT (apL r).1,tuT (apL r).2]),[])/\Rg (apL r).1/\Rg (apL r).2/\thenL (thenL (apL r).1 (apL r).2) (thenL (backL (apL r).1) (backL (apL r).2))=r:=by
 have:=Ax.mp allA5 r h.mem
 unfold chkA at this
 unfold apL
 split at this
 ·rename_i a b e
  simp only[Ab]at this
  rw[e,DX]
  exact⟨zNz e,⟨by simpa using this.1.1⟩,⟨by simpa using this.1.2⟩,by simpa using this.2⟩
 ·cases this
structure Ev(t:List Nat):Prop where
 isT:IsT 5 t
 ev:evB t=true
theorem Rg.even{r:List Nat}(h:Rg r):Ev r:=⟨h.isT,h.facts.2.2.1⟩
theorem zDH:Ev (A5 5):=⟨zIe 5,by decide⟩
theorem Ev.then{t r:List Nat}(h:Ev t)(hr:Rg r):Ev (thenL t r):=by
 refine⟨zJb h.isT hr.isT,?_⟩
 have:=Ax.mp allC5 t (zCs h.isT)
 rw[h.ev]at this
 exact Ax.mp (by simpa using this) r hr.mem
noncomputable def lastF (st:List Stp) (t:List Nat):List Stp:=match st.getLast? with
 | some s=>st.dropLast++[(s.1,thenL s.2.1 t,thenL s.2.2 t)]
 | none=>[]
noncomputable def Sy.steps:Sy->List Nat->List Stp
 | .yes,r=>[(0,r,r)]
 | .no,_=>[(0,A5 5,A5 5)]
 | .ask q,r=>[(q,r,A5 5)]
 | .nt a,r=>lastF (a.steps (backL r)) r
 | .an a b,r=>a.steps (apL r).1++b.steps (apL r).2++a.steps (backL (apL r).1)++b.steps (backL (apL r).2)
 | _,_=>[]
noncomputable def Sy.plain:Sy->Prop
 | .yes=>True
 | .no=>True
 | .ask _=>True
 | .nt a=>a.plain
 | .an a b=>a.plain/\b.plain
 | _=>False
theorem zAQ:∀ s:Sy,s.spell.plain
 | .yes=>trivial
 | .no=>trivial
 | .ask _=>trivial
 | .nt a=>zAQ a
 | .an a b=>⟨zAQ a,zAQ b⟩
 | .or a b=>⟨zAQ a,zAQ b⟩
 | .ei a b=>⟨⟨zAQ a,zAQ b⟩,⟨zAQ a,zAQ b⟩⟩
 | .mo a b c=>⟨⟨zAQ a,zAQ b⟩,⟨zAQ c,⟨zAQ a,zAQ b⟩⟩⟩
theorem zAk:∀ s:Sy,s.spell.wt=s.wt
 | .yes=>rfl
 | .no=>rfl
 | .ask _=>rfl
 | .nt a=>by have:=zAk a; simp only[Sy.spell,Sy.wt]; try omega
 | .an a b=>by have:=zAk a; have:=zAk b; simp only[Sy.spell,Sy.wt]; try omega
 | .or a b=>by have:=zAk a; have:=zAk b; simp only[Sy.spell,orS,Sy.wt]; try omega
 | .ei a b=>by have:=zAk a; have:=zAk b; simp only[Sy.spell,orS,Sy.wt]; try omega
 | .mo a b c=>by have:=zAk a; have:=zAk b; have:=zAk c; simp only[Sy.spell,orS,Sy.wt]; try omega
theorem zAi{q:Nat}:∀ s:Sy,s.qs q->s.spell.qs q
 | .yes,_=>trivial
 | .no,_=>trivial
 | .ask _,h=>h
 | .nt a,h=>zAi a h
 | .an a b,h=>⟨zAi a h.1,zAi b h.2⟩
 | .or a b,h=>⟨zAi a h.1,zAi b h.2⟩
 | .ei a b,h=>⟨⟨zAi a h.1,zAi b h.2⟩,⟨zAi a h.1,zAi b h.2⟩⟩
 | .mo a b c,h=>⟨⟨zAi a h.1,zAi b h.2.1⟩,⟨zAi c h.2.2,⟨zAi a h.1,zAi b h.2.1⟩⟩⟩
theorem zJs{st:List Stp}{t:List Nat}:(lastF st t).length=st.length:=by
 unfold lastF
 cases h:st.getLast? with
 | none=>rw[Gg.mp h]; try rfl
 | some s =>
  have:st≠[]:=fun z=>by rw[z]at h; cases h
  have:=Dr.mpr this
  simp only[Aq,Ha,Em]
  omega
theorem zAx:∀ (s:Sy) (r:List Nat),s.plain->(s.steps r).length=s.wt
 | .yes,_,_=>rfl
 | .no,_,_=>rfl
 | .ask _,_,_=>rfl
 | .nt a,r,h=>by simp only[Sy.steps,zJs,Sy.wt]; exact zAx a _ h
 | .an a b,r,h=>by
  have h1:=fun r=>zAx a r h.1
  have h2:=fun r=>zAx b r h.2
  simp only[Sy.steps,Aq,h1,h2,Sy.wt]
  omega
theorem zBF:∀ s:Sy,1<=s.wt
 | .yes=>AL _
 | .no=>AL _
 | .ask _=>AL _
 | .nt a=>by simp only[Sy.wt]; exact zBF a
 | .an a b=>by have:=zBF a; simp only[Sy.wt]; omega
 | .or a b=>by have:=zBF a; simp only[Sy.wt]; omega
 | .ei a b=>by have:=zBF a; simp only[Sy.wt]; omega
 | .mo a b c=>by have:=zBF a; simp only[Sy.wt]; omega
def StE (q:Nat) (st:List Stp):Prop:=∀ s∈st,s.1 < q/\Ev s.2.1/\Ev s.2.2
theorem StE.ok{q:Nat}{st:List Stp}(h:StE q st):StOk 5 q st:=fun s hs=>⟨(h s hs).1,(h s hs).2.1.isT,(h s hs).2.2.isT⟩
theorem StE.app{q:Nat}{a b:List Stp}(h:StE q a)(h':StE q b):StE q (a++b):=fun s hs=>(C6.mp hs).elim (h s) (h' s)
theorem zMm{q:Nat}{st:List Stp}{t:List Nat}(h:StE q st)(ht:Rg t):StE q (lastF st t):=by
 unfold lastF
 cases e:st.getLast? with
 | none=>exact fun s hs=>nomatch hs
 | some s =>
  have hs:=h s (He e)
  refine StE.app (fun x hx=>h x (List.dropLast_subset _ hx)) fun x hx=>?_
  rw[AF.mp hx]
  exact⟨hs.1,hs.2.1.then ht,hs.2.2.then ht⟩
theorem zBp{q:Nat}(hq:0 < q):∀ (s:Sy) (r:List Nat),s.plain->s.qs q->Rg r->StE q (s.steps r)
 | .yes,r,_,_,hr=>fun x hx=>by rw[AF.mp hx]; exact⟨hq,hr.even,hr.even⟩
 | .no,r,_,_,hr=>fun x hx=>by rw[AF.mp hx]; exact⟨hq,zDH,zDH⟩
 | .ask k,r,_,h,hr=>fun x hx=>by rw[AF.mp hx]; exact⟨h,hr.even,zDH⟩
 | .nt a,r,hp,h,hr=>zMm (zBp hq a _ hp h hr.back) hr
 | .an a b,r,hp,h,hr=>by
  obtain⟨_,h1,h2,_⟩:=hr.ap
  exact (((zBp hq a _ hp.1 h.1 h1).app (zBp hq b _ hp.2 h.2 h2)).app (zBp hq a _ hp.1 h.1 h1.back)).app (zBp hq b _ hp.2 h.2 h2.back)
noncomputable abbrev danT (n qs:Nat) (st:List Stp):T:=.t [iT (n:Int),iT (qs:Int),.t (st.map stT)]
theorem zEW(n:Nat)(a b:List Nat)(ha:IsT n a)(hb:IsT n b)(hn:n<=5):F_19 [.v (tuT a),.v (tuT b)]=some (.v (tuT (thenL a b)),[]):=by
 have hl:=ha.len
 obtain⟨o',e⟩:=zDW (fun (k:Nat)=>iT (k:Int)) (fun (k:Nat)=>iT (b.getD k 0:Nat)) (de:=zD7) (R:=[some (.v (tuT b))]) a (fun k hk=>by
  obtain⟨m,hm,_⟩:=hb.get (ha.lt k hk)
  have:=zIm hm
  simp only[tvT,iT]at this
  simp[zD7,this,hm]) none
 have g:a.length<=AE:=zAT (by omega)
 simp only[tuT,tvT,iT]at e
 simp[F_19,fnD,d_19,gd,g,e,thenL]
theorem zCS(n:Nat)(t:List Nat)(h:IsT n t)(hn:n<=5):F_20 [.v (tuT t)]=some (.v (tuT (backL t)),[]):=by
 have hl:=h.len
 obtain⟨o',e⟩:=zDW (fun (i:Nat)=>iT (i:Int)) (fun (i:Nat)=>iT (t.idxOf i:Nat)) (de:=zD3) (R:=[some (.v (tuT t))]) (A5 n) (fun i hi=>by
  have f1:=zK6 (h.mem (show i < n by simpa using hi))
  simp[zD3,zFu t,zMc t,f1,flatV]) none
 have e2:=zC4 n
 simp only[tuT,tvT,iT]at e e2
 simp[F_20,fnD,d_20,hl,zBv n (by omega),e2,e,backL]
theorem zHZ(n:Nat)(hn:n<=5):F_30 [.v (iT (n:Int))]=some (.v (tuT (A5 n)),[]):=by
 simp[F_30,fnD,d_30,zBv n (by omega),zC4]
noncomputable abbrev pcT (s:Sy) (r:List Nat):T:=.t [s.t,tuT r]
noncomputable abbrev spT (st:List Stp):T:=.t (st.map stT)
noncomputable def Sy.prs:Sy->List Nat->Rs
 | .yes,r=>.mk (pcT .yes r) (spT (Sy.steps .yes r)) []
 | .no,r=>.mk (pcT .no r) (spT (Sy.steps .no r)) []
 | .ask q,r=>.mk (pcT (.ask q) r) (spT (Sy.steps (.ask q) r)) []
 | .nt a,r=>.mk (pcT (.nt a) r) (spT (Sy.steps (.nt a) r)) [a.prs (backL r)]
 | .an a b,r=>.mk (pcT (.an a b) r) (spT (Sy.steps (.an a b) r)) [a.prs (apL r).1,b.prs (apL r).2,a.prs (backL (apL r).1),b.prs (backL (apL r).2)]
 | s,r=>.mk (pcT s r) (spT []) []
theorem zHW(s:Sy)(r:List Nat):(s.prs r).e=pcT s r:=by cases s <;> rfl
theorem zE9(s:Sy)(r:List Nat)(h:s.plain):(s.prs r).v=spT (s.steps r):=by
 cases s with
 | or a b=>exact h.elim
 | ei a b=>exact h.elim
 | mo a b c=>exact h.elim
 | _=>rfl
theorem zBZ:∀ (s:Sy) (r:List Nat),s.plain->(s.prs r).pre.length<=s.wt * s.down
 | .yes,r,_=>by simp[Sy.prs,zAd,zAS,Sy.wt,Sy.down]
 | .no,r,_=>by simp[Sy.prs,zAd,zAS,Sy.wt,Sy.down]
 | .ask _,r,_=>by simp[Sy.prs,zAd,zAS,Sy.wt,Sy.down]
 | .nt a,r,h=>by
  have h1:=zBZ a (backL r) h
  have h2:=zBF a
  have e:a.wt * (1+a.down)=a.wt+a.wt * a.down:=by rw[Hn,Kp]
  simp only[Sy.prs,zAd,zAU,zAS,BY,BI,Sy.wt,Sy.down]
  omega
 | .an a b,r,h=>by
  have a1:=zBZ a (apL r).1 h.1
  have a2:=zBZ a (backL (apL r).1) h.1
  have b1:=zBZ b (apL r).2 h.2
  have b2:=zBZ b (backL (apL r).2) h.2
  have pa:=zBF a
  have ma:a.wt * a.down<=a.wt * max a.down b.down:=Hz _ (Cp _ _)
  have mb:b.wt * b.down<=b.wt * max a.down b.down:=Hz _ (CZ _ _)
  have e:2 * (a.wt+b.wt) * (1+max a.down b.down)=2 * (a.wt+b.wt)+2 * (a.wt * max a.down b.down)+2 * (b.wt * max a.down b.down):=by
   rw[Hn,Kp,Nat.mul_assoc,Nat.add_mul,Hn,Nat.add_assoc]
   omega
  simp only[Sy.prs,zAd,zAU,zAS,BY,BI,Aq,Sy.wt,Sy.down]
  omega
theorem zA7(s:Sy)(r:List Nat)(h:s.kids=[]):F_24 [.v (pcT s r)]=some (.l [],[]):=by
 have g1:(0:Nat)<=AE:=by decide
 cases s with
 | yes=>simp[F_24,fnD,d_24,gd,Sy.t]
 | no=>simp[F_24,fnD,d_24,gd,Sy.t]
 | ask q=>simp[F_24,fnD,d_24,gd,Sy.t]
 | _=>cases h
theorem zDw(a:Sy)(r:List Nat)(hr:Rg r):F_24 [.v (pcT (.nt a) r)]=some (.l [pcT a (backL r)],[]):=by
 have e:=zCS 5 r hr.isT (by decide)
 have g1:(1:Nat)<=AE:=by decide
 have g2:(2:Nat)<=AE:=by decide
 unfold pcT
 simp only[Sy.t]
 generalize tuT r=R at *
 generalize tuT (backL r)=BR at *
 generalize a.t=A
 simp[F_24,fnD,d_24,gd,g1,g2,e]
theorem zDp(a b:Sy)(r:List Nat)(hr:Rg r):F_24 [.v (pcT (.an a b) r)]=some (.l [pcT a (apL r).1,pcT b (apL r).2,pcT a (backL (apL r).1),pcT b (backL (apL r).2)],[]):=by
 obtain⟨e0,r1,r2,_⟩:=hr.ap
 have e1:=zCS 5 _ r1.isT (by decide)
 have e2:=zCS 5 _ r2.isT (by decide)
 have g2:(2:Nat)<=AE:=by decide
 have g4:(4:Nat)<=AE:=by decide
 unfold pcT
 simp only[Sy.t]
 generalize tuT r=R at *
 generalize tuT (backL (apL r).1)=B1 at *
 generalize tuT (backL (apL r).2)=B2 at *
 generalize tuT (apL r).1=A1 at *
 generalize tuT (apL r).2=A2 at *
 generalize a.t=A
 generalize b.t=B
 simp[F_24,fnD,d_24,gd,g2,g4,e0,e1,e2]
theorem zB5:∀ (s:Sy) (r:List Nat),s.plain->Rg r->(s.prs r).In F_24
 | .yes,r,_,_=>zAq.mpr ⟨.inr (zA7 .yes r rfl),zAg⟩
 | .no,r,_,_=>zAq.mpr ⟨.inr (zA7 .no r rfl),zAg⟩
 | .ask q,r,_,_=>zAq.mpr ⟨.inr (zA7 (.ask q) r rfl),zAg⟩
 | .nt a,r,h,hr=>zAq.mpr ⟨.inr (by rw[Ak,BE,zHW]; exact zDw a r hr),zAM.mpr ⟨zB5 a _ h hr.back,zAg⟩⟩
 | .an a b,r,h,hr=>by
  obtain⟨_,r1,r2,_⟩:=hr.ap
  exact zAq.mpr ⟨.inr (by simp only[Ak,BE,zHW]; exact zDp a b r hr),zAM.mpr ⟨zB5 a _ h.1 r1,zAM.mpr ⟨zB5 b _ h.2 r2,zAM.mpr ⟨zB5 a _ h.1 r1.back,zAM.mpr ⟨zB5 b _ h.2 r2.back,zAg⟩⟩⟩⟩⟩
theorem zMR(s:Sy)(r:List Nat)(h:s.kids=[]):F_31 [.v s.t,.v (tuT r)]=some (.v (.t [iT ((match s with | .ask q=>q | _=>0:Nat):Int),(match s with | .no=>tuT (A5 5) | _=>tuT r),(match s with | .yes=>tuT r | _=>tuT (A5 5))]),[]):=by
 have e:=zHZ 5 (by decide)
 have e':F_30 [.v (.a (.int 5))]=some (.v (tuT (A5 5)),[]):=e
 have g3:(3:Nat)<=AE:=by decide
 generalize tuT r=R
 generalize tuT (A5 5)=S5 at *
 cases s with
 | yes=>simp[F_31,fnD,d_31,Sy.t,gd,g3]
 | no=>simp[F_31,fnD,d_31,Sy.t,gd,g3,e']
 | ask q=>simp[F_31,fnD,d_31,Sy.t,gd,g3,e']
 | _=>cases h
theorem zDE(s:Sy)(r:List Nat)(h:s.kids=[]):F_32 [.v (pcT s r),.r []]=some (.v (spT (s.steps r)),[]):=by
 have e:=zMR s r h
 have g1:(1:Nat)<=AE:=by decide
 unfold pcT spT
 cases s with
 | yes =>
  simp only[Sy.steps,Ak,BE,stT]
  simp only[Sy.t]at e ⊢
  generalize tuT r=R at *
  generalize tuT (A5 5)=S5 at *
  simp only[iT]at e ⊢
  simp[F_32,fnD,d_32,gd,g1,e]
 | no =>
  simp only[Sy.steps,Ak,BE,stT]
  simp only[Sy.t]at e ⊢
  generalize tuT r=R at *
  generalize tuT (A5 5)=S5 at *
  simp only[iT]at e ⊢
  simp[F_32,fnD,d_32,gd,g1,e]
 | ask q =>
  simp only[Sy.steps,Ak,BE,stT]
  simp only[Sy.t]at e ⊢
  generalize tuT r=R at *
  generalize tuT (A5 5)=S5 at *
  simp only[iT]at e ⊢
  simp[F_32,fnD,d_32,gd,g1,e]
 | _=>cases h
theorem zLE(xs:List T)(h:xs≠[]):cutT xs none (some (-1))=xs.dropLast:=by
 have hl:=Dr.mpr h
 have:HT.sIx xs.length xs.length (some (-1))=xs.length - 1:=by
  show (if (-1:Int) < 0 then ((-1:Int)+(xs.length:Int)).toNat else min (-1:Int).toNat xs.length)=_
  rw[if_pos (by decide)]
  omega
 unfold cutT
 rw[this,HT.sIx_none]
 simp[Eo]
theorem zMH{q:Nat}(st:List Stp)(t:List Nat)(h:StOk 5 q st)(hn:st≠[])(ht:IsT 5 t)(hl:st.length<=5000):F_29 [.v (spT st),.v (tuT t)]=some (.v (spT (lastF st t)),[]):=by
 unfold lastF
 cases e:st.getLast? with
 | none=>exact absurd (Gg.mp e) hn
 | some s =>
  have hs:=h s (He e)
  have e1:=zEW 5 s.2.1 t hs.2.1 ht (by decide)
  have e2:=zEW 5 s.2.2 t hs.2.2 ht (by decide)
  have e3:atI (st.map stT) (-1)=some (stT s):=by
   rw[zJN (by simpa using hn),Ae,A7,← List.getLast?_eq_getElem?,e]
   rfl
  have e4:cutT (st.map stT) none (some (-1))=st.dropLast.map stT:=by rw[zLE _ (by simpa using hn),List.map_dropLast]
  have g1:(1:Nat)<=AE:=by decide
  have g3:(3:Nat)<=AE:=by decide
  have gl:(st.dropLast.map stT).length+1<=AE:=zAT (by simp; omega)
  unfold spT
  rw[El,Ak,BE]
  simp only[stT]at e3 ⊢
  generalize st.dropLast.map (fun s=>T.t [iT (s.1:Int),tuT s.2.1,tuT s.2.2])=DL at *
  generalize st.map (fun s=>T.t [iT (s.1:Int),tuT s.2.1,tuT s.2.2])=SL at *
  generalize tuT t=TT at *
  generalize tuT (thenL s.2.1 t)=Y1 at *
  generalize tuT (thenL s.2.2 t)=Z1 at *
  generalize tuT s.2.1=Y0 at *
  generalize tuT s.2.2=Z0 at *
  simp only[iT]at e3 ⊢
  simp[F_29,fnD,d_29,gd,g1,g3,gl,e1,e2,e3,e4]
theorem zLt{q:Nat}(hq:0 < q)(a:Sy)(r:List Nat)(hp:a.plain)(h:a.qs q)(hw:a.wt<=1000)(hr:Rg r):F_32 [.v (pcT (.nt a) r),.r [spT (a.steps (backL r))]]=some (.v (spT (Sy.steps (.nt a) r)),[]):=by
 have hl:=zAx a (backL r) hp
 have hn:a.steps (backL r)≠[]:=fun z=>by
  rw[z]at hl
  have:=zBF a
  simp at hl
  omega
 have e:=zMH (a.steps (backL r)) r (zBp hq a _ hp h hr.back).ok hn hr.isT (by omega)
 simp only[Sy.steps]
 unfold pcT
 simp only[Sy.t]
 generalize spT (a.steps (backL r))=S1 at *
 generalize spT (lastF (a.steps (backL r)) r)=S2 at *
 generalize tuT r=R at *
 generalize a.t=A
 simp[F_32,fnD,d_32,e]
theorem zLe(a b:Sy)(r:List Nat)(hp:a.plain/\b.plain)(hw:a.wt+b.wt<=1000):F_32 [.v (pcT (.an a b) r),.r [spT (a.steps (apL r).1),spT (b.steps (apL r).2),spT (a.steps (backL (apL r).1)),spT (b.steps (backL (apL r).2))]]=some (.v (spT (Sy.steps (.an a b) r)),[]):=by
 have l1:=zAx a (apL r).1 hp.1
 have l2:=zAx b (apL r).2 hp.2
 have l3:=zAx a (backL (apL r).1) hp.1
 have l4:=zAx b (backL (apL r).2) hp.2
 simp only[Sy.steps]
 unfold pcT spT
 simp only[Sy.t,El]
 have k1:((a.steps (apL r).1).map stT).length=a.wt:=by rw[A7,l1]
 have k2:((b.steps (apL r).2).map stT).length=b.wt:=by rw[A7,l2]
 have k3:((a.steps (backL (apL r).1)).map stT).length=a.wt:=by rw[A7,l3]
 have k4:((b.steps (backL (apL r).2)).map stT).length=b.wt:=by rw[A7,l4]
 generalize (a.steps (apL r).1).map stT=S1 at *
 generalize (b.steps (apL r).2).map stT=S2 at *
 generalize (a.steps (backL (apL r).1)).map stT=S3 at *
 generalize (b.steps (backL (apL r).2)).map stT=S4 at *
 generalize tuT r=R
 generalize a.t=A
 generalize b.t=B
 have g1:S1.length+S2.length<=AE:=zAT (by omega)
 have g2:S1.length+S2.length+S3.length<=AE:=zAT (by omega)
 have g3:S1.length+S2.length+S3.length+S4.length<=AE:=zAT (by omega)
 have g2':S1.length+(S2.length+S3.length)<=AE:=zAT (by omega)
 have g3':S1.length+(S2.length+(S3.length+S4.length))<=AE:=zAT (by omega)
 have g3'':S1.length+(S2.length+S3.length)+S4.length<=AE:=zAT (by omega)
 simp[F_32,fnD,d_32,gd,g1,g2,g3,g2',g3',g3'']
theorem zNK{a b:Sy}:a.wt<=(Sy.an a b).wt/\b.wt<=(Sy.an a b).wt/\a.wt+b.wt<=(Sy.an a b).wt:=by simp only[Sy.wt]; omega
theorem zBm{q:Nat}(hq:0 < q):∀ (s:Sy) (r:List Nat),s.plain->s.qs q->s.wt<=1000->Rg r->(s.prs r).Put F_32
 | .yes,r,_,_,_,_=>zAl.mpr ⟨zDE .yes r rfl,zAe⟩
 | .no,r,_,_,_,_=>zAl.mpr ⟨zDE .no r rfl,zAe⟩
 | .ask q,r,_,_,_,_=>zAl.mpr ⟨zDE (.ask q) r rfl,zAe⟩
 | .nt a,r,hp,h,hw,hr=>zAl.mpr ⟨by rw[Ak,BE,zE9 _ _ (show a.plain from hp)]; exact zLt hq a r hp h hw hr,zAP.mpr ⟨zBm hq a _ hp h hw hr.back,zAe⟩⟩
 | .an a b,r,hp,h,hw,hr=>by
  obtain⟨_,r1,r2,_⟩:=hr.ap
  have w:=zNK (a:=a) (b:=b)
  exact zAl.mpr ⟨by simp only[Ak,BE,zE9 _ _ hp.1,zE9 _ _ hp.2]; exact zLe a b r hp (by omega),zAP.mpr ⟨zBm hq a _ hp.1 h.1 (by omega) r1,zAP.mpr ⟨zBm hq b _ hp.2 h.2 (by omega) r2,zAP.mpr ⟨zBm hq a _ hp.1 h.1 (by omega) r1.back,zAP.mpr ⟨zBm hq b _ hp.2 h.2 (by omega) r2.back,zAe⟩⟩⟩⟩⟩
theorem zC8:tb_1.find? (fun q=>decide (q.1=("pieces_in":Str)))=some (("pieces_in":Str),1,F_24):=by rfl
theorem zEr:tb_2.find? (fun q=>decide (q.1=("steps_of":Str)))=some (("steps_of":Str),2,F_32):=by rfl
theorem zEA:tb_2.find? (fun q=>decide (q.1=("weight_of":Str)))=some (("weight_of":Str),2,F_26):=by rfl
theorem zF0(s:Sy):F_26 [.v s.t,.r (s.kids.map fun k=>iT (k.wt:Int))]=some (.v (iT (s.wt:Int)),[]):=by
 have g2:(2:Nat)<=AE:=by decide
 have c2:∀ x:Int,CMul 2 x:=fun x=>.inl ⟨by decide,by decide⟩
 have c8:∀ x:Int,CMul 8 x:=fun x=>.inl ⟨by decide,by decide⟩
 have c12:∀ x:Int,CMul 12 x:=fun x=>.inl ⟨by decide,by decide⟩
 have c4:∀ x:Int,CMul 4 x:=fun x=>.inl ⟨by decide,by decide⟩
 cases s <;> simp[F_26,fnD,d_26,Sy.t,Sy.kids,Sy.wt,gd,g2,inS,atomsOf,flatV,inV,eqV,c2,c4,c8,c12]
theorem zGK(s:Sy)(h:s.parts<=80000):F_36 [.v s.t]=some (.v (iT (s.wt:Int)),[]):=by
 have:=zBD zDu zEA (s.rs fun k=>iT (k.wt:Int)) (s.rs_in _) (s.rs_put _ zF0) (by rw[Sy.rs_pre]; exact h)
 rw[← zFA,Sy.rs_e,Sy.rs_v]at this
 simp only[iT]at this ⊢
 simp[F_36,fnD,d_36,F_35,d_35,this]
inductive Hrd where
 | noRing | heavy (w:Nat) | fine
noncomputable def Hrd.t:Hrd->G
 | .noRing=>.v (.x "NoRing" [])
 | .heavy w=>.v (.x "TooHeavy" [("weight",.int (w:Int))])
 | .fine=>.v (.a .non)
noncomputable def hears (ring:Bool) (w most:Nat):Hrd:=if ring=false then .noRing else if most < w then .heavy w else .fine
theorem look24(s:Sy)(R:T)(b:Bool)(most:Nat)(hp:s.parts<=1000)(hR:F_16 [.v R]=some (.v (.a (.bl b)),[])) :
  F_37 [.v s.t,.v R,.v (iT (most:Int))]=some ((hears b s.wt most).t,[]):=by
 have e1:=zGK s (by omega)
 unfold hears
 simp only[iT]at e1 ⊢
 generalize s.t=ST at *
 cases b with
 | false =>
  rw[if_pos rfl]
  simp[F_37,fnD,d_37,hR,Hrd.t]
 | true =>
  rw[if_neg (by decide)]
  by_cases c:most < s.wt
  ·rw[if_pos c]
   have c':(most:Int) < (s.wt:Int):=by omega
   simp[F_37,fnD,d_37,hR,e1,c',c,Hrd.t,zHY,atomsS]
  ·rw[if_neg c]
   have c':¬ (most:Int) < (s.wt:Int):=by omega
   simp[F_37,fnD,d_37,hR,e1,c',c,Hrd.t]
theorem zGW(s:Sy)(q most:Nat)(R:T)(b:Bool)(hp:s.parts<=1000)(hR:F_16 [.v R]=some (.v (.a (.bl b)),[]))(hn:∀ h,hears b s.wt most=h->h≠.fine) :
  F_39 [.v s.t,.v (iT (q:Int)),.v R,.v (iT (most:Int))]=some ((hears b s.wt most).t,[]):=by
 have e:=look24 s R b most hp hR
 have hf:=hn _ rfl
 generalize hears b s.wt most=h at *
 simp only[iT]at e ⊢
 generalize s.t=ST at *
 cases h with
 | noRing=>simp only[Hrd.t]at e ⊢; simp[F_39,fnD,d_39,zCW,isXg,e]
 | heavy w=>simp only[Hrd.t]at e ⊢; simp[F_39,fnD,d_39,zCW,isXg,e]
 | fine=>exact absurd rfl hf
theorem zFD(s:Sy)(q most:Nat)(r:List Nat)(hq:0 < q)(h:s.qs q)(hr:Rg r)(hw:s.wt<=most)(hm:most<=128)(hd:s.down<=12)(hp:s.parts<=1000) :
  F_39 [.v s.t,.v (iT (q:Int)),.v (tuT r),.v (iT (most:Int))]=some (.v (danT 5 q (s.spell.steps r)),[]):=by
 have e2:=zDq s (by omega)
 have pl:=zAQ s
 have hb:(s.spell.prs r).pre.length<=80000:=by
  have h1:=zBZ s.spell r pl
  rw[zAk]at h1
  have h2:=zAh s
  have h3:s.wt * s.spell.down<=128 * 84:=JO (by omega) (by omega)
  omega
 have e3:=zBD zC8 zEr (s.spell.prs r) (zB5 _ r pl hr) (zBm hq _ r pl (zAi s h) (by rw[zAk]; omega) hr) hb
 rw[← zFA,zHW,zE9 _ _ pl]at e3
 have e5:=look24 s (tuT r) true most hp hr.facts.2.2.2
 rw[show hears true s.wt most=.fine by unfold hears; rw[if_neg (by decide),if_neg (by omega)]]at e5
 have g2:(2:Nat)<=AE:=by decide
 have g3:(3:Nat)<=AE:=by decide
 unfold pcT at e3
 unfold danT
 show _=some (G.v (.t [iT ((5:Nat):Int),iT (q:Int),spT (s.spell.steps r)]),([]:List T))
 unfold spT at e3 ⊢
 generalize (s.spell.steps r).map stT=SP at *
 generalize tuT r=R at *
 generalize s.t=ST at *
 generalize s.spell.t=SS at *
 simp only[iT,Hrd.t]at e5 ⊢
 simp[F_39,fnD,d_39,zCW,isXg,e5,e2,e3,gd,g2,g3]
inductive PP where
 | step | nt (p:PP) | an (i j k:Nat) (a b:List Nat) (p1 p2 p3 p4:PP)
noncomputable def PP.t:PP->T
 | .step=>.t [sT "step"]
 | .nt p=>.t [sT "not",p.t]
 | .an i j k a b p1 p2 p3 p4=>.t [sT "and",iT (i:Int),iT (j:Int),iT (k:Int),tuT a,tuT b,p1.t,p2.t,p3.t,p4.t]
noncomputable def Sy.paper:Sy->List Nat->PP
 | .nt a,r=>.nt (a.paper (backL r))
 | .an a b,r=>.an a.wt (a.wt+b.wt) (a.wt+b.wt+a.wt) (apL r).1 (apL r).2 (a.paper (apL r).1) (b.paper (apL r).2) (a.paper (backL (apL r).1)) (b.paper (backL (apL r).2))
 | _,_=>.step
noncomputable abbrev pvT (s:Sy) (r:List Nat):T:=.t [(s.paper r).t,iT (s.wt:Int)]
noncomputable def Sy.pps:Sy->List Nat->Rs
 | .yes,r=>.mk (pcT .yes r) (pvT .yes r) []
 | .no,r=>.mk (pcT .no r) (pvT .no r) []
 | .ask q,r=>.mk (pcT (.ask q) r) (pvT (.ask q) r) []
 | .nt a,r=>.mk (pcT (.nt a) r) (pvT (.nt a) r) [a.pps (backL r)]
 | .an a b,r=>.mk (pcT (.an a b) r) (pvT (.an a b) r) [a.pps (apL r).1,b.pps (apL r).2,a.pps (backL (apL r).1),b.pps (backL (apL r).2)]
 | s,r=>.mk (pcT s r) (pvT s r) []
theorem zIF(s:Sy)(r:List Nat):(s.pps r).e=pcT s r:=by cases s <;> rfl
theorem zH7(s:Sy)(r:List Nat):(s.pps r).v=pvT s r:=by cases s <;> rfl
theorem zBq:∀ (s:Sy) (r:List Nat),s.plain->(s.pps r).pre.length=(s.prs r).pre.length
 | .yes,r,_=>by simp[Sy.prs,Sy.pps,zAd,zAS]
 | .no,r,_=>by simp[Sy.prs,Sy.pps,zAd,zAS]
 | .ask _,r,_=>by simp[Sy.prs,Sy.pps,zAd,zAS]
 | .nt a,r,h=>by
  have h1:=zBq a (backL r) h
  simp only[Sy.prs,Sy.pps,zAd,zAU,zAS,BY,BI,h1]
 | .an a b,r,h=>by
  have a1:=zBq a (apL r).1 h.1
  have a2:=zBq a (backL (apL r).1) h.1
  have b1:=zBq b (apL r).2 h.2
  have b2:=zBq b (backL (apL r).2) h.2
  simp only[Sy.prs,Sy.pps,zAd,zAU,zAS,BY,BI,Aq,a1,a2,b1,b2]
theorem zB0:∀ (s:Sy) (r:List Nat),s.plain->Rg r->(s.pps r).In F_24
 | .yes,r,_,_=>zAq.mpr ⟨.inr (zA7 .yes r rfl),zAg⟩
 | .no,r,_,_=>zAq.mpr ⟨.inr (zA7 .no r rfl),zAg⟩
 | .ask q,r,_,_=>zAq.mpr ⟨.inr (zA7 (.ask q) r rfl),zAg⟩
 | .nt a,r,h,hr=>zAq.mpr ⟨.inr (by rw[Ak,BE,zIF]; exact zDw a r hr),zAM.mpr ⟨zB0 a _ h hr.back,zAg⟩⟩
 | .an a b,r,h,hr=>by
  obtain⟨_,r1,r2,_⟩:=hr.ap
  exact zAq.mpr ⟨.inr (by simp only[Ak,BE,zIF]; exact zDp a b r hr),zAM.mpr ⟨zB0 a _ h.1 r1,zAM.mpr ⟨zB0 b _ h.2 r2,zAM.mpr ⟨zB0 a _ h.1 r1.back,zAM.mpr ⟨zB0 b _ h.2 r2.back,zAg⟩⟩⟩⟩⟩
theorem zCV(s:Sy)(r:List Nat)(h:s.kids=[]):F_33 [.v (pcT s r),.r []]=some (.v (.t [PP.step.t,iT 1]),[]):=by
 have g1:(1:Nat)<=AE:=by decide
 have g2:(2:Nat)<=AE:=by decide
 unfold pcT
 generalize tuT r=R
 cases s with
 | yes=>simp[F_33,fnD,d_33,gd,g1,g2,Sy.t,PP.t]
 | no=>simp[F_33,fnD,d_33,gd,g1,g2,Sy.t,PP.t]
 | ask q=>simp[F_33,fnD,d_33,gd,g1,g2,Sy.t,PP.t]
 | _=>cases h
theorem zK3(a:Sy)(r:List Nat):F_33 [.v (pcT (.nt a) r),.r [pvT a (backL r)]]=some (.v (pvT (.nt a) r),[]):=by
 have g2:(2:Nat)<=AE:=by decide
 unfold pcT pvT
 simp only[Sy.t,Sy.paper,PP.t,Sy.wt,iT]
 generalize tuT r=R
 generalize (a.paper (backL r)).t=P
 generalize a.t=A
 generalize (a.wt:Int)=W
 simp[F_33,fnD,d_33,gd,g2]
theorem zKS(a b:Sy)(r:List Nat)(hr:Rg r):F_33 [.v (pcT (.an a b) r),.r [pvT a (apL r).1,pvT b (apL r).2,pvT a (backL (apL r).1),pvT b (backL (apL r).2)]]=some (.v (pvT (.an a b) r),[]):=by
 obtain⟨e0,_,_,_⟩:=hr.ap
 have g2:(2:Nat)<=AE:=by decide
 have g4:(4:Nat)<=AE:=by decide
 have g6:(6:Nat)<=AE:=by decide
 have g10:(10:Nat)<=AE:=by decide
 unfold pcT pvT
 simp only[Sy.t,Sy.paper,PP.t,iT]
 have w1:((a.wt+b.wt:Nat):Int)=(a.wt:Int)+(b.wt:Int):=by omega
 have w2:((a.wt+b.wt+a.wt:Nat):Int)=(a.wt:Int)+(b.wt:Int)+(a.wt:Int):=by omega
 have w3:((Sy.an a b).wt:Int)=(a.wt:Int)+(b.wt:Int)+(a.wt:Int)+(b.wt:Int):=by simp only[Sy.wt]; omega
 rw[w1,w2,w3]
 generalize tuT r=R at *
 generalize (a.paper (apL r).1).t=P1
 generalize (b.paper (apL r).2).t=P2
 generalize (a.paper (backL (apL r).1)).t=P3
 generalize (b.paper (backL (apL r).2)).t=P4
 generalize tuT (apL r).1=X at *
 generalize tuT (apL r).2=Y at *
 generalize a.t=A
 generalize b.t=B
 generalize (a.wt:Int)=W1
 generalize (b.wt:Int)=W2
 have i4:∀ (A B C D:T),atI [A,B,C,D] 0=some A/\atI [A,B,C,D] 1=some B/\atI [A,B,C,D] 2=some C/\atI [A,B,C,D] 3=some D:=fun _ _ _ _=>⟨rfl,rfl,rfl,rfl⟩
 have j1:=fun A B C D=>(i4 A B C D).1
 have j2:=fun A B C D=>(i4 A B C D).2.1
 have j3:=fun A B C D=>(i4 A B C D).2.2.1
 have j4:=fun A B C D=>(i4 A B C D).2.2.2
 simp[F_33,fnD,d_33,zG2,zAb,zAX,e0,j1,j2,j3,j4,gd,g2,g4,g6,g10]
theorem zBl:∀ (s:Sy) (r:List Nat),s.plain->Rg r->(s.pps r).Put F_33
 | .yes,r,_,_=>zAl.mpr ⟨zCV .yes r rfl,zAe⟩
 | .no,r,_,_=>zAl.mpr ⟨zCV .no r rfl,zAe⟩
 | .ask q,r,_,_=>zAl.mpr ⟨zCV (.ask q) r rfl,zAe⟩
 | .nt a,r,h,hr=>zAl.mpr ⟨by rw[Ak,BE,zH7]; exact zK3 a r,zAP.mpr ⟨zBl a _ h hr.back,zAe⟩⟩
 | .an a b,r,h,hr=>by
  obtain⟨_,r1,r2,_⟩:=hr.ap
  exact zAl.mpr ⟨by simp only[Ak,BE,zH7]; exact zKS a b r hr,zAP.mpr ⟨zBl a _ h.1 r1,zAP.mpr ⟨zBl b _ h.2 r2,zAP.mpr ⟨zBl a _ h.1 r1.back,zAP.mpr ⟨zBl b _ h.2 r2.back,zAe⟩⟩⟩⟩⟩
theorem zE4:tb_2.find? (fun q=>decide (q.1=("paper_of":Str)))=some (("paper_of":Str),2,F_33):=by rfl
theorem zKD(s:Sy)(q most:Nat)(R:T)(b:Bool)(hp:s.parts<=1000)(hR:F_16 [.v R]=some (.v (.a (.bl b)),[]))(hn:∀ h,hears b s.wt most=h->h≠.fine) :
  F_42 [.v s.t,.v (iT (q:Int)),.v R,.v (iT (most:Int))]=some ((hears b s.wt most).t,[]):=by
 have e:=zGW s q most R b hp hR hn
 have hf:=hn _ rfl
 generalize hears b s.wt most=h at *
 simp only[iT]at e ⊢
 generalize s.t=ST at *
 cases h with
 | noRing=>simp only[Hrd.t]at e ⊢; simp[F_42,fnD,d_42,e]
 | heavy w=>simp only[Hrd.t]at e ⊢; simp[F_42,fnD,d_42,e]
 | fine=>exact absurd rfl hf
theorem zJX(s:Sy)(q most:Nat)(r:List Nat)(hq:0 < q)(h:s.qs q)(hr:Rg r)(hw:s.wt<=most)(hm:most<=128)(hd:s.down<=12)(hp:s.parts<=1000) :
  F_42 [.v s.t,.v (iT (q:Int)),.v (tuT r),.v (iT (most:Int))]=some (.v (.t [danT 5 q (s.spell.steps r),(s.spell.paper r).t]),[]):=by
 have e1:=zFD s q most r hq h hr hw hm hd hp
 have e2:=zDq s (by omega)
 have pl:=zAQ s
 have hb:(s.spell.pps r).pre.length<=80000:=by
  rw[zBq _ _ pl]
  have h1:=zBZ s.spell r pl
  rw[zAk]at h1
  have h2:=zAh s
  have h3:s.wt * s.spell.down<=128 * 84:=JO (by omega) (by omega)
  omega
 have e3:=zBD zC8 zE4 (s.spell.pps r) (zB0 _ r pl hr) (zBl _ r pl hr) hb
 rw[← zFA,zIF,zH7]at e3
 have g2:(2:Nat)<=AE:=by decide
 unfold pcT pvT at e3
 unfold danT at e1 ⊢
 generalize (s.spell.steps r).map stT=DN at *
 generalize (s.spell.paper r).t=PT at *
 generalize tuT r=R at *
 generalize s.t=ST at *
 generalize s.spell.t=SS at *
 simp only[iT]at *
 simp[F_42,fnD,d_42,e1,e2,e3,gd,g2]
theorem xn_o(Γ:En):isXS csX mroX Γ [.v (.x "NoRing" []),.v (.t [.f "BadText",.f "NoDance",.f "NoName",.f "NoRow",.f "OtherSizes"])]=some (.v (.a (.bl false))):=by kernel_rfl
theorem xn_v(Γ:En):isXS csX mroX Γ [.v (.x "NoRing" []),.v (.a (.ty "ValueError"))]=some (.v (.a (.bl true))):=by kernel_rfl
theorem xn_n(Γ:En):isXS csX mroX Γ [.v (.x "NoRing" []),.v (.f "NoRing")]=some (.v (.a (.bl true))):=by kernel_rfl
theorem xn_t(Γ:En):isXS csX mroX Γ [.v (.x "NoRing" []),.v (.f "TooHeavy")]=some (.v (.a (.bl false))):=by kernel_rfl
theorem xt_o(Γ:En)(fs:List (Str×V)):isXS csX mroX Γ [.v (.x "TooHeavy" fs),.v (.t [.f "BadText",.f "NoDance",.f "NoName",.f "NoRow",.f "OtherSizes"])]=some (.v (.a (.bl false))):=by kernel_rfl
theorem xt_v(Γ:En)(fs:List (Str×V)):isXS csX mroX Γ [.v (.x "TooHeavy" fs),.v (.a (.ty "ValueError"))]=some (.v (.a (.bl true))):=by kernel_rfl
theorem xt_n(Γ:En)(fs:List (Str×V)):isXS csX mroX Γ [.v (.x "TooHeavy" fs),.v (.f "NoRing")]=some (.v (.a (.bl false))):=by kernel_rfl
theorem xt_t(Γ:En)(fs:List (Str×V)):isXS csX mroX Γ [.v (.x "TooHeavy" fs),.v (.f "TooHeavy")]=some (.v (.a (.bl true))):=by kernel_rfl
theorem xt_g(Γ:En)(w:Int):dGetX gkX "weight" (jV 0) (some (.v (.x "TooHeavy" [("weight",.int w)]))::Γ)=some (.v (.a (.int w)),some (.v (.x "TooHeavy" [("weight",.int w)]))::Γ):=by kernel_rfl
noncomputable def Hrd.d:Hrd->T
 | .noRing=>.t [sT "no ring"]
 | .heavy w=>.t [sT "too heavy",iT (w:Int)]
 | .fine=>.t [sT "made"]
theorem zHJ:F_40 [.v (.x "NoRing" [])]=some (.v (.t [.a (.str "no ring")]),[]):=by
 have g1:(1:Nat)<=AE:=by decide
 have g5:(5:Nat)<=AE:=by decide
 simp[F_40,fnD,d_40,xn_o,xn_v,xn_n,xn_t,gd,g1,g5]
theorem zCM(w:Int):F_40 [.v (.x "TooHeavy" [("weight",.int w)])]=some (.v (.t [.a (.str "too heavy"),.a (.int w)]),[]):=by
 have g1:(1:Nat)<=AE:=by decide
 have g2:(2:Nat)<=AE:=by decide
 have g5:(5:Nat)<=AE:=by decide
 have h:=fun Γ=>xt_g Γ w
 simp[F_40,fnD,d_40,xt_o,xt_v,xt_n,xt_t,h,gd,g1,g2,g5]
noncomputable def moT:Option Nat->T
 | none=>.a .non
 | some m=>iT (m:Int)
theorem zFP(s:Sy)(R:T)(b:Bool)(mo:Option Nat)(hp:s.parts<=1000)(hR:F_16 [.v R]=some (.v (.a (.bl b)),[]))(hn:∀ h,hears b s.wt (mo.getD 128)=h->h≠.fine) :
  F_41 [.v s.t,.v R,.v (moT mo)]=some (.v (hears b s.wt (mo.getD 128)).d,[])/\F_43 [.v s.t,.v R,.v (moT mo)]=some (.v (hears b s.wt (mo.getD 128)).d,[]):=by
 have e:F_39 [.v s.t,.v (.a (.int 10)),.v R,.v (.a (.int (mo.getD 128:Nat)))]=_:=zGW s 10 (mo.getD 128) R b hp hR hn
 have e':F_42 [.v s.t,.v (.a (.int 10)),.v R,.v (.a (.int (mo.getD 128:Nat)))]=_:=zKD s 10 (mo.getD 128) R b hp hR hn
 have hf:=hn _ rfl
 generalize hears b s.wt (mo.getD 128)=h at *
 generalize s.t=ST at *
 have r1:=zHJ
 have h1:("NoRing":Str)∈(["NoRing","TooHeavy"]:List Str):=AQ
 have h2:("TooHeavy":Str)∈(["NoRing","TooHeavy"]:List Str):=AK _ AQ
 cases mo with
 | none =>
  simp only[DW,moT]at *
  have e2:F_39 [.v ST,.v (.a (.int 10)),.v R,.v (.a (.int 128))]=some (h.t,[]):=e
  have e2':F_42 [.v ST,.v (.a (.int 10)),.v R,.v (.a (.int 128))]=some (h.t,[]):=e'
  cases h with
  | noRing =>
   simp only[Hrd.t,Hrd.d]at *
   constructor
   ·simp[F_41,fnD,d_41,zAs,e2,r1,isNoneS,goO]
   ·simp[F_43,fnD,d_43,zAs,e2',r1,isNoneS,goO]
  | heavy w =>
   have r2:=zCM (w:Int)
   simp only[Hrd.t,Hrd.d,iT]at *
   constructor
   ·simp[F_41,fnD,d_41,zAs,e2,r2,isNoneS,goO]
   ·simp[F_43,fnD,d_43,zAs,e2',r2,isNoneS,goO]
  | fine=>exact absurd rfl hf
 | some m =>
  simp only[DX,moT]at *
  cases h with
  | noRing =>
   simp only[Hrd.t,Hrd.d,iT]at *
   constructor
   ·simp[F_41,fnD,d_41,zAs,zBR,e,r1,isNoneS,goO]
   ·simp[F_43,fnD,d_43,zAs,zBR,e',r1,isNoneS,goO]
  | heavy w =>
   have r2:=zCM (w:Int)
   simp only[Hrd.t,Hrd.d,iT]at *
   constructor
   ·simp[F_41,fnD,d_41,zAs,zBR,e,r2,isNoneS,goO]
   ·simp[F_43,fnD,d_43,zAs,zBR,e',r2,isNoneS,goO]
  | fine=>exact absurd rfl hf
theorem zIl(s:Sy)(r:List Nat)(mo:Option Nat)(h:s.qs 10)(hr:Rg r)(hw:s.wt<=mo.getD 128)(hm:mo.getD 128<=128)(hd:s.down<=8)(hp:s.parts<=1000)(hfu:8<=zAn) :
  F_41 [.v s.t,.v (tuT r),.v (moT mo)]=some (.v Hrd.fine.d,[])/\F_43 [.v s.t,.v (tuT r),.v (moT mo)]=some (.v Hrd.fine.d,[]):=by
 have e:F_39 [.v s.t,.v (.a (.int 10)),.v (tuT r),.v (.a (.int (mo.getD 128:Nat)))]=_:=zFD s 10 (mo.getD 128) r (by decide) h hr hw hm (by omega) hp
 have e':F_42 [.v s.t,.v (.a (.int 10)),.v (tuT r),.v (.a (.int (mo.getD 128:Nat)))]=_:=zJX s 10 (mo.getD 128) r (by decide) h hr hw hm (by omega) hp
 have ew:=zBc zAn s (by omega)
 have hl:((s.spell.steps r).map stT).length=s.wt:=by rw[A7,zAx _ _ (zAQ s),zAk]
 have hpos:0 < s.wt:=zBF s
 have gz:s.wt<=AE:=zAT (by omega)
 have c1:(0:Int) < (s.wt:Int):=by omega
 have g1:(1:Nat)<=AE:=by decide
 have g2:(2:Nat)<=AE:=by decide
 have k2:∀ a b c:T,atI [a,b,c] 2=some c:=fun _ _ _=>rfl
 have k1:∀ a b:T,atI [a,b] 1=some b:=fun _ _=>rfl
 have k0:∀ a b:T,atI [a,b] 0=some a:=fun _ _=>rfl
 unfold danT at e e'
 generalize (s.spell.paper r).t=PT at *
 generalize (s.spell.steps r).map stT=SP at *
 generalize tuT r=R at *
 generalize s.t=ST at *
 simp only[iT]at ew
 cases mo with
 | none =>
  simp only[DW,moT,Hrd.d]at *
  have e2:F_39 [.v ST,.v (.a (.int 10)),.v R,.v (.a (.int 128))]=_:=e
  have e2':F_42 [.v ST,.v (.a (.int 10)),.v R,.v (.a (.int 128))]=_:=e'
  simp only[iT]at e2 e2'
  constructor
  ·simp[F_41,fnD,d_41,zAs,e2,isNoneS,goO,hl,gz,ew,hpos,gd,g1,g2,k0,k1,k2]
  ·simp[F_43,fnD,d_43,zAs,e2',isNoneS,goO,hl,gz,ew,hpos,gd,g1,g2,k0,k1,k2]
 | some m =>
  simp only[DX,moT,Hrd.d,iT]at *
  constructor
  ·simp[F_41,fnD,d_41,zAs,zBR,e,isNoneS,goO,hl,gz,ew,hpos,gd,g1,g2,k0,k1,k2]
  ·simp[F_43,fnD,d_43,zAs,zBR,e',isNoneS,goO,hl,gz,ew,hpos,gd,g1,g2,k0,k1,k2]
theorem due24(s:Sy)(R:T)(b:Bool)(most:Nat)(hd:s.down<=zAn)(hR:F_7 [.v R]=some (.v (.a (.bl b)),[])):F_8 [.v s.t,.v R,.v (iT (most:Int))]=some (.v (hears b s.wt most).d,[]):=by
 have ew:=zBc zAn s hd
 have g1:(1:Nat)<=AE:=by decide
 have g2:(2:Nat)<=AE:=by decide
 simp only[iT]at ew ⊢
 unfold hears
 generalize s.t=ST at *
 cases b with
 | false =>
  rw[if_pos rfl]
  simp[F_8,fnD,d_8,hR,Hrd.d,gd,g1]
 | true =>
  rw[if_neg (by decide)]
  by_cases c:most < s.wt
  ·rw[if_pos c]
   simp[F_8,fnD,d_8,hR,ew,c,Hrd.d,gd,g1,g2]
  ·rw[if_neg c]
   simp[F_8,fnD,d_8,hR,ew,c,Hrd.d,gd,g1,g2]
theorem zDb:∀ ns:List Int,intsOf (intsT ns)=some ns
 | []=>rfl
 | n::r=>by
  have:=zDb r
  simp only[intsT]at this
  simp[intsOf,intsT,this]
noncomputable def intD (ns:List Int):List EA:=ns.map GF
theorem zGB:∀ ns:List Int,toDs (intsT ns)=some (intD ns)
 | []=>by simp[intsT,toDs,intD]
 | n::r=>by
  have:=zGB r
  simp only[intsT]at this
  simp[intsT,toDs,toD,toDa,this,intD]
theorem zEP:∀ ns:List Int,Co (intD ns)=true
 | []=>by simp[intD,Co]
 | n::r=>by
  have:=zEP r
  simp only[intD]at this
  simp[intD,Co,Dx,this]
theorem zBw:∀ ns:List Int,Cd (intD ns)=0
 | []=>by simp[intD,Cd]
 | n::r=>by
  have:=zBw r
  simp only[intD]at this
  simp[intD,Cd,FN,this]
theorem zEE:∀ a c:List Int,ED (intD a) (intD c)=decide (a=c)
 | [],[]=>by simp[intD,ED]
 | [],_::_=>by simp[intD,ED]
 | _::_,[]=>by simp[intD,ED]
 | x::a,y::c=>by
  have ih:=zEE a c
  simp only[intD]at ih
  simp only[intD,Ak,ED,C5,ih]
  by_cases h1:x=y <;> by_cases h2:a=c <;> simp[h1,h2]
theorem zFn(f:EA->EA->Bool)(Γ:En)(a c:List Int):cmpD f Γ (.l (intsT a)) (.l (intsT c))=some (.v (.a (.bl (f (.list (intD a)) (.list (intD c)))))):=by
 have e0:∀ a:List Int,datS Γ (.l (intsT a))=some (.list (intD a)):=fun a=>by
  show ((sqlOf Γ (.l (intsT a))).bind fun xs=>(toDs xs).map JJ)=_
  rw[show sqlOf Γ (.l (intsT a))=some (intsT a) from rfl,Av,zGB]
  rfl
 unfold cmpD
 rw[e0,e0,Av,Av,if_pos ⟨by simp only[Dx,zEP],by simp only[Dx,zEP],by simp only[FN,zBw]; decide⟩]
 rfl
theorem zKb(Γ:En)(a c:List Int):eqS Γ (.l (intsT a)) (.l (intsT c))=some (.v (.a (.bl (decide (a=c))))):=by
 show ((eqA (fun x y=>decide (x=y)) Γ (.l (intsT a)) (.l (intsT c))).or (cmpD C5 Γ (.l (intsT a)) (.l (intsT c))))=_
 rw[zFn,show C5 (.list (intD a)) (.list (intD c))=decide (a=c) by rw[← zEE]; simp only[C5]]
 rfl
theorem zKl(Γ:En)(a c:List Int):neS Γ (.l (intsT a)) (.l (intsT c))=some (.v (.a (.bl (!decide (a=c))))):=by
 show ((eqA (fun x y=>!decide (x=y)) Γ (.l (intsT a)) (.l (intsT c))).or (cmpD (fun a b=>!PyData.eqv a b) Γ (.l (intsT a)) (.l (intsT c))))=_
 rw[zFn,show C5 (.list (intD a)) (.list (intD c))=decide (a=c) by rw[← zEE]; simp only[C5]]
 rfl
theorem zEl(zs:List Int)(h:zs.length < 64)(Γ:En):sortedS Γ [.v (.t (intsT zs))]=some (.l (intsT (sortI zs))):=by
 unfold sortedS
 dsimp only
 rw[show seqS Γ (.v (.t (intsT zs)))=some (intsT zs) from rfl,Av,zDb,Av,if_pos h]
 rfl
noncomputable def chkR (t:List Nat):Bool:=match F_16 [.v (tuT t)],F_7 [.v (tuT t)] with
 | some (.v (.a (.bl a)),[]),some (.v (.a (.bl b)),[])=>(a == b) && (!a || rings5.contains t)
 | _,_=>false
theorem allK5:(turns 5).all chkR=true:=by decide +kernel
theorem zL2{t:List Nat}(h:chkR t=true):∃ b,F_16 [.v (tuT t)]=some (.v (.a (.bl b)),[])/\F_7 [.v (tuT t)]=some (.v (.a (.bl b)),[])/\(b=true->t∈rings5):=by
 unfold chkR at h
 split at h
 ·rename_i a b e1 e2
  rw[Ab]at h
  have hab:a=b:=by simpa using h.1
  subst hab
  refine⟨a,e1,e2,fun ha=>?_⟩
  have:=h.2
  rw[ha]at this
  simpa using this
 ·cases h
theorem zKt(zs:List Int)(hl:zs.length < 64):∃ b,F_16 [.v (.t (intsT zs))]=some (.v (.a (.bl b)),[])/\F_7 [.v (.t (intsT zs))]=some (.v (.a (.bl b)),[])/\(b=true->∃ r,Rg r/\intsT zs=tvT r):=by
 by_cases h:sortI zs=[0,1,2,3,4]
 ·have hp:zs.Perm [0,1,2,3,4]:=by rw[← h]; exact (zCI zs).symm
  have hr:zs=(zs.map FC).map fun (k:Nat)=>(k:Int):=by
   rw[Jc]
   have:zs.map ((fun (k:Nat)=>(k:Int)) ∘ FC)=zs.map id:=List.map_congr_left fun z hz=>by
    have:=hp.mem_iff.mp hz
    simp only[AO,A8,or_false]at this
    show ((z.toNat:Nat):Int)=z
    omega
   rw[this,List.map_id]
  have hpn:(zs.map FC).Perm (A5 5):=hp.map FC
  have e:intsT zs=tvT (zs.map FC):=by
   conv=>lhs; rw[hr]
   simp[intsT]
  have hm:zs.map FC∈turns 5:=zCs ⟨by have:=hpn.length_eq; simpa using this,fun k hk=>Ey.mp (hpn.mem_iff.mp hk),hpn.nodup_iff.mpr Fz⟩
  obtain⟨b,h1,h2,h3⟩:=zL2 (Ax.mp allK5 _ hm)
  rw[e]
  exact⟨b,h1,h2,fun hb=>⟨_,⟨h3 hb⟩,rfl⟩⟩
 ·refine⟨false,?_,?_,fun z=>by cases z⟩
  ·have s1:=fun Γ=>zEl zs hl Γ
   have r1:=zBv 5 (by decide)
   have r2:rngT 0 5=intsT [0,1,2,3,4]:=rfl
   rw[r2]at r1
   have e:=fun Γ=>zKb Γ (sortI zs) [0,1,2,3,4]
   simp only[h,decide_false]at e
   have r1':rngS [.v (.a (.int 5))]=some (intsT [0,1,2,3,4]):=r1
   have et:F_12 [.v (.a (.int 5)),.v (.t (intsT zs))]=some (.v (.a (.bl false)),[]):=by
    generalize intsT (sortI zs)=A at *
    generalize intsT [0,1,2,3,4]=B at *
    generalize intsT zs=X at *
    simp[F_12,fnD,d_12,s1,r1',e]
   generalize intsT zs=X at *
   simp[F_16,fnD,d_16,et]
  ·have s1:=fun Γ=>zEl zs hl Γ
   have e:=fun Γ=>zKl Γ (sortI zs) [0,1,2,3,4]
   simp only[h,decide_false,Bool.not_false]at e
   have e':∀ Γ:En,neS Γ (.l (intsT (sortI zs))) (.l [.a (.int 0),.a (.int 1),.a (.int 2),.a (.int 3),.a (.int 4)])=some (.v (.a (.bl true))):=e
   have g5:(5:Nat)<=AE:=by decide
   generalize intsT (sortI zs)=A at *
   generalize intsT zs=X at *
   simp[F_7,fnD,d_7,s1,e',gd,g5]
theorem zDM(a c:List Int):intsT a++intsT c=intsT (a++c):=by simp[intsT]
theorem zFp(zs:List Int)(n:Nat):cutT (intsT zs) none (some (n:Int))=intsT (zs.take n):=by rw[zFN]; simp[intsT,List.map_take]
theorem zJr(zs:List Int)(n:Nat):cutT (intsT zs) (some (n:Int)) none=intsT (zs.drop n):=by rw[zFH]; simp[intsT,List.map_drop]
theorem zGX(t:List Nat):tvT t=intsT (t.map fun (k:Nat)=>(k:Int)):=by simp[intsT,tvT]
theorem zNy(a b:Int):∃ zs a' b',zs.length < 64/\F_11 [.l [iT a,iT b]]=some (.v (.t (intsT zs)),[iT a',iT b']):=by
 obtain⟨row,a1,b1,hr,_,_,e1⟩:=zMv a b 5 (by decide) (by decide)
 obtain⟨f,a2,b2,hf,e2⟩:=zAV a1 b1 8 (by decide) (by decide)
 obtain⟨t,a3,b3,ht,e3⟩:=zAV a2 b2 5 (by decide) (by decide)
 have e1':F_9 [.l [iT a,iT b],.v (.a (.int 5))]=some (.v (.t (intsT ((ringOf 5 row).map fun (k:Nat)=>(k:Int)))),[iT a1,iT b1]):=by rw[← zGX]; exact e1
 have e2':F_5 [.l [iT a1,iT b1],.v (.a (.int 8))]=some (.v (iT (f:Int)),[iT a2,iT b2]):=e2
 have e3':F_5 [.l [iT a2,iT b2],.v (.a (.int 5))]=some (.v (iT (t:Int)),[iT a3,iT b3]):=e3
 have hl:((ringOf 5 row).map fun (k:Nat)=>(k:Int)).length=5:=by rw[A7]; exact hr.len
 generalize (ringOf 5 row).map (fun (k:Nat)=>(k:Int))=zs at *
 have il:∀ xs:List Int,(intsT xs).length=xs.length:=fun xs=>by simp[intsT]
 have lt:(zs.take t).length<=5:=by rw[CT]; omega
 have ld:(zs.drop (t+1)).length<=5:=by rw[ER]; omega
 have lt1:(zs.take (t+1)).length<=5:=by rw[CT]; omega
 have ld0:(zs.drop t).length<=5:=by rw[ER]; omega
 have c1:=zFp zs t
 have c2:cutT (intsT zs) (some ((t:Int)+1)) none=intsT (zs.drop (t+1)):=zJr zs (t+1)
 have c3:cutT (intsT zs) none (some ((t:Int)+1))=intsT (zs.take (t+1)):=zFp zs (t+1)
 have c4:=zJr zs t
 have g1:(1:Nat)<=AE:=by decide
 have g0:(0:Nat)<=AE:=by decide
 have g3:(3:Nat)<=AE:=by decide
 have g4:(4:Nat)<=AE:=by decide
 have g5:(5:Nat)<=AE:=by decide
 have q:∀ (xs:List Int),xs.length<=100->(intsT xs).length<=AE:=fun xs h=>zAT (by rw[il]; omega)
 have q2:∀ (xs ys:List Int),xs.length+ys.length<=100->(intsT xs).length+(intsT ys).length<=AE:=fun xs ys h=>zAT (by rw[il,il]; omega)
 have q3:∀ (xs:List Int),xs.length<=100->(intsT xs).length+1<=AE:=fun xs h=>zAT (by rw[il]; omega)
 have q4:∀ (xs ys:List Int),xs.length+ys.length<=100->(intsT xs).length+((intsT ys).length+1)<=AE:=fun xs ys h=>zAT (by rw[il,il]; omega)
 have q5:∀ (xs ys:List Int),xs.length+ys.length<=100->(intsT xs).length+1+(intsT ys).length<=AE:=fun xs ys h=>zAT (by rw[il,il]; omega)
 have put:∀ z:Int,intsT (zs.take t)++T.a (.int z)::intsT (zs.drop (t+1))=intsT (zs.take t++z::zs.drop (t+1)):=fun z=>by simp[intsT]
 have u1:=q (zs.take t) (by omega)
 have u2:=q (zs.drop (t+1)) (by omega)
 have u3:=q (zs.take (t+1)) (by omega)
 have u4:=q (zs.drop t) (by omega)
 have v1:=q2 (zs.take t) (zs.drop (t+1)) (by omega)
 have v2:=q2 (zs.take (t+1)) (zs.drop t) (by omega)
 have v3:=q3 (zs.take t) (by omega)
 have v4:=q4 (zs.take t) (zs.drop (t+1)) (by omega)
 have v5:=q5 (zs.take t) (zs.drop (t+1)) (by omega)
 have v6:=q3 zs (by omega)
 have cs:f < 4\/f=4\/f=5\/f=6\/f=7:=by omega
 rcases cs with hf4 | rfl | rfl | rfl | rfl
 ·have hf4':(f:Int) < 4:=by omega
  refine⟨zs,a3,b3,by omega,?_⟩
  generalize intsT zs=Z at *
  generalize (f:Int)=ff at *
  simp only[iT]at *
  simp[F_11,fnD,d_11,e1',e2',e3',hf4']
 ·obtain⟨m,a4,b4,hm,e4⟩:=zAV a3 b3 3 (by decide) (by decide)
  have e4':F_5 [.l [iT a3,iT b3],.v (.a (.int 3))]=some (.v (iT (m:Int)),[iT a4,iT b4]):=e4
  obtain⟨tt,a5,b5,htt,e5⟩:=zHd a4 b4 (3+m) (by omega)
  have e5':F_10 [.l [iT a4,iT b4],.v (.a (.int (3+(m:Int))))]=some (.v (.t (intsT (tt.map fun (k:Nat)=>(k:Int)))),[iT a5,iT b5]):=by rw[← zGX]; exact e5
  refine⟨tt.map fun (k:Nat)=>(k:Int),a5,b5,by rw[A7,htt.len]; omega,?_⟩
  generalize intsT (tt.map fun (k:Nat)=>(k:Int))=TT at *
  generalize intsT zs=Z at *
  simp only[iT]at *
  simp[F_11,fnD,d_11,e1',e2',e3',e4',e5']
 ·obtain⟨m,a4,b4,hm,e4⟩:=zAV a3 b3 8 (by decide) (by decide)
  have e4':F_5 [.l [iT a3,iT b3],.v (.a (.int 8))]=some (.v (iT (m:Int)),[iT a4,iT b4]):=e4
  refine⟨zs.take t++((m:Int) - 2)::zs.drop (t+1),a4,b4,by simp only[Aq,BI]; omega,?_⟩
  rw[← put]
  generalize intsT (zs.take t)=A1 at *
  generalize intsT (zs.drop (t+1))=A2 at *
  generalize intsT zs=Z at *
  simp only[iT]at *
  simp[F_11,fnD,d_11,e1',e2',e3',e4',c1,c2,gd,g1,u1,u2,v3,v4,v5]
 ·obtain⟨m,a4,b4,hm,e4⟩:=zAV a3 b3 4 (by decide) (by decide)
  have e4':F_5 [.l [iT a3,iT b3],.v (.a (.int 4))]=some (.v (iT (m:Int)),[iT a4,iT b4]):=e4
  obtain⟨ys,hys,ey⟩:∃ ys:List Int,ys.length < 64/\atI ([.t (intsT (zs.take t)++intsT (zs.drop (t+1))),.t (intsT zs++[.a (.int 5)]),.t [],.t (intsT (zs.take (t+1))++intsT (zs.drop t))]:List T) (m:Int)=some (.t (intsT ys)):=by
   match m,hm with
   | 0,_=>exact⟨zs.take t++zs.drop (t+1),by rw[Aq]; omega,by rw[← zDM]; rfl⟩
   | 1,_=>exact⟨zs++[5],by rw[Aq,hl]; decide,by rw[← zDM]; rfl⟩
   | 2,_=>exact⟨[],by decide,rfl⟩
   | 3,_=>exact⟨zs.take (t+1)++zs.drop t,by rw[Aq]; omega,by rw[← zDM]; rfl⟩
  refine⟨ys,a4,b4,hys,?_⟩
  generalize intsT (zs.take t)=A1 at *
  generalize intsT (zs.drop (t+1))=A2 at *
  generalize intsT (zs.take (t+1))=A3 at *
  generalize intsT (zs.drop t)=A4 at *
  generalize intsT zs=Z at *
  generalize intsT ys=YS at *
  simp only[iT]at *
  simp[F_11,fnD,d_11,e1',e2',e3',e4',c1,c2,c3,c4,gd,g0,g1,g4,u1,u2,u3,u4,v1,v2,v6,ey]
 ·obtain⟨m,a4,b4,hm,e4⟩:=zAV a3 b3 3 (by decide) (by decide)
  have e4':F_5 [.l [iT a3,iT b3],.v (.a (.int 3))]=some (.v (iT (m:Int)),[iT a4,iT b4]):=e4
  obtain⟨z,hz⟩:∃ z:Int,atI (intsT zs) ((t:Int) - 1)=some (.a (.int z)):=by
   by_cases h0:t=0
   ·subst h0
    show ∃ z:Int,atI (intsT zs) (-1)=some (.a (.int z))
    have hne:intsT zs≠[]:=fun z=>by have:=congrArg GA z; rw[il,hl]at this; cases this
    rw[zJN hne,il,hl]
    exact⟨zs[4]'(by omega),by simp[intsT,Bw (show 4 < zs.length by omega)]⟩
   ·exact zDT zs (by omega) (by omega)
  obtain⟨ys,hys,ey⟩:∃ ys:List Int,ys.length < 64/\atI ([.t [.a (.int 0),.a (.int 1),.a (.int 2),.a (.int 3),.a (.int 4)],.t (intsT (zs.take t)++T.a (.int z)::intsT (zs.drop (t+1))),.t [.a (.int 1),.a (.int 0),.a (.int 3),.a (.int 4),.a (.int 2)]]:List T) (m:Int)=some (.t (intsT ys)):=by
   match m,hm with
   | 0,_=>exact⟨[0,1,2,3,4],by decide,rfl⟩
   | 1,_=>exact⟨zs.take t++z::zs.drop (t+1),by simp only[Aq,BI]; omega,by rw[← put]; rfl⟩
   | 2,_=>exact⟨[1,0,3,4,2],by decide,rfl⟩
  refine⟨ys,a4,b4,hys,?_⟩
  generalize intsT (zs.take t)=A1 at *
  generalize intsT (zs.drop (t+1))=A2 at *
  generalize intsT zs=Z at *
  generalize intsT ys=YS at *
  simp only[iT]at *
  simp[F_11,fnD,d_11,e1',e2',e3',e4',c1,c2,hz,gd,g1,g3,g5,u1,u2,v3,v4,v5,ey]
theorem pow28(m:Nat):28 ^ (1+m)=28 * 28 ^ m:=by rw[Jv,Nat.pow_succ,Jw]
theorem zA1:∀ s:Sy,s.wt<=28 ^ s.down
 | .yes=>by decide
 | .no=>by decide
 | .ask _=>by simp[Sy.wt,Sy.down]
 | .nt a=>by have:=zA1 a; simp only[Sy.wt,Sy.down]; rw[pow28]; omega
 | .an a b=>by
  have h1:=Aa (zA1 a) (BN (by decide:0 < 28) (Cp a.down b.down))
  have h2:=Aa (zA1 b) (BN (by decide:0 < 28) (CZ a.down b.down))
  simp only[Sy.wt,Sy.down]; rw[pow28]; omega
 | .or a b=>by
  have h1:=Aa (zA1 a) (BN (by decide:0 < 28) (Cp a.down b.down))
  have h2:=Aa (zA1 b) (BN (by decide:0 < 28) (CZ a.down b.down))
  simp only[Sy.wt,Sy.down]; rw[pow28]; omega
 | .ei a b=>by
  have h1:=Aa (zA1 a) (BN (by decide:0 < 28) (Cp a.down b.down))
  have h2:=Aa (zA1 b) (BN (by decide:0 < 28) (CZ a.down b.down))
  simp only[Sy.wt,Sy.down]; rw[pow28]; omega
 | .mo a b c=>by
  have h1:=Aa (zA1 a) (BN (by decide:0 < 28) (Cp a.down (max b.down c.down)))
  have h2:=Aa (zA1 b) (BN (by decide:0 < 28) (Aa (Cp b.down c.down) (CZ a.down _)))
  have h3:=Aa (zA1 c) (BN (by decide:0 < 28) (Aa (CZ b.down c.down) (CZ a.down _)))
  simp only[Sy.wt,Sy.down]; rw[pow28]; omega
theorem zH9(w:Nat)(h:w < 10 ^ 9)(Γ:En):reprS Γ [.v (.t [.a (.str "too heavy"),.a (.int (w:Int))])]=some (.v (.a (.str (Gu [.str "too heavy",.int (w:Int)]).shown))):=by
 have hn:(w:Int).natAbs < 10 ^ 9:=by omega
 have lg:(w:Int).natAbs.log2 < 40:=by
  by_cases z:(w:Int).natAbs=0
  ·rw[z]; decide
  ·exact (Nat.log2_lt z).mpr (HJ hn (by decide))
 have ln:=int_text_length_le10 (a:=(w:Int)) (k:=9) (by decide) hn
 have ws:(GF (w:Int)).weight<=60:=by simp only[Il]; split <;> omega
 rw[zEN,show D.toD (.t [.a (.str "too heavy"),.a (.int (w:Int))])=some (.tuple [.str "too heavy",.int (w:Int)]) by simp[D.toD,toDs,toDa],zON,if_pos]
 refine⟨?_,rfl,by simp[FN,Cd],?_⟩
 ·simp only[II,PyData.showableAll,Bool.and_true,EJ,decide_eq_true_eq]; omega
 ·refine PyData.shown_fits (B:=12) (by decide) (by decide) ?_ ?_
  ·have a:Dz 12 (.str "too heavy")=true:=by decide +kernel
   have b:Dz 12 (.int (w:Int))=true:=by
    simp only[Dz,decide_eq_true_eq]
    rw[PyData.shown_int,ofString_length]
    omega
   simp only[Dz,PyData.leavesShortAll]at a b ⊢
   rw[a,b]; rfl
  ·have a:(PyData.str "too heavy").weight<=20:=by decide +kernel
   simp only[Il,PyData.weightAll]at a ws ⊢
   omega
theorem shown24(h:Hrd)(hb:∀ w,h=.heavy w->w < 10 ^ 9):∃ x:Str,∀ Γ:En,reprS Γ [.v h.d]=some (.v (.a (.str x))):=by
 cases h with
 | noRing=>exact⟨(Gu [.str "no ring"]).shown,fun Γ=>by kernel_rfl⟩
 | heavy w=>exact⟨_,fun Γ=>zH9 w (hb w rfl) Γ⟩
 | fine=>exact⟨(Gu [.str "made"]).shown,fun Γ=>by kernel_rfl⟩
structure It(s:Sy)(zs:List Int)(mo:Option Nat):Prop where
 qs:s.qs 10
 pt:s.parts<=24
 dn:s.down<=6
 zl:zs.length < 64
 ml:mo.getD 128<=128
theorem right24(s:Sy)(zs:List Int)(mo:Option Nat)(h:It s zs mo):∃ (d:T) (x:Str),(∀ Γ:En,reprS Γ [.v d]=some (.v (.a (.str x))))/\F_8 [.v s.t,.v (.t (intsT zs)),.v (iT ((mo.getD 128:Nat):Int))]=some (.v d,[]) /\
  F_41 [.v s.t,.v (.t (intsT zs)),.v (moT mo)]=some (.v d,[])/\F_43 [.v s.t,.v (.t (intsT zs)),.v (moT mo)]=some (.v d,[]):=by
 obtain⟨b,hb1,hb2,hb3⟩:=zKt zs h.zl
 have hdn:=h.dn
 have hpt:=h.pt
 have ed:=due24 s (.t (intsT zs)) b (mo.getD 128) (Aa hdn (by decide)) hb2
 have hw:s.wt < 10 ^ 9:=FW (Aa (zA1 s) (BN (by decide:0 < 28) hdn)) (by decide)
 obtain⟨x,hx⟩:=shown24 (hears b s.wt (mo.getD 128)) (fun w e=>by
  unfold hears at e
  split at e
  ·cases e
  ·split at e
   ·cases e; exact hw
   ·cases e)
 refine⟨(hears b s.wt (mo.getD 128)).d,x,hx,ed,?_⟩
 cases hh:hears b s.wt (mo.getD 128) with
 | noRing =>
  have:=zFP s (.t (intsT zs)) b mo (by omega) hb1 (fun z e=>by rw[hh]at e; rw[← e]; intro z; cases z)
  rw[hh]at this; exact this
 | heavy w =>
  have:=zFP s (.t (intsT zs)) b mo (by omega) hb1 (fun z e=>by rw[hh]at e; rw[← e]; intro z; cases z)
  rw[hh]at this; exact this
 | fine =>
  have hbt:b=true/\¬ mo.getD 128 < s.wt:=by
   unfold hears at hh
   split at hh
   ·cases hh
   ·rename_i hb
    split at hh
    ·cases hh
    ·rename_i hn
     exact⟨by cases b with | true=>rfl | false=>exact absurd rfl hb,hn⟩
  obtain⟨r,hr,er⟩:=hb3 hbt.1
  rw[er]
  exact zIl s r mo h.qs hr (by omega) h.ml (by omega) (by omega) (by decide)
noncomputable def itT (s:Sy) (zs:List Int) (mo:Option Nat):T:=.t [s.t,.t (intsT zs),moT mo]
def ItT (d:T):Prop:=∃ s zs mo,It s zs mo/\d=itT s zs mo
theorem zHq(x0 x1 x2 x3 x5 x6:Option G)(d:T)(hd:ItT d)(o4 o7 o8 o9:Option G):∃ p4 p7 p8 p9,∀ r:List T,forD (gdTup 3 (gdCons (gdName 4) (gdCons (gdName 7) (gdCons (gdName 8) gdNil)))) zBJ (d::r) [x0,x1,x2,x3,o4,x5,x6,o7,o8,o9]=forD (gdTup 3 (gdCons (gdName 4) (gdCons (gdName 7) (gdCons (gdName 8) gdNil)))) zBJ r [x0,x1,x2,x3,p4,x5,x6,p7,p8,p9]:=by
 obtain⟨s,zs,mo,hi,rfl⟩:=hd
 obtain⟨D,x,hx,e1,e2,e3⟩:=right24 s zs mo hi
 have g2:(2:Nat)<=AE:=by decide
 have k0:∀ a b:T,atI [a,b] 0=some a:=fun _ _=>rfl
 have k1:∀ a b:T,atI [a,b] 1=some b:=fun _ _=>rfl
 refine⟨some (.v s.t),some (.v (.t (intsT zs))),some (.v (moT mo)),some (.v (.a (.str x))),fun r=>?_⟩
 have t:zBJ [x0,x1,x2,x3,some (.v s.t),x5,x6,some (.v (.t (intsT zs))),some (.v (moT mo)),o9]=some (.nx [x0,x1,x2,x3,some (.v s.t),x5,x6,some (.v (.t (intsT zs))),some (.v (moT mo)),some (.v (.a (.str x)))]):=by
  generalize s.t=ST at *
  generalize T.t (intsT zs)=Z at *
  cases mo with
  | none =>
   simp only[moT,DW]at *
   have e1':F_8 [.v ST,.v Z,.v (.a (.int 128))]=some (.v D,[]):=e1
   simp[zBJ,e1',e2,e3,hx,-zEN,isNoneS,gd,g2,k1]
  | some m =>
   simp only[moT,DX,iT]at *
   simp[zBJ,e1,e2,e3,hx,-zEN,isNoneS,gd,g2,k0]
 exact zEY (Γ1:=[x0,x1,x2,x3,some (.v s.t),x5,x6,some (.v (.t (intsT zs))),some (.v (moT mo)),o9]) rfl t
theorem zDm(x0 x1 x2 x3 x5 x6:Option G):∀ (ds:List T) (o4 o7 o8 o9:Option G),(∀ d∈ds,ItT d)->∃ p4 p7 p8 p9,forD (gdTup 3 (gdCons (gdName 4) (gdCons (gdName 7) (gdCons (gdName 8) gdNil)))) zBJ ds [x0,x1,x2,x3,o4,x5,x6,o7,o8,o9]=some (.nx [x0,x1,x2,x3,p4,x5,x6,p7,p8,p9])
 | [],o4,o7,o8,o9,_=>⟨o4,o7,o8,o9,by rw[zCD]⟩
 | d::r,o4,o7,o8,o9,h=>by
  obtain⟨p4,p7,p8,p9,t⟩:=zHq x0 x1 x2 x3 x5 x6 d (h d AQ) o4 o7 o8 o9
  obtain⟨q4,q7,q8,q9,e⟩:=zDm x0 x1 x2 x3 x5 x6 r p4 p7 p8 p9 fun x hx=>h x (AK _ hx)
  exact⟨q4,q7,q8,q9,by rw[t]; exact e⟩
noncomputable abbrev smT (w m:Int):List T:=[.a .non,.a (.int 128),.a (.int (1+m)),.a (.int (if w < 128 then w else 128)),.a (.int (if (if w - 1 < 128 then w - 1 else 128) > 1 then (if w - 1 < 128 then w - 1 else 128) else 1))]
theorem zLz(w m k:Nat)(hm:m < 128)(hk:k < 5)(hw:1<=w):∃ mo:Option Nat,mo.getD 128<=128/\atI ([.a .non,.a (.int 128),.a (.int (1+(m:Int))),.a (.int (if (w:Int) < 128 then (w:Int) else 128)),.a (.int (if (if (w:Int) - 1 < 128 then (w:Int) - 1 else 128) > 1 then (if (w:Int) - 1 < 128 then (w:Int) - 1 else 128) else 1))]:List T) (k:Int)=some (moT mo):=by
 match k,hk with
 | 0,_=>exact⟨none,by decide,rfl⟩
 | 1,_=>exact⟨some 128,by decide,rfl⟩
 | 2,_=>exact⟨some (1+m),by simp; omega,by show some (T.a (.int (1+(m:Int))))=_; rw[show (1+(m:Int))=((1+m:Nat):Int) by omega]; rfl⟩
 | 3,_ =>
  by_cases h:w < 128
  ·exact⟨some w,by simp; omega,by show some (T.a (.int (if (w:Int) < 128 then (w:Int) else 128)))=_; rw[if_pos (by omega)]; rfl⟩
  ·exact⟨some 128,by simp,by show some (T.a (.int (if (w:Int) < 128 then (w:Int) else 128)))=_; rw[if_neg (by omega)]; rfl⟩
 | 4,_ =>
  show ∃ mo:Option Nat,mo.getD 128<=128/\some (T.a (.int (if (if (w:Int) - 1 < 128 then (w:Int) - 1 else 128) > 1 then (if (w:Int) - 1 < 128 then (w:Int) - 1 else 128) else 1)))=some (moT mo)
  by_cases h:(w:Int) - 1 < 128
  ·rw[if_pos h]
   by_cases h2:(w:Int) - 1 > 1
   ·exact⟨some (w - 1),by simp; omega,by rw[if_pos h2,show (w:Int) - 1=((w - 1:Nat):Int) by omega]; rfl⟩
   ·exact⟨some 1,by simp,by rw[if_neg h2]; rfl⟩
  ·rw[if_neg h]
   exact⟨some 128,by simp,rfl⟩
theorem zI1(ns:List Int)(k:Nat)(hk:k < 1000)(ds:List T)(hl:ds.length < 100)(o3 o4 o5 o6 x7 x8 x9:Option G):∃ d p3 p4 p5 p6,ItT d/\zBr [some (.k (intsT ns)),some (.l ds),some (.v (iT (k:Int))),o3,o4,o5,o6,x7,x8,x9]=some (.nx [some (.k (intsT ns)),some (.l (ds++[d])),some (.v (iT (k:Int))),p3,p4,p5,p6,x7,x8,x9]):=by
 obtain⟨a,b,e0⟩:=zNt ns k (by omega) (by omega)
 obtain⟨s0,a1,b1,h1,h2,h3,e1⟩:=zCa 10 (by decide) (by decide) zA2 a b 24 6 (by decide) (by decide) (by decide) (by decide)
 have e1':F_1 zA2 [.l [iT a,iT b],.v (.a (.int 10)),.v (.a (.int 24)),.v (.a (.int 6))]=some (.v s0.t,[iT a1,iT b1]):=e1
 obtain⟨c,a2,b2,hc,e2⟩:=zAV a1 b1 2 (by decide) (by decide)
 have e2':F_5 [.l [iT a1,iT b1],.v (.a (.int 2))]=some (.v (iT (c:Int)),[iT a2,iT b2]):=e2
 have h1':s0.down<=6:=h1
 have g0:ds.length < AE:=zGj (by omega)
 have g1:ds.length<=AE:=CN g0
 have g3:(3:Nat)<=AE:=by decide
 have g5:(5:Nat)<=AE:=by decide
 have rest:∀ (s:Sy) (a3 b3:Int),s.qs 10->s.parts<=24->s.down<=6->∃ (m:Nat) (a4 b4:Int) (zs:List Int) (a5 b5:Int) (j:Nat) (a6 b6:Int) (mo:Option Nat),It s zs mo/\F_3 zAn [.v s.t]=some (.v (.a (.int (s.wt:Int))),[])/\F_5 [.l [iT a3,iT b3],.v (.a (.int 128))]=some (.v (iT (m:Int)),[iT a4,iT b4])/\F_11 [.l [iT a4,iT b4]]=some (.v (.t (intsT zs)),[iT a5,iT b5])/\F_5 [.l [iT a5,iT b5],.v (.a (.int 5))]=some (.v (iT (j:Int)),[iT a6,iT b6]) /\
   atI ([.a .non,.a (.int 128),.a (.int (1+(m:Int))),.a (.int (if (s.wt:Int) < 128 then (s.wt:Int) else 128)),.a (.int (if (if (s.wt:Int) - 1 < 128 then (s.wt:Int) - 1 else 128) > 1 then (if (s.wt:Int) - 1 < 128 then (s.wt:Int) - 1 else 128) else 1))]:List T) (j:Int)=some (moT mo):=fun s a3 b3 q1 q2 q3=>by
  have ew:=zBc zAn s (Aa q3 (by decide))
  obtain⟨m,a4,b4,hm,e4⟩:=zAV a3 b3 128 (by decide) (by decide)
  obtain⟨zs,a5,b5,hz,e5⟩:=zNy a4 b4
  obtain⟨j,a6,b6,hj,e6⟩:=zAV a5 b5 5 (by decide) (by decide)
  obtain⟨mo,hmo,em⟩:=zLz s.wt m j hm hj (zBF s)
  exact⟨m,a4,b4,zs,a5,b5,j,a6,b6,mo,⟨q1,q2,q3,hz,hmo⟩,ew,e4,e5,e6,em⟩
 by_cases hc0:c=0
 ·subst hc0
  obtain⟨s,a3,b3,u1,u2,_,u4,e3⟩:=zKI 10 24 60 (by decide) (by decide) (by decide) (by decide) (by decide) (by decide) a2 b2
  have e3':F_6 [.l [iT a2,iT b2],.v (.a (.int 10)),.v (.a (.int 24)),.v (.a (.int 60))]=some (.v s.t,[iT a3,iT b3]):=e3
  obtain⟨m,a4,b4,zs,a5,b5,j,a6,b6,mo,hi,ew,e4,e5,e6,em⟩:=rest s a3 b3 u2 u4 u1
  refine⟨itT s zs mo,some (.l [iT a6,iT b6]),some (.v s.t),some (.v (.a (.int (s.wt:Int)))),some (.l (smT (s.wt:Int) (m:Int))),⟨s,zs,mo,hi,rfl⟩,?_⟩
  ·unfold itT
   generalize s0.t=S0 at *
   generalize s.t=ST at *
   generalize intsT ns=NS at *
   generalize T.t (intsT zs)=Z at *
   generalize (s.wt:Int)=WT at *
   generalize moT mo=MO at *
   simp only[iT]at *
   simp[zBr,e0,e1',e2',e3',ew,e4,e5,e6,em,gd,g0,g1,g3,g5,hAppend]
 ·have hc':¬ ((c:Int)=0):=by omega
  obtain⟨m,a4,b4,zs,a5,b5,j,a6,b6,mo,hi,ew,e4,e5,e6,em⟩:=rest s0 a2 b2 h3 h2 h1'
  refine⟨itT s0 zs mo,some (.l [iT a6,iT b6]),some (.v s0.t),some (.v (.a (.int (s0.wt:Int)))),some (.l (smT (s0.wt:Int) (m:Int))),⟨s0,zs,mo,hi,rfl⟩,?_⟩
  ·unfold itT
   generalize s0.t=ST at *
   generalize intsT ns=NS at *
   generalize T.t (intsT zs)=Z at *
   generalize (s0.wt:Int)=WT at *
   generalize moT mo=MO at *
   generalize (c:Int)=cc at *
   simp only[iT]at *
   simp[zBr,e0,e1',e2',hc',ew,e4,e5,e6,em,gd,g0,g1,g3,g5,hAppend]
theorem zEZ(ns:List Int)(x7 x8 x9:Option G):∀ (ks:List Nat) (ds:List T) (o2 o3 o4 o5 o6:Option G),(∀ k∈ks,k < 1000)->(∀ d∈ds,ItT d)->ks.length+ds.length<=50->∃ (ds':List T) (p2 p3 p4 p5 p6:Option G),(∀ d∈ds',ItT d)/\ds'.length<=50 /\
  forD (gdName 2) zBr (ks.map fun (k:Nat)=>iT (k:Int)) [some (.k (intsT ns)),some (.l ds),o2,o3,o4,o5,o6,x7,x8,x9]=some (.nx [some (.k (intsT ns)),some (.l ds'),p2,p3,p4,p5,p6,x7,x8,x9])
 | [],ds,o2,o3,o4,o5,o6,_,h,hl=>⟨ds,o2,o3,o4,o5,o6,h,by simp at hl; omega,by rw[BE,zCD]⟩
 | k::r,ds,o2,o3,o4,o5,o6,hk,h,hl=>by
  simp only[BI]at hl
  obtain⟨d,p3,p4,p5,p6,hd,t⟩:=zI1 ns k (hk k AQ) ds (by omega) o3 o4 o5 o6 x7 x8 x9
  obtain⟨ds',y2,y3,y4,y5,y6,hds,hdl,e⟩:=zEZ ns x7 x8 x9 r (ds++[d]) (some (.v (iT (k:Int)))) p3 p4 p5 p6 (fun j hj=>hk j (AK _ hj)) (fun x hx=>(C6.mp hx).elim (h x) fun z=>AF.mp z ▸ hd) (by simp; omega)
  exact⟨ds',y2,y3,y4,y5,y6,hds,hdl,by rw[Ak,zEY (Γ1:=[some (.k (intsT ns)),some (.l ds),some (.v (iT (k:Int))),o3,o4,o5,o6,x7,x8,x9]) rfl t]; exact e⟩
theorem law_true(ns:List Int)(hns:ns.length<=63):zCC [.k (intsT ns)]=some (.v (.a (.bl true)),[]):=by
 have hil:(intsT (ns.take 4)).length=min 4 ns.length:=by simp[intsT]
 obtain⟨ds,y2,y3,y4,y5,y6,hd,hl,e⟩:=zEZ ns none none none (A5 (1+min 4 ns.length)) [] none none none none none (fun k hk=>AV (Ey.mp hk) (by omega)) (fun d hd=>nomatch hd) (by simp; omega)
 obtain⟨p4,p7,p8,p9,e2⟩:=zDm (some (.k (intsT ns))) (some (.l ds)) y2 y3 y5 y6 (ds++ds.take 1) y4 none none none (fun d hdm=>hd d ((C6.mp hdm).elim id List.mem_of_mem_take))
 have c4:cutT (intsT ns) none (some 4)=intsT (ns.take 4):=zFp ns 4
 have g0:(0:Nat)<=AE:=by decide
 have gm:min 4 ns.length<=AE:=zAT (by omega)
 have g1:ds.length+min 1 ds.length<=AE:=zAT (by omega)
 have g2:min 1 ds.length<=AE:=zAT (by omega)
 have r1:rngS [.v (.a (.int (1+((min 4 ns.length:Nat):Int))))]=some (rngT 0 (1+min 4 ns.length)):=by
  have:=zBv (1+min 4 ns.length) (by omega)
  rw[show ((1+min 4 ns.length:Nat):Int)=1+((min 4 ns.length:Nat):Int) by omega]at this
  exact this
 have r2:=zC4 (1+min 4 ns.length)
 have cc:cutT ds none (some 1)=ds.take 1:=zFN ds 1
 simp only[tvT,iT]at r2 e cc e2
 rw[← r2]at e
 generalize rngT 0 (1+min 4 ns.length)=RG at *
 generalize min 4 ns.length=mm at *
 generalize intsT (ns.take 4)=N4 at *
 generalize intsT ns=NS at *
 simp[zCC,fnD,zLV,hil,c4,gm,r1,e,gd,g0,g1,g2,cc,e2]
structure Wr(K:AH)(x:Str)(st:Stmt)(f:Addr):Prop where
 a:nsIn K AR x=some (some (.ref f))
 F:∃ fd,Fun K x x st f fd
theorem wr_mk{K:AH}{x:Str}{st:Stmt}{f:Addr}{oc:AB}{od an:Option Addr}{osl:Array (Option AB)}{kV doc pm cdv ct:AB}(a:nsIn K AR x=some (some (.ref f)))(l:K.lookup f=some ⟨oc,od,.func (fnOf x x (defArgs st) (defBody st) (defScope st) .none kV doc pm an cdv ct),osl⟩)
  (c:Bi K cdv x=true) (k:An K (.ref f)=true):Wr K x st f:=⟨a,_,zFh l c k⟩
local macro_rules | `(tactic| walk_at "b") => `(tactic| (intro _ _ _ _ _ _ us hl; first|(obtain⟨_,h⟩:=len1 hl; subst h; exact rfl)|(obtain⟨_,_,h⟩:=len2 hl; subst h; exact rfl)|(obtain⟨_,_,_,h⟩:=len3 hl; subst h; exact rfl)|(obtain⟨_,_,_,_,h⟩:=len4 hl; subst h; exact rfl)))
theorem all_mk{l:Fq}{w:Af}{K:AH}{h:Heap}{mg:Str->Option AB}{fa:Addr}(X:K.In h)(G:h.Ns AR mg)(hfa:mg "law"=some (.ref fa))
  {f1:Addr} (w1:Wr K "_law_box" st_4 f1)
  {f2:Addr} (w2:Wr K "_law_take" st_5 f2)
  {f3:Addr} (w3:Wr K "_law_saying" st_1 f3)
  {f4:Addr} (w4:Wr K "_law_weight" st_3 f4)
  {f5:Addr} (w5:Wr K "_law_weighed" st_2 f5)
  {f6:Addr} (w6:Wr K "_law_many_parts" st_0 f6)
  {f7:Addr} (w7:Wr K "_law_light" st_6 f7)
  {f8:Addr} (w8:Wr K "_law_is_ring" st_7 f8)
  {f9:Addr} (w9:Wr K "_law_due" st_8 f9)
  {f10:Addr} (w10:Wr K "_law_ring" st_9 f10)
  {f11:Addr} (w11:Wr K "_law_turning" zIO f11)
  {f12:Addr} (w12:Wr K "_law_aim" zHI f12)
  {f13:Addr} (w13:Wr K "is_turning" zHG f13)
  {f14:Addr} (w14:Wr K "row_from" zHF f14)
  {f15:Addr} (w15:Wr K "rings_of" zIC f15)
  {f16:Addr} (w16:Wr K "is_ring" zG6 f16)
  {f17:Addr} (w17:Wr K "is_ring_of_five" zIN f17)
  {f18:Addr} (w18:Wr K "inner" zG4 f18)
  {f19:Addr} (w19:Wr K "leading" zHx f19)
  {f20:Addr} (w20:Wr K "then" zHu f20)
  {f21:Addr} (w21:Wr K "back" zIL f21)
  {f22:Addr} (w22:Wr K "there_back" zIE f22)
  {f23:Addr} (w23:Wr K "about" zHN f23)
  {f24:Addr} (w24:Wr K "apart" zHi f24)
  {f25:Addr} (w25:Wr K "pieces_in" zHE f25)
  {f26:Addr} (w26:Wr K "all_within" zG9 f26)
  {f27:Addr} (w27:Wr K "weight_of" zH1 f27)
  {f28:Addr} (w28:Wr K "either_or_both" zHm f28)
  {f29:Addr} (w29:Wr K "spelled_of" zH3 f29)
  {f30:Addr} (w30:Wr K "last_followed" zHt f30)
  {f31:Addr} (w31:Wr K "still" zHf f31)
  {f32:Addr} (w32:Wr K "bare_step" zHO f32)
  {f33:Addr} (w33:Wr K "steps_of" zHg f33)
  {f34:Addr} (w34:Wr K "paper_of" zHe f34)
  {f35:Addr} (w35:Wr K "fold_within" zHo f35)
  {f36:Addr} (w36:Wr K "folded" zH5 f36)
  {f37:Addr} (w37:Wr K "weight" zHl f37)
  {f38:Addr} (w38:Wr K "look_at_making" zG8 f38)
  {f39:Addr} (w39:Wr K "spelled" zHK f39)
  {f40:Addr} {od40 an40:Option Addr} {sl40:Array (Option AB)} {oc40 kV40 dc40 pm40 cd40 ct40:AB}
  {pdf40:Addr} {ndf40:Nat} {sdf40:Array (Option AB)} {tdf40:Tok} (dfl40:K.lookup pdf40=some ⟨.type "tuple",none,.seq [Bb 128 tdf40].toArray ndf40,sdf40⟩)
  (a40:nsIn K AR "made"=some (some (.ref f40))) (l40:K.lookup f40=some ⟨oc40,od40,.func (fnOf "made" "made" (defArgs zCv) (defBody zCv) (defScope zCv) (.ref pdf40) kV40 dc40 pm40 an40 cd40 ct40),sl40⟩) (c40:Bi K cd40 "made"=true) (k40:An K (.ref f40)=true)
  {f41:Addr} (w41:Wr K "_law_refused" zH8 f41)
  {f42:Addr} (w42:Wr K "_law_heard" zHv f42)
  {f43:Addr} {od43 an43:Option Addr} {sl43:Array (Option AB)} {oc43 kV43 dc43 pm43 cd43 ct43:AB}
  {pdf43:Addr} {ndf43:Nat} {sdf43:Array (Option AB)} {tdf43:Tok} (dfl43:K.lookup pdf43=some ⟨.type "tuple",none,.seq [Bb 128 tdf43].toArray ndf43,sdf43⟩)
  (a43:nsIn K AR "made_with_paper"=some (some (.ref f43))) (l43:K.lookup f43=some ⟨oc43,od43,.func (fnOf "made_with_paper" "made_with_paper" (defArgs zCx) (defBody zCx) (defScope zCx) (.ref pdf43) kV43 dc43 pm43 an43 cd43 ct43),sl43⟩) (c43:Bi K cd43 "made_with_paper"=true) (k43:An K (.ref f43)=true)
  {f44:Addr} (w44:Wr K "_law_heard_with_paper" zHb f44)
  {f45:Addr} {od45 an45:Option Addr} {sl45:Array (Option AB)} {oc45 kV45 dc45 pm45 cd45 ct45:AB}
  (a45:nsIn K AR "law"=some (some (.ref f45))) (l45:K.lookup f45=some ⟨oc45,od45,.func (fnOf "law" "law" (defArgs zBS) (defBody zBS) (defScope zBS) .none kV45 dc45 pm45 an45 cd45 ct45),sl45⟩) (c45:Bi K cd45 "law"=true) (k45:An K (.ref f45)=true)
  (z1:nsIn K AR "ValueError"=some none)
  (z2:nsIn K AR "dict"=some none)
  (z3:nsIn K AR "enumerate"=some none)
  (z4:nsIn K AR "int"=some none)
  (z5:nsIn K AR "isinstance"=some none)
  (z6:nsIn K AR "len"=some none)
  (z7:nsIn K AR "list"=some none)
  (z8:nsIn K AR "max"=some none)
  (z9:nsIn K AR "min"=some none)
  (z10:nsIn K AR "range"=some none)
  (z11:nsIn K AR "repr"=some none)
  (z12:nsIn K AR "reversed"=some none)
  (z13:nsIn K AR "sorted"=some none)
  (z14:nsIn K AR "sum"=some none)
  (z15:nsIn K AR "tuple"=some none)
  (z16:nsIn K AR "zip"=some none)
  {xc1:Addr} (xa1:nsIn K AR "BadText"=some (some (.ref xc1)))
  {xc2:Addr} (xa2:nsIn K AR "CupError"=some (some (.ref xc2)))
  {xc3:Addr} (xa3:nsIn K AR "NoDance"=some (some (.ref xc3)))
  {xc4:Addr} (xa4:nsIn K AR "NoName"=some (some (.ref xc4)))
  {xc5:Addr} (xa5:nsIn K AR "NoRing"=some (some (.ref xc5)))
  {xc6:Addr} (xa6:nsIn K AR "NoRow"=some (some (.ref xc6)))
  {xc7:Addr} (xa7:nsIn K AR "OtherSizes"=some (some (.ref xc7)))
  {xc8:Addr} (xa8:nsIn K AR "TooHeavy"=some (some (.ref xc8)))
  (xq5:EB K xc5 veB "ValueError.__new__"=true)
  (cq1:catches K xc5 xc2=true)
  (cq2:catches K xc8 xc2=true)
  (xk:XKC K csX mroX=true)
  (xg:XGC K gkX=true)
  {xf8:Addr} {xod8 xan8:Option Addr} {xsl8:Array (Option AB)} {xoc8 xkV8 xdc8 xpm8 xcd8 xct8:AB} (xi8:Bj K (.ref xc8) "__init__"=some (some (.ref xf8))) (xl8:K.lookup xf8=some ⟨xoc8,xod8,.func (fnOf "__init__" "TooHeavy.__init__" (defArgs zBB) (defBody zBB) (defScope zBB) .none xkV8 xdc8 xpm8 xan8 xcd8 xct8),xsl8⟩)
  (xw8:Bi K xcd8 "TooHeavy.__init__"=true) (xk8:An K (.ref xf8)=true) (xe8:excI K xc8 xf8=true) (xs8:setKit K xc8 ["weight"]=true) (xp8:An K (.ref xc8)=true)
  (yp5:An K (.ref xc5)=true)
  {pk1:Addr} {nk1:Nat} {slk1:Array (Option AB)} {t1_0 t1_1 t1_2 t1_3 t1_4:Tok} (ka1:nsIn K AR "OVER"=some (some (.ref pk1))) (kl1:K.lookup pk1=some ⟨.type "tuple",none,.seq [Bb 1 t1_0,Bb 3 t1_1,Bb 0 t1_2,Bb 4 t1_3,Bb 2 t1_4].toArray nk1,slk1⟩)
  {pk2:Addr} {nk2:Nat} {slk2:Array (Option AB)} {t2_0 t2_1 t2_2 t2_3 t2_4:Tok} (ka2:nsIn K AR "THERE"=some (some (.ref pk2))) (kl2:K.lookup pk2=some ⟨.type "tuple",none,.seq [Bb 1 t2_0,Bb 2 t2_1,Bb 3 t2_2,Bb 4 t2_3,Bb 0 t2_4].toArray nk2,slk2⟩) :
  ∃ fd:AZ,(∀ (s:AD) (v:AB),GL s fd ⟨[v],[]⟩ [("_law_script",v)])/\∀ base:Heap,K.In base->base.Ns AR mg->FnOk l.prog w K mg base CX0 27 fa fd ["_law_script"] (spD K none 1 zCC):=by
 have e:=hfa.symm.trans (mg_of X G a45)
 cases e
 have z_ValueError:=mg_none_of X G z1
 have z_dict:=mg_none_of X G z2
 have z_enumerate:=mg_none_of X G z3
 have z_int:=mg_none_of X G z4
 have z_isinstance:=mg_none_of X G z5
 have z_len:=mg_none_of X G z6
 have z_list:=mg_none_of X G z7
 have z_max:=mg_none_of X G z8
 have z_min:=mg_none_of X G z9
 have z_range:=mg_none_of X G z10
 have z_repr:=mg_none_of X G z11
 have z_reversed:=mg_none_of X G z12
 have z_sorted:=mg_none_of X G z13
 have z_sum:=mg_none_of X G z14
 have z_tuple:=mg_none_of X G z15
 have z_zip:=mg_none_of X G z16
 have z_XK:=xk
 have z_XG:=xg
 have xm1:=mg_of X G xa1
 have n_BadText:NK K mg "BadText":=⟨_,xa1,xm1⟩
 have xm2:=mg_of X G xa2
 have xm3:=mg_of X G xa3
 have n_NoDance:NK K mg "NoDance":=⟨_,xa3,xm3⟩
 have xm4:=mg_of X G xa4
 have n_NoName:NK K mg "NoName":=⟨_,xa4,xm4⟩
 have xm5:=mg_of X G xa5
 have n_NoRing:NK K mg "NoRing":=⟨_,xa5,xm5⟩
 have xm6:=mg_of X G xa6
 have n_NoRow:NK K mg "NoRow":=⟨_,xa6,xm6⟩
 have xm7:=mg_of X G xa7
 have n_OtherSizes:NK K mg "OtherSizes":=⟨_,xa7,xm7⟩
 have xm8:=mg_of X G xa8
 have n_TooHeavy:NK K mg "TooHeavy":=⟨_,xa8,xm8⟩
 have cat_CupError_NoRing:Cat K mg "CupError" "NoRing":=⟨_,xm2,fun C h=>by rw[xa5]at h; cases h; exact cq1⟩
 have cat_CupError_TooHeavy:Cat K mg "CupError" "TooHeavy":=⟨_,xm2,fun C h=>by rw[xa8]at h; cases h; exact cq2⟩
 have xF8:=zFh (st:=zBB) xl8 xw8 xk8
 have xb8:=xF8.binds (ps:=["self","weight"]) (by walk_at "b")
 have y_NoRing:XC0 K mg "NoRing":=⟨⟨_,xa5,xm5,xq5,yp5⟩⟩
 have catx_CupError_p_made:CatX K mg "CupError" ["NoRing","TooHeavy"]:=⟨_,xm2,fun c hc C h=>by
  simp only[AO,A8,or_false]at hc
  rcases hc with rfl | rfl
  ·rw[xa5]at h; cases h; exact cq1
  ·rw[xa8]at h; cases h; exact cq2⟩
 have catx_CupError_p_made_with_paper:CatX K mg "CupError" ["NoRing","TooHeavy"]:=⟨_,xm2,fun c hc C h=>by
  simp only[AO,A8,or_false]at hc
  rcases hc with rfl | rfl
  ·rw[xa5]at h; cases h; exact cq1
  ·rw[xa8]at h; cases h; exact cq2⟩
 have k_OVER:KV K mg "OVER" zB6:=zGm [1,3,0,4,2] (mg_of X G ka1) kl1 (.cons ⟨_,rfl⟩ (.cons ⟨_,rfl⟩ (.cons ⟨_,rfl⟩ (.cons ⟨_,rfl⟩ (.cons ⟨_,rfl⟩ (.nil)))))) (by show 5<=AE; decide)
 have k_THERE:KV K mg "THERE" zBo:=zGm [1,2,3,4,0] (mg_of X G ka2) kl2 (.cons ⟨_,rfl⟩ (.cons ⟨_,rfl⟩ (.cons ⟨_,rfl⟩ (.cons ⟨_,rfl⟩ (.cons ⟨_,rfl⟩ (.nil)))))) (by show 5<=AE; decide)
 obtain⟨a1,_,F1⟩:=w1
 have b1:=F1.binds (ps:=["_law_script","_law_k"]) (by walk_at "b")
 have m1:=mg_of X G a1
 obtain⟨a2,_,F2⟩:=w2
 have b2:=F2.binds (ps:=["_law_box_here","_law_wide"]) (by walk_at "b")
 have m2:=mg_of X G a2
 obtain⟨a3,_,F3⟩:=w3
 have b3:=F3.binds (ps:=["_law_box_here","_law_questions","_law_room","_law_down"]) (by walk_at "b")
 have m3:=mg_of X G a3
 obtain⟨a4,_,F4⟩:=w4
 have b4:=F4.binds (ps:=["_law_saying_here"]) (by walk_at "b")
 have m4:=mg_of X G a4
 obtain⟨a5,_,F5⟩:=w5
 have b5:=F5.binds (ps:=["_law_box_here","_law_questions","_law_most","_law_down"]) (by walk_at "b")
 have m5:=mg_of X G a5
 obtain⟨a6,_,F6⟩:=w6
 have b6:=F6.binds (ps:=["_law_saying_here"]) (by walk_at "b")
 have m6:=mg_of X G a6
 obtain⟨a7,_,F7⟩:=w7
 have b7:=F7.binds (ps:=["_law_box_here","_law_questions","_law_room","_law_most"]) (by walk_at "b")
 have m7:=mg_of X G a7
 obtain⟨a8,_,F8⟩:=w8
 have b8:=F8.binds (ps:=["_law_thing"]) (by walk_at "b")
 have m8:=mg_of X G a8
 obtain⟨a9,_,F9⟩:=w9
 have b9:=F9.binds (ps:=["_law_saying_here","_law_ring_here","_law_most"]) (by walk_at "b")
 have m9:=mg_of X G a9
 obtain⟨a10,_,F10⟩:=w10
 have b10:=F10.binds (ps:=["_law_box_here","_law_cups"]) (by walk_at "b")
 have m10:=mg_of X G a10
 obtain⟨a11,_,F11⟩:=w11
 have b11:=F11.binds (ps:=["_law_box_here","_law_cups"]) (by walk_at "b")
 have m11:=mg_of X G a11
 obtain⟨a12,_,F12⟩:=w12
 have b12:=F12.binds (ps:=["_law_box_here"]) (by walk_at "b")
 have m12:=mg_of X G a12
 obtain⟨a13,_,F13⟩:=w13
 have b13:=F13.binds (ps:=["cups","thing"]) (by walk_at "b")
 have m13:=mg_of X G a13
 obtain⟨a14,_,F14⟩:=w14
 have b14:=F14.binds (ps:=["turning","place"]) (by walk_at "b")
 have m14:=mg_of X G a14
 obtain⟨a15,_,F15⟩:=w15
 have b15:=F15.binds (ps:=["turning"]) (by walk_at "b")
 have m15:=mg_of X G a15
 obtain⟨a16,_,F16⟩:=w16
 have b16:=F16.binds (ps:=["turning"]) (by walk_at "b")
 have m16:=mg_of X G a16
 obtain⟨a17,_,F17⟩:=w17
 have b17:=F17.binds (ps:=["thing"]) (by walk_at "b")
 have m17:=mg_of X G a17
 obtain⟨a18,_,F18⟩:=w18
 have b18:=F18.binds (ps:=["saying"]) (by walk_at "b")
 have m18:=mg_of X G a18
 have n_inner:NK K mg "inner":=⟨_,a18,m18⟩
 obtain⟨a19,_,F19⟩:=w19
 have b19:=F19.binds (ps:=["one","other"]) (by walk_at "b")
 have m19:=mg_of X G a19
 obtain⟨a20,_,F20⟩:=w20
 have b20:=F20.binds (ps:=["one","other"]) (by walk_at "b")
 have m20:=mg_of X G a20
 obtain⟨a21,_,F21⟩:=w21
 have b21:=F21.binds (ps:=["turning"]) (by walk_at "b")
 have m21:=mg_of X G a21
 obtain⟨a22,_,F22⟩:=w22
 have b22:=F22.binds (ps:=["a","b"]) (by walk_at "b")
 have m22:=mg_of X G a22
 obtain⟨a23,_,F23⟩:=w23
 have b23:=F23.binds (ps:=["turning","by"]) (by walk_at "b")
 have m23:=mg_of X G a23
 obtain⟨a24,_,F24⟩:=w24
 have b24:=F24.binds (ps:=["ring"]) (by walk_at "b")
 have m24:=mg_of X G a24
 obtain⟨a25,_,F25⟩:=w25
 have b25:=F25.binds (ps:=["piece"]) (by walk_at "b")
 have m25:=mg_of X G a25
 have n_pieces_in:NK K mg "pieces_in":=⟨_,a25,m25⟩
 obtain⟨a26,_,F26⟩:=w26
 have b26:=F26.binds (ps:=["whole","inside_of"]) (by walk_at "b")
 have m26:=mg_of X G a26
 obtain⟨a27,_,F27⟩:=w27
 have b27:=F27.binds (ps:=["part","inside"]) (by walk_at "b")
 have m27:=mg_of X G a27
 have n_weight_of:NK K mg "weight_of":=⟨_,a27,m27⟩
 obtain⟨a28,_,F28⟩:=w28
 have b28:=F28.binds (ps:=["s","t"]) (by walk_at "b")
 have m28:=mg_of X G a28
 obtain⟨a29,_,F29⟩:=w29
 have b29:=F29.binds (ps:=["part","inside"]) (by walk_at "b")
 have m29:=mg_of X G a29
 have n_spelled_of:NK K mg "spelled_of":=⟨_,a29,m29⟩
 obtain⟨a30,_,F30⟩:=w30
 have b30:=F30.binds (ps:=["steps","turning"]) (by walk_at "b")
 have m30:=mg_of X G a30
 obtain⟨a31,_,F31⟩:=w31
 have b31:=F31.binds (ps:=["cups"]) (by walk_at "b")
 have m31:=mg_of X G a31
 obtain⟨a32,_,F32⟩:=w32
 have b32:=F32.binds (ps:=["saying","ring"]) (by walk_at "b")
 have m32:=mg_of X G a32
 obtain⟨a33,_,F33⟩:=w33
 have b33:=F33.binds (ps:=["piece","inside"]) (by walk_at "b")
 have m33:=mg_of X G a33
 have n_steps_of:NK K mg "steps_of":=⟨_,a33,m33⟩
 obtain⟨a34,_,F34⟩:=w34
 have b34:=F34.binds (ps:=["piece","inside"]) (by walk_at "b")
 have m34:=mg_of X G a34
 have n_paper_of:NK K mg "paper_of":=⟨_,a34,m34⟩
 obtain⟨a35,_,F35⟩:=w35
 have b35:=F35.binds (ps:=["whole","inside_of","put"]) (by walk_at "b")
 have m35:=mg_of X G a35
 obtain⟨a36,_,F36⟩:=w36
 have b36:=F36.binds (ps:=["saying","put"]) (by walk_at "b")
 have m36:=mg_of X G a36
 obtain⟨a37,_,F37⟩:=w37
 have b37:=F37.binds (ps:=["saying"]) (by walk_at "b")
 have m37:=mg_of X G a37
 obtain⟨a38,_,F38⟩:=w38
 have b38:=F38.binds (ps:=["saying","ring","most"]) (by walk_at "b")
 have m38:=mg_of X G a38
 obtain⟨a39,_,F39⟩:=w39
 have b39:=F39.binds (ps:=["saying"]) (by walk_at "b")
 have m39:=mg_of X G a39
 have F40:=zGq (st:=zCv) l40 c40 k40
 have b40:=F40.binds (ps:=["saying","questions","ring","most"]) (ds:=[]) dfl40 rfl fun _ _ _ _ _ _ us hl=>by obtain⟨_,_,_,_,rfl⟩:=len4 (show us.length=4 by simpa using hl); exact⟨_,rfl,rfl⟩
 have bd40:=F40.binds (ps:=["saying","questions","ring","most"]) (ds:=[Bb 128 tdf40]) dfl40 rfl fun _ _ _ _ _ _ us hl=>by obtain⟨_,_,_,rfl⟩:=len3 (show us.length=3 by simpa using hl); exact⟨_,rfl,rfl⟩
 have m40:=mg_of X G a40
 obtain⟨a41,_,F41⟩:=w41
 have b41:=F41.binds (ps:=["_law_e"]) (by walk_at "b")
 have m41:=mg_of X G a41
 obtain⟨a42,_,F42⟩:=w42
 have b42:=F42.binds (ps:=["_law_saying_here","_law_ring_here","_law_most"]) (by walk_at "b")
 have m42:=mg_of X G a42
 have F43:=zGq (st:=zCx) l43 c43 k43
 have b43:=F43.binds (ps:=["saying","questions","ring","most"]) (ds:=[]) dfl43 rfl fun _ _ _ _ _ _ us hl=>by obtain⟨_,_,_,_,rfl⟩:=len4 (show us.length=4 by simpa using hl); exact⟨_,rfl,rfl⟩
 have bd43:=F43.binds (ps:=["saying","questions","ring","most"]) (ds:=[Bb 128 tdf43]) dfl43 rfl fun _ _ _ _ _ _ us hl=>by obtain⟨_,_,_,rfl⟩:=len3 (show us.length=3 by simpa using hl); exact⟨_,rfl,rfl⟩
 have m43:=mg_of X G a43
 obtain⟨a44,_,F44⟩:=w44
 have b44:=F44.binds (ps:=["_law_saying_here","_law_ring_here","_law_most"]) (by walk_at "b")
 have m44:=mg_of X G a44
 have F45:=zFh (st:=zBS) l45 c45 k45
 have b45:=F45.binds (ps:=["_law_script"]) (by walk_at "b")
 have m45:=mg_of X G a45
 refine⟨fnOf "law" "law" (defArgs zBS) (defBody zBS) (defScope zBS) .none kV45 dc45 pm45 an45 cd45 ct45,fun s v=>.of_eq rfl,fun base _ _=>?_⟩
 have D_4:=ok_4 (P:=l.prog) (wd:=w) (base:=base) F1 m1 b1 z_int z_len
 have D_5:=ok_5 (P:=l.prog) (wd:=w) (base:=base) F2 m2 b2
 have D_1:=ok_1 F3 m3 b3 z_max D_5 zA2
 have D_3:=ok_3 (P:=l.prog) (wd:=w) (base:=base) F4 m4 b4 z_int z_isinstance z_tuple zAn
 have D_2:=ok_2 F5 m5 b5 D_5 D_1 zCl
 have D_0:=ok_0 (P:=l.prog) (wd:=w) (base:=base) F6 m6 b6 z_isinstance z_sum z_tuple zDs
 have D_6:=ok_6 F7 m7 b7 z_len D_5 D_1 D_3 D_2 D_0
 have D_7:=ok_7 (P:=l.prog) (wd:=w) (base:=base) F8 m8 b8 z_len z_sorted
 have D_8:=ok_8 F9 m9 b9 D_3 D_7
 have D_9:=ok_9 F10 m10 b10 z_enumerate z_len z_list z_range z_tuple D_5
 have D_10:=zN8 F11 m11 b11 z_len z_list z_range D_5
 have D_11:=zOw F12 m12 b12 D_5 D_9 D_10
 have D_12:=zOb (P:=l.prog) (wd:=w) (base:=base) F13 m13 b13 z_list z_range z_sorted
 have D_13:=zPE (P:=l.prog) (wd:=w) (base:=base) F14 m14 b14 z_tuple
 have D_14:=zOT F15 m15 b15 z_len z_min z_range D_13
 have D_15:=zOc F16 m16 b16 z_len D_14
 have D_16:=zOe F17 m17 b17 D_12 D_15
 have D_17:=zOq (P:=l.prog) (wd:=w) (base:=base) F18 m18 b18
 have D_18:=zOj F19 m19 b19 z_dict z_len z_range z_tuple z_zip D_14
 have D_19:=zPF (P:=l.prog) (wd:=w) (base:=base) F20 m20 b20 z_tuple
 have D_20:=zPH (P:=l.prog) (wd:=w) (base:=base) F21 m21 b21 z_len z_range z_tuple
 have D_21:=zOY F22 m22 b22 D_19 D_20
 have D_22:=zN9 F23 m23 b23 D_19 D_20
 have D_23:=zOH F24 m24 b24 k_OVER k_THERE D_18 D_21 D_22
 have D_24:=zO5 F25 m25 b25 D_20 D_23
 have D_25:=zOt F26 m26 b26 z_list z_reversed D_17 D_24
 have D_26:=zPG (P:=l.prog) (wd:=w) (base:=base) F27 m27 b27
 have D_27:=zOy (P:=l.prog) (wd:=w) (base:=base) F28 m28 b28
 have D_28:=zPA F29 m29 b29 z_tuple D_27
 have D_29:=zOn F30 m30 b30 D_19
 have D_30:=zOC (P:=l.prog) (wd:=w) (base:=base) F31 m31 b31 z_range z_tuple
 have D_31:=zOR F32 m32 b32 D_30
 have D_32:=zOV F33 m33 b33 D_29 D_31
 have D_33:=zO2 F34 m34 b34 z_tuple D_23
 have D_34:=zOZ F35 m35 b35 z_reversed D_17 D_24 D_25 D_26 D_28 D_32 D_33
 have D_35:=zOr F36 m36 b36 n_inner D_34
 have D_36:=zPK F37 m37 b37 n_weight_of D_35
 have x_TooHeavy:=zO3 (P:=l.prog) (wd:=w) (base:=base) xa8 xm8 xe8 (zJ7 (k:=0) xF8 zFg rfl xs8 (by decide) (by decide) (by decide) (by decide)) xb8 (by decide) rfl xp8
 have X_p_look_at_making:=zOz (P:=l.prog) (wd:=w) (base:=base) F38 m38 b38 D_16 D_36 x_TooHeavy y_NoRing
 have D_38:=zOJ F39 m39 b39 n_spelled_of D_35
 have XD_p_made:=zPD (P:=l.prog) (wd:=w) (base:=base) F40 m40 b40 bd40 (.cons ⟨_,rfl⟩ .nil) n_pieces_in n_steps_of D_34 D_38 X_p_look_at_making
 have X_p_made:=XD_p_made.1
 have Xd_p_made:=XD_p_made.2
 have D_40:=zOu (P:=l.prog) (wd:=w) (base:=base) F41 m41 b41 z_ValueError z_XG z_XK z_isinstance n_BadText n_NoDance n_NoName n_NoRing n_NoRow n_OtherSizes n_TooHeavy
 have D_41:=zOm F42 m42 b42 z_int z_len D_3 D_40 cat_CupError_NoRing cat_CupError_TooHeavy X_p_made Xd_p_made catx_CupError_p_made
 have XD_p_made_with_paper:=zOv (P:=l.prog) (wd:=w) (base:=base) F43 m43 b43 bd43 (.cons ⟨_,rfl⟩ .nil) n_paper_of n_pieces_in D_34 D_38 X_p_made
 have X_p_made_with_paper:=XD_p_made_with_paper.1
 have Xd_p_made_with_paper:=XD_p_made_with_paper.2
 have D_43:=zOk F44 m44 b44 z_int z_len D_3 D_40 cat_CupError_NoRing cat_CupError_TooHeavy X_p_made_with_paper Xd_p_made_with_paper catx_CupError_p_made_with_paper
 exact zNQ F45 z_int z_len z_max z_min z_range z_repr D_4 D_5 D_1 D_3 D_6 D_8 D_11 D_41 D_43
theorem walk{l:Fq}{q:AY}{loose:List Str}{XP:(Str->Option AB)->Heap->Prop}{YP:Af->Heap->Prop}{d:DefRec}{K:Kw->AH}(pure:∀ ns:List Int,ns.length<=63->zCC [.k (intsT ns)]=some (.v (.a (.bl true)),[]))(hn:l.most=some 63)(hdf:d.params.defaults=[])
  (hY:∀ (w:Af) (h:Heap),YP w h->(K w.params).In h)
  (F:∀ (w:Af) (mg:Str->Option AB) (fa:Addr) (h:Heap),(K w.params).In h->h.Ns AR mg->mg d.name=some (.ref fa) ->
   ∃ fd:AZ,(∀ (s:AD) (u:AB),GL s fd ⟨[u],[]⟩ [("_law_script",u)])/\∀ base:Heap,(K w.params).In base->base.Ns AR mg->FnOk l.prog w (K w.params) mg base CX0 27 fa fd ["_law_script"] (spD (K w.params) none 1 zCC)) :
  IQ q loose XP YP l.row.toRowW d [] (fun f vs=>Hi f vs) :=
 L2.walk_of (n:=63) (k:=27) (x:="_law_script") (CX:=fun _=>CX0) (sp:=fun w=>spD (K w.params) none 1 zCC) hn (by decide) hdf ⟨rfl,by decide,by decide,rfl⟩ hY F (fun w H a ns hl hO hS=>zLh hO hS (pure ns hl)) fun _ _ _ _ _ z=>z
end Lw
local macro_rules | `(tactic| walk_at "w") => `(tactic| (refine' Lw.wr_mk ?a ?l ?c ?k; (case a=>k_is); (case l=>k_is); (case c=>k_is); (case k=>k_is)))
open PySem PySem.W PyProof.Rows
theorem PySem.W.Fast.tw16639983599552776892:True:=trivial
theorem PySem.W.Fast.tw12358848978122444222:True:=trivial
theorem PySem.W.Fast.tw3142688932008301086:True:=trivial
theorem PySem.W.Fast.tw18378315570899583842:True:=trivial
theorem PySem.W.Fast.tw9685222535312795338:True:=trivial
theorem PySem.W.Fast.tw15679348298918249265:True:=trivial
theorem PySem.W.Fast.tw12238999242729998922:True:=trivial
theorem PySem.W.Fast.tw3616102090618105818:True:=trivial
theorem PySem.W.Fast.tw621516422306550234:True:=trivial
theorem PySem.W.Fast.tw17143203895443910564:True:=trivial
theorem PySem.W.Fast.tw5924905963753160520:True:=trivial
theorem PySem.W.Fast.tw5053818602634708979:True:=trivial
theorem PySem.W.Fast.tw13734166980244403805:True:=trivial
theorem PySem.W.Fast.tw7027016469042095606:True:=trivial
theorem PySem.W.Fast.tw5744880909632145053:True:=trivial
theorem PySem.W.Fast.tw9632078303875056009:True:=trivial
theorem PySem.W.Fast.tw2442952531600124927:True:=trivial
theorem PySem.W.Fast.tw10991510779798931947:True:=trivial
theorem PySem.W.Fast.tw6937363207458286933:True:=trivial
theorem PySem.W.Fast.tw10791718515376609365:True:=trivial
theorem PySem.W.Fast.tw11316736552382907512:True:=trivial
theorem PySem.W.Fast.tw15169822509657133890:True:=trivial
theorem PySem.W.Fast.tw9935300315540488235:True:=trivial
theorem PySem.W.Fast.tw2020344060831791512:True:=trivial
theorem PySem.W.Fast.tw14142110497704228719:True:=trivial
theorem PySem.W.Fast.tw8456443874802033632:True:=trivial
theorem PySem.W.Fast.tw6950861051081487268:True:=trivial
set_option maxRecDepth 100000 in
set_option maxHeartbeats 0 in
theorem PySem.Challenge.cw_fivecups_k24_what_isn_t_danced_holds : PySem.Challenge.rw_fivecups_k24_what_isn_t_danced.Holds := by
 w_on; o_law; k_head; (case hw=>w_witness2)
 k_fill
 refine Lw.walk (l:=PySem.Challenge.rw_fivecups_k24_what_isn_t_danced) Lw.law_true rfl rfl (fun w h Y=>PySem.W.kIn_of Y) ?F
 case F =>
  intro w mg fa h KX G hmg
  refine' Lw.all_mk KX G hmg ?w1 ?w2 ?w3 ?w4 ?w5 ?w6 ?w7 ?w8 ?w9 ?w10 ?w11 ?w12 ?w13 ?w14 ?w15 ?w16 ?w17 ?w18 ?w19 ?w20 ?w21 ?w22 ?w23 ?w24 ?w25 ?w26 ?w27 ?w28 ?w29 ?w30 ?w31 ?w32 ?w33 ?w34 ?w35 ?w36 ?w37 ?w38 ?w39 ?dfl40 ?a40 ?l40 ?c40 ?k40 ?w41 ?w42 ?dfl43 ?a43 ?l43 ?c43 ?k43 ?w44 ?a45 ?l45 ?c45 ?k45 ?z1 ?z2 ?z3 ?z4 ?z5 ?z6 ?z7 ?z8 ?z9 ?z10 ?z11 ?z12 ?z13 ?z14 ?z15 ?z16 ?xa1 ?xa2 ?xa3 ?xa4 ?xa5 ?xa6 ?xa7 ?xa8 ?xq5 ?cq1 ?cq2 ?xk ?xg ?xi8 ?xl8 ?xw8 ?xk8 ?xe8 ?xs8 ?xp8 ?yp5 ?ka1 ?kl1 ?ka2 ?kl2
  all_goals try walk_at "w"
  (case a40=>k_is); (case l40=>k_is); (case c40=>k_is); (case k40=>k_is)
  all_goals try walk_at "w"
  (case a43=>k_is); (case l43=>k_is); (case c43=>k_is); (case k43=>k_is)
  all_goals try walk_at "w"
  (case a45=>k_is); (case l45=>k_is); (case c45=>k_is); (case k45=>k_is)
  (case dfl40=>k_is)
  (case dfl43=>k_is)
  (case ka1=>k_is); (case kl1=>k_is)
  (case ka2=>k_is); (case kl2=>k_is)
  (case z1=>k_is); (case z2=>k_is); (case z3=>k_is); (case z4=>k_is); (case z5=>k_is); (case z6=>k_is); (case z7=>k_is); (case z8=>k_is); (case z9=>k_is); (case z10=>k_is); (case z11=>k_is); (case z12=>k_is); (case z13=>k_is); (case z14=>k_is); (case z15=>k_is); (case z16=>k_is)
  (case xa1=>k_is)
  (case xa2=>k_is)
  (case xa3=>k_is)
  (case xa4=>k_is)
  (case xa5=>k_is)
  (case xa6=>k_is)
  (case xa7=>k_is)
  (case xa8=>k_is)
  (case xq5=>first | k_is | kernel_rfl)
  (case cq1=>first | k_is | kernel_rfl)
  (case cq2=>first | k_is | kernel_rfl)
  (case xk=>kernel_rfl)
  (case xg=>kernel_rfl)
  (case xi8=>k_is); (case xl8=>k_is); (case xw8=>k_is); (case xk8=>k_is); (case xe8=>kernel_rfl); (case xs8=>kernel_rfl); (case xp8=>k_is)
  (case yp5=>k_is)
