import PyProof.Rows.All
import Wide.All
import OpenK.AllK
import Wide.FinOn
import Lean
import PyProof.EqAt
import PyProof.EqKinds
import PyProof.TupleCall
import PySem.Challenge.RW_fivecups_k67_whole_one_saying_danced_oth
open Array renaming length_toList->Eg,getElem?_toList->Gd,toArray_toList->Gp,toList_append->G4,forIn_toList->HG,toList->IQ
open Bool renaming false_ne_true->AZ,and_eq_true->An,false_eq_true->C2,eq_iff_iff->EK,or_eq_true->EL,true_and->Ey,and_self->GR,false_and->IC,and_false->IE,or_false->IU,not_true->Ie
open Classical renaming propDecidable->Dt
open False renaming elim->A8
open ForInStep renaming yield->Cr
open Function renaming comp_def->Gx
open Int renaming toNat_natCast->Bm,emod_lt_of_pos->FG,emod_nonneg->Fz,sub_zero->Gq,le_refl->Jm
open List renaming range->AF,mem_singleton->AI,mem_cons->AL,map_cons->AN,size_toArray->AO,mem_cons_of_mem->AR,getElem?_set_ne->AW,mem_cons_self->AY,getElem?_eq_some_iff->Ac,getElem?_map->Af,replicate->Ah,map_nil->Aj,mem_append_right->Ak,not_mem_nil->Ao,getElem?_set_self->Aq,all_eq_true->Aw,length_append->A4,length_map->A7,getElem?_eq_none->BH,getElem?_append_left->BM,getElem?_eq_getElem->BP,mem_map->BQ,replicate_succ->BW,lookup_cons->Be,length_cons->Bf,take_of_length_le->Bl,append_nil->Bp,nodup_cons->Bq,append_assoc->Bx,map_append->By,map->B5,mem_append->CD,find?_cons->CJ,idxOf_lt_length_iff->CL,length_take->CS,flatten_cons->Cd,getElem?_append_right->Ck,getD_eq_getElem?_getD->Cm,mem_of_getLast?->Co,getLast?_eq_none_iff->Ct,length_pos_iff->Cv,any_cons->Cy,nil_append->C0,pairwise_cons->C3,reverse_cons->C8,eraseIdx_eq_take_drop_succ->DJ,length_drop->DK,cons_append->DQ,mem_append_left->DW,mem_of_getElem?->DX,mem_filter->De,forIn_cons->Dg,length_nil->Dh,forIn_nil->Do,getElem?_zip_eq_some->Dv,getElem_mem->EA,drop_eq_nil_of_le->EH,length_singleton->ES,dropLast_eq_take->ET,getElem?_reverse->EU,range'->Ec,dropLast_subset->Ed,filterMap_cons->Em,Nodup->Ez,findIdx?_eq_some_iff_getElem->FC,eraseIdxIfInBounds_toArray->FO,mem_eraseIdx_iff_getElem?->FX,nodup_range->FZ,countP_cons->Fc,getLast?_eq_some_getLast->Fj,of_mem_zip->Fk,length_zip->Fl,dropLast_concat_getLast->Fp,mem_range->F0,length_eraseIdx_of_lt->GB,drop_left->GC,drop_eq_getElem_cons->GJ,map_take->GS,map_drop->GT,getElem?_replicate->GW,length_eq_zero_iff->GZ,map_map->Gg,mem_of_mem_erase->Gv,length_dropLast->Gy,getElem_of_mem->HF,mem_filterMap->HJ,foldl->HP,getElem_idxOf->HS,getElem?_set->Hd,ext_getElem?->Hj,flatMap_cons->Hl,zipIdx_cons->Hm,range'_succ->Hn,drop_length->Ho,mem_reverse->Ht,foldl_cons->Hy,zipIdx_nil->Hz,drop_zero->II,nodup_nil->IJ,take_left->IL,drop_take->IM,all_cons->IV,length->JH,lookup->JN,all->Kj
open List.Nodup renaming not_mem_erase->Kk
open List.Pairwise renaming nil->JM
open List.Perm renaming swap->Kt,append_left->Ku
open Nat renaming le_refl->AK,lt_of_lt_of_le->Aa,ne_of_lt->Ag,le_trans->Al,mul_le_mul_left->BI,lt_irrefl->BJ,le_add_right->BV,ne_of_gt->BZ,lt_succ_self->CT,lt_or_ge->CY,zero_le->Cp,mul_add->C6,le_of_lt->DB,lt_succ_of_lt->DG,mul_le_mul->DH,mul_one->Dd,lt_of_le_of_lt->Ds,le_of_succ_le->Dz,min_eq_right->EC,ble->EO,min_eq_left->EV,le_of_ble_eq_true->Ea,ble_eq_true_of_le->Eb,zero_add->FQ,add_mul->Fq,not_lt->GG,le_succ->G9,le_max_left->IK,mul_assoc->Iw,lt_trans->JO,sub_zero->JR,ble_eq->KB
open Ne renaming symm->A6
open Option renaming bind_some->Ae,none_or->Cg,isSome_iff_exists->Cu,mem_toList->Dr,getD_some->FJ,isSome_some->Gz,getD_none->HN,some_or->Hq
open Option.some renaming injEq->Ap,inj->Au
open Or renaming inr->Cf,inl->DY
open PyProof.Rows renaming callWith_type1->Av,slot_tuple_getitem->Bi,boot_tuple->Dm,kindOf->Dp,AllBare->Ef,IntsAre->Ei,envOfC->E4,boot_range->FR,boot_list->FY,assignInOrder_cons->Fe,envOfC->Fy,Call_->GN,subscriptTail->G7,boot_reversed->HE,subscriptTail_builtinR->HY,entry_tuple_getitem->ID,args_tuple_getitem->IS,Subscript_->IT,seqObj->IZ,IsTup->Ih,assignInOrder_nil->Ii,len_tuple->JL,callWith_builtin1->Ji,boot_tuple->Jk,getItem_tuple->Jl,boot_dict->Jr,chain_last->Jt,chain_link->Ju,ite_ff->Jv,ite_tt->Jw,Compare_chain->Jx,slicePart_none->J3,boot_all->KG,tupleItemsOf_->KJ,zipApart_new->Ks
open PyProof.Rows.LSm renaming kept_iter->GY
open PySem renaming wpAny_bind->AB,sizeLine->AC,Value->AD,Shared->AG,wpAny_pure->AH,starEach->AU,wpAny->AV,FuncData->Ab,mainGlobals->Ad,Program->Ai,wpAny_field->Ar,World->Ax,wpAny_callSpecial?_slot->Ay,wpAny_setField_rec->A5,wpAny_call_entry->A9,builtinLookup_eq_fast->BC,Around->BE,wpAny_newObj_type->BF,mem_of_lookup->BG,cellsFrom->BK,compareOp->BY,wpAny_seqItems->Bd,typeLookup_type->Bh,wpAny_mono->Bj,wpAny_holding->Br,backTo->Bw,sizeLine_eq->Bz,assignEach->B3,bootBuiltins->B6,wpAny_of_eq->B7,wpAny_attempt->B8,wpAny_isInstance->CB,wpAny_pyIter_tuple->CF,PyData->CH,wpAny_specialOf->CN,wpAny_ite_split->CO,foldedSetIterable->CP,NameKind->CQ,rawInt->CV,binaryOp->CW,isSubtype_type->CZ,wpAny_Call_Name_kw->Cc,IsPair->Ce,wpAny_passesOwn->Ci,behindInMarks->Cj,wpAny_truthy_bool->Cq,wpAny_rule->Cw,attributeBase->C7,sysModules->C9,pyNext->DC,call_meets->DD,codeAny->DR,wpAny_typeOf->DV,Scope->Df,TriplesOk->Di,builtinsNs->Dj,sliceBounds->Dn,codeAny_mono->Dw,isSubtype_stop->D6,getItem->ED,Keyword->EF,swapsWithSole->EI,swappedStores->EJ,plainId_quiet->EN,codeAmong->EW,swapsWith->EY,pushCells->EZ,Paired->Ee,closureFor->Ej,callType_new->Ek,ItemsOf->El,wpAny_execs_nil->Eo,letOwnedTupleGo->Ep,pushCells_keeps->Er,codeAny_builtin->Es,IsPart->E5,keywordEach->E6,compEnvC->E7,firstArgMember->E8,wpAny_updateSeq_pair->E9,wpAny_letGo->FB,wpAny_pyIter_revIter->FE,seqIndex?->FI,wpAny_standAt->FU,IsZip->FV,wpAny_onRaise->FW,typeLookup->Ff,callerA->Fu,wpAny_pyIter_list->Fw,valueAt->Fx,KeyKind->GD,pyIter->GE,noFill_tuple_add->GF,wpAny_pyIter_zip->GI,entryFor_of_tree->GK,seqIndex_of->GO,wpAny_mkInt->GQ,wpAny_updateSeq->Ga,BindsTo->Gb,backToKw->Gk,wpAny_newTuple->Gn,IsEnum->Gr,setField->Gs,entryFor->Gu,assignInOrder->G5,seq_tuple_add->G6,call->HA,signature?_of->HD,tupleKind->HH,PassesOwn->HI,bindL->HK,bindC->HL,Arguments->HM,seqItems?->HQ,isTrue->HU,concat_meets->HV,seqIndex_neg->HW,typeOf->HZ,wpAny_Call_method_late->Ha,argsOk->He,argBest->Hi,compareChain->Hk,CmpOp->Hv,bindName->Hw,bindArgs->Hx,atKey->H9,wpAny_Name->IP,wpAny_call->IR,typeIs_int->IW,getattributeRaised->Ia,call_reversed_list->Ib,defaultsOf->Ic,standAt->Ij,wpAny_sequenceKey->Ik,slot_list_getitem->Io,Meets->Ir,Reads->Iu,wpAny_pyIter_enum->Iv,wpAny_execs_cons->Iy,small_one->Iz,IsEnumOut->JS,updateSeq->JT,wpAny_bindName->Jz,recursionLimit->J1,cLine->J2,fitsIndex_both->J4,Params->J5,newFunctionEnv->J6,compPost->J7,wpAny_setField->J8,newExc->J9,newTuple->KA,entryFor_alias->KC,callType_codes->KD,revObj->KE,rangeSize_one->KH,intBits_le_64->KI,evalPart_none->KM,wpAny_handled->Ki,setItem->Kl,call_range_1->Km,call_range_2->Kn,newList->Kq,IsRange->Kr
open PySem.Around renaming under_plainId->DM,frames_deeper->Gc
open PySem.AutoListH renaming list___mul___list_int_3->Kp
open PySem.Builtin.Dict renaming updateFrom->FS,addKeywords->Jo,pairItems->Jp,selfAndRest->Jq
open PySem.Builtin.List renaming listTooLong->Bo,listExtendWith->Bu,listLengthHint->Bv,listFitsIndex->E3,listSameRef->FK,listItems->Fd,listUpdate->Js
open PySem.Builtin.Range renaming rangeSize->B9,small->D7
open PySem.Builtin.Slice renaming slicePlaces->Ca,sliceAdjust->DU,sliceApplied->Ew,slicePartIndex->JI,sliceFields->JK
open PySem.Builtin.SmallTypes renaming ownedTupleIsFree->Am,nextOf->As,ownedTupleHandOut->Bs,newRecord->EG
open PySem.Builtin.Tuple renaming tupleExact->Bn,tupleItemsOf->Ex,tupleIsExact->JQ
open PySem.Calls renaming spliced_nil->Du,callWith_builtin->EB,spliced_cons->Eu,Name_function_global->Ft,evalArgs_plain->Gm
open PySem.Data renaming cell->J0
open PySem.EqMixed renaming eq_bool_str->I0,eq_int_str->JA,eq_str_bool->JB,eq_str_int->JC,ne_bool_str->JD,ne_int_str->JE,ne_str_bool->JF,ne_str_int->JG
open PySem.EqNone renaming eq_none_none->JU,eq_none_bool->JV,eq_none_int->JW,eq_none_str->JX,eq_bool_none->JY,eq_int_none->JZ,eq_str_none->Ja,ne_none_none->Jb,ne_none_bool->Jc,ne_none_int->Jd,ne_none_str->Je,ne_bool_none->Jf,ne_int_none->Jg,ne_str_none->Jh
open PySem.F renaming slot_zip_next->CK,slot_tuple_iterator_next->Cs,slot_enumerate_next->DZ,args_object_init_2->Dl,args_tuple_add_2->Dq,entry_tuple_add->Dx,plainAttrs_list->Dy,slot_tuple_add->D5,args_zip_next_1->D9,entry_zip_next->EM,slot_zip_getattribute->ER,plain_extend_loop->Fo,slot_list_count->GA,args_tuple_iterator_next_1->GH,entry_tuple_iterator_next->GP,slot_list_pop->GU,type_list_pop->GV,args_enumerate_next_1->G0,entry_enumerate_next->HB,typeCall_reversed_1->HR,slot_tuple_getitem->Hf,newCall_reversed_1->Hg,entry_reversed_new->Hh,plain_list_iadd->IF,entry_list_pop->IY,slot_list_pop->Ip,slot_int_rmul->Iq
open PySem.Flow renaming next->Jy
open PySem.Heap renaming get?_push_of_some->AE,lt_size->AJ,get?_push_size->AQ,size_push->BS,SameBut->BU,get?_update_other->Bk,get?_update_self->Cb,ExtBut->Fh,IsTuple->Ge
open PySem.Heap.DictOf renaming new->Gh
open PySem.Heap.IsSliceOf renaming new->Il
open PySem.Heap.IsTuple renaming push->Jj
open PySem.Heap.SameBut renaming update->Fv,refl->Jn
open PySem.IsL renaming update->Ko
open PySem.NameKind renaming free->BO,cell->Bg
open PySem.Obj renaming mapSeq->C5,data_mapFields->Hb
open PySem.Paired renaming length->Hu
open PySem.PassesOwn renaming never->FH
open PySem.PyData renaming eqv->Az,canLayAll0->BD,eqvAll->B0,canLay0->B4,depth->Cn,depthAll->Da,bool->Gj
open PySem.SeqAt renaming EqAt->G8
open PySem.SeqAt.EqAt renaming int_str->GL,str_int->GM,same->KN,none_bool->KO,none_int->KP,none_str->KQ,bool_none->KR,bool_bool->KU,bool_int->KW,bool_str->KY,int_none->KZ,int_bool->Kb,int_int->Kc,str_none->Kd,str_bool->Ke,str_str->Kh
open PySem.Shared renaming heap->Gf,TypeIs->IA
open PySem.Str renaming ofString->Ba,ofString_eq_toList->Gw
open PySem.Value renaming int->Bb,ref->Bc,none->CU,type->Cz,str->FN,bool->Fs,isStrOf->IB,isInt->Ig
open PySem.W renaming Frag->AM,keepIn->BN,codeIn->Bt,fnOf->CA,tabIn->CG,codeHdIn->CM,cellsFrom_some->C4,envX->Dc,nsIn->D8,callWith_K->Eh,methodObj->Et,kla_obj->FP,OpenLaw->FT,noTabs->Fi,codeHd_of_K->Gi,kitOne->Hc,mg_of->Hr,WalkO->Hs
open PySem.Walks renaming list->JP
open Std.Legacy.Range renaming forIn_eq_forIn_range'->IG,size->IH
open Sum renaming inl->FL,inr->FM
open True renaming intro->DP
noncomputable section
set_option Elab.async false
set_option linter.all false
set_option maxRecDepth 100000
namespace L2
open PySem PySem.Spec PyProof.Rows
abbrev Key:=Sum Int Str
noncomputable def keyIs:Key->AD->Bool
 | .inl k,v=>Ig k v
 | .inr x,v=>IB x v
noncomputable def keyH (w:Ax):Key->Int
 | .inl k=>hashInt k
 | .inr x=>hashStr w x
theorem zAi:∀ {k:Key} {v:AD},keyIs k v=true->(∃ i t,k=FL i/\v=Bb i t)\/(∃ x t,k=FM x/\v=FN x t)
 | .inl i,v,h=>by
  obtain⟨t,e⟩:=Value.isInt_shape (k:=i) (v:=v) h
  exact .inl ⟨i,t,rfl,e⟩
 | .inr x,v,h=>by
  obtain⟨t,e⟩:=Value.isStrOf_shape (x:=x) (v:=v) h
  exact .inr ⟨x,t,rfl,e⟩
theorem zJM(i:Int)(t:Tok):keyIs (.inl i) (.int i t)=true:=by simp[keyIs,Ig]
theorem zJa(x:Str)(t:Tok):keyIs (.inr x) (.str x t)=true:=by simp[keyIs,IB]
theorem zOt(a b:Int):decide ((FL a:Key)=FL b)=(a == b):=by
 by_cases e:a=b
 ·subst e; simp
 ·have h:¬ (FL a:Key)=FL b:=fun q=>e (Sum.inl.inj q)
  rw[decide_eq_false h]
  exact (beq_eq_false_iff_ne.mpr e).symm
theorem zP0(a b:Str):decide ((FM a:Key)=FM b)=decide (a=b):=by
 by_cases e:a=b
 ·subst e; simp
 ·have h:¬ (FM a:Key)=FM b:=fun q=>e (Sum.inr.inj q)
  rw[decide_eq_false h,decide_eq_false e]
theorem zPb(a:Int)(b:Str):decide ((FL a:Key)=FM b)=false:=decide_eq_false (fun q=>nomatch q)
theorem zP1(a:Str)(b:Int):decide ((FM a:Key)=FL b)=false:=decide_eq_false (fun q=>nomatch q)
def mixKind (prog:Ai) (w:Ax):GD prog w Key where
 is:=keyIs
 hash:=keyH w
 inj:=fun v a b ha hb=>by
  rcases zAi ha with ⟨i,t,rfl,rfl⟩ | ⟨x,t,rfl,rfl⟩
  ·rcases zAi hb with ⟨j,u,rfl,e⟩ | ⟨y,u,rfl,e⟩
   ·injection e with e1 _; rw[e1]
   ·exact nomatch e
  ·rcases zAi hb with ⟨j,u,rfl,e⟩ | ⟨y,u,rfl,e⟩
   ·exact nomatch e
   ·injection e with e1 _; rw[e1]
 byValue:=fun k v h=>by
  rcases zAi h with ⟨i,t,rfl,rfl⟩ | ⟨x,t,rfl,rfl⟩ <;> rfl
 pyHash:=fun hv h=>by
  rcases zAi hv with ⟨i,t,rfl,rfl⟩ | ⟨x,t,rfl,rfl⟩
  ·exact wpAny_pyHash_int h
  ·exact wpAny_pyHash_str h
 eqBool:=fun hu hv h=>by
  rcases zAi hu with ⟨i,t,rfl,rfl⟩ | ⟨x,t,rfl,rfl⟩
  ·rcases zAi hv with ⟨j,u,rfl,rfl⟩ | ⟨y,u,rfl,rfl⟩
   ·rw[zOt]at h; exact wpAny_eqBool_int h
   ·rw[zPb]at h; exact GL i t y u _ _ _ _ h
  ·rcases zAi hv with ⟨j,u,rfl,rfl⟩ | ⟨y,u,rfl,rfl⟩
   ·rw[zP1]at h; exact GM x t j u _ _ _ _ h
   ·rw[zP0]at h; exact wpAny_eqBool_str h
 «strs»:=fun k x t v h=>by
  rcases zAi h with ⟨i,u,rfl,e⟩ | ⟨y,u,rfl,e⟩
  ·exact nomatch e
  ·injection e with e1 _
   subst e1
   cases v <;> rfl
theorem zGI(prog:Ai)(w:Ax)(i:Int)(t:Tok):(mixKind prog w).is (.inl i) (.int i t)=true:=zJM i t
theorem zGK(prog:Ai)(w:Ax)(x:Str)(t:Tok):(mixKind prog w).is (.inr x) (.str x t)=true:=zJa x t
inductive V where
 | non | bl (b:Bool) | int (i:Int) | str (x:Str) | byt (b:Array UInt8) | flt (b:UInt64) | ref (a:Addr) | ty (n:String)
 deriving DecidableEq
noncomputable def RelV:V->AD->Prop
 | .non,u=>u=CU
 | .bl b,u=>u=Fs b
 | .int i,u=>∃ t,u=Bb i t
 | .str x,u=>∃ t,u=FN x t
 | .byt b,u=>∃ t,u=Value.bytes b t
 | .flt b,u=>∃ t,u=Value.float b t
 | .ref a,u=>u=Bc a
 | .ty n,u=>u=Cz n
abbrev Vals:List V->List AD->Prop:=Ee RelV
theorem Vals.length{xs:List V}{us:List AD}(r:Vals xs us):xs.length=us.length:=Hu r
theorem Vals.get:∀ {xs:List V} {us:List AD} {i:Nat} {x:V},Vals xs us->xs[i]?=some x->∃ u,us[i]?=some u/\RelV x u
 | _,_,_,_,.nil,e=>by simp at e
 | _,_,0,_,.cons r _,e=>by simp at e; subst e; exact⟨_,rfl,r⟩
 | _,_,i+1,x,.cons _ t,e=>by
  obtain⟨u,h1,h2⟩:=Vals.get (i:=i) (x:=x) t (by simpa using e)
  exact⟨u,by simpa using h1,h2⟩
theorem Vals.set{x:V}{u:AD}(r:RelV x u):∀ {xs:List V} {us:List AD} (i:Nat),Vals xs us->Vals (xs.set i x) (us.set i u)
 | _,_,_,.nil=>.nil
 | _,_,0,.cons _ t=>.cons r t
 | _,_,i+1,.cons q t=>.cons q (Vals.set r i t)
theorem Vals.append:∀ {xs ys:List V} {us ws:List AD},Vals xs us->Vals ys ws->Vals (xs++ys) (us++ws)
 | _,_,_,_,.nil,s=>s
 | _,_,_,_,.cons r t,s=>.cons r (Vals.append t s)
theorem Vals.take:∀ {xs:List V} {us:List AD} (n:Nat),Vals xs us->Vals (xs.take n) (us.take n)
 | _,_,0,_=>.nil
 | _,_,_+1,.nil=>.nil
 | _,_,n+1,.cons r t=>.cons r (Vals.take n t)
theorem Vals.drop:∀ {xs:List V} {us:List AD} (n:Nat),Vals xs us->Vals (xs.drop n) (us.drop n)
 | _,_,0,r=>r
 | _,_,_+1,.nil=>.nil
 | _,_,n+1,.cons _ t=>Vals.drop n t
def RelO:Option V->Option AD->Prop
 | some v,some u=>RelV v u
 | none,none=>True
 | _,_=>False
def KV {κ:Type}:List (κ×V)->List (κ×AD)->Prop:=Ee fun (p:κ×V) (q:κ×AD)=>p.1=q.1/\RelV p.2 q.2
noncomputable def kV:Key->V
 | .inl i=>.int i
 | .inr x=>.str x
inductive HO where
 | lst (xs:List V)
 | tup (xs:List V)
 | dK (kvs:List (Key×V)) | dT (kvs:List (List Key×V))
 | set (S:Int->Bool) (n:Nat)
 | ins (C dx:Addr) (fs:List (Str×V))
 | own (x:Addr)
 | xd (fs:List (Str×V))
 | met (f x:Addr)
 | rng (lo hi:Int)
 | frz (o:Obj) (u:HO)
 | tbl (ps:Array AD)
 | tbq (q:Str) | cod (q:Str)
 | ext (φ:Heap->Prop)
abbrev Hp:=Addr->Option HO
noncomputable def upd (H:Hp) (a:Addr) (o:HO):Hp:=fun b=>if b=a then some o else H b
theorem zAO{H:Hp}{a:Addr}{o:HO}:upd H a o a=some o:=by unfold upd; rw[if_pos rfl]
theorem zAB{H:Hp}{a b:Addr}{o:HO}(h:b≠a):upd H a o b=H b:=by unfold upd; rw[if_neg h]
theorem zAE{H:Hp}{a b:Addr}{o:HO}(h:H a=some o)(h':H b=none):a≠b:=by
 intro e; subst e; rw[h]at h'; cases h'
def TupD (h:Heap) (a:Addr) (items:Array AD):Prop:=∃ o,h.get? a=some o/\o.cls=.type "tuple"/\(∃ n,o.data=.seq items n)/\o.dict=none
theorem TupD.tup{h:Heap}{a:Addr}{items:Array AD}(x:TupD h a items):Ih h a items:=let ⟨o,e,c,d,_⟩:=x; ⟨o,e,c,d⟩
theorem TupD.lt{h:Heap}{a:Addr}{items:Array AD}(x:TupD h a items):a < h.objs.size:=let ⟨_,e,_⟩:=x; AJ e
theorem TupD.new(h:Heap)(items:Array AD):TupD (h.push { cls:=.type "tuple",data:=.seq items }) h.objs.size items:=⟨_,AQ _ rfl,rfl,⟨_,rfl⟩,rfl⟩
section
variable (P:Ai)(w:Ax)
def ObjOk (H:Hp) (h:Heap) (a:Addr):HO->Prop
 | .lst xs=>xs.length<=AC/\∃ (its:List AD) (n:Nat),Vals xs its/\h.get? a=some { cls:=.type "list",data:=.seq its.toArray n }
 | .tup xs=>xs.length<=AC/\∃ its:List AD,Vals xs its/\TupD h a its.toArray
 | .dK kvs=>kvs.length<=AC/\(a == C9)=false/\∃ vs,KV kvs vs/\h.DictOf (mixKind P w) a vs
 | .dT kvs=>kvs.length<=AC/\(a == C9)=false/\∃ xs:List (List Key×Addr×AD),
   Ee (fun (p:List Key×V) (q:List Key×Addr×AD)=>p.1=q.1/\H q.2.1=some (.tup (p.1.map kV))/\RelV p.2 q.2.2) kvs xs /\
   ∃ o es ep,h.get? a=some o/\o.ExactDict/\o.data=.dict es ep/\es.toList=xs.map (entryOfKey (HH (mixKind P w)))/\(xs.map (·.1)).Nodup
 | .set S n=>h.SetOf (intKind P w) a S n
 | .ins C dx fs=>H dx=some (.own a)/\fs.length<=1000/\dx≠a/\h.get? a=some (PySem.W.instObj C dx) /\
   ∃ mA,h.Ns1 dx mA/\(∀ f,RelO (fs.lookup f) (mA f))/\PySem.Within mA (fs.map (·.1))
 | .own _=>∃ o,h.get? a=some o
 | .xd fs=>∃ mA,h.Ns1 a mA/\∀ f,RelO (fs.lookup f) (mA f)
 | .rng lo hi=>∃ t u v,h.get? a=some { cls:=.type "range",data:=.fields #[.int lo t,.int hi u,.int 1 v] }
 | .frz o u=>h.get? a=some o/\ObjOk H h a u
 | .tbl ps=>h.get? a=some { cls:=.none,data:=.fields ps }
 | .tbq q=>∃ ps:Array AD,h.get? a=some { cls:=.none,data:=.fields ps }/\Di ps.toList/\∀ pos cv,EW pos ps.toList=some cv->∃ c,cv=.ref c/\H c=some (.cod q)
 | .cod q=>∃ o vs t,h.get? a=some o/\o.data=.fields vs/\vs[1]?=some (.str q t)
 | .met f x=>h.get? a=some (Et (.ref f) (.ref x))
 | .ext φ=>φ h/\(∃ o,h.get? a=some o)/\∀ h1 h2:Heap,φ h1->(∀ o,h1.get? a=some o->h2.get? a=some o)->φ h2
def HOk (H:Hp) (h:Heap):Prop:=∀ a o,H a=some o->ObjOk P w H h a o
end
section
variable {P:Ai}{w:Ax}{H H':Hp}{h h':Heap}{a:Addr}{o:HO}
theorem ObjOk.lt(x:ObjOk P w H h a o):a < h.objs.size:=by
 cases o with
 | lst xs=>obtain⟨_,_,_,_,e⟩:=x; exact AJ e
 | tup xs=>obtain⟨_,_,_,p⟩:=x; exact p.lt
 | dK kvs=>obtain⟨_,_,_,_,o,_,_,e,_⟩:=x; exact AJ e
 | dT kvs=>obtain⟨_,_,_,_,o,_,_,e,_⟩:=x; exact AJ e
 | set S n=>obtain⟨o,_,_,_,e,_⟩:=x; exact AJ e
 | ins C dx fs=>obtain⟨_,_,_,e,_⟩:=x; exact AJ e
 | own y=>obtain⟨_,e⟩:=x; exact AJ e
 | xd fs=>obtain⟨_,⟨_,_,_,e,_⟩,_⟩:=x; exact AJ e
 | rng lo hi=>obtain⟨_,_,_,e⟩:=x; exact AJ e
 | frz ob u=>obtain⟨e,_⟩:=x; exact AJ e
 | tbl ps=>exact AJ (show h.get? a=some _ from x)
 | tbq q=>obtain⟨_,e,_⟩:=x; exact AJ e
 | cod q=>obtain⟨_,_,_,e,_⟩:=x; exact AJ e
 | met f y=>exact AJ (show h.get? a=some _ from x)
 | ext φ=>obtain⟨_,⟨_,e⟩,_⟩:=x; exact AJ e
theorem Paired.mapP{α β:Type}{F G:α->β->Prop}:∀ {l₁:List α} {l₂:List β},Ee F l₁ l₂->(∀ a b,F a b->G a b)->Ee G l₁ l₂
 | _,_,.nil,_=>.nil
 | _,_,.cons r t,f=>.cons (f _ _ r) (Paired.mapP t f)
inductive ImO where
 | t (xs:List V) | c (q:Str)
noncomputable def ImO.ho:ImO->HO
 | .t xs=>.tup xs
 | .c q=>.cod q
theorem ObjOk.stay(x:ObjOk P w H h a o)(k:∀ b u,(b=a\/H b=some (.own a))->h.get? b=some u->h'.get? b=some u)
  (ho:∀ b,H b=some (.own a)->H' b=some (.own a)) (ht:∀ b (xs:ImO),H b=some xs.ho->H' b=some xs.ho):ObjOk P w H' h' a o:=by
 induction o with
 | lst xs=>obtain⟨z,its,n,r,e⟩:=x; exact⟨z,its,n,r,k _ _ (.inl rfl) e⟩
 | tup xs=>obtain⟨z,its,r,ob,e,c⟩:=x; exact⟨z,its,r,ob,k _ _ (.inl rfl) e,c⟩
 | dK kvs=>obtain⟨z,y,vs,r,ob,es,ep,e,c⟩:=x; exact⟨z,y,vs,r,ob,es,ep,k _ _ (.inl rfl) e,c⟩
 | dT kvs =>
  obtain⟨z,y,xs,r,ob,es,ep,e,c⟩:=x
  exact⟨z,y,xs,Paired.mapP r fun p q z=>⟨z.1,ht _ (.t _) z.2.1,z.2.2⟩,ob,es,ep,k _ _ (.inl rfl) e,c⟩
 | set S n=>obtain⟨ob,es,ep,t,e,c⟩:=x; exact⟨ob,es,ep,t,k _ _ (.inl rfl) e,c⟩
 | ins C dx fs =>
  obtain⟨d,z,ne,e,mA,⟨od,es,ep,e2,c⟩,r⟩:=x
  exact⟨ho _ d,z,ne,k _ _ (.inl rfl) e,mA,⟨od,es,ep,k _ _ (.inr d) e2,c⟩,r⟩
 | own y=>obtain⟨ob,e⟩:=x; exact⟨ob,k _ _ (.inl rfl) e⟩
 | xd fs=>obtain⟨mA,⟨od,es,ep,e,c⟩,r⟩:=x; exact⟨mA,⟨od,es,ep,k _ _ (.inl rfl) e,c⟩,r⟩
 | rng lo hi=>obtain⟨t,u,v,e⟩:=x; exact⟨t,u,v,k _ _ (.inl rfl) e⟩
 | frz ob u ih=>obtain⟨e,q⟩:=x; exact⟨k _ _ (.inl rfl) e,ih q⟩
 | tbq q =>
  obtain⟨ps,e,t,c⟩:=x
  exact⟨ps,k a _ (.inl rfl) e,t,fun pos cv z=>by obtain⟨c',z1,z2⟩:=c pos cv z; exact⟨c',z1,ht _ (.c q) z2⟩⟩
 | cod q=>obtain⟨o,vs,t,e,r⟩:=x; exact⟨o,vs,t,k a _ (.inl rfl) e,r⟩
 | tbl ps =>
  have e:h.get? a=some { cls:=.none,data:=.fields ps }:=x
  show h'.get? a=some { cls:=.none,data:=.fields ps }
  exact k a _ (.inl rfl) e
 | met f y =>
  have e:h.get? a=some (Et (.ref f) (.ref y)):=x
  show h'.get? a=some (Et (.ref f) (.ref y))
  exact k a _ (.inl rfl) e
 | ext φ=>obtain⟨p,⟨o,e⟩,st⟩:=x; exact⟨st _ _ p fun o q=>k _ _ (.inl rfl) q,⟨o,k _ _ (.inl rfl) e⟩,st⟩
theorem HOk.lt(x:HOk P w H h)(e:H a=some o):a < h.objs.size:=(x a o e).lt
theorem HOk.fresh(x:HOk P w H h)(e:h.objs.size<=a):H a=none:=by
 cases q:H a with
 | none=>rfl
 | some u=>exact absurd (Aa (x.lt q) e) (BJ _)
theorem HOk.kept(x:HOk P w H h)(k:∀ b u,h.get? b=some u->h'.get? b=some u):HOk P w H h':=fun a o e =>
 (x a o e).stay (fun b u _ q=>k b u q) (fun _ q=>q) fun _ _ q=>q
theorem HOk.laid(x:HOk P w H h)(k:∀ b u,h.get? b=some u->h'.get? b=some u)(hp:h.objs.size<=a)(new:ObjOk P w (upd H a o) h' a o):HOk P w (upd H a o) h':=fun b u e=>by
 have hn:=x.fresh hp
 by_cases hb:b=a
 ·subst hb; rw[zAO]at e; cases e; exact new
 ·rw[zAB hb]at e
  exact (x b u e).stay (fun c v _ q=>k c v q) (fun c q=>by rw[zAB (zAE q hn)]; exact q) fun c xs q=>by rw[zAB (zAE q hn)]; exact q
end
def Rd (H:Hp) (a:Addr) (u:HO):Prop:=H a=some u\/∃ o,H a=some (.frz o u)
theorem Rd.ok{P:Ai}{w:Ax}{H:Hp}{h:Heap}{a:Addr}{u:HO}(r:Rd H a u)(x:HOk P w H h):ObjOk P w H h a u:=by
 rcases r with r | ⟨o,r⟩
 ·exact x a u r
 ·obtain⟨_,q⟩:=x a _ r
  exact q
noncomputable def Mut:Option HO->Prop
 | some (.lst _)=>True
 | some (.dK _)=>True
 | some (.dT _)=>True
 | some (.set _ _)=>True
 | some (.ins _ _ _)=>True
 | some (.ext _)=>True
 | _=>False
section
variable {P:Ai}{w:Ax}{H:Hp}{h h':Heap}{x e:Addr}{o':HO}
theorem HOk.write(ok:HOk P w H h)(mu:Mut (H x))(he:e=x\/H e=some (.own x))(k:∀ b u,b≠e->h.get? b=some u->h'.get? b=some u)(heo:∃ u,h'.get? e=some u)
  (new:ObjOk P w (upd H x o') h' x o'):HOk P w (upd H x o') h':=fun b u q=>by
 have nown:∀ c y,H c=some (.own y)->c≠x:=fun c y r z=>by subst z; rw[r]at mu; exact mu
 have ntup:∀ c (xs:ImO),H c=some xs.ho->c≠x:=fun c xs r z=>by subst z; rw[r]at mu; cases xs <;> exact mu
 by_cases hb:b=x
 ·subst hb; rw[zAO]at q; cases q; exact new
 ·rw[zAB hb]at q
  by_cases hbe:b=e
  ·have q':H b=some (.own x):=by
    rcases he with z | z
    ·exact absurd (hbe.trans z) hb
    ·rw[hbe]; exact z
   rw[q]at q'; cases q'
   obtain⟨v,hv⟩:=heo
   exact⟨v,by rw[hbe]; exact hv⟩
  ·refine (ok b u q).stay (fun c v hc r=>k c v ?_ r) (fun c r=>by rw[zAB (nown c b r)]; exact r) fun c xs r=>by rw[zAB (ntup c xs r)]; exact r
   rcases hc with rfl | hc
   ·exact hbe
   ·rintro rfl
    rcases he with z | z
    ·exact nown c b hc z
    ·rw[hc]at z; cases z; exact hb rfl
end
structure Un(fs ex:List Addr)(H H':Hp)(h h':Heap):Prop where
 keep:∀ b o,h.get? b=some o->H b=none->b∉fs->b∉ex->h'.get? b=some o
 slot:∀ b o,h.get? b=some o->H b=none->b∈fs->b∉ex->∃ sl,h'.get? b=some { o with slots:=sl }
 free:∀ b o,h.get? b=some o->H b=none->b∉ex->H' b=none
 there:∀ b o,h.get? b=some o->b∉ex->∃ o',h'.get? b=some o'
 tups:∀ b xs,H b=some (.tup xs)->H' b=some (.tup xs)
 frzs:∀ b o u,H b=some (.frz o u)->H' b=some (.frz o u)
 tbls:∀ b ps,H b=some (.tbl ps)->∃ more,H' b=some (.tbl (ps++more))
section
variable {fs fs' ex ex':List Addr}{H H1 H2:Hp}{h h1 h2 h':Heap}{a x e:Addr}{o:HO}
theorem Un.any(u:Un fs ex H H1 h h1){b:Addr}{ob:Obj}(q:h.get? b=some ob)(n:H b=none)(hx:b∉ex):∃ sl,h1.get? b=some { ob with slots:=sl }:=by
 by_cases hb:b∈fs
 ·exact u.slot b ob q n hb hx
 ·exact⟨ob.slots,u.keep b ob q n hb hx⟩
theorem Un.kept(k:∀ b u,h.get? b=some u->h'.get? b=some u):Un fs ex H H h h' :=
 ⟨fun b ob q _ _ _=>k b ob q,fun b ob q _ _ _=>⟨ob.slots,k b ob q⟩,fun _ _ _ n _=>n,fun b ob q _=>⟨ob,k b ob q⟩,fun _ _ q=>q,fun _ _ _ q=>q,fun _ ps q=>⟨#[],by rw[q]; simp⟩⟩
theorem Un.refl:Un fs ex H H h h:=Un.kept fun _ _ q=>q
theorem Un.laid(k:∀ b u,h.get? b=some u->h'.get? b=some u)(hp:h.objs.size<=a)(hn:H a=none):Un fs ex H (upd H a o) h h' where
 keep:=fun b u q _ _ _=>k b u q
 slot:=fun b u q _ _ _=>⟨u.slots,k b u q⟩
 free:=fun b u q n _=>by rw[zAB (Ag (Aa (AJ q) hp))]; exact n
 there:=fun b u q _=>⟨u,k b u q⟩
 tups:=fun b xs q=>by rw[zAB (zAE q hn)]; exact q
 frzs:=fun b u xs q=>by rw[zAB (zAE q hn)]; exact q
 tbls:=fun b ps q=>⟨#[],by rw[zAB (zAE q hn),q]; simp⟩
theorem Un.write(mu:Mut (H x))(he:e=x\/H e=some (.own x))(k:∀ b u,b≠e->h.get? b=some u->h'.get? b=some u)(heo:∃ u,h'.get? e=some u):Un fs ex H (upd H x o) h h':=by
 have hx:∀ b,H b=none->b≠x:=fun b n z=>by subst z; rw[n]at mu; exact mu
 have hb:∀ b,H b=none->b≠e:=fun b n z=>by
  subst z
  rcases he with r | r
  ·exact hx b n r
  ·rw[n]at r; cases r
 have hm:∀ b u,H b=some u->¬ Mut (some u)->b≠x:=fun b u q nm z=>by subst z; rw[q]at mu; exact nm mu
 refine⟨fun b u q n _ _=>k b u (hb b n) q,fun b u q n _ _=>⟨u.slots,k b u (hb b n) q⟩,fun b u q n _=>by rw[zAB (hx b n)]; exact n,fun b u q _=>?_,
  fun b xs q=>by rw[zAB (hm b _ q fun z=>z)]; exact q,fun b u xs q=>by rw[zAB (hm b _ q fun z=>z)]; exact q,fun b ps q=>⟨#[],by rw[zAB (hm b _ q fun z=>z),q]; simp⟩⟩
 by_cases hbe:b=e
 ·subst hbe; exact heo
 ·exact⟨u,k b u hbe q⟩
end
noncomputable def trk (h:Heap) (H:Hp):List Addr:=(AF h.objs.size).filter fun a=>(H a).isSome
def hidT (h:Heap) (H:Hp):Heap:=PySem.W.hideAll h (trk h H)
theorem zI3(h:Heap)(H:Hp):(hidT h H).objs.size=h.objs.size:=PySem.W.hideAll_size _ _
theorem zLM{h:Heap}{H:Hp}{b:Addr}{o:Obj}(e:h.get? b=some o)(n:H b=none):(hidT h H).get? b=some o :=
 PySem.W.hideAll_get _ e fun hm=>by
  have q:(H b).isSome=true:=(De.mp hm).2
  rw[n]at q; simp at q
theorem zMv{h:Heap}{H:Hp}{b:Addr}{o:Obj}(e:(hidT h H).get? b=some o):h.get? b=some o/\H b=none:=by
 have e':h.get? b=some o:=PySem.W.of_hideAll (trk h H) e
 refine⟨e',?_⟩
 cases q:H b with
 | none=>rfl
 | some x =>
  have hm:b∈trk h H:=De.mpr ⟨F0.mpr (AJ e'),by simp[q]⟩
  have z:(hidT h H).get? b=none:=PySem.W.hideAll_none (trk h H) hm
  rw[z]at e; cases e
noncomputable def allNews (g h:Heap) (L:Addr):List (Addr×Obj):=(AF h.objs.size).filterMap fun a=>if a=L\/(g.get? a).isSome=true then none else (h.get? a).map fun o=>(a,o)
def rest (g h:Heap) (L d:Addr):List (Addr×Obj):=(allNews g h L).filter fun p=>decide (p.1≠d)
structure Mod(K:AM)(mg:Str->Option AD)(base:Heap):Prop where
 kin:K.In base
 glob:base.Ns Ad mg
 blt:∃ mb,base.Ns Dj mb/\∀ x:Str,x≠"__name__"->mb x=B6 x
 nolimit:base.NoLimit
 bmod:∃ bm ob,mg "__builtins__"=some (.ref bm)/\bm≠Dj/\base.get? bm=some ob/\ob.cls=.type "module"/\ob.dict=some Dj/\ob.data=.plain
structure Cx where
 prog:Ai
 w:Ax
 K:AM
 mg:Str->Option AD
 base:Heap
 A:BE
 N:List Str
 s₀:AG
 H₀:Hp
 env:Env
 outer:List Env
 stack:List Env
 ex:List Addr
 fn:Str->Bool
 calm:Bool
 pn:List (Addr×Obj)
 xe:AD->AG->Prop
noncomputable def frs (l:List Env):List Addr:=l.filterMap (·.frame)
abbrev Cx.fs (X:Cx):List Addr:=frs X.outer
def Vis (sc:Df) (x:Str):Prop:=sc.names.lookup x=some .local\/sc.names.lookup x=some .cell\/sc.names.lookup x=some .free
def Loc (sc:Df) (x:Str):Prop:=sc.names.lookup x=some .local\/sc.names.lookup x=some .cell
noncomputable def Look (env:Env) (h:Heap) (m:Str->Option AD) (x:Str) (u:AD):Prop :=
 (env.kindOf x=some .local/\m x=some u)\/((env.kindOf x=some .cell\/env.kindOf x=some .free)/\∃ c,env.cells.lookup x=some c/\h.IsCell c (some u))
structure Cx.Ok(X:Cx):Prop where
 mod:Mod X.K X.mg X.base
 kind:X.env.scope.kind=.function
 glob:X.env.globals=Ad
 blt:X.env.builtins=Dj
 above:X.s₀.heap.objs.size<=X.env.locals
 inj:∀ x y c,X.env.cells.lookup x=some c->X.env.cells.lookup y=some c->x=y
 has:∀ x,(X.env.kindOf x=some .cell\/X.env.kindOf x=some .free)->∃ c,X.env.cells.lookup x=some c
 cab:∀ x c,X.fn x=true->X.env.cells.lookup x=some c->X.s₀.heap.objs.size<=c
 hd:X.calm=true->X.A.handled=none
 frames:X.A.frames=some X.stack
 stk:X.stack=X.outer\/(X.stack=X.env::X.outer/\X.env.frame=some X.env.locals)
 exf:∀ b∈X.ex,b≠X.env.locals/\∀ x c,X.env.cells.lookup x=some c->c≠b
 bs:∀ b o,X.base.get? b=some o->X.s₀.heap.get? b=some o/\X.H₀ b=none
 bsz:X.base.objs.size<=X.s₀.heap.objs.size
 noex:∀ b o,X.base.get? b=some o->b∉X.ex
 exfs:∀ b∈X.ex,b∉X.fs
 funs:X.s₀.heap.FunFrames X.base X.outer
 frf:∀ b∈X.fs,X.H₀ b=none
structure Inv(X:Cx)(pins:List (Addr×Obj))(σ:List (Option V))(H:Hp)(s:AG):Prop where
 ok:X.Ok
 os:s.os=X.s₀.os
 bare:Ef s.gens
 base:Un X.fs X.ex X.H₀ H X.s₀.heap s.heap
 loc:∃ m,s.heap.Ns X.env.locals m/\∀ (i:Nat) (x:Str) (v:V),X.N[i]?=some x->σ[i]?=some (some v)->Vis X.env.scope x->∃ u,RelV v u/\Look X.env s.heap m x u
 cell:∀ x c,X.env.cells.lookup x=some c->∃ v,s.heap.IsCell c v
 free:H X.env.locals=none
 freeC:∀ x c,X.env.cells.lookup x=some c->H c=none
 pin:∀ p∈X.pn++pins,s.heap.get? p.1=some p.2/\H p.1=none/\p.1≠X.env.locals/\p.1∉X.fs/\∀ v,p.2.data≠.cell v
 hok:HOk X.prog X.w H s.heap
 len:σ.length=X.N.length
section
variable {X:Cx}{pins:List (Addr×Obj)}{σ:List (Option V)}{H H':Hp}{s:AG}{h':Heap}
theorem Cx.Ok.nofr(ok:X.Ok){b:Addr}{o:Obj}(e:X.base.get? b=some o):b∉X.fs:=fun hb=>by
 have:=(ok.funs.mem hb).1
 rw[e]at this; cases this
theorem Inv.bs(I:Inv X pins σ H s):∀ b o,X.base.get? b=some o->s.heap.get? b=some o/\H b=none:=fun b o e =>
 ⟨I.base.keep b o (I.ok.bs b o e).1 (I.ok.bs b o e).2 (I.ok.nofr e) (I.ok.noex b o e),I.base.free b o (I.ok.bs b o e).1 (I.ok.bs b o e).2 (I.ok.noex b o e)⟩
theorem Inv.bk(I:Inv X pins σ H s):∀ b o,X.base.get? b=some o->s.heap.get? b=some o:=fun b o e=>(I.bs b o e).1
theorem Inv.mod(I:Inv X pins σ H s):Mod X.K X.mg X.base:=I.ok.mod
theorem Inv.kIn(I:Inv X pins σ H s):X.K.In s.heap:=I.ok.mod.kin.keeps I.bk
theorem Inv.lt(I:Inv X pins σ H s):X.env.locals < s.heap.objs.size:=let ⟨_,hn,_⟩:=I.loc; hn.lt
theorem Inv.sz(I:Inv X pins σ H s):X.s₀.heap.objs.size<=s.heap.objs.size:=Al I.ok.above (DB I.lt)
theorem Inv.nofs(I:Inv X pins σ H s){a:Addr}(h:s.heap.objs.size<=a):a∉X.fs:=fun hb=>by
 obtain⟨_,o,ho,_⟩:=I.ok.funs.mem hb
 exact absurd (Aa (AJ ho) (Al I.sz h)) (BJ _)
theorem Inv.cne(I:Inv X pins σ H s):∀ x c,X.env.cells.lookup x=some c->c≠X.env.locals:=fun x c e z=>by
 obtain⟨v,o,ho,hd⟩:=I.cell x c e
 obtain⟨m,⟨o',es,ep,ho',hd',_⟩,_⟩:=I.loc
 rw[z,ho']at ho; cases ho; rw[hd']at hd; cases hd
theorem Inv.funs(I:Inv X pins σ H s):s.heap.FunFrames X.base X.outer:=by
 have all:∀ (l:List Env),(∀ b∈frs l,b∈X.fs)->X.s₀.heap.FunFrames X.base l->s.heap.FunFrames X.base l:=by
  intro l
  induction l with
  | nil=>intro _ _; trivial
  | cons env r ih =>
   intro hs hl
   obtain⟨hk,⟨L,o,hf,hn,ho,hd⟩,hr⟩:=hl
   have hL:L∈X.fs:=hs L (by unfold frs; rw[Em,hf]; exact AY)
   obtain⟨sl,e⟩:=I.base.slot L o ho (I.ok.frf L hL) hL fun z=>I.ok.exfs L z hL
   exact⟨hk,⟨L,_,hf,hn,e,hd⟩,ih (fun b hb=>hs b (by unfold frs; rw[Em,hf]; exact AR _ hb)) hr⟩
 exact all X.outer (fun _ hb=>hb) I.ok.funs
theorem Inv.stack(I:Inv X pins σ H s):s.heap.FunFrames X.base X.stack:=by
 rcases I.ok.stk with e | ⟨e,hf⟩
 ·rw[e]; exact I.funs
 ·rw[e]
  obtain⟨m,hn,_⟩:=I.loc
  refine .cons (by rw[I.ok.kind]; decide) hf hn ?_ I.funs
  exact Heap.get?_none_of_le (Al I.ok.bsz I.ok.above)
theorem Inv.stkSub(I:Inv X pins σ H s):∀ b∈frs X.stack,b∈X.env.locals::X.fs:=fun b hb=>by
 rcases I.ok.stk with e | ⟨e,hf⟩
 ·rw[e]at hb; exact AR _ hb
 ·rw[e]at hb
  unfold frs at hb
  rw[Em,hf]at hb
  exact hb
theorem Inv.stkFree(I:Inv X pins σ H s):∀ b∈frs X.stack,H b=none:=fun b hb=>by
 rcases AL.mp (I.stkSub b hb) with e | hb
 ·rw[e]; exact I.free
 ·obtain⟨_,o,ho,_⟩:=I.ok.funs.mem hb
  exact I.base.free b o ho (I.ok.frf b hb) fun z=>I.ok.exfs b z hb
theorem Inv.step{g':Array GenState}{t':Nat}{d':Drawn}{ch:List Addr}(I:Inv X pins σ H s)
  (hch:∀ b∈ch,(b∈X.ex\/X.s₀.heap.objs.size<=b)/\b≠X.env.locals/\(∀ x c,X.env.cells.lookup x=some c->c≠b)/\∀ p∈X.pn++pins,p.1≠b)
  (keep:∀ b o,b≠X.env.locals->b∉X.fs->b∉ch->s.heap.get? b=some o->H b=none->h'.get? b=some o)
  (slot:∀ b o,b≠X.env.locals->b∈X.fs->b∉ch->s.heap.get? b=some o->H b=none->∃ sl,h'.get? b=some { o with slots:=sl }) (free:∀ b o,b∉ch->s.heap.get? b=some o->H b=none->H' b=none)
  (there:∀ b o,b∉ch->s.heap.get? b=some o->∃ o',h'.get? b=some o')
  (tups:∀ b xs,H b=some (.tup xs)->H' b=some (.tup xs)) (frzs:∀ b o u,H b=some (.frz o u)->H' b=some (.frz o u)) (tbls:∀ b ps,H b=some (.tbl ps)->∃ more,H' b=some (.tbl (ps++more)))
  (ns:∀ m,s.heap.Ns X.env.locals m->h'.Ns X.env.locals m) (hok:HOk X.prog X.w H' h') (hg:Ef g') :
  Inv X pins σ H' { s with heap:=h',gens:=g',drawn:=d',toks:=t' }:=by
 have neL:∀ b o,X.s₀.heap.get? b=some o->b≠X.env.locals:=fun b o e=>Ag (Aa (AJ e) I.ok.above)
 have neC:∀ b o,X.s₀.heap.get? b=some o->b∉X.ex->b∉ch:=fun b o e hx hb=>by
  rcases (hch b hb).1 with z | z
  ·exact hx z
  ·exact absurd (Aa (AJ e) z) (BJ _)
 have cellK:∀ x c,X.env.cells.lookup x=some c->∀ v,s.heap.IsCell c v->h'.IsCell c v:=fun x c e v ⟨o,ho,hd⟩=>by
  have nch:c∉ch:=fun z=>(hch c z).2.2.1 x c e rfl
  by_cases hc:c∈X.fs
  ·obtain⟨sl,q⟩:=slot c o (I.cne x c e) hc nch ho (I.freeC x c e)
   exact⟨_,q,hd⟩
  ·exact⟨o,keep c o (I.cne x c e) hc nch ho (I.freeC x c e),hd⟩
 refine⟨I.ok,I.os,hg,⟨fun b o e n hb hx=>?_,fun b o e n hb hx=>?_,fun b o e n hx=>?_,fun b o e hx=>?_,fun b xs e=>tups b xs (I.base.tups b xs e),fun b o xs e=>frzs b o xs (I.base.frzs b o xs e),fun b ps e=>?_⟩,?_,fun x c e=>?_,?_,fun x c e=>?_,fun p hp=>?_,hok,I.len⟩
 ·exact keep b o (neL b o e) hb (neC b o e hx) (I.base.keep b o e n hb hx) (I.base.free b o e n hx)
 ·obtain⟨sl,e1⟩:=I.base.slot b o e n hb hx
  obtain⟨sl',e2⟩:=slot b _ (neL b o e) hb (neC b o e hx) e1 (I.base.free b o e n hx)
  exact⟨sl',e2⟩
 ·obtain⟨o',e1⟩:=I.base.there b o e hx
  exact free b o' (neC b o e hx) e1 (I.base.free b o e n hx)
 ·obtain⟨o',e1⟩:=I.base.there b o e hx
  exact there b o' (neC b o e hx) e1
 ·obtain⟨m1,e1⟩:=I.base.tbls b ps e
  obtain⟨m2,e2⟩:=tbls b _ e1
  exact⟨m1++m2,by rw[e2,Array.append_assoc]⟩
 ·obtain⟨m,hn,hl⟩:=I.loc
  refine⟨m,ns m hn,fun i x v e1 e2 e3=>?_⟩
  obtain⟨u,r,l⟩:=hl i x v e1 e2 e3
  refine⟨u,r,?_⟩
  rcases l with l | ⟨k,c,e,z⟩
  ·exact .inl l
  ·exact .inr ⟨k,c,e,cellK x c e _ z⟩
 ·obtain⟨v,z⟩:=I.cell x c e
  exact⟨v,cellK x c e v z⟩
 ·obtain⟨m,⟨o,_,_,ho,_⟩,_⟩:=I.loc
  exact free _ o (fun z=>(hch _ z).2.1 rfl) ho I.free
 ·obtain⟨v,o,ho,hd⟩:=I.cell x c e
  exact free c o (fun z=>(hch c z).2.2.1 x c e rfl) ho (I.freeC x c e)
 ·obtain⟨e,n,ne,nf,d⟩:=I.pin p hp
  have nch:p.1∉ch:=fun z=>(hch p.1 z).2.2.2 p hp rfl
  exact⟨keep p.1 p.2 ne nf nch e n,free p.1 p.2 nch e n,ne,nf,d⟩
theorem Inv.un{t':Nat}(I:Inv X pins σ H s)(u:Un X.fs [] H H' s.heap h')(hok:HOk X.prog X.w H' h'):Inv X pins σ H' { s with heap:=h',toks:=t' }:=by
 obtain⟨m,⟨o,es,ep,ho,r⟩,_⟩:=id I.loc
 obtain⟨sl,hL⟩:=u.any ho I.free (by simp)
 exact I.step (g':=s.gens) (d':=s.drawn) (ch:=[]) (fun _ z=>nomatch z) (fun b o _ hb _ e n=>u.keep b o e n hb (by simp)) (fun b o _ hb _ e n=>u.slot b o e n hb (by simp)) (fun b o _ e n=>u.free b o e n (by simp)) (fun b o _ e=>u.there b o e (by simp)) u.tups u.frzs u.tbls (fun m' hm=>by
  obtain⟨o',es',ep',ho',r'⟩:=hm
  rw[ho]at ho'; cases ho'
  exact⟨_,es',ep',hL,r'⟩) hok I.bare
theorem Inv.call{g':Array GenState}{t':Nat}{d':Drawn}{ch:List Addr}(I:Inv X pins σ H s)(u:Un (frs X.stack) ch H H' s.heap h')(hok:HOk X.prog X.w H' h')(hg:Ef g')
  (hch:∀ b∈ch,(b∈X.ex\/X.s₀.heap.objs.size<=b)/\b≠X.env.locals/\(∀ x c,X.env.cells.lookup x=some c->c≠b)/\∀ p∈X.pn++pins,p.1≠b) :
  Inv X pins σ H' { s with heap:=h',gens:=g',drawn:=d',toks:=t' }:=by
 obtain⟨m,⟨o,es,ep,ho,r⟩,_⟩:=id I.loc
 obtain⟨sl,hL⟩:=u.any ho I.free fun z=>(hch _ z).2.1 rfl
 exact I.step (ch:=ch) hch (fun b o hL hb hc e n=>u.keep b o e n (fun z=>(AL.mp (I.stkSub b z)).elim hL hb) hc) (fun b o _ _ hc e n=>u.any e n hc) (fun b o hc e n=>u.free b o e n hc) (fun b o hc e=>u.there b o e hc) u.tups u.frzs u.tbls (fun m' hm=>by
  obtain⟨o',es',ep',ho',r'⟩:=hm
  rw[ho]at ho'; cases ho'
  exact⟨_,es',ep',hL,r'⟩) hok hg
theorem Inv.turned{t':Nat}{it:Addr}(I:Inv X pins σ H s)(k:∀ b o,b≠it->s.heap.get? b=some o->h'.get? b=some o)(hn:H it=none)(hL:it≠X.env.locals)
  (h1:it∈X.ex\/X.s₀.heap.objs.size<=it) (h2:∀ x c,X.env.cells.lookup x=some c->c≠it) (h3:∀ p∈X.pn++pins,p.1≠it):Inv X pins σ H { s with heap:=h',toks:=t' }:=by
 have nit:∀ b u,H b=some u->b≠it:=fun b u e z=>by rw[z,hn]at e; cases e
 refine I.step (g':=s.gens) (d':=s.drawn) (ch:=[it]) (fun b hb=>?_) (fun b o _ _ hc e _=>k b o (fun z=>hc (by simp[z])) e) (fun b o _ _ hc e _=>⟨o.slots,k b o (fun z=>hc (by simp[z])) e⟩) (fun _ _ _ _ n=>n)
  (fun b o hc e=>⟨o,k b o (fun z=>hc (by simp[z])) e⟩) (fun _ _ e=>e) (fun _ _ _ e=>e) (fun b ps e=>⟨#[],by rw[e]; simp⟩) (fun m hm=>?_) (fun b u e=>?_) I.bare
 ·have e:b=it:=by simpa using hb
  subst e
  exact⟨h1,hL,h2,h3⟩
 ·obtain⟨o,es,ep,ho,r⟩:=hm
  exact⟨o,es,ep,k _ o (A6 hL) ho,r⟩
 ·refine (I.hok b u e).stay (fun c v hc q=>k c v ?_ q) (fun _ q=>q) fun _ _ q=>q
  rcases hc with z | z
  ·rw[z]; exact nit b u e
  ·exact nit c _ z
theorem Inv.tok(I:Inv X pins σ H s)(t:Nat):Inv X pins σ H { s with toks:=t }:=I.un (h':=s.heap) (t':=t) Un.refl I.hok
theorem Inv.kept{t':Nat}(I:Inv X pins σ H s)(k:∀ b u,s.heap.get? b=some u->h'.get? b=some u):Inv X pins σ H { s with heap:=h',toks:=t' }:=I.un (Un.kept k) (I.hok.kept k)
theorem Inv.laid{a:Addr}{o:HO}{t':Nat}(I:Inv X pins σ H s)(k:∀ b u,s.heap.get? b=some u->h'.get? b=some u)(hp:s.heap.objs.size<=a)(new:ObjOk X.prog X.w (upd H a o) h' a o) :
  Inv X pins σ (upd H a o) { s with heap:=h',toks:=t' }:=I.un (Un.laid k hp (I.hok.fresh hp)) (I.hok.laid k hp new)
theorem Inv.write{x e:Addr}{o:HO}{t':Nat}(I:Inv X pins σ H s)(mu:Mut (H x))(he:e=x\/H e=some (.own x))(k:∀ b u,b≠e->s.heap.get? b=some u->h'.get? b=some u)(heo:∃ u,h'.get? e=some u)
  (new:ObjOk X.prog X.w (upd H x o) h' x o):Inv X pins σ (upd H x o) { s with heap:=h',toks:=t' }:=I.un (Un.write mu he k heo) (I.hok.write mu he k heo new)
theorem Inv.pins_of{pins':List (Addr×Obj)}(I:Inv X pins σ H s)(h:∀ p∈pins',s.heap.get? p.1=some p.2/\H p.1=none/\p.1≠X.env.locals/\p.1∉X.fs/\∀ v,p.2.data≠.cell v):Inv X pins' σ H s :=
 ⟨I.ok,I.os,I.bare,I.base,I.loc,I.cell,I.free,I.freeC,fun p hp=>(CD.mp hp).elim (fun z=>I.pin p (DW _ z)) (h p),I.hok,I.len⟩
theorem zFO{N:List Str}(hN:N.Nodup){i j:Nat}{x:Str}(a:N[i]?=some x)(b:N[j]?=some x):i=j:=by
 obtain⟨h1,e1⟩:=Ac.mp a
 obtain⟨h2,e2⟩:=Ac.mp b
 exact (List.getElem_inj hN).mp (e1.trans e2.symm)
theorem zJN{M:Model}{A:BE}{E:AD->AG->Prop}{i:Nat}{x:Str}{v:V}{u:AD}{Q:Unit->AG->Prop}(I:Inv X pins σ H s)(hN:X.N.Nodup)(hi:X.N[i]?=some x)(hx:Loc X.env.scope x)(r:RelV v u)
  (h:∀ s',Inv X pins (σ.set i (some v)) H s'->(∃ a,BU a s.heap s'.heap/\(a=X.env.locals\/X.env.cells.lookup x=some a))->Q () s') (hf:X.fn x=true\/X.env.scope.names.lookup x=some .local:=by first | exact .inl rfl | exact .inr rfl | assumption):AV M A (storeName X.env x u) Q E s:=by
 obtain⟨m,hn,hl⟩:=id I.loc
 have hcls:(X.env.scope.kind == .class || (X.env.scope.kind == .module && X.env.locals != X.env.globals))=false:=by rw[I.ok.kind]; rfl
 have hiσ:i < σ.length:=by rw[I.len]; exact (Ac.mp hi).1
 have cne:=I.cne
 have tracked:∀ {a:Addr} {h':Heap},(∃ o,s.heap.get? a=some o/\H a=none)->BU a s.heap h'->HOk X.prog X.w H h':=fun {a h'} ha hs b ob e=>by
  obtain⟨_,_,hfree⟩:=ha
  refine (I.hok b ob e).stay (fun c w' hc q=>(hs.2 c ?_).trans q) (fun _ q=>q) fun _ _ q=>q
  rintro rfl
  rcases hc with rfl | hc
  ·rw[hfree]at e; cases e
  ·rw[hfree]at hc; cases hc
 rcases hx with hk | hk
 ·refine wpAny_storeName_local hk hn (fun h' hn' hs=>?_) hcls
  obtain⟨oL,_,_,hoL,_⟩:=id hn
  refine h _ ⟨I.ok,I.os,I.bare,⟨fun b o e n hb hx=>?_,fun b o e n hb hx=>?_,I.base.free,fun b o e hx=>?_,I.base.tups,I.base.frzs,I.base.tbls⟩,⟨_,hn',fun j y v' e1 e2 e3=>?_⟩,fun y c e=>?_,I.free,I.freeC,fun p hp=>?_,tracked ⟨oL,hoL,I.free⟩ hs,by simpa using I.len⟩ ⟨_,hs,.inl rfl⟩
  ·exact (hs.2 b (Ag (Aa (AJ e) I.ok.above))).trans (I.base.keep b o e n hb hx)
  ·obtain⟨sl,e1⟩:=I.base.slot b o e n hb hx
   exact⟨sl,(hs.2 b (Ag (Aa (AJ e) I.ok.above))).trans e1⟩
  ·obtain⟨o',e1⟩:=I.base.there b o e hx
   exact⟨o',(hs.2 b (Ag (Aa (AJ e) I.ok.above))).trans e1⟩
  ·by_cases hj:j=i
   ·subst hj
    rw[hi]at e1; cases e1
    rw[Aq hiσ]at e2
    cases e2
    exact⟨u,r,.inl ⟨hk,by simp⟩⟩
   ·rw[AW (A6 hj)]at e2
    obtain⟨u',r',q⟩:=hl j y v' e1 e2 e3
    refine⟨u',r',?_⟩
    rcases q with ⟨k,e⟩ | ⟨k,c,e,z⟩
    ·refine .inl ⟨k,?_⟩
     have:y≠x:=fun e=>hj (zFO hN e1 (e ▸ hi))
     simp[this,e]
    ·exact .inr ⟨k,c,e,z.sameBut hs (cne y c e)⟩
  ·obtain⟨w',z⟩:=I.cell y c e
   exact⟨w',z.sameBut hs (cne y c e)⟩
  ·obtain⟨e,n,ne,nf,d⟩:=I.pin p hp
   exact⟨(hs.2 p.1 ne).trans e,n,ne,nf,d⟩
 ·have hfn:X.fn x=true:=by
   rcases hf with z | z
   ·exact z
   ·rw[z]at hk; cases hk
  obtain⟨c,hc⟩:=I.ok.has x (.inl hk)
  obtain⟨w',z⟩:=I.cell x c hc
  refine wpAny_storeName_cell I.ok.kind hk hc z (fun h' hc' hs=>?_)
  obtain⟨oc,hoc,hocd⟩:=id z
  refine h { s with heap:=h' } ⟨I.ok,I.os,I.bare,⟨fun b o e n hb hx=>?_,fun b o e n hb hx=>?_,I.base.free,fun b o e hx=>?_,I.base.tups,I.base.frzs,I.base.tbls⟩,⟨m,hn.sameBut hs (A6 (cne x c hc)),fun j y v' e1 e2 e3=>?_⟩,fun y c' e=>?_,I.free,I.freeC,fun p hp=>?_,tracked ⟨oc,hoc,I.freeC x c hc⟩ hs,by simpa using I.len⟩ ⟨c,hs,.inr hc⟩
  ·exact (hs.2 b (Ag (Aa (AJ e) (I.ok.cab x c hfn hc)))).trans (I.base.keep b o e n hb hx)
  ·obtain⟨sl,e1⟩:=I.base.slot b o e n hb hx
   exact⟨sl,(hs.2 b (Ag (Aa (AJ e) (I.ok.cab x c hfn hc)))).trans e1⟩
  ·obtain⟨o',e1⟩:=I.base.there b o e hx
   exact⟨o',(hs.2 b (Ag (Aa (AJ e) (I.ok.cab x c hfn hc)))).trans e1⟩
  ·by_cases hj:j=i
   ·subst hj
    rw[hi]at e1; cases e1
    rw[Aq hiσ]at e2
    cases e2
    exact⟨u,r,.inr ⟨.inl hk,c,hc,hc'⟩⟩
   ·rw[AW (A6 hj)]at e2
    obtain⟨u',r',q⟩:=hl j y v' e1 e2 e3
    refine⟨u',r',?_⟩
    rcases q with q | ⟨k,c',e,z'⟩
    ·exact .inl q
    ·refine .inr ⟨k,c',e,z'.sameBut hs ?_⟩
     rintro rfl
     exact hj (zFO hN e1 (I.ok.inj _ _ _ e hc ▸ hi))
  ·by_cases hcc:c'=c
   ·subst hcc; exact⟨_,hc'⟩
   ·obtain⟨w2,z2⟩:=I.cell y c' e
    exact⟨w2,z2.sameBut hs hcc⟩
  ·obtain⟨e,n,ne,nf,d⟩:=I.pin p hp
   refine⟨(hs.2 p.1 ?_).trans e,n,ne,nf,d⟩
   intro q
   rw[q,hoc]at e
   have q':oc=p.2:=Au e
   exact d w' (by rw[← q']; exact hocd)
theorem zCV{M:Model}{A:BE}{E:AD->AG->Prop}{i:Nat}{x:Str}{v:V}{u:AD}{Q:Unit->AG->Prop}(I:Inv X pins σ H s)(hN:X.N.Nodup)(hi:X.N[i]?=some x)(hx:Loc X.env.scope x)(r:RelV v u)
  (h:∀ s',Inv X pins (σ.set i (some v)) H s'->Q () s') (hf:X.fn x=true\/X.env.scope.names.lookup x=some .local:=by first | exact .inl rfl | exact .inr rfl | assumption):AV M A (storeName X.env x u) Q E s :=
 zJN I hN hi hx r (fun s' I' _=>h s' I') hf
theorem Inv.call'{s':AG}{ch:List Addr}(I:Inv X pins σ H s)(ho:s'.os=s.os)(u:Un (frs X.stack) ch H H' s.heap s'.heap)(hok:HOk X.prog X.w H' s'.heap)(hg:Ef s'.gens)
  (hch:∀ b∈ch,(b∈X.ex\/X.s₀.heap.objs.size<=b)/\b≠X.env.locals/\(∀ x c,X.env.cells.lookup x=some c->c≠b)/\∀ p∈X.pn++pins,p.1≠b):Inv X pins σ H' s':=by
 obtain⟨h',g',d',t',o'⟩:=s'
 have e:o'=s.os:=ho
 subst e
 exact I.call (g':=g') (t':=t') (d':=d') u hok hg hch
end
abbrev XK:=AD->Option Addr->Hp->Prop
abbrev St:=List (Option V)
abbrev VK:=V->Hp->Prop
abbrev TE:=St->Hp->VK->Prop
abbrev TT:=St->Hp->(Bool->Hp->Prop)->Prop
abbrev TA:=St->Hp->(List V->Hp->Prop)->Prop
structure Ends where
 nx:St->Hp->Prop
 rt:VK
 bk:St->Hp->Prop:=fun _ _=>False
 ct:St->Hp->Prop:=fun _ _=>False
abbrev TS:=Ends->St->Hp->Prop
def EP (X:Cx) (pins:List (Addr×Obj)) (σ:St) (Q:VK) (u:AD) (s':AG):Prop:=∃ v H',Inv X pins σ H' s'/\RelV v u/\Q v H'
def TP (X:Cx) (pins:List (Addr×Obj)) (σ:St) (Q:Bool->Hp->Prop) (b:Bool) (s':AG):Prop:=∃ H',Inv X pins σ H' s'/\Q b H'
def AP (X:Cx) (pins:List (Addr×Obj)) (σ:St) (Q:List V->Hp->Prop) (us:List AD) (s':AG):Prop:=∃ vs H',Inv X pins σ H' s'/\Vals vs us/\Q vs H'
def SP (X:Cx) (pins:List (Addr×Obj)) (D:Ends) (f:Flow) (s':AG):Prop :=
 match f with
 | .next=>∃ σ' H',Inv X pins σ' H' s'/\D.nx σ' H'
 | .brk=>∃ σ' H',Inv X pins σ' H' s'/\D.bk σ' H'
 | .cont=>∃ σ' H',Inv X pins σ' H' s'/\D.ct σ' H'
 | .ret u=>∃ v σ' H',Inv X pins σ' H' s'/\RelV v u/\D.rt v H'
noncomputable def PE (X:Cx) (e:Expr) (t:TE):Prop :=
 ∀ (pins:List (Addr×Obj)) (s:AG) (σ:St) (H:Hp) (Q:VK),Inv X pins σ H s->t σ H Q->AV (model X.prog X.w) X.A (eval e X.env) (EP X pins σ Q) X.xe s
noncomputable def PT (X:Cx) (e:Expr) (t:TT):Prop :=
 ∀ (pins:List (Addr×Obj)) (s:AG) (σ:St) (H:Hp) (Q:Bool->Hp->Prop),Inv X pins σ H s->t σ H Q->AV (model X.prog X.w) X.A (HU e X.env (eval e X.env)) (TP X pins σ Q) X.xe s
noncomputable def PW (X:Cx) (e:Expr) (t:TT):Prop :=
 ∀ (whole:Sem AD) (pins:List (Addr×Obj)) (s:AG) (σ:St) (H:Hp) (Q:Bool->Hp->Prop),Inv X pins σ H s->t σ H Q->AV (model X.prog X.w) X.A (HU e X.env whole) (TP X pins σ Q) X.xe s
theorem PW.pt{X:Cx}{e:Expr}{t:TT}(h:PW X e t):PT X e t:=h _
noncomputable def PA (X:Cx) (es:List Expr) (t:TA):Prop :=
 ∀ (pos:Pos) (pins:List (Addr×Obj)) (s:AG) (σ:St) (H:Hp) (Q:List V->Hp->Prop),Inv X pins σ H s->t σ H Q->AV (model X.prog X.w) X.A (spliced (Bw pos (AU es X.env))) (AP X pins σ Q) X.xe s
def PS (X:Cx) (st:Stmt) (t:TS):Prop :=
 ∀ (pins:List (Addr×Obj)) (s:AG) (σ:St) (H:Hp) (D:Ends),Inv X pins σ H s->t D σ H->AV (model X.prog X.w) X.A (exec st X.env) (SP X pins D) X.xe s
def PSs (X:Cx) (st:List Stmt) (t:TS):Prop :=
 ∀ (pins:List (Addr×Obj)) (s:AG) (σ:St) (H:Hp) (D:Ends),Inv X pins σ H s->t D σ H->AV (model X.prog X.w) X.A (execs st X.env) (SP X pins D) X.xe s
theorem thn{α:Type}{t:Sem α}{Q Q':α->AG->Prop}{M:Model}{A:BE}{E:AD->AG->Prop}{s:AG}(h:AV M A t Q E s)(hQ:∀ a s,Q a s->Q' a s):AV M A t Q' E s:=Bj h hQ fun _ _ x=>x
section
variable {X:Cx}
theorem bin{a b:Expr}{ta tb:TE}(ha:PE X a ta)(hb:PE X b tb){pins:List (Addr×Obj)}{s:AG}{σ:St}{H:Hp}{R:V->V->Hp->Prop}(I:Inv X pins σ H s)(h:ta σ H fun x H1=>tb σ H1 fun y H2=>R x y H2)
  {α:Type} {Q:α->AG->Prop} {f:AD->AD->Sem α}
  (hf:∀ v u s2 x y H2,Inv X pins σ H2 s2->RelV x v->RelV y u->R x y H2->AV (model X.prog X.w) X.A (f v u) Q X.xe s2) :
  AV (model X.prog X.w) X.A (eval a X.env) (fun v s₁=>AV (model X.prog X.w) X.A (eval b X.env) (fun u s₂=>AV (model X.prog X.w) X.A (f v u) Q X.xe s₂) X.xe s₁) X.xe s:=by
 refine thn (ha pins s σ H _ I h) fun v s1 ⟨x,H1,I1,r1,q1⟩=>?_
 refine thn (hb pins s1 σ H1 _ I1 q1) fun u s2 ⟨y,H2,I2,r2,q2⟩=>?_
 exact hf v u s2 x y H2 I2 r1 r2 q2
noncomputable def tVar (i:Nat):TE:=fun σ H Q=>∃ v,σ[i]?=some (some v)/\Q v H
noncomputable def tC (v:V):TE:=fun _ H Q=>Q v H
theorem zCk{i:Nat}{x:Str}{pos:Pos}(hN:X.N[i]?=some x)(hv:Vis X.env.scope x)(hd:(x == ("__debug__":Str))=false:=by decide)(hcd:(x == ("__classdict__":Str))=false:=by decide):PE X (.Name x pos) (tVar i):=by
 intro pins s σ H Q I h
 obtain⟨v,e,h⟩:=h
 obtain⟨m,hn,hl⟩:=I.loc
 obtain⟨u,r,l⟩:=hl i x v hN e hv
 have fin:EP X pins σ Q u s:=⟨v,H,I,r,h⟩
 rcases l with ⟨hk,hm⟩ | ⟨hk,c,hc,hcell⟩
 ·exact IP (wpAny_loadName_local I.ok.kind hk hn hm fin) hd
 ·rcases hk with hk | hk
  ·exact IP (wpAny_loadName_cell I.ok.kind hk hc hcell fin) hd
  ·exact IP (wpAny_loadName_free I.ok.kind hk hc hcell fin hcd) hd
theorem zO8{i j pos}:PE X (.Constant (.int i) j pos) (tC (.int i)):=fun _ _ _ H _ I h=>wpAny_Constant_int ⟨.int i,H,I.tok _,⟨_,rfl⟩,h⟩
theorem zRW{b j pos}:PE X (.Constant (.bool b) j pos) (tC (.bl b)):=fun _ _ _ H _ I h=>Constant_bool ⟨.bl b,H,I,rfl,h⟩
theorem zO9{j pos}:PE X (.Constant .none j pos) (tC .non):=fun _ _ _ H _ I h=>Constant_none ⟨.non,H,I,rfl,h⟩
theorem zIm{x j pos}:PE X (.Constant (.str x) j pos) (tC (.str x)):=fun _ _ _ H _ I h=>Calls.Constant_str ⟨.str x,H,I.tok _,⟨_,rfl⟩,h⟩
def Gl (X:Cx) (x:Str):Prop:=X.env.kindOf x=some .globalImplicit
theorem zED{E:AD->AG->Prop}{pins:List (Addr×Obj)}{s:AG}{σ:St}{H:Hp}{x:Str}{u:AD}{pos:Pos}{Q:AD->AG->Prop}(I:Inv X pins σ H s)(hg:Gl X x)(hm:X.mg x=some u)(h:Q u s)
  (hd:(x == ("__debug__":Str))=false:=by decide):AV (model X.prog X.w) X.A (eval (.Name x pos) X.env) Q E s :=
 Ft I.ok.kind hg (Calls.loadGlobal_global (by rw[I.ok.glob]; exact I.mod.glob.keeps I.bk) hm h) hd
theorem zAx{E:AD->AG->Prop}{pins:List (Addr×Obj)}{s:AG}{σ:St}{H:Hp}{x:Str}{u:AD}{pos:Pos}{Q:AD->AG->Prop}(I:Inv X pins σ H s)(hg:Gl X x)(hm:X.mg x=none)(hv:B6 x=some u)(h:Q u s)
  (hn:x≠"__name__":=by decide) (hd:(x == ("__debug__":Str))=false:=by decide):AV (model X.prog X.w) X.A (eval (.Name x pos) X.env) Q E s:=by
 obtain⟨mb,h1,h2⟩:=I.mod.blt
 exact Ft I.ok.kind hg (Calls.loadGlobal_builtin (by rw[I.ok.glob]; exact I.mod.glob.keeps I.bk) hm (by rw[I.ok.blt]; exact h1.keeps I.bk) ((h2 x hn).trans hv) h) hd
theorem zGz{x:Str}{v:V}{u:AD}{pos:Pos}(hg:Gl X x)(hm:X.mg x=some u)(r:RelV v u)(hd:(x == ("__debug__":Str))=false:=by decide):PE X (.Name x pos) (tC v) :=
 fun _ _ _ H _ I h=>zED I hg hm ⟨v,H,I,r,h⟩ hd
theorem zOG{x:Str}{v:V}{u:AD}{pos:Pos}(hg:Gl X x)(hm:X.mg x=none)(hv:B6 x=some u)(r:RelV v u)(hn:x≠"__name__":=by decide)(hd:(x == ("__debug__":Str))=false:=by decide):PE X (.Name x pos) (tC v) :=
 fun _ _ _ H _ I h=>zAx I hg hm hv ⟨v,H,I,r,h⟩ hn hd
variable {a b:Expr}{ta tb:TE}{pos:Pos}
noncomputable def PC (X:Cx) (op:Hv) (a b:Expr) (t:TE):Prop :=
 ∀ (pins:List (Addr×Obj)) (s:AG) (σ:St) (H:Hp) (Q:VK),Inv X pins σ H s->t σ H Q ->
  AV (model X.prog X.w) X.A (eval a X.env) (fun v s₁=>AV (model X.prog X.w) X.A (eval b X.env) (fun u s₂=>AV (model X.prog X.w) X.A (BY op v u) (EP X pins σ Q) X.xe s₂) X.xe s₁) X.xe s
variable {tA tB':TT}{rest:List Expr}
noncomputable def tAnd (t u:TT):TT:=fun σ H Q=>t σ H fun c H1=>if c=true then u σ H1 Q else Q false H1
noncomputable def tOr (t u:TT):TT:=fun σ H Q=>t σ H fun c H1=>if c=true then Q true H1 else u σ H1 Q
noncomputable def tNot (t:TT):TT:=fun σ H Q=>t σ H fun c H1=>Q (!c) H1
theorem zNr(ha:PT X a tA):PW X (.BoolOp .And [a] pos) tA:=by
 intro wh pins s σ H Q I h
 refine isTrue_and (thn (ha pins s σ H Q I h) fun c s1 e=>?_)
 cases c with
 | true=>exact isTrue_and_nil e
 | false=>exact e
theorem zOj(ha:PT X a tA):PW X (.BoolOp .Or [a] pos) tA:=by
 intro wh pins s σ H Q I h
 refine isTrue_or (thn (ha pins s σ H Q I h) fun c s1 e=>?_)
 cases c with
 | false=>exact isTrue_or_nil e
 | true=>exact e
theorem zO3(ha:PT X a tA)(hb:PW X (.BoolOp .And (b::rest) pos) tB'):PW X (.BoolOp .And (a::b::rest) pos) (tAnd tA tB'):=by
 intro wh pins s σ H Q I h
 refine isTrue_and (thn (ha pins s σ H _ I h) fun c s1 ⟨H1,I1,q1⟩=>?_)
 cases c with
 | true=>exact hb wh pins s1 σ H1 Q I1 q1
 | false=>exact⟨H1,I1,q1⟩
theorem zRU(ha:PT X a tA)(hb:PW X (.BoolOp .Or (b::rest) pos) tB'):PW X (.BoolOp .Or (a::b::rest) pos) (tOr tA tB'):=by
 intro wh pins s σ H Q I h
 refine isTrue_or (thn (ha pins s σ H _ I h) fun c s1 ⟨H1,I1,q1⟩=>?_)
 cases c with
 | true=>exact⟨H1,I1,q1⟩
 | false=>exact hb wh pins s1 σ H1 Q I1 q1
theorem zPx(ha:PT X a tA):PT X (.UnaryOp .Not a pos) (tNot tA):=by
 intro pins s σ H Q I h
 exact isTrue_not (ha pins s σ H (fun c H1=>Q (!c) H1) I h)
noncomputable def tAndV (ta tb:TE):TE:=fun σ H Q=>ta σ H fun x H1=>∃ c,x=.bl c/\if c=true then tb σ H1 Q else Q (.bl false) H1
noncomputable def tOrV (ta tb:TE):TE:=fun σ H Q=>ta σ H fun x H1=>∃ c,x=.bl c/\if c=true then Q (.bl true) H1 else tb σ H1 Q
noncomputable def tNotV (ta:TE):TE:=fun σ H Q=>ta σ H fun x H1=>∃ c,x=.bl c/\Q (.bl (!c)) H1
theorem zPH{op}{t:TE}(h:PE X a t):PE X (.BoolOp op [a] pos) t:=fun pins s σ H Q I hw=>BoolOp_one (h pins s σ H Q I hw)
theorem zPc(ha:PE X a ta)(hb:PE X (.BoolOp .And (b::rest) pos) tb):PE X (.BoolOp .And (a::b::rest) pos) (tAndV ta tb):=by
 intro pins s σ H Q I h
 refine BoolOp_and (thn (ha pins s σ H _ I h) fun v s1 ⟨x,H1,I1,r1,q1⟩=>?_)
 obtain⟨c,rfl,q1⟩:=q1
 cases r1
 refine Cq ?_
 cases c with
 | true=>exact hb pins s1 σ H1 Q I1 q1
 | false=>exact⟨.bl false,H1,I1,rfl,q1⟩
theorem zRR(ha:PE X a ta)(hb:PE X (.BoolOp .Or (b::rest) pos) tb):PE X (.BoolOp .Or (a::b::rest) pos) (tOrV ta tb):=by
 intro pins s σ H Q I h
 refine BoolOp_or (thn (ha pins s σ H _ I h) fun v s1 ⟨x,H1,I1,r1,q1⟩=>?_)
 obtain⟨c,rfl,q1⟩:=q1
 cases r1
 refine Cq ?_
 cases c with
 | false=>exact hb pins s1 σ H1 Q I1 q1
 | true=>exact⟨.bl true,H1,I1,rfl,q1⟩
theorem zPd(ha:PE X a ta):PE X (.UnaryOp .Not a pos) (tNotV ta):=by
 intro pins s σ H Q I h
 refine UnaryOp_ (thn (ha pins s σ H _ I h) fun v s1 ⟨x,H1,I1,r1,q1⟩=>?_)
 obtain⟨c,rfl,q1⟩:=q1
 cases r1
 exact not_of (Cq ⟨.bl (!c),H1,I1,rfl,q1⟩)
noncomputable def tIf (t:TT) (ta tb:TE):TE:=fun σ H Q=>t σ H fun c H1=>if c=true then ta σ H1 Q else tb σ H1 Q
theorem zLn{c:Expr}(hc:PT X c tA)(ha:PE X a ta)(hb:PE X b tb):PE X (.IfExp c a b pos) (tIf tA ta tb):=by
 intro pins s σ H Q I h
 refine wpAny_IfExp (thn (hc pins s σ H _ I h) fun d s1 ⟨H1,I1,q1⟩=>?_)
 cases d with
 | true=>exact ha pins s1 σ H1 Q I1 q1
 | false=>exact hb pins s1 σ H1 Q I1 q1
end
def SqL (K:AM) (H:Hp) (a:Addr) (xs:List V):Prop :=
 Rd H a (.lst xs) \/
  ∃ (o:Obj) (its:Array AD) (n:Nat),K.lookup a=some o/\o.cls=.type "list"/\o.dict=none/\o.data=.seq its n/\its.size<=AC/\Vals xs its.toList
def SqT (K:AM) (H:Hp) (a:Addr) (xs:List V):Prop :=
 Rd H a (.tup xs) \/
  ∃ (o:Obj) (its:Array AD) (n:Nat),K.lookup a=some o/\o.cls=.type "tuple"/\o.data=.seq its n/\its.size<=AC/\Vals xs its.toList
noncomputable def absV:AD->Option V
 | .none=>some .non
 | .bool b=>some (.bl b)
 | .int i _=>some (.int i)
 | .str x _=>some (.str x)
 | .bytes b _=>some (.byt b)
 | .float b _=>some (.flt b)
 | .ref a=>some (.ref a)
 | .type n=>some (.ty n)
 | _=>none
theorem RelV.abs{x:V}{u:AD}(r:RelV x u):absV u=some x:=by
 cases x with
 | non=>cases r; rfl
 | bl _=>cases r; rfl
 | int _=>obtain⟨t,rfl⟩:=r; rfl
 | str _=>obtain⟨t,rfl⟩:=r; rfl
 | byt _=>obtain⟨t,rfl⟩:=r; rfl
 | flt _=>obtain⟨t,rfl⟩:=r; rfl
 | ref _=>cases r; rfl
 | ty _=>cases r; rfl
theorem RelV.inj{x y:V}{u:AD}(r:RelV x u)(q:RelV y u):x=y:=Au (r.abs.symm.trans q.abs)
theorem Vals.inj:∀ {xs ys:List V} {us:List AD},Vals xs us->Vals ys us->xs=ys
 | _,_,_,.nil,.nil=>rfl
 | _,_,_,.cons r t,.cons r' t'=>by rw[r.inj r',Vals.inj t t']
section
variable {X:Cx}{pins:List (Addr×Obj)}{σ:St}{H:Hp}{s:AG}{a:Addr}{xs ys:List V}
theorem SqL.of{K:AM}(h:H a=some (.lst xs)):SqL K H a xs:=.inl (.inl h)
theorem SqT.of{K:AM}(h:H a=some (.tup xs)):SqT K H a xs:=.inl (.inl h)
theorem Inv.list(I:Inv X pins σ H s)(h:SqL X.K H a xs):∃ its:List AD,Vals xs its/\PlainL s.heap a its.toArray/\xs.length<=AC:=by
 rcases h with h | ⟨o,its,n,hk,hc,hd,hs,hz,r⟩
 ·obtain⟨z,its,n,r,e⟩:=h.ok I.hok
  exact⟨its,r,⟨_,n,e,rfl,rfl,rfl⟩,z⟩
 ·refine⟨its.toList,r,⟨o,n,I.kIn a o hk,hc,hd,by simpa using hs⟩,?_⟩
  have e:=r.length
  simp only[Eg]at e
  lia
theorem Inv.tuple(I:Inv X pins σ H s)(h:SqT X.K H a xs):∃ its:List AD,Vals xs its/\Ih s.heap a its.toArray/\xs.length<=AC:=by
 rcases h with h | ⟨o,its,n,hk,hc,hs,hz,r⟩
 ·obtain⟨z,its,r,p⟩:=h.ok I.hok
  exact⟨its,r,p.tup,z⟩
 ·refine⟨its.toList,r,⟨o,I.kIn a o hk,hc,n,by simpa using hs⟩,?_⟩
  have e:=r.length
  simp only[Eg]at e
  lia
theorem Inv.list_inj(I:Inv X pins σ H s)(h:SqL X.K H a xs)(h':SqL X.K H a ys):xs=ys:=by
 obtain⟨its,r,⟨o,n,e,_,_,d⟩,_⟩:=I.list h
 obtain⟨its',r',⟨o',n',e',_,_,d'⟩,_⟩:=I.list h'
 rw[e]at e'; cases e'
 rw[d]at d'
 injection d' with d1 _
 have:its=its':=by simpa using congrArg IQ d1
 subst this
 exact r.inj r'
theorem Inv.tuple_inj(I:Inv X pins σ H s)(h:SqT X.K H a xs)(h':SqT X.K H a ys):xs=ys:=by
 obtain⟨its,r,⟨o,e,_,n,d⟩,_⟩:=I.tuple h
 obtain⟨its',r',⟨o',e',_,n',d'⟩,_⟩:=I.tuple h'
 rw[e]at e'; cases e'
 rw[d]at d'
 injection d' with d1 _
 have:its=its':=by simpa using congrArg IQ d1
 subst this
 exact r.inj r'
end
noncomputable abbrev Cx.wish (X:Cx) (E:AD->AG->Prop):Cx:={ X with xe:=E }
abbrev Cx.nox (X:Cx):Cx:=X.wish fun _ _=>False
theorem Cx.Ok.wish{X:Cx}(ok:X.Ok)(E:AD->AG->Prop):(X.wish E).Ok :=
 ⟨ok.mod,ok.kind,ok.glob,ok.blt,ok.above,ok.inj,ok.has,ok.cab,ok.hd,ok.frames,ok.stk,ok.exf,ok.bs,ok.bsz,ok.noex,ok.exfs,ok.funs,ok.frf⟩
theorem Cx.Ok.unwish{X:Cx}{E:AD->AG->Prop}(ok:(X.wish E).Ok):X.Ok :=
 ⟨ok.mod,ok.kind,ok.glob,ok.blt,ok.above,ok.inj,ok.has,ok.cab,ok.hd,ok.frames,ok.stk,ok.exf,ok.bs,ok.bsz,ok.noex,ok.exfs,ok.funs,ok.frf⟩
section
variable {X:Cx}{pins:List (Addr×Obj)}{σ:St}{H:Hp}{s:AG}{E:AD->AG->Prop}
theorem Inv.wish(I:Inv X pins σ H s)(E:AD->AG->Prop):Inv (X.wish E) pins σ H s:=⟨I.ok.wish E,I.os,I.bare,I.base,I.loc,I.cell,I.free,I.freeC,I.pin,I.hok,I.len⟩
theorem Inv.unwish(I:Inv (X.wish E) pins σ H s):Inv X pins σ H s:=⟨I.ok.unwish,I.os,I.bare,I.base,I.loc,I.cell,I.free,I.freeC,I.pin,I.hok,I.len⟩
theorem SP.unwish{D:Ends}{f:Flow}{s':AG}(h:SP (X.wish E) pins D f s'):SP X pins D f s':=by
 cases f with
 | next=>obtain⟨σ',H',I,q⟩:=h; exact⟨σ',H',I.unwish,q⟩
 | brk=>obtain⟨σ',H',I,q⟩:=h; exact⟨σ',H',I.unwish,q⟩
 | cont=>obtain⟨σ',H',I,q⟩:=h; exact⟨σ',H',I.unwish,q⟩
 | ret u=>obtain⟨v,σ',H',I,r,q⟩:=h; exact⟨v,σ',H',I.unwish,r,q⟩
theorem PSs.nox{st:List Stmt}{t:TS}(h:PSs X.nox st t):PSs X st t:=fun pins s σ H D I hw =>
 Bj (h pins s σ H D (I.wish _) hw) (fun _ _ q=>q.unwish) fun _ _ z=>A8 z
end
section
variable {X:Cx}{st:Stmt}{rest:List Stmt}{t u:TS}{e:Expr}{te:TE}{pos:Pos}
noncomputable def tNext:TS:=fun D σ H=>D.nx σ H
noncomputable def tSeq (t u:TS):TS:=fun D σ H=>t { D with nx:=u D } σ H
theorem zNJ:PSs X [] tNext:=fun _ _ σ H _ I h=>Eo ⟨σ,H,I,h⟩
theorem zLo(h1:PS X st t)(h2:PSs X rest u):PSs X (st::rest) (tSeq t u):=by
 intro pins s σ H D I h
 refine Iy (thn (h1 pins s σ H { D with nx:=u D } I h) fun f s1 q=>?_)
 cases f with
 | next =>
  obtain⟨σ',H',I',q⟩:=q
  exact h2 pins s1 σ' H' D I' q
 | ret v=>exact q
 | brk=>exact q
 | cont=>exact q
theorem zOC(h1:PS X st t):PSs X [st] t:=by
 intro pins s σ H D I h
 refine Iy (thn (h1 pins s σ H D I h) fun f s1 q=>?_)
 cases f with
 | next=>exact Eo q
 | ret v=>exact q
 | brk=>exact q
 | cont=>exact q
theorem Inv.quiet{pins:List (Addr×Obj)}{σ:St}{H:Hp}{s:AG}(I:Inv X pins σ H s):interactive X.env=false:=by simp[interactive,I.ok.kind]
noncomputable def tDrop (te:TE):TS:=fun D σ H=>te σ H fun _ H1=>D.nx σ H1
theorem zNW(he:PE X e te)(hs:EY e none pos.line X.env=pure false:=by rfl):PS X (.Expr e pos) (tDrop te):=by
 intro pins s σ H D I h
 exact wpAny_Expr_any (thn (he pins s σ H _ I h) fun v s1 ⟨x,H1,I1,r1,q1⟩=>⟨σ,H1,I1,q1⟩) I.quiet hs
noncomputable def tRet (te:TE):TS:=fun D σ H=>te σ H D.rt
theorem zO0(he:PE X e te):PS X (.Return (some e) pos) (tRet te):=by
 intro pins s σ H D I h
 exact wpAny_Return_some (thn (he pins s σ H _ I h) fun v s1 ⟨x,H1,I1,r1,q1⟩=>⟨x,σ,H1,I1,r1,q1⟩)
noncomputable def tIfS (c:TT) (t u:TS):TS:=fun D σ H=>c σ H fun b H1=>if b=true then t D σ H1 else u D σ H1
theorem zQ7{c:Expr}{a b:List Stmt}{tc:TT}(hc:PT X c tc)(ha:PSs X a t)(hb:PSs X b u):PS X (.If c a b pos) (tIfS tc t u):=by
 intro pins s σ H D I h
 refine wpAny_If (thn (hc pins s σ H _ I h) fun d s1 ⟨H1,I1,q1⟩=>?_)
 cases d with
 | true=>exact ha pins s1 σ H1 D I1 q1
 | false=>exact hb pins s1 σ H1 D I1 q1
noncomputable def tNever:TS:=fun _ _ _=>False
theorem zKr:PS X st tNever:=fun _ _ _ _ _ _ h=>h.elim
end
abbrev TG:=V->St->Hp->(St->Hp->Prop)->Prop
abbrev TGs:=List V->St->Hp->(St->Hp->Prop)->Prop
def PG (X:Cx) (target:Expr) (t:TG):Prop :=
 ∀ (pins:List (Addr×Obj)) (s:AG) (σ:St) (H:Hp) (v:V) (u:AD) (Q:St->Hp->Prop),Inv X pins σ H s->RelV v u->t v σ H Q ->
  AV (model X.prog X.w) X.A (assign target X.env u) (fun _ s'=>∃ σ' H',Inv X pins σ' H' s'/\Q σ' H') X.xe s
def PGs (X:Cx) (ts:List Expr) (t:TGs):Prop :=
 ∀ (pins:List (Addr×Obj)) (s:AG) (σ:St) (H:Hp) (vs:List V) (us:List AD) (Q:St->Hp->Prop),Inv X pins σ H s->Vals vs us->t vs σ H Q ->
  AV (model X.prog X.w) X.A (G5 ((B3 ts X.env).map (·.2)) us) (fun _ s'=>∃ σ' H',Inv X pins σ' H' s'/\Q σ' H') X.xe s
abbrev TSet:=V->V->V->Hp->(Hp->Prop)->Prop
def PSet (X:Cx) (t:TSet):Prop :=
 ∀ (pins:List (Addr×Obj)) (s:AG) (σ:St) (H:Hp) (o i v:V) (ov iv u:AD) (Q:Hp->Prop),Inv X pins σ H s->RelV o ov->RelV i iv->RelV v u->t o i v H Q ->
  AV (model X.prog X.w) X.A (Kl ov iv u) (fun _ s'=>∃ H',Inv X pins σ H' s'/\Q H') X.xe s
section
variable {X:Cx}{pos:Pos}
noncomputable def gName (i:Nat):TG:=fun v σ H Q=>Q (σ.set i (some v)) H
theorem zGy{i:Nat}{x:Str}(hN:X.N.Nodup)(hi:X.N[i]?=some x)(hx:Loc X.env.scope x)(hf:X.fn x=true\/X.env.scope.names.lookup x=some .local:=by first | exact .inl rfl | exact .inr rfl | assumption):PG X (.Name x pos) (gName i):=by
 intro pins s σ H v u Q I r h
 exact wpAny_assign_Name (zCV I hN hi hx r (fun s' I'=>⟨_,H,I',h⟩) hf)
noncomputable def gNil:TGs:=fun vs σ H Q=>vs=[]/\Q σ H
noncomputable def gCons (t:TG) (u:TGs):TGs:=fun vs σ H Q=>∃ v r,vs=v::r/\t v σ H fun σ' H'=>u r σ' H' Q
theorem zMx:PGs X [] gNil:=by
 intro pins s σ H vs us Q I r h
 obtain⟨e,h⟩:=h
 subst e
 cases r
 exact Ii ⟨σ,H,I,h⟩
theorem zKw{e:Expr}{es:List Expr}{t:TG}{u:TGs}(h1:PG X e t)(h2:PGs X es u)
  (hs:(B3 (e::es) X.env).map (·.2)=assign e X.env::(B3 es X.env).map (·.2):=by rfl):PGs X (e::es) (gCons t u):=by
 intro pins s σ H vs us Q I r h
 obtain⟨v,vr,e1,h⟩:=h
 subst e1
 cases r with
 | cons r rr =>
  rw[hs]
  refine Fe (thn (h1 pins s σ H _ _ _ I r h) fun _ s1 ⟨σ1,H1,I1,q1⟩=>?_)
  exact h2 pins s1 σ1 H1 _ _ Q I1 rr q1
def gTup (K:AM) (n:Nat) (t:TGs):TG:=fun v σ H Q=>∃ a xs,v=.ref a/\SqT K H a xs/\xs.length=n/\t xs σ H Q
theorem zP2{es:List Expr}{k:Nat}{t:TGs}{n:Nat}(hc:X.calm=true)(h:PGs X es t)
  (hn:(B3 es X.env).length=n:=by rfl) (hst:(B3 es X.env).findIdx? (·.1)=none:=by rfl):PG X (.Tuple es k pos) (gTup X.K n t):=by
 intro pins s σ H v u Q I r hw
 obtain⟨a,xs,e1,hq,hl,hw⟩:=hw
 subst e1
 cases r
 obtain⟨its,rv,ht,hz⟩:=I.tuple hq
 refine assign_Tuple_tuple (I.ok.hd hc) ht (by simp[hn,← hl,rv.length]) hst fun h' hx=>?_
 have I1:Inv X pins σ H { s with heap:=h' }:=I.kept (t':=s.toks) fun b o e=>hx b o (Ag (AJ e)) e
 exact h pins _ σ H xs _ Q I1 (by simpa using rv) hw
noncomputable def gSub (to ti:TE) (t:TSet):TG:=fun v σ H Q=>to σ H fun o H1=>ti σ H1 fun i H2=>t o i v H2 fun H3=>Q σ H3
theorem zPf{o i:Expr}{to ti:TE}{t:TSet}(ho:PE X o to)(hi:PE X i ti)(hs:PSet X t)
  (ha:∀ v,assign (.Subscript o i pos) X.env v=(do
   let ov ← holding [v] (eval o X.env)
   let iv ← holding [v,ov] (eval i X.env)
   Ij pos
   holding [v,ov,iv] (Kl ov iv v)
   release [v,ov,iv] []):=by intro _; rfl):PG X (.Subscript o i pos) (gSub to ti t):=by
 intro pins s σ H v u Q I r h
 rw[ha]
 refine AB (Br (thn (ho pins s σ H _ I h) fun ov s1 ⟨x,H1,I1,r1,q1⟩=>?_))
 refine AB (Br (thn (hi pins s1 σ H1 _ I1 q1) fun iv s2 ⟨y,H2,I2,r2,q2⟩=>?_))
 refine AB (FU (AB (Br (thn (hs pins s2 σ H2 x y v ov iv u _ I2 r1 r2 r q2) fun _ s3 ⟨H3,I3,q3⟩=>?_))))
 exact wpAny_release ⟨σ,H3,I3,q3⟩
noncomputable def tAsg (te:TE) (g:TG):TS:=fun D σ H=>te σ H fun x H1=>g x σ H1 D.nx
theorem zJT{tg e:Expr}{te:TE}{g:TG}(he:PE X e te)(hg:PG X tg g)(hs:EI [tg] e pos.line X.env=pure false:=by rfl)(hw:EJ [tg] e X.env=pure none:=by rfl)
  (h1:(B3 [tg] X.env).map (·.2)=[assign tg X.env]:=by rfl):PS X (.Assign [tg] e pos) (tAsg te g):=by
 intro pins s σ H D I h
 refine wpAny_Assign_stores (thn (he pins s σ H _ I h) fun v s1 ⟨x,H1,I1,r1,q1⟩=>?_) hs hw
 rw[h1]
 exact thn (hg pins s1 σ H1 x v _ I1 r1 q1) fun _ s2 q=>q
theorem zJ5{i:Nat}{x:Str}{e:Expr}{te:TE}{pos':Pos}(hN:X.N.Nodup)(hi:X.N[i]?=some x)(hx:Loc X.env.scope x)(he:PE X e te)(hs:EY e (some (.Name x pos')) pos.line X.env=pure false:=by rfl)(hf:X.fn x=true\/X.env.scope.names.lookup x=some .local:=by first | exact .inl rfl | exact .inr rfl | assumption) :
  PS X (.Assign [.Name x pos'] e pos) (tAsg te (gName i)):=by
 intro pins s σ H D I h
 refine wpAny_Assign_Name (thn (he pins s σ H _ I h) fun v s1 ⟨y,H1,I1,r1,q1⟩=>?_) hs
 exact zCV I1 hN hi hx r1 (fun s2 I2=>⟨_,H1,I2,q1⟩) hf
noncomputable def tPar (i j:Nat) (ta:TA):TS:=fun D σ H=>ta σ H fun vs H1=>∃ v w,vs=[v,w]/\D.nx ((σ.set i (some v)).set j (some w)) H1
theorem zOo{i j:Nat}{x y:Str}{a b:Expr}{ta:TA}{px py pt:Pos}{kt k2 pt2}(hc:X.calm=true)(hN:X.N.Nodup)(hi:X.N[i]?=some x)(hj:X.N[j]?=some y)(hij:i≠j)
  (hx:X.env.scope.names.lookup x=some .local) (hy:X.env.scope.names.lookup y=some .local) (ha:PA X [a,b] ta)
  (hw:EJ [.Tuple [.Name x px,.Name y py] kt pt] (.Tuple [a,b] k2 pt2) X.env=pure (some [x,y]))
  (hs:EI [.Tuple [.Name x px,.Name y py] kt pt] (.Tuple [a,b] k2 pt2) pos.line X.env=pure false:=by rfl) :
  PS X (.Assign [.Tuple [.Name x px,.Name y py] kt pt] (.Tuple [a,b] k2 pt2) pos) (tPar i j ta):=by
 intro pins s σ H D I h
 rw[exec_Assign_arm]
 refine AB (FU ?_)
 rw[hs]
 refine AB (AH ?_)
 rw[if_neg (by decide)]
 refine AB (Tuple_ (thn (ha _ pins s σ H _ I h) fun us s1 ⟨vs,H1,I1,r1,q1⟩=>?_))
 obtain⟨v,w,e1,q1⟩:=q1
 subst e1
 obtain⟨u1,u2,rfl,rv,rw'⟩:∃ u1 u2,us=[u1,u2]/\RelV v u1/\RelV w u2:=by
  cases r1 with
  | cons p q =>
   cases q with
   | cons p' q' =>
    cases q'
    exact⟨_,_,rfl,p,p'⟩
 refine BF ?_ (by show 2<=AC; decide)
 have I2:Inv X pins σ H1 { s1 with heap:=s1.heap.push { cls:=.type "tuple",data:=.seq [u1,u2].toArray } }:=I1.kept (t':=s1.toks) fun b o e=>AE _ e
 rw[hw]
 refine AB (AH ?_)
 show AV (model X.prog X.w) X.A (do rule "assign.swapped-stores"; let items ← unpackItems (.ref s1.heap.objs.size) 2 none; G5 [fun v=>Hw X.env y v,fun v=>Hw X.env x v] items.reverse; pure Jy) _ _ _
 refine AB (Cw (AB (unpackItems_tuple (items:=#[u1,u2]) (I.ok.hd hc) (IsTup.new s1.heap _) fun h' hx'=>?_)))
 have I3:=I2.kept (h':=h') (t':=s1.toks) fun b o e=>hx' b o (Ag (AJ e)) e
 show AV _ _ (G5 [fun v=>Hw X.env y v,fun v=>Hw X.env x v] [u2,u1] >>= fun _=>pure Jy) _ _ _
 refine AB (Fe (Jz (zCV I3 hN hj (.inl hy) rw' (fun s2 I4=>?_) (.inr hy))))
 refine Fe (Jz (zCV I4 hN hi (.inl hx) rv (fun s3 I5=>Ii (AH ?_)) (.inr hx)))
 rw[List.set_comm _ _ (A6 hij)]at I5
 exact⟨_,H1,I5,q1⟩
end
section
variable {X:Cx}{pos:Pos}
noncomputable def tWhile (c:TT) (tb:TS):TS:=fun D σ H=>∃ W:Nat->St->Hp->Prop,(∃ m,W m σ H)/\∀ m σ H,W m σ H ->
 c σ H fun b H1=>if b=true then ∃ N:St->Hp->Prop,(∀ σ' H',N σ' H'->∃ m',m' < m/\W m' σ' H')/\tb { D with nx:=N,ct:=N,bk:=D.nx } σ H1 else D.nx σ H1
theorem zK0{c:Expr}{body:List Stmt}{tc:TT}{tb:TS}(hp:HI (model X.prog X.w) X.A X.env X.xe)(hc:PT X c tc)(hb:PSs X body tb):PS X (.While c body [] pos) (tWhile tc tb):=by
 intro pins s σ H D I h
 obtain⟨W,⟨m0,w0⟩,turn⟩:=h
 refine wpAny_While (codeAny_whileLoop (fun n s'=>∃ σ' H',Inv X pins σ' H' s'/\W n σ' H') ?_ m0 ⟨σ,H,I,w0⟩)
 rintro n s1 ⟨σ1,H1,I1,w1⟩
 refine Ci hp (thn (hc pins s1 σ1 H1 _ I1 (turn n σ1 H1 w1)) fun b s2 ⟨H2,I2,q2⟩=>?_)
 cases b with
 | true =>
  obtain⟨N,hN,q2⟩:=q2
  rw[if_pos rfl]
  refine Ci hp (thn (hb pins s2 σ1 H2 _ I2 q2) fun f s3 q3=>?_)
  cases f with
  | next =>
   obtain⟨σ3,H3,I3,n3⟩:=q3
   obtain⟨m',hm,w3⟩:=hN σ3 H3 n3
   exact⟨m',hm,σ3,H3,I3,w3⟩
  | cont =>
   obtain⟨σ3,H3,I3,n3⟩:=q3
   obtain⟨m',hm,w3⟩:=hN σ3 H3 n3
   exact⟨m',hm,σ3,H3,I3,w3⟩
  | brk=>exact q3
  | ret v=>exact q3
 | false =>
  rw[if_neg AZ]
  exact Eo ⟨σ1,H2,I2,q2⟩
end
structure It where
 go:Nat->Hp->Prop
 yld:Nat->Hp->V->Hp->Prop
 stop:Nat->Hp->Prop
def FpOk (X:Cx) (pins:List (Addr×Obj)) (H:Hp) (b:Addr):Prop :=
 H b=none/\b≠X.env.locals/\b∉X.fs/\(b∈X.ex\/X.s₀.heap.objs.size<=b)/\(∀ x c,X.env.cells.lookup x=some c->c≠b)/\∀ p∈X.pn++pins,p.1≠b
theorem Inv.fpOk{X:Cx}{pins:List (Addr×Obj)}{σ:St}{H H':Hp}{s:AG}{b:Addr}(I:Inv X pins σ H s)(hb:s.heap.objs.size<=b)(hn:H' b=none):FpOk X pins H' b:=by
 refine⟨hn,BZ (Aa I.lt hb),I.nofs hb,.inr (Al I.sz hb),fun x c e z=>?_,fun p hp z=>?_⟩
 ·obtain⟨v,q⟩:=I.cell x c e
  exact absurd (Aa q.lt (by rw[z]; exact hb)) (BJ _)
 ·exact absurd (Aa (AJ (I.pin p hp).1) (by rw[z]; exact hb)) (BJ _)
structure Turn(P:Ai)(w:Ax)(K:AM)(tg:Expr)(J:It)(fp:List Addr)(it:Addr)(tn:Nat->Heap->Prop):Prop where
 mem:it∈fp
 obj:∀ i h,tn i h->∀ b∈fp,∃ o,h.get? b=some o/\∀ v,o.data≠.cell v
 keep:∀ i h h',tn i h->(∀ b∈fp,∀ o,h.get? b=some o->h'.get? b=some o)->tn i h'
 item:∀ (X:Cx),X.prog=P->X.w=w->X.K=K->X.calm=true->∀ (i:Nat) (pins:List (Addr×Obj)) (s:AG) (σ:St) (H:Hp) (E:AD->AG->Prop),Inv X pins σ H s->(∀ b∈fp,FpOk X pins H b)->tn i s.heap->J.go i H ->
  AV (model P w) X.A (DC (.ref it)) (fun r s1=>∃ u,r=some u /\
   AV (model P w) X.A (Ep tg (.ref it) u) (fun _ s2=>∃ x H',Inv X pins σ H' s2/\RelV x u/\J.yld i H x H'/\tn (i+1) s2.heap/\∀ b∈fp,H' b=none) E s1) E s
 done:∀ (X:Cx),X.prog=P->X.w=w->X.K=K->X.calm=true->∀ (i:Nat) (pins:List (Addr×Obj)) (s:AG) (σ:St) (H:Hp) (E:AD->AG->Prop),Inv X pins σ H s->(∀ b∈fp,FpOk X pins H b)->tn i s.heap->J.stop i H ->
  AV (model P w) X.A (DC (.ref it)) (fun r s1=>r=none/\Inv X pins σ H s1) E s
 self:∀ (A:BE) (i:Nat) (s:AG) (Q:AD->AG->Prop) (E:AD->AG->Prop),tn i s.heap->Q (.ref it) s->AV (model P w) A (GE (.ref it)) Q E s
abbrev TI:=St->Hp->(It->Hp->Prop)->Prop
def PIE (X:Cx) (pins:List (Addr×Obj)) (σ:St) (tg:Expr) (R:It->Hp->Prop) (itv:AD) (s2:AG):Prop :=
 ∃ (it:Addr) (fp:List Addr) (tn:Nat->Heap->Prop) (J:It) (H':Hp),itv=.ref it/\Inv X pins σ H' s2/\Turn X.prog X.w X.K tg J fp it tn/\tn 0 s2.heap/\(∀ b∈fp,FpOk X pins H' b)/\R J H'
def PI (X:Cx) (tg iter:Expr) (wi:TI):Prop :=
 ∀ (pins:List (Addr×Obj)) (s:AG) (σ:St) (H:Hp) (R:It->Hp->Prop),Inv X pins σ H s->wi σ H R ->
  AV (model X.prog X.w) X.A (eval iter X.env) (fun v s1=>AV (model X.prog X.w) X.A (GE v) (PIE X pins σ tg R) X.xe s1) X.xe s
theorem zDg{M:Model}{A:BE}{E:AD->AG->Prop}{s:AG}{tg:Expr}{it:Addr}{u:AD}{o:Obj}{n:String}{vs:Array AD}{Q:Unit->AG->Prop}(ho:s.heap.get? it=some o)(hc:o.cls=.type n)(hd:o.data=.fields vs)
  (hn:["enumerate","zip","dict_itemiterator","dict_reverseitemiterator","odict_iterator","itertools.zip_longest","itertools.pairwise"].contains n=false) (hQ:Q () s):AV M A (Ep tg (.ref it) u) Q E s:=by
 unfold Ep
 cases tg <;> first
  | exact AH hQ
  | (cases u <;> first
    | exact AH hQ
    | (
      refine AB (wpAny_load ho ?_)
      rw[hc,hd]
      show AV M A (if (["enumerate","zip","dict_itemiterator","dict_reverseitemiterator","odict_iterator","itertools.zip_longest","itertools.pairwise"].contains n && vs[0]? == some (CV _))=true then _ else _) Q E s
      rw[if_neg (by intro h; rw[hn,IC]at h; cases h)]
      exact AH hQ))
def Itl (K:AM) (a:Addr):It :=
 ⟨fun i H=>∃ xs x,SqL K H a xs/\xs[i]?=some x,fun i H x H'=>H'=H/\∀ xs,SqL K H a xs->xs[i]?=some x,fun i H=>∃ xs,SqL K H a xs/\xs.length<=i⟩
def Itt (K:AM) (a:Addr):It :=
 ⟨fun i H=>∃ xs x,SqT K H a xs/\xs[i]?=some x,fun i H x H'=>H'=H/\∀ xs,SqT K H a xs->xs[i]?=some x,fun i H=>∃ xs,SqT K H a xs/\xs.length<=i⟩
noncomputable def Itr (lo:Int) (n:Nat):It:=⟨fun i _=>i < n,fun i H x H'=>H'=H/\x=.int (lo+i),fun i _=>n<=i⟩
theorem zKI{P:Ai}{w:Ax}{K:AM}{tg:Expr}(a it:Addr):Turn P w K tg (Itl K a) [it] it (fun i h=>h.IsListIter it a i) where
 mem:=by simp
 obj:=fun i h st b hb=>by
  have e:b=it:=by simpa using hb
  subst e
  obtain⟨o,e,c,d⟩:=st
  exact⟨o,e,fun v z=>by rw[d]at z; cases z⟩
 keep:=fun i h h' st k=>st.at fun o e=>k it (by simp) o e
 item:=by
  intro X hP hw hK hc i pins s σ H E I hf st hg
  subst hP hw hK
  obtain⟨xs,x,hq,hx⟩:=hg
  obtain⟨its,rv,p,hz⟩:=I.list hq
  obtain⟨u,hu,ru⟩:=rv.get hx
  obtain⟨f0,f1,f2,f3,f4,f5⟩:=hf it (by simp)
  refine wpAny_pyNext_list_item st p.isList (x:=u) (by simpa using hu) fun h' st' sb=>?_
  have I1:Inv X pins σ H { s with heap:=h' }:=I.turned (t':=s.toks) (fun b o hb e=>(sb.2 b hb).trans e) f0 f1 f3 f4 f5
  obtain⟨o,e,c,d⟩:=id st'
  exact⟨u,rfl,zDg (s:={ s with heap:=h' }) e c d (by decide) ⟨x,H,I1,ru,⟨rfl,fun ys hy=>by rw[I.list_inj hy hq]; exact hx⟩,st',fun b hb=>(hf b hb).1⟩⟩
 done:=by
  intro X hP hw hK hc i pins s σ H E I hf st hg
  subst hP hw hK
  obtain⟨xs,hq,hx⟩:=hg
  obtain⟨its,rv,p,hz⟩:=I.list hq
  obtain⟨f0,f1,f2,f3,f4,f5⟩:=hf it (by simp)
  have hl:=rv.length
  exact wpAny_pyNext_list_end (I.ok.hd hc) st p.isList (by simp; lia) fun h' eb=>⟨rfl,I.turned (t':=s.toks) (fun b o hb e=>eb b o hb e) f0 f1 f3 f4 f5⟩
 self:=fun _ _ _ _ _ st h=>wpAny_pyIter_listiter st h
theorem zHB{P:Ai}{w:Ax}{K:AM}{tg:Expr}(a it:Addr):Turn P w K tg (Itt K a) [it] it (fun i h=>h.IsTupleIter it a i) where
 mem:=by simp
 obj:=fun i h st b hb=>by
  have e:b=it:=by simpa using hb
  subst e
  obtain⟨o,e,c,d⟩:=st
  exact⟨o,e,fun v z=>by rw[d]at z; cases z⟩
 keep:=fun i h h' st k=>st.at fun o e=>k it (by simp) o e
 item:=by
  intro X hP hw hK hc i pins s σ H E I hf st hg
  subst hP hw hK
  obtain⟨xs,x,hq,hx⟩:=hg
  obtain⟨its,rv,p,hz⟩:=I.tuple hq
  obtain⟨u,hu,ru⟩:=rv.get hx
  obtain⟨f0,f1,f2,f3,f4,f5⟩:=hf it (by simp)
  refine wpAny_pyNext_tuple_item st (show s.heap.IsTuple a its.toArray from p) (x:=u) (by simpa using hu) fun h' st' sb=>?_
  have I1:Inv X pins σ H { s with heap:=h' }:=I.turned (t':=s.toks) (fun b o hb e=>(sb.2 b hb).trans e) f0 f1 f3 f4 f5
  obtain⟨o,e,c,d⟩:=id st'
  exact⟨u,rfl,zDg (s:={ s with heap:=h' }) e c d (by decide) ⟨x,H,I1,ru,⟨rfl,fun ys hy=>by rw[I.tuple_inj hy hq]; exact hx⟩,st',fun b hb=>(hf b hb).1⟩⟩
 done:=by
  intro X hP hw hK hc i pins s σ H E I hf st hg
  subst hP hw hK
  obtain⟨xs,hq,hx⟩:=hg
  obtain⟨its,rv,p,hz⟩:=I.tuple hq
  obtain⟨f0,f1,f2,f3,f4,f5⟩:=hf it (by simp)
  have hl:=rv.length
  exact wpAny_pyNext_tuple_end (I.ok.hd hc) st (show s.heap.IsTuple a its.toArray from p) (by simp; lia) fun h' eb=>⟨rfl,I.turned (t':=s.toks) (fun b o hb e=>eb b o hb e) f0 f1 f3 f4 f5⟩
 self:=fun _ _ _ _ _ st h=>wpAny_pyIter_tupleiter st h
theorem zIU{P:Ai}{w:Ax}{K:AM}{tg:Expr}(it:Addr)(lo:Int)(n:Nat):Turn P w K tg (Itr lo n) [it] it (fun i h=>IsRangeIter h it (lo+(i:Nat) * 1) ((n:Int) - (i:Nat)) 1) where
 mem:=by simp
 obj:=fun i h st b hb=>by
  have e:b=it:=by simpa using hb
  subst e
  exact⟨_,st,fun v z=>by
   have z':Data.fields _=J0 v:=z
   cases z'⟩
 keep:=fun i h h' st k=>k it (by simp) _ st
 item:=by
  intro X hP hw hK hc i pins s σ H E I hf st hg
  subst hP hw hK
  obtain⟨f0,f1,f2,f3,f4,f5⟩:=hf it (by simp)
  have W:=Walks.range (prog:=X.prog) (w:=X.w) (I.ok.hd hc) it lo 1 n
  refine W.item i s _ _ hg st fun v h' tk hv st' kk=>?_
  obtain⟨t,rfl⟩:=hv
  have I1:Inv X pins σ H { s with heap:=h',toks:=tk }:=I.turned (fun b o hb e=>kk b o (by simpa using hb) e) f0 f1 f3 f4 f5
  refine⟨_,rfl,zDg (s:={ s with heap:=h',toks:=tk }) (n:="range_iterator") st' rfl rfl (by decide) ⟨.int (lo+i),H,I1,⟨t,?_⟩,⟨rfl,rfl⟩,st',fun b hb=>(hf b hb).1⟩⟩
  rw[Int.mul_one]
 done:=by
  intro X hP hw hK hc i pins s σ H E I hf st hg
  subst hP hw hK
  obtain⟨f0,f1,f2,f3,f4,f5⟩:=hf it (by simp)
  exact wpAny_pyNext_range_end (I.ok.hd hc) st (by have:n<=i:=hg; lia) fun h' eb=>⟨rfl,I.turned (t':=s.toks) (fun b o hb e=>eb b o hb e) f0 f1 f3 f4 f5⟩
 self:=fun _ _ _ _ _ st h=>wpAny_pyIter_rangeiter st h
section
variable {X:Cx}{tg:Expr}
theorem zFf{pins:List (Addr×Obj)}{σ:St}{H:Hp}{s:AG}{R:It->Hp->Prop}{E:AD->AG->Prop}{lo hi:Int}{t u v:Tok}{tk:Nat}(I:Inv X pins σ H s)(h1:-(2 ^ 62)<=lo)(h2:lo < 2 ^ 62)(h3:-(2 ^ 62)<=hi)(h4:hi < 2 ^ 62)
  (q:R (Itr lo (hi - lo).toNat) H):AV (model X.prog X.w) X.A (GE (.ref s.heap.objs.size)) (PIE X pins σ tg R) E { s with heap:=s.heap.push { cls:=.type "range",data:=.fields #[.int lo t,.int hi u,.int 1 v] },toks:=tk }:=by
 refine wpAny_pyIter_range (IsRange.new ..) (Iz h1 h2 h3 h4) ?_
 have I1:Inv X pins σ H { s with heap:=s.heap.push { cls:=.type "range",data:=.fields #[.int lo t,.int hi u,.int 1 v] },toks:=tk }:=I.kept fun b o e=>AE _ e
 refine⟨(s.heap.push { cls:=.type "range",data:=.fields #[.int lo t,.int hi u,.int 1 v] }).objs.size,[(s.heap.push { cls:=.type "range",data:=.fields #[.int lo t,.int hi u,.int 1 v] }).objs.size],_,_,H,rfl,
  I1.kept (t':=tk) fun b o e=>AE _ e,zIU _ lo (hi - lo).toNat,?_,fun b hb=>?_,q⟩
 ·have e1:lo+((0:Nat):Int) * 1=lo:=by simp
  have e2:(((hi - lo).toNat:Nat):Int) - ((0:Nat):Int)=B9 lo hi 1:=by rw[KH]; split <;> lia
  show IsRangeIter _ _ (lo+((0:Nat):Int) * 1) ((((hi - lo).toNat:Nat):Int) - ((0:Nat):Int)) 1
  rw[e1,e2]
  exact AQ _ rfl
 ·have e:b=(s.heap.push { cls:=.type "range",data:=.fields #[.int lo t,.int hi u,.int 1 v] }).objs.size:=by simpa using hb
  subst e
  exact I1.fpOk (AK _) (I1.hok.fresh (AK _))
def iRng1 (ta:TA):TI:=fun σ H R=>ta σ H fun vs H1=>∃ j:Int,vs=[.int j]/\-(2 ^ 62)<=j/\j < 2 ^ 62/\R (Itr 0 j.toNat) H1
def iRng2 (ta:TA):TI:=fun σ H R=>ta σ H fun vs H1=>∃ i j:Int,vs=[.int i,.int j]/\(-(2 ^ 62)<=i/\i < 2 ^ 62/\-(2 ^ 62)<=j/\j < 2 ^ 62)/\R (Itr i (j - i).toNat) H1
theorem zJ9{a:Expr}{ta:TA}{p pos:Pos}(hg:Gl X "range")(hm:X.mg "range"=none)(ha:PA X [a] ta)(hs:AU [a] X.env=[(false,eval a X.env)]:=by rfl):PI X tg (.Call (.Name "range" p) [a] [] pos) (iRng1 ta):=by
 intro pins s σ H R I h
 refine GN (zAx I hg hm boot_range (Av (thn (ha pos pins s σ H _ I h) fun us s1 ⟨vs,H1,I1,r1,q1⟩=>?_) hs rfl))
 obtain⟨j,e,q1,q2,q⟩:=q1
 subst e
 cases r1 with
 | cons r rr =>
  cases rr
  obtain⟨t,rfl⟩:=r
  exact Km (zFf I1 (by lia) (by lia) q1 q2 (by simpa using q))
theorem zI7{a b:Expr}{ta:TA}{p pos:Pos}(hg:Gl X "range")(hm:X.mg "range"=none)(ha:PA X [a,b] ta)(hs:AU [a,b] X.env=[(false,eval a X.env),(false,eval b X.env)]:=by rfl)(hs2:AU [b] X.env=[(false,eval b X.env)]:=by rfl) :
  PI X tg (.Call (.Name "range" p) [a,b] [] pos) (iRng2 ta):=by
 intro pins s σ H R I h
 refine GN (zAx I hg hm boot_range (Av (thn (ha pos pins s σ H _ I h) fun us s1 ⟨vs,H1,I1,r1,q1⟩=>?_) (by rw[hs,hs2]) (by rw[hs2]; rfl)))
 obtain⟨i,j,e,⟨q1,q2,q3,q4⟩,q⟩:=q1
 subst e
 cases r1 with
 | cons r rr =>
  cases rr with
  | cons r' rr =>
   cases rr
   obtain⟨t,rfl⟩:=r
   obtain⟨t',rfl⟩:=r'
   exact Kn (zFf I1 q1 q2 q3 q4 q)
noncomputable def tFor (wi:TI) (g:TG) (tb:TS):TS:=fun D σ H=>wi σ H fun J H1=>∃ W:Nat->Nat->St->Hp->Prop,(∃ m,W 0 m σ H1)/\∀ i m σ H,W i m σ H ->
 (J.stop i H/\D.nx σ H)\/(J.go i H/\∃ N:St->Hp->Prop,(∀ σ' H',N σ' H'->∃ m',m' < m/\W (i+1) m' σ' H')/\∀ x H',J.yld i H x H'->g x σ H' fun σ2 H2=>tb { D with nx:=N,ct:=N,bk:=D.nx } σ2 H2)
noncomputable def pinsAt (fp:List Addr) (h:Heap):List (Addr×Obj):=fp.filterMap fun b=>(h.get? b).map fun o=>(b,o)
theorem zCS{fp:List Addr}{h:Heap}{b:Addr}{o:Obj}(hb:b∈fp)(e:h.get? b=some o):(b,o)∈pinsAt fp h:=HJ.mpr ⟨b,hb,by rw[e]; rfl⟩
theorem zJm{fp:List Addr}{h:Heap}{p:Addr×Obj}(hp:p∈pinsAt fp h):p.1∈fp/\h.get? p.1=some p.2:=by
 obtain⟨b,hb,e⟩:=HJ.mp hp
 cases q:h.get? b with
 | none=>rw[q]at e; cases e
 | some o =>
  rw[q]at e
  have e':(b,o)=p:=Au e
  subst e'
  exact⟨hb,q⟩
theorem Inv.pinned{pins:List (Addr×Obj)}{σ:St}{H:Hp}{s:AG}{fp:List Addr}(I:Inv X pins σ H s)(hf:∀ b∈fp,FpOk X pins H b)(ho:∀ b∈fp,∃ o,s.heap.get? b=some o/\∀ v,o.data≠.cell v):Inv X (pins++pinsAt fp s.heap) σ H s :=
 I.pins_of fun p hp=>(CD.mp hp).elim (fun z=>I.pin p (Ak _ z)) fun z=>by
  obtain⟨hb,e⟩:=zJm z
  obtain⟨f0,f1,f2,_⟩:=hf p.1 hb
  obtain⟨o,e',d⟩:=ho p.1 hb
  rw[e]at e'; cases e'
  exact⟨e,f0,f1,f2,d⟩
theorem Inv.unpinned{pins pl:List (Addr×Obj)}{σ:St}{H:Hp}{s:AG}(I:Inv X (pins++pl) σ H s):Inv X pins σ H s:=I.pins_of fun p hp=>I.pin p (Ak _ (DW _ hp))
theorem zOw{iter:Expr}{body:List Stmt}{wi:TI}{g:TG}{tb:TS}{pos:Pos}(hp:HI (model X.prog X.w) X.A X.env X.xe)(hc:X.calm=true)(hi:PI X tg iter wi)(hg:PG X tg g)(hb:PSs X body tb)
  (hs:∀ x,CP iter X.env x=pure x:=by intro _; rfl):PS X (.For tg iter body [] pos) (tFor wi g tb):=by
 intro pins s σ H D I h
 refine wpAny_For (thn (hi pins s σ H _ I h) fun v s1 h1=>thn h1 fun itv s2 h2=>?_) hs
 obtain⟨it,fp,tn,J,H2,e,I2,T,st2,f2,W,⟨m0,w0⟩,turn⟩:=h2
 subst e
 have stat:∀ {H':Hp},(∀ b∈fp,H' b=none)->∀ b∈fp,FpOk X pins H' b:=fun hn b hb=>⟨hn b hb,(f2 b hb).2⟩
 refine codeAny_forLoop_any (fun n s'=>∃ i σ' H',Inv X pins σ' H' s'/\tn i s'.heap/\(∀ b∈fp,H' b=none)/\W i n σ' H') ?_ m0 ⟨0,σ,H2,I2,st2,fun b hb=>(f2 b hb).1,w0⟩
 rintro n s3 ⟨i,σ3,H3,I3,st3,fr3,w3⟩
 rcases turn i n σ3 H3 w3 with ⟨stop,qn⟩ | ⟨go,N,hN,step⟩
 ·refine Ci hp (thn (T.done X rfl rfl rfl hc i pins s3 σ3 H3 X.xe I3 (stat fr3) st3 stop) fun r s4 ⟨hr,I4⟩=>?_)
  subst hr
  exact Eo ⟨σ3,H3,I4,qn⟩
 ·refine Ci hp (thn (T.item X rfl rfl rfl hc i pins s3 σ3 H3 X.xe I3 (stat fr3) st3 go) fun r s4 ⟨u,hr,h4⟩=>?_)
  subst hr
  refine Ci hp (thn h4 fun _ s5 ⟨x,H5,I5,r5,y5,st5,fr5⟩=>?_)
  have I5':=I5.pinned (stat fr5) (T.obj _ _ st5)
  refine Ci hp (thn (hg _ s5 σ3 H5 x u _ I5' r5 (step x H5 y5)) fun _ s6 ⟨σ6,H6,I6,q6⟩=>?_)
  refine Ci hp (thn (hb _ s6 σ6 H6 _ I6 q6) fun f s7 q7=>?_)
  have again:∀ {σ7:St} {H7:Hp},Inv X (pins++pinsAt fp s5.heap) σ7 H7 s7->N σ7 H7->∃ m,m < n/\∃ i σ' H',Inv X pins σ' H' s7/\tn i s7.heap/\(∀ b∈fp,H' b=none)/\W i m σ' H':=fun {σ7 H7} I7 n7=>by
   obtain⟨m',hm,w7⟩:=hN σ7 H7 n7
   refine⟨m',hm,i+1,σ7,H7,I7.unpinned,T.keep _ _ _ st5 fun b hb o e=>(I7.pin (b,o) (Ak _ (Ak _ (zCS hb e)))).1,fun b hb=>?_,w7⟩
   obtain⟨o,e,d⟩:=T.obj _ _ st5 b hb
   exact (I7.pin (b,o) (Ak _ (Ak _ (zCS hb e)))).2.1
  cases f with
  | next=>obtain⟨σ7,H7,I7,n7⟩:=q7; exact again I7 n7
  | cont=>obtain⟨σ7,H7,I7,n7⟩:=q7; exact again I7 n7
  | brk=>obtain⟨σ7,H7,I7,q7⟩:=q7; exact⟨σ7,H7,I7.unpinned,q7⟩
  | ret v=>obtain⟨x7,σ7,H7,I7,r7,q7⟩:=q7; exact⟨x7,σ7,H7,I7.unpinned,r7,q7⟩
end
abbrev R2:=V->V->Hp->VK->Prop
def OpR (X:Cx) (f:AD->AD->Sem AD) (r:R2):Prop :=
 ∀ (pins:List (Addr×Obj)) (s:AG) (σ:St) (H:Hp) (x y:V) (v u:AD) (Q:VK),Inv X pins σ H s->RelV x v->RelV y u->r x y H Q ->
  AV (model X.prog X.w) X.A (f v u) (EP X pins σ Q) X.xe s
def UnR (X:Cx) (f:AD->Sem AD) (r:V->Hp->VK->Prop):Prop :=
 ∀ (pins:List (Addr×Obj)) (s:AG) (σ:St) (H:Hp) (x:V) (v:AD) (Q:VK),Inv X pins σ H s->RelV x v->r x H Q ->
  AV (model X.prog X.w) X.A (f v) (EP X pins σ Q) X.xe s
def CallR (X:Cx) (f:AD) (r:List V->Hp->VK->Prop):Prop :=
 ∀ (pins:List (Addr×Obj)) (s:AG) (σ:St) (H:Hp) (xs:List V) (us:List AD) (Q:VK),Inv X pins σ H s->Vals xs us->r xs H Q ->
  AV (model X.prog X.w) X.A (call f us) (EP X pins σ Q) X.xe s
def TruR (X:Cx) (r:V->Hp->(Bool->Hp->Prop)->Prop):Prop :=
 ∀ (pins:List (Addr×Obj)) (s:AG) (σ:St) (H:Hp) (x:V) (v:AD) (Q:Bool->Hp->Prop),Inv X pins σ H s->RelV x v->r x H Q ->
  AV (model X.prog X.w) X.A (truthy v) (TP X pins σ Q) X.xe s
noncomputable def tOp (r:R2) (ta tb:TE):TE:=fun σ H Q=>ta σ H fun x H1=>tb σ H1 fun y H2=>r x y H2 Q
noncomputable def tUn (r:V->Hp->VK->Prop) (ta:TE):TE:=fun σ H Q=>ta σ H fun x H1=>r x H1 Q
noncomputable def rI (C:Int->Int->Prop) (g:Int->Int->V):R2:=fun x y H Q=>∃ i j,x=.int i/\y=.int j/\C i j/\Q (g i j) H
noncomputable def rI0 (g:Int->Int->V):R2:=fun x y H Q=>∃ i j,x=.int i/\y=.int j/\Q (g i j) H
noncomputable def rU (g:Int->V):V->Hp->VK->Prop:=fun x H Q=>∃ i,x=.int i/\Q (g i) H
section
variable {X:Cx}{a b c:Expr}{ta tb tc:TE}{pos:Pos}
theorem binT(ha:PE X a ta)(hb:PE X b tb){pins:List (Addr×Obj)}{s:AG}{σ:St}{H:Hp}{R:V->V->Hp->Prop}(I:Inv X pins σ H s)
  (h:ta σ H fun x H1=>tb σ H1 fun y H2=>R x y H2) {Q:AD->AG->Prop} {f:AD->AD->Sem AD}
  (hf:∀ v u s2 x y H2,Inv X pins σ H2 s2->RelV x v->RelV y u->R x y H2->AV (model X.prog X.w) X.A (f v u) Q X.xe s2) :
  AV (model X.prog X.w) X.A (eval a X.env) (fun v s₁=>AV (model X.prog X.w) X.A (eval b X.env) (fun u s₂=>AV (model X.prog X.w) X.A (f v u) Q X.xe s₂) X.xe s₁) X.xe s:=by
 refine thn (ha pins s σ H _ I h) fun v s1 ⟨x,H1,I1,r1,q1⟩=>?_
 refine thn (hb pins s1 σ H1 _ I1 q1) fun u s2 ⟨y,H2,I2,r2,q2⟩=>?_
 exact hf v u s2 x y H2 I2 r1 r2 q2
theorem zQt{op:Operator}{r:R2}(ho:OpR X (CW op) r)(ha:PE X a ta)(hb:PE X b tb):PE X (.BinOp a op b pos) (tOp r ta tb):=by
 intro pins s σ H Q I h
 exact wpAny_BinOp (binT ha hb I h fun v u s2 x y H2 I2 rx ry q=>ho pins s2 σ H2 x y v u Q I2 rx ry q)
theorem zQc{op:UnaryOp}{r:V->Hp->VK->Prop}(ho:UnR X (unaryOp op) r)(ha:PE X a ta):PE X (.UnaryOp op a pos) (tUn r ta):=by
 intro pins s σ H Q I h
 exact UnaryOp_ (thn (ha pins s σ H _ I h) fun v s1 ⟨x,H1,I1,r1,q1⟩=>ho pins s1 σ H1 x v Q I1 r1 q1)
theorem opI{f:AD->AD->Sem AD}{C:Int->Int->Prop}{g:Int->Int->Int}
  (rule:∀ (i j:Int) (t u:Tok) (s:AG) (Q:AD->AG->Prop) (E:AD->AG->Prop),C i j->Q (.int (g i j) s.toks) { s with toks:=s.toks+1 }->AV (model X.prog X.w) X.A (f (.int i t) (.int j u)) Q E s) :
  OpR X f (rI C fun i j=>.int (g i j)):=by
 intro pins s σ H x y v u Q I rx ry h
 obtain⟨i,j,rfl,rfl,hc,q⟩:=h
 obtain⟨t,rfl⟩:=rx
 obtain⟨t',rfl⟩:=ry
 exact rule i j t t' s _ _ hc ⟨.int (g i j),H,I.tok _,⟨_,rfl⟩,q⟩
theorem opI0{f:AD->AD->Sem AD}{g:Int->Int->Int}
  (rule:∀ (i j:Int) (t u:Tok) (s:AG) (Q:AD->AG->Prop) (E:AD->AG->Prop),Q (.int (g i j) s.toks) { s with toks:=s.toks+1 }->AV (model X.prog X.w) X.A (f (.int i t) (.int j u)) Q E s) :
  OpR X f (rI0 fun i j=>.int (g i j)):=by
 intro pins s σ H x y v u Q I rx ry h
 obtain⟨i,j,rfl,rfl,q⟩:=h
 obtain⟨t,rfl⟩:=rx
 obtain⟨t',rfl⟩:=ry
 exact rule i j t t' s _ _ ⟨.int (g i j),H,I.tok _,⟨_,rfl⟩,q⟩
theorem opB0{f:AD->AD->Sem AD}{g:Int->Int->Bool}
  (rule:∀ (i j:Int) (t u:Tok) (s:AG) (Q:AD->AG->Prop) (E:AD->AG->Prop),Q (.bool (g i j)) s->AV (model X.prog X.w) X.A (f (.int i t) (.int j u)) Q E s) :
  OpR X f (rI0 fun i j=>.bl (g i j)):=by
 intro pins s σ H x y v u Q I rx ry h
 obtain⟨i,j,rfl,rfl,q⟩:=h
 obtain⟨t,rfl⟩:=rx
 obtain⟨t',rfl⟩:=ry
 exact rule i j t t' s _ _ ⟨.bl (g i j),H,I,rfl,q⟩
def CDiv (i j:Int):Prop:=0 < j/\j < 1073741824
def CPow (i j:Int):Prop:=0<=j/\j<=1000000/\i.natAbs < 2 ^ 64
def CMul (i j:Int):Prop:=(-(2 ^ 64) < i/\i < 2 ^ 64)\/(-(2 ^ 64) < j/\j < 2 ^ 64)
theorem CMul.ok{i j:Int}(h:CMul i j):IntMulOk i j:=by
 rcases h with ⟨h1,h2⟩ | ⟨h1,h2⟩
 ·exact .of_left (KI h1 h2)
 ·exact .of_right (KI h1 h2)
theorem zPk:OpR X (CW .Add) (rI0 fun i j=>.int (i+j)):=opI0 fun _ _ _ _ _ _ _ q=>add_int q
theorem zOb:OpR X (CW .Sub) (rI0 fun i j=>.int (i - j)):=opI0 fun _ _ _ _ _ _ _ q=>sub_int q
theorem zPP:OpR X (CW .Mult) (rI CMul fun i j=>.int (i * j)):=opI fun _ _ _ _ _ _ _ hc q=>mul_int q hc.ok
theorem zND:OpR X (CW .FloorDiv) (rI CDiv fun i j=>.int (i / j)):=opI fun i j _ _ _ _ _ hc q=>by
 have h1:(0:Int) < j:=hc.1
 have h2:j < 1073741824:=hc.2
 exact floordiv_int (by lia) (by rw[Int.fdiv_eq_ediv_of_nonneg i (by lia)]; exact q) (.inl (PyProof.noPylong_small (by lia)))
theorem zPQ:OpR X (CW .Mod) (rI (fun _ j=>0 < j) fun i j=>.int (i % j)):=opI fun i j _ _ _ _ _ hc q=>by
 have h1:(0:Int) < j:=hc
 exact mod_int' (by lia) (by rw[Int.fmod_eq_emod_of_nonneg i (by lia)]; exact q)
theorem zP7:OpR X (CW .Pow) (rI CPow fun i j=>.int (i ^ j.toNat)):=opI fun _ _ _ _ _ _ _ hc q=>pow_int_small hc.1 hc.2.1 hc.2.2 q
theorem unI{f:AD->Sem AD}{g:Int->Int}
  (rule:∀ (i:Int) (t:Tok) (s:AG) (Q:AD->AG->Prop) (E:AD->AG->Prop),Q (.int (g i) s.toks) { s with toks:=s.toks+1 }->AV (model X.prog X.w) X.A (f (.int i t)) Q E s) :
  UnR X f (rU fun i=>.int (g i)):=by
 intro pins s σ H x v Q I rx h
 obtain⟨i,rfl,q⟩:=h
 obtain⟨t,rfl⟩:=rx
 exact rule i t s _ _ ⟨.int (g i),H,I.tok _,⟨_,rfl⟩,q⟩
theorem zO2:UnR X (unaryOp .USub) (rU fun i=>.int (-i)):=unI fun _ _ _ _ _ q=>neg_int q
end
noncomputable def scal:V->V->Bool
 | .non,.non=>true | .non,.int _=>true | .int _,.non=>true | .non,.bl _=>true | .bl _,.non=>true | .non,.str _=>true | .str _,.non=>true
 | .int _,.int _=>true | .bl _,.bl _=>true | .str _,.str _=>true | .byt _,.byt _=>true
 | .int _,.str _=>true | .str _,.int _=>true | .bl _,.str _=>true | .str _,.bl _=>true
 | _,_=>false
def rEq:R2:=fun x y H Q=>scal x y=true/\Q (.bl (decide (x=y))) H
def rNe:R2:=fun x y H Q=>scal x y=true/\Q (.bl (!decide (x=y))) H
theorem zG6{i j:Int}:decide (V.int i=V.int j)=(i == j):=by
 rw[EK]
 simp
theorem zJj{i j:Bool}:decide (V.bl i=V.bl j)=(i == j):=by
 rw[EK]
 simp
theorem zG3{i j:Str}:decide (V.str i=V.str j)=(i == j):=by
 rw[EK]
 simp
theorem zGq{i j:Array UInt8}:decide (V.byt i=V.byt j)=(i.toList == j.toList):=by
 rw[EK]
 cases i
 cases j
 simp
section
variable {X:Cx}{a b c:Expr}{ta tb tc:TE}{pos:Pos}
theorem zAI{pins:List (Addr×Obj)}{σ:St}{H:Hp}{s:AG}{Q:VK}{k k':Bool}(I:Inv X pins σ H s)(q:Q (.bl k) H)(e:k=k'):EP X pins σ Q (.bool k') s:=by
 subst e
 exact⟨.bl k,H,I,rfl,q⟩
theorem zRg:OpR X (BY .Eq) rEq:=by
 intro pins s σ H x y v u Q I rx ry h
 obtain⟨hs,q⟩:=h
 cases x with
 | non =>
  cases rx
  cases y with
  | non=>cases ry; exact JU (zAI I q (by simp))
  | bl j=>cases ry; exact JV (zAI I q (by simp))
  | int j=>obtain⟨t',rfl⟩:=ry; exact JW (zAI I q (by simp))
  | str j=>obtain⟨t',rfl⟩:=ry; exact JX (zAI I q (by simp))
  | _=>exact absurd (show false=true from hs) AZ
 | bl i =>
  cases rx
  cases y with
  | non=>cases ry; exact JY (zAI I q (by simp))
  | bl j=>cases ry; exact eq_bool (zAI I q zJj)
  | str j=>obtain⟨t',rfl⟩:=ry; exact I0 (zAI I q (by simp))
  | _=>exact absurd (show false=true from hs) AZ
 | int i =>
  obtain⟨t,rfl⟩:=rx
  cases y with
  | non=>cases ry; exact JZ (zAI I q (by simp))
  | int j=>obtain⟨t',rfl⟩:=ry; exact eq_int (zAI I q zG6)
  | str j=>obtain⟨t',rfl⟩:=ry; exact JA (zAI I q (by simp))
  | _=>exact absurd (show false=true from hs) AZ
 | str i =>
  obtain⟨t,rfl⟩:=rx
  cases y with
  | non=>cases ry; exact Ja (zAI I q (by simp))
  | bl j=>cases ry; exact JB (zAI I q (by simp))
  | int j=>obtain⟨t',rfl⟩:=ry; exact JC (zAI I q (by simp))
  | str j=>obtain⟨t',rfl⟩:=ry; exact eq_str (zAI I q zG3)
  | _=>exact absurd (show false=true from hs) AZ
 | byt i =>
  obtain⟨t,rfl⟩:=rx
  cases y with
  | byt j=>obtain⟨t',rfl⟩:=ry; exact PySem.W.eq_bytes (zAI I q zGq)
  | _=>exact absurd (show false=true from hs) AZ
 | _=>cases y <;> exact absurd (show false=true from hs) AZ
theorem zRT:OpR X (BY .NotEq) rNe:=by
 intro pins s σ H x y v u Q I rx ry h
 obtain⟨hs,q⟩:=h
 cases x with
 | non =>
  cases rx
  cases y with
  | non=>cases ry; exact Jb (zAI I q (by simp))
  | bl j=>cases ry; exact Jc (zAI I q (by simp))
  | int j=>obtain⟨t',rfl⟩:=ry; exact Jd (zAI I q (by simp))
  | str j=>obtain⟨t',rfl⟩:=ry; exact Je (zAI I q (by simp))
  | _=>exact absurd (show false=true from hs) AZ
 | bl i =>
  cases rx
  cases y with
  | non=>cases ry; exact Jf (zAI I q (by simp))
  | bl j=>cases ry; exact ne_bool (zAI I q (congrArg not zJj))
  | str j=>obtain⟨t',rfl⟩:=ry; exact JD (zAI I q (by simp))
  | _=>exact absurd (show false=true from hs) AZ
 | int i =>
  obtain⟨t,rfl⟩:=rx
  cases y with
  | non=>cases ry; exact Jg (zAI I q (by simp))
  | int j=>obtain⟨t',rfl⟩:=ry; exact ne_int (zAI I q (congrArg not zG6))
  | str j=>obtain⟨t',rfl⟩:=ry; exact JE (zAI I q (by simp))
  | _=>exact absurd (show false=true from hs) AZ
 | str i =>
  obtain⟨t,rfl⟩:=rx
  cases y with
  | non=>cases ry; exact Jh (zAI I q (by simp))
  | bl j=>cases ry; exact JF (zAI I q (by simp))
  | int j=>obtain⟨t',rfl⟩:=ry; exact JG (zAI I q (by simp))
  | str j=>obtain⟨t',rfl⟩:=ry; exact ne_str (zAI I q (congrArg not zG3))
  | _=>exact absurd (show false=true from hs) AZ
 | byt i =>
  obtain⟨t,rfl⟩:=rx
  cases y with
  | byt j=>obtain⟨t',rfl⟩:=ry; exact PySem.W.ne_bytes (zAI I q (congrArg not zGq))
  | _=>exact absurd (show false=true from hs) AZ
 | _=>cases y <;> exact absurd (show false=true from hs) AZ
theorem zRZ:OpR X (BY .Lt) (rI0 fun i j=>.bl (decide (i < j))):=opB0 fun _ _ _ _ _ _ _ q=>lt_int q
theorem zQP:OpR X (BY .Gt) (rI0 fun i j=>.bl (decide (j < i))):=opB0 fun _ _ _ _ _ _ _ q=>gt_int q
theorem zRN:OpR X (BY .GtE) (rI0 fun i j=>.bl (decide (j<=i))):=opB0 fun _ _ _ _ _ _ _ q=>ge_int q
theorem zOX:OpR X (BY .Is) (fun x y H Q=>y=.non/\Q (.bl (decide (x=.non))) H):=by
 intro pins s σ H x y v u Q I rx ry h
 obtain⟨rfl,q⟩:=h
 cases ry
 refine is_none_gen (zAI I q ?_)
 cases x <;> first
  | (cases rx; rfl)
  | (obtain⟨t,rfl⟩:=rx; rfl)
theorem OpR.or{f:AD->AD->Sem AD}{r r':R2}(h:OpR X f r)(h':OpR X f r'):OpR X f (fun x y H Q=>r x y H Q\/r' x y H Q):=by
 intro pins s σ H x y v u Q I rx ry q
 rcases q with q | q
 ·exact h pins s σ H x y v u Q I rx ry q
 ·exact h' pins s σ H x y v u Q I rx ry q
theorem nomark(b:Expr){op:Hv}(h:op≠.In:=by decide)(h2:op≠.NotIn:=by decide):Cj op b=false:=by
 have e1:(op == CmpOp.In)=false:=by cases op <;> first | rfl | exact absurd rfl h
 have e2:(op == CmpOp.NotIn)=false:=by cases op <;> first | rfl | exact absurd rfl h2
 cases b <;> simp[Cj,e1,e2]
theorem zM9{op:Hv}{r:R2}(ho:OpR X (BY op) r)(ha:PE X a ta)(hb:PE X b tb)(hm:Cj op b=false):PE X (.Compare a [op] [b] pos) (tOp r ta tb):=by
 intro pins s σ H Q I h
 exact wpAny_Compare1 (binT ha hb I h fun v u s2 x y H2 I2 rx ry q=>ho pins s2 σ H2 x y v u Q I2 rx ry q) hm
noncomputable def tTest (t:TE):TT:=fun σ H Q=>t σ H fun x H'=>∃ k,x=.bl k/\Q k H'
theorem zN5{op:Hv}{r:R2}(ho:OpR X (BY op) r)(ha:PE X a ta)(hb:PE X b tb)(hm:Cj op b=false):PT X (.Compare a [op] [b] pos) (tTest (tOp r ta tb)):=by
 intro pins s σ H Q I h
 refine wpAny_isTrue_Compare1 (thn (ha pins s σ H _ I h) fun v s1 ⟨x,H1,I1,r1,q1⟩=>thn (hb pins s1 σ H1 _ I1 q1) fun u s2 ⟨y,H2,I2,r2,q2⟩ =>
  thn (ho pins s2 σ H2 x y v u _ I2 r1 r2 q2) fun c s3 ⟨z,H3,I3,r3,k,e,q3⟩=>?_) hm
 subst e
 cases r3
 exact Cq ⟨H3,I3,q3⟩
def TruV (K:AM) (x:V) (H:Hp) (k:Bool):Prop :=
 match x with
 | .non=>k=false
 | .bl b=>k=b
 | .int i=>k=(i != 0)
 | .str y=>y.length<=AC/\k=((y.length:Int) != 0)
 | .byt y=>y.size<=AC/\k=((y.size:Int) != 0)
 | .ref p=>(∃ xs,SqL K H p xs/\k=!xs.isEmpty)\/(∃ xs,SqT K H p xs/\k=!xs.isEmpty)\/∃ kvs,H p=some (.dK kvs)/\k=!kvs.isEmpty
 | _=>False
theorem zHu{κ:Type}{kvs:List (κ×V)}{vs:List (κ×AD)}(r:KV kvs vs):(!vs.isEmpty)=!kvs.isEmpty:=by
 cases r <;> rfl
theorem zDt{xs:List V}{its:List AD}(r:Vals xs its):(!its.toArray.isEmpty)=!xs.isEmpty:=by
 cases r <;> simp
theorem line63:(AC:Nat) < 2 ^ 63:=by rw[Bz]; decide
theorem zPa:TruR X (fun x H Q=>∃ k,TruV X.K x H k/\Q k H):=by
 intro pins s σ H x v Q I rx h
 obtain⟨k,e,q⟩:=h
 have hl:=line63
 have hs:AC=16777216:=Bz
 cases x with
 | non =>
  cases rx
  have e':k=false:=e
  subst e'
  exact truthy_none ⟨H,I,q⟩
 | bl b =>
  cases rx
  have e':k=b:=e
  subst e'
  exact Cq ⟨H,I,q⟩
 | int i =>
  obtain⟨t,rfl⟩:=rx
  have e':k=(i != 0):=e
  subst e'
  exact PySem.P.truthy_int ⟨H,I,q⟩
 | str y =>
  obtain⟨t,rfl⟩:=rx
  obtain⟨hy,e'⟩:y.length<=AC/\k=((y.length:Int) != 0):=e
  subst e'
  exact PySem.P.truthy_str (by lia) ⟨H,I.tok _,q⟩
 | byt y =>
  obtain⟨t,rfl⟩:=rx
  obtain⟨hy,e'⟩:y.size<=AC/\k=((y.size:Int) != 0):=e
  subst e'
  exact PySem.W.truthy_bytes (by lia) ⟨H,I.tok _,q⟩
 | ref p =>
  cases rx
  have e':(∃ xs,SqL X.K H p xs/\k=!xs.isEmpty)\/(∃ xs,SqT X.K H p xs/\k=!xs.isEmpty)\/∃ kvs,H p=some (.dK kvs)/\k=!kvs.isEmpty:=e
  rcases e' with ⟨xs,hx,e'⟩ | ⟨xs,hx,e'⟩ | ⟨kvs,hx,e'⟩
  ·subst e'
   obtain⟨its,r,pl,hz⟩:=I.list hx
   have hlen:=r.length
   exact wpAny_truthy_list pl.isList (by simp only[AO]; lia) ⟨H,I.tok _,by rw[zDt r]; exact q⟩
  ·subst e'
   obtain⟨its,r,pl,hz⟩:=I.tuple hx
   have hlen:=r.length
   exact truthy_tuple pl (by simp only[AO]; lia) ⟨H,I.tok _,by rw[zDt r]; exact q⟩
  ·subst e'
   obtain⟨hz,hS,vs,r,m⟩:kvs.length<=AC/\(p == C9)=false/\∃ vs,KV kvs vs/\s.heap.DictOf (mixKind X.prog X.w) p vs:=I.hok p _ hx
   have hlen:kvs.length=vs.length:=Hu r
   exact wpAny_truthy_dict hS m (by lia) ⟨H,I.tok _,by rw[zHu r]; exact q⟩
 | _=>exact (show False from e).elim
theorem zLV(ha:PE X a ta)(he:∀ whole,HU a X.env whole=(do let v ← whole; Ij a.pos; holding [v] (truthy v))) :
  PT X a (fun σ H Q=>ta σ H fun x H'=>∃ k,TruV X.K x H' k/\Q k H'):=by
 intro pins s σ H Q I h
 exact isTrue_plain (thn (ha pins s σ H _ I h) fun v s1 ⟨x,H1,I1,r1,q1⟩=>zPa pins s1 σ H1 x v Q I1 r1 q1) (he _)
theorem zHO:OpR X (CW .Add) (fun x y H Q=>∃ i j,x=.str i/\y=.str j/\i.length+j.length<=AC/\Q (.str (i++j)) H):=by
 intro pins s σ H x y v u Q I rx ry h
 obtain⟨i,j,rfl,rfl,hz,q⟩:=h
 obtain⟨t,rfl⟩:=rx
 obtain⟨t',rfl⟩:=ry
 exact add_str (fun t' tk=>⟨.str (i++j),H,I.tok _,⟨_,rfl⟩,q⟩) hz
theorem vals1{x:V}{us:List AD}(r:Vals [x] us):∃ u,us=[u]/\RelV x u:=by
 cases r with
 | cons r1 r2=>cases r2; exact⟨_,rfl,r1⟩
theorem vals2{x y:V}{us:List AD}(r:Vals [x,y] us):∃ u w',us=[u,w']/\RelV x u/\RelV y w':=by
 cases r with
 | cons r1 r2 =>
  cases r2 with
  | cons r3 r4=>cases r4; exact⟨_,_,rfl,r1,r3⟩
theorem zI8(hc:X.calm=true):CallR X (.builtin "max") (fun xs H Q=>∃ i j,xs=[.int i,.int j]/\Q (.int (if j > i then j else i)) H):=by
 intro pins s σ H xs us Q I r h
 obtain⟨i,j,rfl,q⟩:=h
 obtain⟨u,w',rfl,⟨t,rfl⟩,⟨t',rfl⟩⟩:=vals2 r
 refine max_two_ints (I.ok.hd hc) fun h' tk k=>⟨_,H,I.kept k,?_,q⟩
 by_cases hj:j > i
 ·rw[if_pos hj,if_pos hj]; exact⟨_,rfl⟩
 ·rw[if_neg hj,if_neg hj]; exact⟨_,rfl⟩
theorem zKD:CallR X (.type "int") (fun xs H Q=>(∃ i,xs=[.int i]/\Q (.int i) H)\/∃ k,xs=[.bl k]/\Q (.int (if k then 1 else 0)) H):=by
 intro pins s σ H xs us Q I r h
 rcases h with ⟨i,rfl,q⟩ | ⟨k,rfl,q⟩
 ·obtain⟨u,rfl,t,rfl⟩:=vals1 r
  exact call_int_int ⟨.int i,H,I,⟨_,rfl⟩,q⟩
 ·obtain⟨u,rfl,r1⟩:=vals1 r
  cases r1
  exact call_int_bool ⟨.int (if k then 1 else 0),H,I.tok _,⟨_,rfl⟩,q⟩
end
theorem RelO.some_of{v:V}{o:Option AD}(r:RelO (some v) o):∃ u,o=some u/\RelV v u:=by
 cases o with
 | none=>exact (show False from r).elim
 | some u=>exact⟨u,rfl,r⟩
structure Room(k:Nat)(A:BE):Prop where
 hd:A.handled=none
 dp:A.depth+3 * k+5 < J1
 un:A.units+16 * k+200 < J2
 gd:A.guards=some []
theorem Room.mono{j k:Nat}{A:BE}(r:Room k A)(h:j<=k):Room j A:=⟨r.hd,by have:=r.dp; lia,by have:=r.un; lia,r.gd⟩
theorem Room.deeper{k:Nat}{A:BE}(r:Room (k+1) A)(env:Env):Room k (A.deeper env) :=
 ⟨r.hd,by have:=r.dp; show A.depth+1+3 * k+5 < _; lia,by have:=r.un; show A.units+3+16 * k+200 < _; lia,r.gd⟩
theorem Room.depth{k:Nat}{A:BE}(r:Room k A):A.depth < J1:=by have:=r.dp; lia
noncomputable def tNil:TA:=fun _ H Q=>Q [] H
noncomputable def tCons (ta:TE) (tr:TA):TA:=fun σ H Q=>ta σ H fun x H1=>tr σ H1 fun xs H2=>Q (x::xs) H2
section
variable {X:Cx}{e:Expr}{es:List Expr}{te:TE}{t:TA}{pos:Pos}
theorem zDd:PA X [] tNil:=fun _ _ _ _ H Q I h=>Du ⟨[],H,I,.nil,h⟩
theorem zB4(ha:PE X e te)(hr:PA X es t)(hs:AU (e::es) X.env=(false,eval e X.env)::AU es X.env:=by rfl):PA X (e::es) (tCons te t):=by
 intro pos pins s σ H Q I h
 rw[hs]
 show AV _ _ (spliced ((false,eval e X.env)::Bw pos (AU es X.env))) _ _ s
 refine Eu (thn (ha pins s σ H _ I h) fun u s1 ⟨x,H1,I1,r1,q1⟩=>?_)
 exact thn (hr pos pins s1 σ H1 _ I1 q1) fun us s2 ⟨xs,H2,I2,r2,q2⟩=>⟨x::xs,H2,I2,.cons r1 r2,q2⟩
def tTup (t:TA):TE:=fun σ H Q=>t σ H fun xs H1=>xs.length<=AC/\∀ p,H1 p=none->Q (.ref p) (upd H1 p (.tup xs))
def tLst (t:TA):TE:=fun σ H Q=>t σ H fun xs H1=>xs.length<=AC/\∀ p,H1 p=none->Q (.ref p) (upd H1 p (.lst xs))
theorem zPV{x1}(h:PA X es t):PE X (.Tuple es x1 pos) (tTup t):=by
 intro pins s σ H Q I hq
 refine wpAny_Tuple_spliced (thn (h pos pins s σ H _ I hq) fun us s1 ⟨xs,H1,I1,r,z,q⟩=>⟨by rw[← r.length]; exact z,?_⟩)
 have hf:H1 s1.heap.objs.size=none:=I1.hok.fresh (AK _)
 refine⟨.ref s1.heap.objs.size,upd H1 s1.heap.objs.size (.tup xs),I1.laid (t':=s1.toks) (fun b u e=>AE _ e) (AK _) ?_,rfl,q _ hf⟩
 exact⟨z,us,r,⟨_,AQ _ rfl,rfl,⟨_,rfl⟩,rfl⟩⟩
theorem zPT(h:PA X es t):PE X (.List es pos) (tLst t):=by
 intro pins s σ H Q I hq
 refine wpAny_List_spliced (thn (h pos pins s σ H _ I hq) fun us s1 ⟨xs,H1,I1,r,z,q⟩=>⟨by rw[← r.length]; exact z,?_⟩)
 have hf:H1 s1.heap.objs.size=none:=I1.hok.fresh (AK _)
 refine⟨.ref s1.heap.objs.size,upd H1 s1.heap.objs.size (.lst xs),I1.laid (t':=s1.toks) (fun b u e=>AE _ e) (AK _) ?_,rfl,q _ hf⟩
 exact⟨z,us,0,r,AQ _ rfl⟩
end
abbrev Sp:=List V->Hp->VK->XK->Prop
abbrev CXT:=List Env->Hp->AG->XK->AD->AG->Prop
structure Env0(P:Ai)(w:Ax)(K:AM)(mg:Str->Option AD)(base:Heap)(A:BE)(outer:List Env)(s:AG)(H:Hp):Prop where
 frames:A.frames=some outer
 mod:Mod K mg base
 bs:∀ b o,base.get? b=some o->s.heap.get? b=some o/\H b=none
 bsz:base.objs.size<=s.heap.objs.size
 funs:s.heap.FunFrames base outer
 frf:∀ b∈frs outer,H b=none
 hok:HOk P w H s.heap
 bare:Ef s.gens
def CE (outer:List Env) (P:Ai) (w:Ax) (H:Hp) (s:AG) (Q:VK) (u:AD) (s':AG):Prop :=
 ∃ v H',s'.os=s.os/\Ef s'.gens/\Un (frs outer) [] H H' s.heap s'.heap/\HOk P w H' s'.heap/\RelV v u/\Q v H'
def CR (CX:CXT) (outer:List Env) (P:Ai) (w:Ax) (H:Hp) (s:AG) (Q:VK) (E:XK) (r:Result) (s':AG):Prop :=
 match r with
 | .ok (.ret u)=>CE outer P w H s Q u s'
 | .ok _=>False
 | .error e=>CX outer H s E e s'
structure FnOk(P:Ai)(w:Ax)(K:AM)(mg:Str->Option AD)(base:Heap)(CX:CXT)(k:Nat)(f:Addr)(fd:Ab)(ps:List Str)(sp:Sp):Prop where
 len:∀ vs H Q E,sp vs H Q E->vs.length=ps.length
 run:∀ (A:BE) (outer:List Env) (s:AG) (H:Hp) (args:Args) (us:List AD) (vs:List V) (Q:VK) (E:XK),Room k A->Env0 P w K mg base A outer s H->Gb s fd args (ps.zip us)->Vals vs us->sp vs H Q E ->
  DR (model P w) A (.call (.ref f) args) (CR CX outer P w H s Q E) s
theorem FnOk.mono{P:Ai}{w:Ax}{K:AM}{mg:Str->Option AD}{base:Heap}{CX:CXT}{j k:Nat}{f:Addr}{fd:Ab}{ps:List Str}{sp:Sp}(F:FnOk P w K mg base CX j f fd ps sp)(h:j<=k) :
  FnOk P w K mg base CX k f fd ps sp:=⟨F.len,fun A outer s H args us vs Q E hr=>F.run A outer s H args us vs Q E (hr.mono h)⟩
section
variable {X:Cx}{pins:List (Addr×Obj)}{σ:St}{H:Hp}{s s':AG}
theorem Inv.env0(I:Inv X pins σ H s):Env0 X.prog X.w X.K X.mg X.base X.A X.stack s H :=
 ⟨I.ok.frames,I.ok.mod,I.bs,Al I.ok.bsz I.sz,I.stack,I.stkFree,I.hok,I.bare⟩
theorem Inv.after{Q:VK}{u:AD}(I:Inv X pins σ H s)(h:CE X.stack X.prog X.w H s Q u s'):EP X pins σ Q u s':=by
 obtain⟨v,H',os,bare,un,hok,r,q⟩:=h
 obtain⟨hh,g,d,t,os'⟩:=s'
 obtain rfl:os'=s.os:=os
 exact⟨v,H',I.call (h':=hh) (g':=g) (d':=d) (t':=t) (ch:=[]) un hok bare (fun b z=>absurd z (by simp)),r,q⟩
end
noncomputable def tCall (sp:Sp) (dvs:List V) (E:XK) (t:TA):TE:=fun σ H Q=>t σ H fun vs H1=>sp (vs++dvs) H1 Q E
noncomputable def Binds (K:AM) (fd:Ab) (ps:List Str) (ds:List AD):Prop :=
 ∀ (s:AG) (us:List AD),K.In s.heap->(us++ds).length=ps.length->Gb s fd ⟨us,[]⟩ (ps.zip (us++ds))
theorem Binds.all{K:AM}{fd:Ab}{ps:List Str}(h:∀ us:List AD,us.length=ps.length->Hx fd ⟨us,[]⟩=pure (ps.zip us)):Binds K fd ps []:=fun s us _ hl=>by
 rw[Bp]at hl ⊢
 exact .of_eq (h us hl)
def Passes (CX:CXT) (X:Cx) (E:XK):Prop:=∀ (pins:List (Addr×Obj)) (σ:St) (H:Hp) (s:AG) (e:AD) (s':AG),Inv X pins σ H s->CX X.stack H s E e s'->X.xe e s'
section
variable {X:Cx}{CX:CXT}{k:Nat}{f C:Addr}{fd:Ab}{ps:List Str}{sp:Sp}{dvs:List V}{ds:List AD}{E:XK}{x m:Str}{p pos apos:Pos}{e o:Expr}{es:List Expr}{ta:TE}{t:TA}
theorem zKG{pins:List (Addr×Obj)}{σ:St}{H:Hp}{s:AG}{Q:VK}{us:List AD}{vs:List V}(F:FnOk X.prog X.w X.K X.mg X.base CX k f fd ps sp)(hr:Room k X.A)(hb:Binds X.K fd ps ds)(hd:Vals dvs ds)(hx:Passes CX X E)
  (I:Inv X pins σ H s) (r:Vals vs us) (h:sp (vs++dvs) H Q E):AV (model X.prog X.w) X.A (call (.ref f) us) (EP X pins σ Q) X.xe s:=by
 have r2:Vals (vs++dvs) (us++ds):=r.append hd
 have hl:(us++ds).length=ps.length:=by rw[← r2.length]; exact F.len _ _ _ _ h
 refine IR (Dw (F.run X.A X.stack s H ⟨us,[]⟩ (us++ds) (vs++dvs) Q E hr I.env0 (hb s us I.kIn hl) r2 h) fun r s' hq=>?_)
 cases r with
 | error e=>exact hx pins σ H s e s' I hq
 | ok fl =>
  cases fl with
  | ret u=>exact I.after hq
  | next=>exact A8 hq
  | brk=>exact A8 hq
  | cont=>exact A8 hq
theorem zGw(F:FnOk X.prog X.w X.K X.mg X.base CX k f fd ps sp)(hr:Room k X.A)(hg:Gl X x)(hm:X.mg x=some (.ref f))(hk:BN X.K (.ref f)=true)(hb:Binds X.K fd ps ds)(hd:Vals dvs ds)(hx:Passes CX X E)
  (ha:PA X (e::es) t) (hdb:(x == ("__debug__":Str))=false:=by decide) (he:AU (e::es) X.env=(false,eval e X.env)::AU es X.env:=by rfl) (hpl:(Bw pos (AU es X.env)).any (·.1)=false:=by rfl) :
  PE X (.Call (.Name x p) (e::es) [] pos) (tCall sp dvs E t):=by
 intro pins s σ H Q I h
 refine Cc (zED I hg hm ?_ hdb)
 refine Eh (h₀:=X.base) I.ok.mod.kin hk (thn (ha pos pins s σ H _ I h) fun us s1 ⟨vs,H1,I1,r,q⟩=>⟨I1.kIn,?_⟩) he hpl
 exact zKG F hr hb hd hx I1 r q
end
structure FnScope(N P:List Str)(sc:Df):Prop where
 kind:sc.kind=.function
 co:sc.isCoroutine=false
 gen:sc.isGenerator=false
 nd:N.Nodup
 pre:N.take P.length=P
 par:∀ x∈P,sc.names.lookup x=some .local\/sc.names.lookup x=some .cell
 nofree:∀ y∈sc.names,y.2≠.free
theorem zEV{Dp:Str->Option CQ}{x:Str}:∀ {binds:List (Str×AD)} {m:Str->Option AD},(∀ v,(x,v)∉binds)->HK Dp binds m x=m x
 | [],_,_=>rfl
 | (n,v)::r,m,h=>by
  unfold HK
  rw[zEV fun w hw=>h w (AR _ hw)]
  split
  ·have:x≠n:=by rintro rfl; exact h v AY
   simp[this]
  ·rfl
theorem zEl{Dp:Str->Option CQ}{x:Str}:∀ {binds:List (Str×AD)} {m:Str->Option AD},(∀ v,(x,v)∉binds)->HL Dp binds m x=m x
 | [],_,_=>rfl
 | (n,v)::r,m,h=>by
  unfold HL
  rw[zEl fun w hw=>h w (AR _ hw)]
  split
  ·rfl
  ·have:x≠n:=by rintro rfl; exact h v AY
   simp[this]
theorem zEf{Dp:Str->Option CQ}{x:Str}{v:AD}:∀ {P:List Str} {vs:List AD} {i:Nat} {m:Str->Option AD},P.Nodup->P[i]?=some x->vs[i]?=some v->Dp x=some .local ->
  HK Dp (P.zip vs) m x=some v
 | [],_,_,_,_,h,_,_=>by simp at h
 | _::_,[],_,_,_,_,h,_=>by simp at h
 | p::P,w::vs,0,m,nd,h1,h2,hk=>by
  simp at h1 h2; subst h1; subst h2
  show HK Dp ((p,w)::P.zip vs) m p=_
  unfold HK
  rw[zEV fun v hv=>(Bq.mp nd).1 (Fk hv).1,if_pos hk]
  simp
 | p::P,w::vs,i+1,m,nd,h1,h2,hk=>by
  show HK Dp ((p,w)::P.zip vs) m x=_
  unfold HK
  exact zEf (i:=i) (Bq.mp nd).2 (by simpa using h1) (by simpa using h2) hk
theorem zEb{Dp:Str->Option CQ}{x:Str}{v:AD}:∀ {P:List Str} {vs:List AD} {i:Nat} {m:Str->Option AD},P.Nodup->P[i]?=some x->vs[i]?=some v->Dp x≠some .local ->
  HL Dp (P.zip vs) m x=some v
 | [],_,_,_,_,h,_,_=>by simp at h
 | _::_,[],_,_,_,_,h,_=>by simp at h
 | p::P,w::vs,0,m,nd,h1,h2,hk=>by
  simp at h1 h2; subst h1; subst h2
  show HL Dp ((p,w)::P.zip vs) m p=_
  unfold HL
  rw[zEl fun v hv=>(Bq.mp nd).1 (Fk hv).1,if_neg hk]
  simp
 | p::P,w::vs,i+1,m,nd,h1,h2,hk=>by
  show HL Dp ((p,w)::P.zip vs) m x=_
  unfold HL
  exact zEb (i:=i) (Bq.mp nd).2 (by simpa using h1) (by simpa using h2) hk
noncomputable def start (N:List Str) (vs:List V):St:=vs.map some++Ah (N.length - vs.length) none
noncomputable def cxOf (CX:CXT) (P:Ai) (w:Ax) (K:AM) (mg:Str->Option AD) (base:Heap) (N:List Str) (qual:Str) (scope:Df) (f:Addr) (cd:AD) (A:BE) (outer:List Env) (s:AG) (H:Hp) (E:XK):Cx where
 prog:=P
 w:=w
 K:=K
 mg:=mg
 base:=base
 A:=A.deeper (E4 qual scope s.heap.objs.size f cd)
 N:=N
 s₀:=s
 H₀:=H
 env:=E4 qual scope s.heap.objs.size f cd
 outer:=outer
 stack:=E4 qual scope s.heap.objs.size f cd::outer
 ex:=[]
 calm:=true
 fn:=fun _=>true
 pn:=[]
 xe:=fun e s'=>AV (model P w) (A.deeper (E4 qual scope s.heap.objs.size f cd)) (leaving (E4 qual scope s.heap.objs.size f cd) e) (fun _ s''=>CX outer H s E e s'') (fun e' s''=>CX outer H s E e' s'') s'
theorem zFN{sc:Df}{n:Nat}{x:Str}(h:sc.names.lookup x=some .cell):∃ c,(BK n sc.names []).lookup x=some c:=by
 have q:=C4 sc.names n [] (.inl h)
 exact Cu.mp q
theorem zIk{CX:CXT}{P:Ai}{w:Ax}{K:AM}{mg:Str->Option AD}{base:Heap}{N ps:List Str}{qual:Str}{scope:Df}{f:Addr}{cd:AD}{A:BE}{outer:List Env}{s s1:AG}{H:Hp}{E:XK}{us:List AD}{vs:List V}
  (S:FnScope N ps scope) (hd:A.handled=none) (e0:Env0 P w K mg base A outer s H) (hl:vs.length=ps.length) (r:Vals vs us)
  (x:InCallC s s.heap.objs.size (HK (E4 qual scope s.heap.objs.size f cd).kindOf (ps.zip us) fun _=>none) (BK (s.heap.objs.size+1) scope.names []) (HL (E4 qual scope s.heap.objs.size f cd).kindOf (ps.zip us) fun _=>none) s1) :
  Inv (cxOf CX P w K mg base N qual scope f cd A outer s H E) [] (start N vs) H s1:=by
 have hpl:ps.length<=N.length:=by have:=congrArg JH S.pre; rw[CS]at this; lia
 obtain⟨h1,tk,rfl,hk⟩:=x.done
 have noA:∀ b:Addr,b∉(cxOf CX P w K mg base N qual scope f cd A outer s H E).ex:=fun b z=>absurd (show b∈([]:List Addr) from z) (by simp)
 refine⟨⟨e0.mod,S.kind,rfl,rfl,AK _,fun y z c h1 h2=>?_,fun y hy=>?_,fun y c _ h=>?_,fun _=>hd,Gc e0.frames,.inr ⟨rfl,rfl⟩,fun b z=>absurd z (noA b),e0.bs,e0.bsz,fun b _ _=>noA b,fun b z=>absurd z (noA b),e0.funs,e0.frf⟩,
  rfl,e0.bare,Un.kept hk,⟨_,x.toInCall.ns,fun i y v h1 h2 h3=>?_⟩,fun y c h=>⟨_,x.cell y c h⟩,e0.hok.fresh (AK _),fun y c h=>?_,fun p hp=>absurd (show p∈([]:List (Addr×Obj)) from hp) (by simp),e0.hok.kept hk,?_⟩
 ·exact name_of_addr x.apart (BG h1) (BG h2)
 ·have hy:scope.names.lookup y=some .cell\/scope.names.lookup y=some .free:=hy
  rcases hy with hy | hy
  ·exact zFN hy
  ·exact absurd rfl (S.nofree _ (BG hy))
 ·exact DB (x.above y c (BG h))
 ·have hi:i < vs.length:=by
   unfold start at h2
   by_cases hi:i < vs.length
   ·exact hi
   ·rw[Ck (by simpa using hi)]at h2
    rw[GW]at h2
    split at h2 <;> cases h2
  have ha:vs[i]?=some v:=by
   unfold start at h2
   rw[BM (by simpa using hi),Af]at h2
   cases e:vs[i]? with
   | none=>rw[e]at h2; cases h2
   | some a=>rw[e]at h2; cases h2; rfl
  obtain⟨u,hu,rv⟩:=r.get ha
  have hp:ps[i]?=some y:=by
   rw[← S.pre,List.getElem?_take_of_lt (by lia)]; exact h1
  have ndP:ps.Nodup:=by rw[← S.pre]; exact S.nd.sublist (List.take_sublist _ _)
  refine⟨u,rv,?_⟩
  rcases S.par y (DX hp) with k | k
  ·exact .inl ⟨k,zEf ndP hp hu k⟩
  ·obtain⟨c,e⟩:=zFN (n:=s.heap.objs.size+1) k
   refine .inr ⟨.inl k,c,e,?_⟩
   have q:=x.cell y c e
   rw[zEb ndP hp hu (by show scope.names.lookup y≠_; rw[k]; decide)]at q
   exact q
 ·exact e0.hok.fresh (DB (x.above y c (BG h)))
 ·unfold start
  show _=N.length
  rw[A4,A7,List.length_replicate]
  lia
theorem zIS{CX:CXT}{P:Ai}{w:Ax}{K:AM}{mg:Str->Option AD}{base:Heap}{k:Nat}{f:Addr}{name qual:Str}{params:HM}{body:List Stmt}{scope:Df}{dV kV doc pm cdv ct oc:AD}{an od:Option Addr}
  {osl:Array (Option AD)} {N ps:List Str} {sp:Sp} (lk:K.lookup f=some ⟨oc,od,.func (CA name qual params body scope dV kV doc pm an cdv ct),osl⟩) (hcd:Bt K cdv qual=true) (S:FnScope N ps scope)
  (len:∀ vs H Q E,sp vs H Q E->vs.length=ps.length)
  (hbody:∀ (A:BE) (outer:List Env) (s:AG) (H:Hp) (vs:List V) (Q:VK) (E:XK),Room k (A.deeper (E4 qual scope s.heap.objs.size f cdv))->sp vs H Q E ->
   ∃ t,PSs (cxOf CX P w K mg base N qual scope f cdv A outer s H E) body t/\t { nx:=fun _ H'=>Q .non H',rt:=Q } (start N vs) H) :
  FnOk P w K mg base CX (k+1) f (CA name qual params body scope dV kV doc pm an cdv ct) ps sp:=by
 refine⟨len,fun A outer s H args us vs Q E hr e0 hb r hsp=>?_⟩
 have hl:=len _ _ _ _ hsp
 have KX:K.In s.heap:=e0.mod.kin.keeps fun b o e=>(e0.bs b o e).1
 have lim:s.heap.NoLimit:=e0.mod.nolimit.keeps fun b o e=>(e0.bs b o e).1
 have hkind:∀ y∈ps.zip us,scope.names.lookup y.1=some .local\/(scope.names.lookup y.1=some .cell/\((BK (s.heap.objs.size+1) scope.names []).lookup y.1).isSome=true):=fun ⟨n,v⟩ hy=>by
  rcases S.par n (Fk hy).1 with q | q
  ·exact .inl q
  ·exact .inr ⟨q,C4 _ _ _ (.inl q)⟩
 refine codeAny_call_function hr.depth (KX _ _ lk) rfl S.co S.gen rfl (PySem.W.codeRec_of KX hcd) (hb _ _ _ _ ?_)
 refine wpAny_newFunctionEnv_cells S.kind hkind fun env he s1 x=>?_
 subst he
 refine⟨lim.keeps x.toInCall.keep,codeAny_func ?_⟩
 obtain⟨t,ht,hq⟩:=hbody A outer s H vs Q E (hr.deeper _) hsp
 have I:Inv (cxOf CX P w K mg base N qual scope f cdv A outer s H E) [] (start N vs) H s1:=zIk S hr.hd e0 hl r x
 refine Bj (ht [] s1 (start N vs) H _ I hq) (fun fl s' hs=>?_) fun e s' hs=>hs
 have fin:∀ {σ':St} {H':Hp} {v:V} {u:AD},Inv (cxOf CX P w K mg base N qual scope f cdv A outer s H E) [] σ' H' s'->RelV v u->Q v H'->CE outer P w H s Q u s' :=
  fun {σ' H' v u} J rv q=>⟨v,H',J.os,J.bare,J.base,J.hok,rv,q⟩
 cases fl with
 | ret u =>
  obtain⟨v,σ',H',J,rv,q⟩:=hs
  exact fin J rv q
 | next =>
  obtain⟨σ',H',J,q⟩:=hs
  exact fin (v:=V.non) (u:=CU) J rfl q
 | brk =>
  obtain⟨_,_,_,q⟩:=hs
  exact A8 q
 | cont =>
  obtain⟨_,_,_,q⟩:=hs
  exact A8 q
section
variable {X:Cx}{x:Str}{p pos:Pos}{e:Expr}{es:List Expr}{t:TA}{id T:String}{r:List V->Hp->VK->Prop}
noncomputable def tCB (r:List V->Hp->VK->Prop) (t:TA):TE:=fun σ H Q=>t σ H fun vs H1=>r vs H1 Q
theorem zLd(hc:CallR X (.builtin id) r)(hg:Gl X x)(hm:X.mg x=none)(hv:B6 x=some (.builtin id))(ha:PA X (e::es) t)(hn:x≠"__name__":=by decide)(hdb:(x == ("__debug__":Str))=false:=by decide)
  (he:AU (e::es) X.env=(false,eval e X.env)::AU es X.env:=by rfl) (hpl:(Bw pos (AU es X.env)).any (·.1)=false:=by rfl):PE X (.Call (.Name x p) (e::es) [] pos) (tCB r t):=by
 intro pins s σ H Q I h
 refine Cc (zAx I hg hm hv ?_ hn hdb)
 exact Ji (thn (ha pos pins s σ H _ I h) fun us s1 ⟨vs,H1,I1,r1,q1⟩=>hc pins s1 σ H1 vs us Q I1 r1 q1) he hpl
theorem zBc(hc:CallR X (.type T) r)(hg:Gl X x)(hm:X.mg x=none)(hv:B6 x=some (.type T))(ha:PA X (e::es) t)(hn:x≠"__name__":=by decide)(hdb:(x == ("__debug__":Str))=false:=by decide)
  (he:AU (e::es) X.env=(false,eval e X.env)::AU es X.env:=by rfl) (hpl:(Bw pos (AU es X.env)).any (·.1)=false:=by rfl):PE X (.Call (.Name x p) (e::es) [] pos) (tCB r t):=by
 intro pins s σ H Q I h
 refine Cc (zAx I hg hm hv ?_ hn hdb)
 exact Av (thn (ha pos pins s σ H _ I h) fun us s1 ⟨vs,H1,I1,r1,q1⟩=>hc pins s1 σ H1 vs us Q I1 r1 q1) he hpl
end
end L2
namespace HT
open PySem PyProof.Rows
section
open PySem.SeqAt
open PySem.AutoSeq1 (wpAny_loadPart')
open PySem.MeetsSeq PySem.MeetsSeq2 PySem.MeetsSeq3
end
section
variable {prog:Ai}{w:Ax}{A:BE}{E:AD->AG->Prop}{s:AG}
theorem cat_tup{t b:Addr}{vs ws:List AD}{Q:AD->AG->Prop}(ht:Ih s.heap t vs.toArray)(hb:Ih s.heap b ws.toArray)(hv:vs≠[])
  (h1:ws=[]->Q (.ref t) s) (h2:ws≠[]->Q (.ref s.heap.objs.size) { s with heap:=s.heap.push { cls:=.type "tuple",data:=.seq (vs++ws).toArray } })
  (hsz:vs.length+ws.length<=AC):AV (model prog w) A (CW .Add (.ref t) (.ref b)) Q E s:=by
 obtain⟨⟨cls,dd,data,sl⟩,ho,hc,n,hd⟩:=id ht
 obtain⟨⟨cls2,dd2,data2,sl2⟩,ho2,hc2,n2,hd2⟩:=id hb
 simp only at hc hd hc2 hd2
 subst hc hd hc2 hd2
 have e:vs.toArray++ws.toArray=(vs++ws).toArray:=by simp
 by_cases hw:ws=[]
 ·exact HV ⟨_,ho,rfl⟩ ⟨_,ho2,rfl⟩ GF G6 D5 Dx (Dq _ _)
   (tuple_addW1 t b vs.toArray ws.toArray n n2 dd dd2 sl sl2 (by simpa using hv) (by simp[hw])) ⟨ho,ho2,h1 hw⟩
 ·refine HV ⟨_,ho,rfl⟩ ⟨_,ho2,rfl⟩ GF G6 D5 Dx (Dq _ _)
   (tuple_addW2 t b vs.toArray ws.toArray n n2 dd dd2 sl sl2 (by simpa using hv) (by simpa using hw) (by rw[AO,AO]; exact hsz)) ⟨ho,ho2,?_⟩
  rw[e]
  exact h2 hw
noncomputable def sIx (n d:Nat):Option Int->Nat
 | none=>d
 | some v=>if v < 0 then (v+(n:Int)).toNat else min v.toNat n
theorem sIx_none(n d:Nat):sIx n d none=d:=rfl
theorem sIx_nat(n d k:Nat):sIx n d (some (k:Int))=min k n:=by
 show (if (k:Int) < 0 then ((k:Int)+(n:Int)).toNat else min (k:Int).toNat n)=min k n
 rw[if_neg (by lia),Bm]
theorem zPe(n d:Nat)(hd:d<=n)(o:Option Int):sIx n d o<=n:=by
 cases o with
 | none=>exact hd
 | some v =>
  show (if v < 0 then (v+(n:Int)).toNat else min v.toNat n)<=n
  by_cases hv:v < 0
  ·rw[if_pos hv]; lia
  ·rw[if_neg hv]; exact Nat.min_le_right _ _
theorem zGR(v:Int)(n d:Nat):(if v < 0 then max (v+(n:Int)) 0 else min v (n:Int))=((sIx n d (some v):Nat):Int):=by
 show (if v < 0 then max (v+(n:Int)) 0 else min v (n:Int))=(((if v < 0 then (v+(n:Int)).toNat else min v.toNat n):Nat):Int)
 by_cases hv:v < 0
 ·simp only[if_pos hv]; lia
 ·simp only[if_neg hv]; lia
theorem zHZ(lo hi:Option Int)(n:Nat):DU lo hi 1 (n:Int)=(((sIx n 0 lo:Nat):Int),((sIx n n hi:Nat):Int)):=by
 have h1:¬ ((1:Int) < 0):=by lia
 unfold DU
 simp only[h1,if_false]
 refine Prod.ext ?_ ?_
 ·cases lo with
  | none=>rfl
  | some v=>exact zGR v n 0
 ·cases hi with
  | none=>rfl
  | some v=>exact zGR v n n
theorem zHn(i j:Nat):Ca (i:Int) (j:Int) 1=j - i:=by
 unfold Ca
 have h1:(1:Int) > 0:=by lia
 simp only[h1,if_true,Int.ediv_one]
 split <;> lia
theorem zDh{v:AD}{o:Option Int}{Q:Option Int->AG->Prop}(p:E5 v o)(h:Q o s):AV (model prog w) A (JI v) Q E s:=by
 cases p with
 | none=>exact J3 h
 | int i t=>exact slicePart_int h
theorem sliceApplied_gen{sl:Addr}{vl vu:AD}{lo hi:Option Int}{n:Nat}{Q:Int×Int×Nat->AG->Prop}(hs:s.heap.IsSliceOf sl vl vu .none)(pl:E5 vl lo)(pu:E5 vu hi)
  (h:Q (((sIx n 0 lo:Nat):Int),1,sIx n n hi - sIx n 0 lo) s):AV (model prog w) A (Ew (.ref sl) (pure (n:Int))) Q E s:=by
 obtain⟨os,hos,hcs,hds⟩:=id hs
 unfold Ew JK
 refine AB (AB (Ar hos hds (x:=vl) rfl (AB (Ar hos hds (x:=vu) rfl (AB (Ar hos hds (x:=.none) rfl (AH ?_)))))))
 refine AB (J3 ?_)
 show AV _ _ (if ((1:Int) == 0)=true then _ else _) _ _ s
 rw[if_neg (by decide)]
 refine AB (zDh pl (AB (zDh pu (AB (AH ?_)))))
 show AV _ _ (match DU lo hi 1 (n:Int) with | (lo,hi)=>pure (lo,(1:Int),Ca lo hi 1)) _ _ s
 rw[zHZ lo hi n]
 show AV _ _ (pure (((sIx n 0 lo:Nat):Int),(1:Int),Ca ((sIx n 0 lo:Nat):Int) ((sIx n n hi:Nat):Int) 1)) _ _ s
 rw[zHn]
 exact AH h
theorem zLi(xs:Array AD)(i k:Nat):((AF k).filterMap fun (m:Nat)=>xs[((i:Int)+(m:Int) * 1).toNat]?).toArray=((xs.toList.drop i).take k).toArray:=by
 have e:(fun (m:Nat)=>xs[((i:Int)+(m:Int) * 1).toNat]?)=fun m=>xs[i+m]?:=by
  funext m
  have:((i:Int)+(m:Int) * 1).toNat=i+m:=by lia
  rw[this]
 rw[e]
 have:=pick_run xs i k
 rw[List.filterMap_map]at this
 have e2:((fun x=>xs[x]?) ∘ fun x=>i+x)=fun m=>xs[i+m]?:=rfl
 rw[e2]at this
 rw[this]
theorem qY{t sl:Addr}{items:Array AD}{vl vu:AD}{lo hi:Option Int}{Q:AD->AG->Prop}(ht:Ih s.heap t items)(hs:s.heap.IsSliceOf sl vl vu .none)(pl:E5 vl lo)(pu:E5 vu hi)
  (hw:¬ (sIx items.size 0 lo=0/\sIx items.size items.size hi=items.size))
  (h:Q (.ref s.heap.objs.size) { s with heap:=s.heap.push { cls:=.type "tuple",data:=.seq ((items.toList.drop (sIx items.size 0 lo)).take (sIx items.size items.size hi - sIx items.size 0 lo)).toArray } })
  (hsz:items.size<=AC):AV (model prog w) A (ED (.ref t) (.ref sl)) Q E s:=by
 have htake:sizeOk (.seq ((items.toList.drop (sIx items.size 0 lo)).take (sIx items.size items.size hi - sIx items.size 0 lo)).toArray):=by
  show ((items.toList.drop (sIx items.size 0 lo)).take (sIx items.size items.size hi - sIx items.size 0 lo)).toArray.size<=AC
  rw[AO,CS,DK,Eg]
  lia
 have hj:sIx items.size items.size hi<=items.size:=zPe _ _ (AK _) hi
 obtain⟨os,hos,hcs,hds⟩:=id hs
 have hTs:s.TypeIs (.ref sl) "slice":=⟨os,hos,hcs⟩
 unfold ED
 try with_reducible refine Br ?_
 first | refine AB (AH ?_) | skip
 refine AB (Ik ht.typeIs (by decide) ?_)
 refine AB (Ay (name:=Ba "__getitem__") ht.typeIs Bi
  (A9 Bi ht.typeIs ID ?_ (IS _ _)))
 show AV _ _ (Ex (.ref t) >>= _) _ _ s
 refine AB (KJ ht ?_)
 refine AB (DV hTs ?_)
 rw[if_pos (by decide)]
 refine AB (sliceApplied_gen hs pl pu ?_)
 have hno:¬ ((((sIx items.size 0 lo:Nat):Int) == 0 && (1:Int) == 1 && (sIx items.size items.size hi - sIx items.size 0 lo) == items.size)=true):=by
  intro q
  rw[An,An]at q
  have q1:((sIx items.size 0 lo:Nat):Int)=0:=eq_of_beq q.1.1
  have q2:sIx items.size items.size hi - sIx items.size 0 lo=items.size:=eq_of_beq q.2
  exact hw ⟨by lia,by lia⟩
 show AV _ _ (if (((sIx items.size 0 lo:Nat):Int) == 0 && (1:Int) == 1 && (sIx items.size items.size hi - sIx items.size 0 lo) == items.size)=true then _ else _) _ _ s
 rw[if_neg hno,zLi]
 first
  | exact AB (m:=Bn _) (BF (AH ⟨_,rfl,AH h⟩) htake)
  | exact AB (m:=Bn _) (BF (AB (AH (AH ⟨_,rfl,AH h⟩))) htake)
  | exact AB (AB (m:=Bn _) (BF (AH (AH ⟨_,rfl,AH h⟩)) htake))
  | exact AB (AB (m:=Bn _) (BF (AH ⟨_,rfl,AH h⟩) htake))
end
end HT
namespace L2
open PySem PySem.Spec PyProof.Rows
abbrev TO:=St->Hp->(Option Int->Hp->Prop)->Prop
noncomputable def PO (X:Cx) (e:Option Expr) (t:TO):Prop :=
 ∀ (pins:List (Addr×Obj)) (s:AG) (σ:St) (H:Hp) (Q:Option Int->Hp->Prop),Inv X pins σ H s->t σ H Q ->
  AV (model X.prog X.w) X.A (evalPart e X.env) (fun u s'=>∃ o H',Inv X pins σ H' s'/\E5 u o/\Q o H') X.xe s
noncomputable def tNoPart:TO:=fun _ H Q=>Q none H
noncomputable def tPart (t:TE):TO:=fun σ H Q=>t σ H fun x H1=>∃ i,x=.int i/\Q (some i) H1
theorem zHy{ns:List Int}:∀ {us:List AD},Vals (ns.map V.int) us->Ei us ns:=by
 induction ns with
 | nil=>intro us r; rw[Aj]at r; cases r; exact .nil
 | cons n ns ih =>
  intro us r
  rw[AN]at r
  cases r with
  | cons r1 r2 =>
   obtain⟨t,e⟩:=r1
   subst e
   exact .cons n t (ih r2)
section
variable {X:Cx}{e:Expr}{te:TE}{lo hi:Option Expr}{tl th:TO}{pos p2:Pos}
theorem zNp:PO X none tNoPart:=by
 intro pins s σ H Q I h
 rw[KM]
 exact AH ⟨none,H,I,.none,h⟩
theorem zOM(h:PE X e te):PO X (some e) (tPart te):=by
 intro pins s σ H Q I hw
 rw[evalPart_some]
 refine thn (h pins s σ H _ I hw) fun u s1 ⟨x,H1,I1,r1,q1⟩=>?_
 obtain⟨i,rfl,q⟩:=q1
 obtain⟨t,rfl⟩:=r1
 exact⟨some i,H1,I1,.int i t,q⟩
def SlR (X:Cx) (r:V->Option Int->Option Int->Hp->VK->Prop):Prop :=
 ∀ (pins:List (Addr×Obj)) (s:AG) (σ:St) (H:Hp) (x:V) (v vl vu:AD) (lo hi:Option Int) (sl:Addr) (Q:VK),Inv X pins σ H s->RelV x v->s.heap.IsSliceOf sl vl vu .none->E5 vl lo->E5 vu hi->r x lo hi H Q ->
  ∃ T id,Ff (.type T) "__getitem__"=pure (some (.builtin id))/\s.TypeIs v T/\AV (model X.prog X.w) X.A (ED v (.ref sl)) (EP X pins σ Q) X.xe s
theorem SlR.or{r r':V->Option Int->Option Int->Hp->VK->Prop}(h:SlR X r)(h':SlR X r'):SlR X (fun x lo hi H Q=>r x lo hi H Q\/r' x lo hi H Q):=by
 intro pins s σ H x v vl vu lo hi sl Q I rx hs pl pu q
 rcases q with q | q
 ·exact h pins s σ H x v vl vu lo hi sl Q I rx hs pl pu q
 ·exact h' pins s σ H x v vl vu lo hi sl Q I rx hs pl pu q
noncomputable def tSl (r:V->Option Int->Option Int->Hp->VK->Prop) (te:TE) (tl th:TO):TE:=fun σ H Q=>te σ H fun x H1=>tl σ H1 fun l H2=>th σ H2 fun u H3=>r x l u H3 Q
theorem zK5{r:V->Option Int->Option Int->Hp->VK->Prop}(hr:SlR X r)(he:PE X e te)(hl:PO X lo tl)(hu:PO X hi th):PE X (.Subscript e (.Slice lo hi none p2) pos) (tSl r te tl th):=by
 intro pins s σ H Q I h
 refine IT (thn (he pins s σ H _ I h) fun v s1 ⟨x,H1,I1,r1,q1⟩=>?_)
 refine wpAny_Slice (thn (hl pins s1 σ H1 _ I1 q1) fun vl s2 ⟨l,H2,I2,pl,q2⟩=>thn (hu pins s2 σ H2 _ I2 q2) fun vu s3 ⟨u,H3,I3,pu,q3⟩=>?_)
 rw[KM]
 refine AH ?_
 have I4:Inv X pins σ H3 { s3 with heap:=s3.heap.push { cls:=.type "slice",data:=.fields #[vl,vu,.none] } }:=I3.kept (t':=s3.toks) fun b ob q=>AE _ q
 obtain⟨T,id,hT,ht,hg⟩:=hr pins { s3 with heap:=s3.heap.push { cls:=.type "slice",data:=.fields #[vl,vu,.none] } } σ H3 x v vl vu l u s3.heap.objs.size Q I4 r1 (Il ..) pl pu q3
 show AV (model X.prog X.w) X.A (G7 e (.Slice lo hi none p2) v (.ref s3.heap.objs.size)) (EP X pins σ Q) X.xe { s3 with heap:=s3.heap.push { cls:=.type "slice",data:=.fields #[vl,vu,.none] } }
 exact tail_any (ops:=[.ref s3.heap.objs.size,v]) ht hT hg (by with_unfolding_all rfl)
def cutV (xs:List V) (lo hi:Option Int):List V:=(xs.drop (HT.sIx xs.length 0 lo)).take (HT.sIx xs.length xs.length hi - HT.sIx xs.length 0 lo)
theorem zDJ(xs:List V)(lo hi:Option Int):(cutV xs lo hi).length<=xs.length:=by
 unfold cutV
 rw[CS,DK]
 lia
end
noncomputable def ixN (n:Nat) (i:Int):Option Nat:=if 0<=i then (if i < n then some i.toNat else none) else if -(n:Int)<=i then some (i+n).toNat else none
def atI {α:Type} (xs:List α) (i:Int):Option α:=(ixN xs.length i).bind fun j=>xs[j]?
theorem zEO{n:Nat}{i:Int}{j:Nat}(h:ixN n i=some j):FI i n=some j/\j < n/\-(n:Int)<=i/\i < n:=by
 unfold ixN at h
 by_cases h0:0<=i
 ·rw[if_pos h0]at h
  by_cases h1:i < n
  ·rw[if_pos h1]at h
   have e:i.toNat=j:=Au h
   exact⟨by rw[GO h0 h1,e],by lia,by lia,h1⟩
  ·rw[if_neg h1]at h; cases h
 ·rw[if_neg h0]at h
  by_cases h1:-(n:Int)<=i
  ·rw[if_pos h1]at h
   have e:(i+n).toNat=j:=Au h
   exact⟨by rw[HW (by lia) h1,e],by lia,h1,by lia⟩
  ·rw[if_neg h1]at h; cases h
theorem zEN{α:Type}{xs:List α}{i:Int}{v:α}(h:atI xs i=some v):∃ j,FI i xs.length=some j/\xs[j]?=some v/\j < xs.length/\-(xs.length:Int)<=i/\i < xs.length:=by
 unfold atI at h
 cases e:ixN xs.length i with
 | none=>rw[e]at h; cases h
 | some j =>
  rw[e]at h
  obtain⟨h1,h2,h3,h4⟩:=zEO e
  exact⟨j,h1,h,h2,h3,h4⟩
def PlainIx (b:Expr):Prop:=∀ o i,subscripted b false o i=operate [o,i] (ED o i)
def IxR (X:Cx) (r:R2):Prop :=
 ∀ (value slice:Expr) (pins:List (Addr×Obj)) (s:AG) (σ:St) (H:Hp) (x y:V) (v u:AD) (Q:VK),Inv X pins σ H s->RelV x v->RelV y u->r x y H Q ->
  subscripted slice false v u=operate [v,u] (ED v u)->AV (model X.prog X.w) X.A (G7 value slice v u) (EP X pins σ Q) X.xe s
def MtR (X:Cx) (id:String) (r:V->List V->Hp->VK->Prop):Prop :=
 ∀ (pins:List (Addr×Obj)) (s:AG) (σ:St) (H:Hp) (x:V) (xs:List V) (v:AD) (us:List AD) (Q:VK),Inv X pins σ H s->RelV x v->Vals xs us->r x xs H Q ->
  AV (model X.prog X.w) X.A (call (.builtin id) (v::us)) (EP X pins σ Q) X.xe s
section
variable {X:Cx}{a b:Expr}{ta tb:TE}{pos:Pos}
theorem IxR.or{r r':R2}(h:IxR X r)(h':IxR X r'):IxR X (fun x y H Q=>r x y H Q\/r' x y H Q):=by
 intro value slice pins s σ H x y v u Q I rx ry q hs
 rcases q with q | q
 ·exact h value slice pins s σ H x y v u Q I rx ry q hs
 ·exact h' value slice pins s σ H x y v u Q I rx ry q hs
theorem zQk{r:R2}(hr:IxR X r)(ha:PE X a ta)(hb:PE X b tb)(hs:PlainIx b):PE X (.Subscript a b pos) (tOp r ta tb):=by
 intro pins s σ H Q I h
 exact IT (binT ha hb I h fun v u s2 x y H2 I2 rx ry q=>hr a b pins s2 σ H2 x y v u Q I2 rx ry q (hs _ _))
def rIxL (K:AM):R2:=fun x y H Q=>∃ p xs i v,x=.ref p/\y=.int i/\SqL K H p xs/\atI xs i=some v/\Q v H
def rIxT (K:AM):R2:=fun x y H Q=>∃ p xs i v,x=.ref p/\y=.int i/\SqT K H p xs/\atI xs i=some v/\Q v H
def rIxS:R2:=fun x y H Q=>∃ z i c,x=.str z/\y=.int i/\z.length<=AC/\atI z.cps.toList i=some c/\Q (.str ⟨#[c]⟩) H
theorem zNs:IxR X (rIxL X.K):=by
 intro value slice pins s σ H x y v u Q I rx ry h hs
 obtain⟨p,xs,i,z,rfl,rfl,hq,he,q⟩:=h
 cases rx
 obtain⟨t,rfl⟩:=ry
 obtain⟨its,r,pl,hz⟩:=I.list hq
 obtain⟨j,h1,h2,h3,h4,h5⟩:=zEN he
 obtain⟨w,ew,rw'⟩:=r.get h2
 have hl:=r.length
 have hn:=line63
 have fin:EP X pins σ Q w s:=⟨z,H,I,rw',q⟩
 by_cases h0:0<=i
 ·have hj:i.toNat=j:=by
   rw[GO h0 h5]at h1
   exact Au h1
  exact item_listR pl.isList h0 (by lia) (by rw[hj]; simpa using ew) fin hs
 ·have hj:(i+(its.toArray.size:Int)).toNat=j:=by
   rw[HW (by lia) h4]at h1
   rw[AO,← hl]
   exact Au h1
  exact HY (x:=w) pl.isList.typeIs Io.lookup
   (wpAny_getItem_list_neg (Q:=fun r s'=>r=w/\EP X pins σ Q r s') pl.isList (by lia) (by rw[AO] <;> lia) (by lia) (by rw[hj]; simpa using ew) ⟨rfl,fin⟩) hs
theorem zPB:IxR X (rIxT X.K):=by
 intro value slice pins s σ H x y v u Q I rx ry h hs
 obtain⟨p,xs,i,z,rfl,rfl,hq,he,q⟩:=h
 cases rx
 obtain⟨t,rfl⟩:=ry
 obtain⟨its,r,pl,hz⟩:=I.tuple hq
 obtain⟨j,h1,h2,h3,h4,h5⟩:=zEN he
 obtain⟨w,ew,rw'⟩:=r.get h2
 have hl:=r.length
 have hn:=line63
 have fin:EP X pins σ Q w s:=⟨z,H,I,rw',q⟩
 exact HY (x:=w) pl.typeIs slot_tuple_getitem.lookup
  (getItem_tuple (j:=j) (Q:=fun r s'=>r=w/\EP X pins σ Q r s') pl (by lia) (by lia) (by rw[AO,← hl]; exact h1) (by simpa using ew) ⟨rfl,fin⟩) hs
theorem zPM:IxR X rIxS:=by
 intro value slice pins s σ H x y v u Q I rx ry h hs
 obtain⟨z,i,c,rfl,rfl,hz,he,q⟩:=h
 obtain⟨t,rfl⟩:=rx
 obtain⟨t',rfl⟩:=ry
 obtain⟨j,h1,h2,h3,h4,h5⟩:=zEN he
 have hl:z.cps.toList.length=z.length:=by simp[Str.length]
 rw[hl]at h1 h4 h5
 have hn:=line63
 exact tail_any (typeIs_str s z t) slot_str_getitem.lookup (getItem_str (c:=c) (by
  have e1:decide (i < -(2 ^ 63:Int))=false:=decide_eq_false (by lia)
  have e2:decide (i ≥ 2 ^ 63)=false:=decide_eq_false (by lia)
  rw[e1,e2,IU]) (by rw[h1]; simpa using h2) ⟨.str ⟨#[c]⟩,H,I.tok _,⟨_,rfl⟩,q⟩) hs
def rIx (K:AM):R2:=fun x y H Q=>rIxL K x y H Q\/rIxT K x y H Q\/rIxS x y H Q
theorem zOm:IxR X (rIx X.K):=zNs.or (zPB.or zPM)
theorem zHl(its:List AD)(n j:Nat)(u:AD):C5 (·.setIfInBounds j u) { cls:=.type "list",data:=.seq its.toArray n }={ cls:=.type "list",data:=.seq (its.set j u).toArray n }:=by
 simp[C5]
theorem Inv.lst{pins:List (Addr×Obj)}{σ:St}{H:Hp}{s:AG}{p:Addr}{xs:List V}(I:Inv X pins σ H s)(h:H p=some (.lst xs)) :
  ∃ (its:List AD) (n:Nat),Vals xs its/\s.heap.get? p=some { cls:=.type "list",data:=.seq its.toArray n }/\xs.length<=AC:=by
 obtain⟨z,its,n,r,e⟩:=I.hok p _ h
 exact⟨its,n,r,e,z⟩
theorem Inv.lstUpd{pins:List (Addr×Obj)}{σ:St}{H:Hp}{s:AG}{p:Addr}{xs ys:List V}{its its':List AD}{n n':Nat}{f:Obj->Obj}(I:Inv X pins σ H s)(h:H p=some (.lst xs))
  (ho:s.heap.get? p=some { cls:=.type "list",data:=.seq its.toArray n }) (hf:f { cls:=.type "list",data:=.seq its.toArray n }={ cls:=.type "list",data:=.seq its'.toArray n' }) (r:Vals ys its') (hz:ys.length<=AC) (t:Nat) :
  Inv X pins σ (upd H p (.lst ys)) { s with heap:=s.heap.update p f,toks:=t }:=by
 have e:(s.heap.update p f).get? p=some { cls:=.type "list",data:=.seq its'.toArray n' }:=by
  rw[Cb f ho (by rw[hf] <;> rfl),hf]
 refine I.write (x:=p) (e:=p) (by rw[h]; trivial) (.inl rfl) (fun b u hb q=>(Bk _ _ (A6 hb)).trans q) ⟨_,e⟩ ?_
 exact⟨hz,its',n',r,e⟩
def rSetL:V->V->V->Hp->(Hp->Prop)->Prop:=fun o i v H Q=>∃ p xs k j,o=.ref p/\i=.int k/\H p=some (.lst xs)/\ixN xs.length k=some j/\Q (upd H p (.lst (xs.set j v)))
theorem zLH:PSet X rSetL:=by
 intro pins s σ H o i v ov iv u Q I ro ri rv h
 obtain⟨p,xs,k,j,rfl,rfl,hp,hj,q⟩:=h
 cases ro
 obtain⟨t,rfl⟩:=ri
 obtain⟨its,n,r,ho,hz⟩:=I.lst hp
 obtain⟨h1,h2,h3,h4⟩:=zEO hj
 have hl:=r.length
 have hn:=line63
 have I':Inv X pins σ (upd H p (.lst (xs.set j v))) { s with heap:=s.heap.update p (C5 (·.setIfInBounds j u)) } :=
  I.lstUpd hp ho (zHl its n j u) (r.set rv j) (by rw[List.length_set]; exact hz) s.toks
 by_cases h0:0<=k
 ·have hk:k.toNat=j:=by
   rw[GO h0 h4]at h1
   exact Au h1
  exact PySem.W.ki_setAt ho h0 (by lia) (by rw[AO,← hl]; exact h4) (by rw[hk]; exact⟨_,I',q⟩)
 ·have hk:(k+(its.toArray.size:Int)).toNat=j:=by
   rw[HW (by lia) h3]at h1
   rw[AO,← hl]
   exact Au h1
  exact PySem.W.ki_setBack ho (by lia) (by rw[AO,← hl]; exact h3) (by lia) (by rw[hk]; exact⟨_,I',q⟩)
theorem zF5(lo hi:Option Int)(n:Nat):(Dn lo hi none n).1=((HT.sIx n 0 lo:Nat):Int)/\(Dn lo hi none n).2.1=((HT.sIx n n hi:Nat):Int)/\(Dn lo hi none n).2.2=1:=by
 refine⟨?_,?_,rfl⟩
 ·cases lo with
  | none=>simp[Dn,HT.sIx]
  | some i =>
   simp only[Dn,HT.sIx,HN,show (1:Int) > 0 by decide,if_true]
   by_cases h:i < 0
   ·simp only[h,if_true] <;> lia
   ·simp only[h,if_false] <;> lia
 ·cases hi with
  | none=>simp[Dn,HT.sIx]
  | some i =>
   simp only[Dn,HT.sIx,HN,show (1:Int) > 0 by decide,if_true]
   by_cases h:i < 0
   ·simp only[h,if_true] <;> lia
   ·simp only[h,if_false] <;> lia
theorem zE2(its:List AD)(lo hi:Option Int):slicePick its.toArray lo hi none=((its.drop (HT.sIx its.length 0 lo)).take (HT.sIx its.length its.length hi - HT.sIx its.length 0 lo)).toArray:=by
 obtain⟨h1,h2,h3⟩:=zF5 lo hi its.toArray.size
 unfold slicePick
 rw[h1,h2,h3]
 simp only[sliceRange_one,pick_run,AO] <;> rfl
def rSlL (K:AM):V->Option Int->Option Int->Hp->VK->Prop:=fun x lo hi H Q=>∃ a xs,x=.ref a/\SqL K H a xs/\∀ p,H p=none->Q (.ref p) (upd H p (.lst (cutV xs lo hi)))
theorem zNg:SlR X (rSlL X.K):=by
 intro pins s σ H x v vl vu lo hi sl Q I rx hs pl pu h
 obtain⟨a,xs,rfl,hx,q⟩:=h
 cases rx
 obtain⟨its,r,ht,hz⟩:=I.list hx
 have hlen:=r.length
 refine⟨"list",_,Io.lookup,ht.isList.typeIs,?_⟩
 refine wpAny_getItem_list_slice ht.isList hs pl pu .none (by simp) ?_ (by rw[AO] <;> lia)
 rw[zE2,← hlen]
 refine⟨.ref s.heap.objs.size,_,I.laid (t':=s.toks) (o:=.lst (cutV xs lo hi)) (fun b ob q=>AE _ q) (AK _) ?_,rfl,q _ (I.hok.fresh (AK _))⟩
 exact⟨Al (zDJ xs lo hi) hz,_,0,(r.drop (HT.sIx xs.length 0 lo)).take (HT.sIx xs.length xs.length hi - HT.sIx xs.length 0 lo),AQ _ rfl⟩
noncomputable def flatV:V->Bool
 | .non=>true
 | .bl _=>true
 | .int _=>true
 | .str _=>true
 | _=>false
noncomputable def eqV:V->V->Bool
 | .non,.non=>true
 | .bl a,.bl b=>a == b
 | .bl a,.int b=>(if a then 1 else 0) == b
 | .int a,.bl b=>a == (if b then 1 else 0)
 | .int a,.int b=>a == b
 | .str a,.str b=>a == b
 | _,_=>false
theorem zPA{A:BE}{s:AG}{y x:V}{u v:AD}(ry:RelV y u)(rx:RelV x v)(fy:flatV y=true)(fx:flatV x=true):G8 A s u v (eqV y x):=by
 cases y with
 | non =>
  cases ry
  cases x with
  | non=>cases rx; exact KN _
  | bl b=>cases rx; exact KO b
  | int b=>obtain⟨t,rfl⟩:=rx; exact KP b t
  | str b=>obtain⟨t,rfl⟩:=rx; exact KQ b t
  | _=>exact absurd (show false=true from fx) AZ
 | bl a =>
  cases ry
  cases x with
  | non=>cases rx; exact KR a
  | bl b=>cases rx; exact KU a b
  | int b=>obtain⟨t,rfl⟩:=rx; exact KW a b t
  | str b=>obtain⟨t,rfl⟩:=rx; exact KY a b t
  | _=>exact absurd (show false=true from fx) AZ
 | int a =>
  obtain⟨t',rfl⟩:=ry
  cases x with
  | non=>cases rx; exact KZ a t'
  | bl b=>cases rx; exact Kb a t' b
  | int b=>obtain⟨t,rfl⟩:=rx; exact Kc a t' b t
  | str b=>obtain⟨t,rfl⟩:=rx; exact GL a t' b t
  | _=>exact absurd (show false=true from fx) AZ
 | str a =>
  obtain⟨t',rfl⟩:=ry
  cases x with
  | non=>cases rx; exact Kd a t'
  | bl b=>cases rx; exact Ke a t' b
  | int b=>obtain⟨t,rfl⟩:=rx; exact GM a t' b t
  | str b=>obtain⟨t,rfl⟩:=rx; exact Kh a t' b t
  | _=>exact absurd (show false=true from fx) AZ
 | _=>exact absurd (show false=true from fy) AZ
def eqU (x:V) (u:AD):Bool:=match u with
 | .none=>eqV .non x
 | .bool b=>eqV (.bl b) x
 | .int i _=>eqV (.int i) x
 | .str z _=>eqV (.str z) x
 | _=>false
theorem zFD{x y:V}{u:AD}(r:RelV y u)(f:flatV y=true):eqU x u=eqV y x:=by
 cases y with
 | non=>cases r; rfl
 | bl b=>cases r; rfl
 | int i=>obtain⟨t,rfl⟩:=r; rfl
 | str z=>obtain⟨t,rfl⟩:=r; rfl
 | _=>exact absurd (show false=true from f) AZ
theorem zEF{x:V}:∀ {xs:List V} {us:List AD},Vals xs us->xs.all flatV=true->us.any (eqU x)=xs.any fun y=>eqV y x
 | _,_,.nil,_=>rfl
 | y::xs,u::us,.cons r t,f=>by
  rw[IV,An]at f
  rw[Cy,Cy,zFD r f.1,zEF t f.2]
theorem zCQ{A:BE}{s:AG}{x:V}{v:AD}(rx:RelV x v)(fx:flatV x=true):∀ {xs:List V} {us:List AD},Vals xs us->xs.all flatV=true->∀ u∈us,G8 A s u v (eqU x u)
 | _,_,.nil,_=>fun u hu=>by cases hu
 | y::xs,u::us,.cons r t,f=>fun u' hu=>by
  rw[IV,An]at f
  rcases AL.mp hu with rfl | hu
  ·rw[zFD r f.1]; exact zPA r rx f.1 fx
  ·exact zCQ rx fx t f.2 u' hu
def inV (x:V) (xs:List V):Bool:=xs.any fun y=>eqV y x
def rIn (K:AM) (neg:Bool):R2:=fun x y H Q=>∃ p xs,y=.ref p/\(SqL K H p xs\/SqT K H p xs)/\flatV x=true/\xs.all flatV=true/\Q (.bl (if neg then !inV x xs else inV x xs)) H
theorem zKT:OpR X (BY .In) (rIn X.K false):=by
 intro pins s σ H x y v u Q I rx ry h
 obtain⟨p,xs,rfl,hq,fx,fs,q⟩:=h
 cases ry
 rcases hq with hq | hq
 ·obtain⟨its,r,pl,hz⟩:=I.list hq
  refine SeqAt.in_listAt (eqU x) pl.isList (fun w hw=>zCQ rx fx r fs w (by simpa using hw)) ⟨.bl _,H,I,rfl,?_⟩
  rw[show its.toArray.any (eqU x)=its.any (eqU x) by simp,zEF r fs]
  exact q
 ·obtain⟨its,r,pl,hz⟩:=I.tuple hq
  refine SeqAt.in_tupleAt (eqU x) pl (fun w hw=>zCQ rx fx r fs w (by simpa using hw)) ⟨.bl _,H,I,rfl,?_⟩
  rw[show its.toArray.any (eqU x)=its.any (eqU x) by simp,zEF r fs]
  exact q
theorem zFr:CallR X (.builtin "len") (fun xs H Q=>∃ p ys,xs=[.ref p]/\(SqL X.K H p ys\/SqT X.K H p ys)/\Q (.int ys.length) H):=by
 intro pins s σ H xs us Q I r h
 obtain⟨p,ys,rfl,hq,q⟩:=h
 obtain⟨u,rfl,rx⟩:=vals1 r
 cases rx
 have hn:=line63
 rcases hq with hq | hq
 ·obtain⟨its,r',pl,hz⟩:=I.list hq
  have hlen:=r'.length
  exact Calls.call_len_list pl.isList (by simp only[AO] <;> lia) ⟨.int ys.length,H,I.tok _,⟨s.toks+1,by rw[AO,hlen]⟩,q⟩
 ·obtain⟨its,r',pl,hz⟩:=I.tuple hq
  have hlen:=r'.length
  exact JL pl (by simp only[AO] <;> lia) ⟨.int ys.length,H,I.tok _,⟨s.toks+1,by rw[AO,hlen]⟩,q⟩
theorem zF4:CallR X (.builtin "len") (fun xs H Q=>∃ z,xs=[.str z]/\z.length<=AC/\Q (.int z.length) H):=by
 intro pins s σ H xs us Q I r h
 obtain⟨z,rfl,hz,q⟩:=h
 obtain⟨u,rfl,t,rfl⟩:=vals1 r
 have hn:=line63
 exact len_str (by lia) ⟨.int z.length,H,I.tok _,⟨_,rfl⟩,q⟩
theorem CallR.or{f:AD}{r r':List V->Hp->VK->Prop}(h:CallR X f r)(h':CallR X f r'):CallR X f (fun xs H Q=>r xs H Q\/r' xs H Q):=by
 intro pins s σ H xs us Q I rs q
 rcases q with q | q
 ·exact h pins s σ H xs us Q I rs q
 ·exact h' pins s σ H xs us Q I rs q
theorem zE7:CallR X (.type "tuple") (fun xs H Q=>∃ p ys,xs=[.ref p]/\((SqL X.K H p ys/\∀ l,H l=none->Q (.ref l) (upd H l (.tup ys)))\/(SqT X.K H p ys/\Q (.ref p) H))):=by
 intro pins s σ H xs us Q I r h
 obtain⟨p,ys,rfl,h⟩:=h
 obtain⟨u,rfl,rx⟩:=vals1 r
 cases rx
 rcases h with ⟨hq,q⟩ | ⟨hq,q⟩
 ·obtain⟨its,r',pl,hz⟩:=I.list hq
  have hlen:=r'.length
  refine call_tuple_list pl.isList (fun h' kp=>?_) (by simp only[AO] <;> lia)
  have I1:Inv X pins σ H { s with heap:=h' }:=I.kept (t':=s.toks) kp
  have I2:Inv X pins σ (upd H h'.objs.size (.tup ys)) { s with heap:=h'.push { cls:=.type "tuple",data:=.seq its.toArray } } :=
   I1.laid (t':=s.toks) (fun b o e=>AE _ e) (AK _) (show ObjOk X.prog X.w _ _ _ (.tup ys) from ⟨hz,its,r',TupD.new _ _⟩)
  exact⟨.ref h'.objs.size,_,I2,rfl,q _ (I1.hok.fresh (AK _))⟩
 ·obtain⟨its,r',pl,hz⟩:=I.tuple hq
  exact call_tuple_same pl ⟨.ref p,H,I,rfl,q⟩
def tyV (K:AM) (T:String) (x:V) (H:Hp):Prop:=match x with
 | .str _=>T="str"
 | .int _=>T="int"
 | .ref p=>(T="list"/\∃ xs,SqL K H p xs)\/(T="tuple"/\∃ o,K.lookup p=some o/\o.cls=.type "tuple"/\o.dict=none) \/
   (T="dict"/\((∃ kvs,H p=some (.dK kvs))\/∃ kvs,H p=some (.dT kvs)))\/(T="set"/\∃ S n,H p=some (.set S n))
 | _=>False
theorem zJG{pins:List (Addr×Obj)}{σ:St}{H:Hp}{s:AG}{T:String}{x:V}{v:AD}(I:Inv X pins σ H s)(r:RelV x v)(ty:tyV X.K T x H) :
  s.TypeIs v T/\∀ a,v=.ref a->∃ ob,s.heap.get? a=some ob/\ob.dict=none:=by
 cases x with
 | str z =>
  obtain⟨t,rfl⟩:=r
  cases (show T="str" from ty)
  exact⟨typeIs_str s z t,fun _ e=>nomatch e⟩
 | int i =>
  obtain⟨t,rfl⟩:=r
  cases (show T="int" from ty)
  exact⟨IW s i t,fun _ e=>nomatch e⟩
 | ref p =>
  cases r
  rcases ty with ⟨rfl,xs,hq⟩ | ⟨rfl,o,hk,hc,hd⟩ | ⟨rfl,hk⟩ | ⟨rfl,S,n,hk⟩
  ·obtain⟨its,_,pl,_⟩:=I.list hq
   refine⟨pl.isList.typeIs,fun a e=>?_⟩
   cases e
   obtain⟨o,n,e,c,hd,_⟩:=pl
   exact⟨o,e,hd⟩
  ·refine⟨⟨o,I.kIn p o hk,hc⟩,fun a e=>?_⟩
   cases e
   exact⟨o,I.kIn _ o hk,hd⟩
  ·have z:∃ o,s.heap.get? p=some o/\o.ExactDict:=by
    rcases hk with ⟨kvs,hk⟩ | ⟨kvs,hk⟩
    ·obtain⟨_,_,_,_,o,_,_,e,ex,_⟩:=I.hok p _ hk
     exact⟨o,e,ex⟩
    ·obtain⟨_,_,_,_,o,_,_,e,ex,_⟩:=I.hok p _ hk
     exact⟨o,e,ex⟩
   obtain⟨o,e,ex⟩:=z
   refine⟨⟨o,e,ex.1⟩,fun a e2=>?_⟩
   cases e2
   exact⟨o,e,ex.2.1⟩
  ·obtain⟨o,_,_,_,e,ex,_⟩:=I.hok p _ hk
   refine⟨⟨o,e,ex.1⟩,fun a e2=>?_⟩
   cases e2
   exact⟨o,e,ex.2.1⟩
 | _=>exact A8 ty
noncomputable def tBM0 (K:AM) (T:String) (r:V->List V->Hp->VK->Prop) (to:TE):TE:=fun σ H Q=>to σ H fun x H1=>tyV K T x H1/\r x [] H1 Q
noncomputable def tBM (K:AM) (T:String) (r:V->List V->Hp->VK->Prop) (to:TE) (t:TA):TE:=fun σ H Q=>to σ H fun x H1=>tyV K T x H1/\t σ H1 fun xs H2=>r x xs H2 Q
variable {o e:Expr}{es:List Expr}{to:TE}{t:TA}{name:Str}{apos cpos:Pos}{T id:String}{r:V->List V->Hp->VK->Prop}
theorem zPN(pa:PlainAttrs T)(slot:Slot T name id)(hty:HZ (.builtin id)=pure (.type "method_descriptor"))(hm:MtR X id r)(ho:PE X o to)
  (hbase:C7 o name X.env (eval o X.env)=eval o X.env:=by rfl) (hline:(apos.endLine == cpos.line)=true:=by rfl):PE X (.Call (.Attribute o name apos) [] [] cpos) (tBM0 X.K T r to):=by
 intro pins s σ H Q I h
 refine wpAny_Call_method0_late hbase hline (thn (ho pins s σ H _ I h) fun v s1 ⟨x,H1,I1,r1,ty,q1⟩=>?_)
 obtain⟨h1,h2⟩:=zJG I1 r1 ty
 exact⟨T,id,pa,slot,hty,h1,h2,EB rfl (PySem.evalArgs_none (hm pins s1 σ H1 x [] v [] Q I1 r1 .nil q1))⟩
theorem zMe(pa:PlainAttrs T)(slot:Slot T name id)(hty:HZ (.builtin id)=pure (.type "method_descriptor"))(hm:MtR X id r)(ho:PE X o to)(ha:PA X (e::es) t)
  (hbase:C7 o name X.env (eval o X.env)=eval o X.env:=by rfl)
  (hfew:((Bw cpos (AU (e::es) X.env)).all (fun x=>!x.1) && (Gk cpos (E6 [] X.env)).all (fun x=>x.1.isSome)
   && decide ((e::es).length+([]:List EF).length+(if ([]:List EF).isEmpty then 0 else 1) < 30))=true:=by rfl)
  (hline:(apos.endLine == cpos.line)=true:=by rfl) (hs:AU (e::es) X.env=(false,eval e X.env)::AU es X.env:=by rfl) (hplain:(Bw cpos (AU es X.env)).any (·.1)=false:=by rfl) :
  PE X (.Call (.Attribute o name apos) (e::es) [] cpos) (tBM X.K T r to t):=by
 intro pins s σ H Q I h
 refine Ha hbase hfew hline rfl (thn (ho pins s σ H _ I h) fun v s1 ⟨x,H1,I1,r1,ty,q1⟩=>?_)
 obtain⟨h1,h2⟩:=zJG I1 r1 ty
 refine⟨T,id,pa,slot,hty,h1,h2,?_⟩
 have hA:=ha cpos pins s1 σ H1 _ I1 q1
 rw[hs]at hA ⊢
 refine EB (by show (false || (Bw cpos (AU es X.env)).any (·.1))=false; rw[hplain] <;> rfl) (Gm ?_)
 exact thn hA fun us s2 ⟨vs,H2,I2,r2,q2⟩=>hm pins s2 σ H2 x vs v us Q I2 r1 r2 q2
end
def MtM (X:Cx) (id:String) (r:V->List V->Hp->VK->Prop):Prop :=
 ∀ (pins:List (Addr×Obj)) (s:AG) (σ:St) (H:Hp) (x:V) (xs:List V) (v:AD) (us:List AD) (Q:VK),Inv X pins σ H s->RelV x v->Vals xs us->r x xs H Q ->
  AV (model X.prog X.w) X.A (call (.builtin id) (v::us)) (EP X pins σ Q) X.xe s
theorem Vals.one:∀ {x:V} {us:List AD},Vals [x] us->∃ u,us=[u]/\RelV x u
 | _,_,.cons r .nil=>⟨_,rfl,r⟩
theorem Vals.zero:∀ {us:List AD},Vals [] us->us=[]
 | _,.nil=>rfl
theorem Vals.dropLast{xs:List V}{us:List AD}(h:Vals xs us):Vals xs.dropLast us.dropLast:=by
 induction h with
 | nil=>exact .nil
 | cons r t ih =>
  cases t with
  | nil=>exact .nil
  | cons q t'=>exact .cons r ih
theorem Vals.eraseIdx:∀ {xs:List V} {us:List AD} (i:Nat),Vals xs us->Vals (xs.eraseIdx i) (us.eraseIdx i)
 | _,_,_,.nil=>.nil
 | _,_,0,.cons _ t=>t
 | _,_,i+1,.cons r t=>.cons r (Vals.eraseIdx i t)
theorem Vals.rep{xs:List V}{us:List AD}(h:Vals xs us):∀ k:Nat,Vals (Ah k xs).flatten (Ah k us).flatten
 | 0=>.nil
 | k+1=>by
  rw[BW,BW,Cd,Cd]
  exact Vals.append h (Vals.rep h k)
theorem zH8{α:Type}(l:List α):l.eraseIdx (l.length - 1)=l.dropLast:=by
 induction l with
 | nil=>rfl
 | cons a r ih =>
  cases r with
  | nil=>rfl
  | cons b r =>
   have e:(a::b::r).length - 1=((b::r).length - 1)+1:=by
    have h1:(a::b::r).length=r.length+2:=rfl
    have h2:(b::r).length=r.length+1:=rfl
    lia
   rw[e,List.eraseIdx_cons_succ,ih]
   all_goals rfl
theorem zEq{α:Type}:∀ (l:List α) (i:Nat),(l.eraseIdx i).length<=l.length
 | [],_=>AK _
 | _::_,0=>G9 _
 | _::r,i+1=>Nat.succ_le_succ (zEq r i)
theorem zEg(its:List AD):∀ (k:Nat) (acc:List AD),
  HP (fun x1 x2=>x1++x2) acc.toArray (Ah k its.toArray)=(acc++(Ah k its).flatten).toArray
 | 0,acc=>by simp
 | k+1,acc=>by
  have e:acc.toArray++its.toArray=(acc++its).toArray:=by simp
  have e2:(acc++its)++(Ah k its).flatten=acc++(Ah (k+1) its).flatten:=by
   rw[BW,Cd,Bx]
  rw[← e2,← zEg its k (acc++its),← e,BW,Hy]
section
variable {X:Cx}{pins:List (Addr×Obj)}{σ:St}{H:Hp}{s:AG}{l b:Addr}{xs ys zs:List V}
theorem Inv.lset{its its':List AD}{n:Nat}{f:Array AD->Array AD}{t':Nat}(I:Inv X pins σ H s)(hH:H l=some (.lst xs))
  (e:s.heap.get? l=some { cls:=.type "list",data:=.seq its.toArray n }) (hf:f its.toArray=its'.toArray) (hv:Vals ys its') (hz:ys.length<=AC) :
  Inv X pins σ (upd H l (.lst ys)) { s with heap:=s.heap.update l (C5 f),toks:=t' }:=by
 have q:=Ko e f
 rw[hf]at q
 refine I.write (x:=l) (e:=l) (by rw[hH]; exact trivial) (.inl rfl) (fun b' u hb hu=>(Bk s.heap (C5 f) (A6 hb)).trans hu) ⟨_,q⟩ ?_
 exact⟨hz,its',_,hv,q⟩
theorem Inv.lnew{its:List AD}{t':Nat}(I:Inv X pins σ H s)(hv:Vals ys its)(hz:ys.length<=AC) :
  Inv X pins σ (upd H s.heap.objs.size (.lst ys)) { s with heap:=s.heap.push { cls:=.type "list",data:=.seq its.toArray },toks:=t' } :=
 I.laid (fun _ _ q=>AE _ q) (AK _) ⟨hz,its,0,hv,AQ _ rfl⟩
theorem Inv.fresh(I:Inv X pins σ H s):H s.heap.objs.size=none:=I.hok.fresh (AK _)
theorem Inv.lstM(I:Inv X pins σ H s)(hH:H l=some (.lst xs)):xs.length<=AC/\∃ (its:List AD) (n:Nat),Vals xs its/\xs.length=its.length/\s.heap.get? l=some { cls:=.type "list",data:=.seq its.toArray n }:=by
 obtain⟨z,its,n,r,e⟩:=I.hok l _ hH
 exact⟨z,its,n,r,r.length,e⟩
theorem notLongL{n:Nat}(h:n<=AC):Bo n=false:=by
 unfold Bo
 exact decide_eq_false (by lia)
end
section
variable {X:Cx}
def rAppend:V->List V->Hp->VK->Prop:=fun x vs H Q=>∃ l xs y,x=.ref l/\vs=[y]/\H l=some (.lst xs)/\xs.length < AC/\Q .non (upd H l (.lst (xs++[y])))
theorem zJ8:MtM X "list.append" rAppend:=by
 intro pins s σ H x vs v us Q I rx rv h
 obtain⟨l,xs,y,rfl,rfl,hH,hz,q⟩:=h
 cases rx
 obtain⟨u,rfl,ru⟩:=rv.one
 obtain⟨z,its,n,r,hl,e⟩:=I.lstM hH
 refine DD F.slot_list_append ⟨_,e,rfl⟩ F.entry_list_append (F.args_list_append_2 _ _) (PySem.list_append l its.toArray n u (by rw[AO]; lia)) ⟨e,?_⟩
 refine⟨.non,_,I.lset (its':=its++[u]) hH e (by simp) (r.append (.cons ru .nil)) ?_,rfl,q⟩
 rw[A4,ES]
 lia
def rExtend:V->List V->Hp->VK->Prop:=fun x vs H Q=>∃ l b xs zs,x=.ref l/\vs=[.ref b]/\H l=some (.lst xs)/\H b=some (.lst zs)/\xs.length+zs.length<=AC/\Q .non (upd H l (.lst (xs++zs)))
theorem zKJ:MtM X "list.extend" rExtend:=by
 intro pins s σ H x vs v us Q I rx rv h
 obtain⟨l,b,xs,zs,rfl,rfl,hH,hB,hz,q⟩:=h
 cases rx
 obtain⟨u,rfl,ru⟩:=rv.one
 cases ru
 obtain⟨z,its,n,r,hl,e⟩:=I.lstM hH
 obtain⟨z2,its2,n2,r2,hl2,e2⟩:=I.lstM hB
 have hsz:its.toArray.size+its2.toArray.size<=AC:=by rw[AO,AO]; lia
 have hlong:¬ (!its.toArray.isEmpty && Bo (its.toArray.size+its2.toArray.size))=true:=by
  rw[notLongL hsz,IE]
  exact AZ
 refine DD F.slot_list_extend ⟨_,e,rfl⟩ F.entry_list_extend (F.args_list_extend_2 _ _)
  (AutoSeq1.list_extend_list_list_0 l its.toArray n b its2.toArray n2 hlong (by rw[AO]; lia) (by lia)) ⟨e,e2,?_⟩
 refine⟨.non,_,I.lset (its':=its++its2) hH e (by simp) (r.append r2) ?_,rfl,q⟩
 rw[A4]
 lia
def rPop:V->List V->Hp->VK->Prop:=fun x vs H Q=>∃ l xs y,x=.ref l/\vs=[]/\H l=some (.lst xs)/\xs[xs.length - 1]?=some y/\Q y (upd H l (.lst xs.dropLast))
theorem zPU:MtM X "list.pop" rPop:=by
 intro pins s σ H x vs v us Q I rx rv h
 obtain⟨l,xs,y,rfl,rfl,hH,hy,q⟩:=h
 cases rx
 have hus:=rv.zero
 subst hus
 obtain⟨z,its,n,r,hl,e⟩:=I.lstM hH
 obtain⟨u,hu,ru⟩:=r.get hy
 have hy':its.toArray[its.toArray.size - 1]?=some u:=by
  show its.toArray[its.length - 1]?=some u
  rw[← Gd,← hl]
  exact hu
 refine DD Ip ⟨_,e,rfl⟩ IY (F.args_list_pop_1 _) (MeetsSeq.list_pop_last l its.toArray n u hy' (by rw[AO]; lia)) ⟨e,?_⟩
 refine⟨y,_,I.lset (its':=its.dropLast) hH e ?_ r.dropLast ?_,ru,q⟩
 ·show its.toArray.eraseIdxIfInBounds (its.toArray.size - 1)=its.dropLast.toArray
  rw[AO,FO,zH8]
 ·rw[Gy]
  lia
def rPopAt:V->List V->Hp->VK->Prop:=fun x vs H Q=>∃ l xs i k y,x=.ref l/\vs=[.int i]/\H l=some (.lst xs)/\-(2 ^ 63)<=i/\i < 2 ^ 63/\FI i xs.length=some k/\xs[k]?=some y/\Q y (upd H l (.lst (xs.eraseIdx k)))
theorem zLO:MtM X "list.pop" rPopAt:=by
 intro pins s σ H x vs v us Q I rx rv h
 obtain⟨l,xs,i,k,y,rfl,rfl,hH,h1,h2,hk,hy,q⟩:=h
 cases rx
 obtain⟨u,rfl,ru⟩:=rv.one
 obtain⟨t,rfl⟩:=ru
 obtain⟨z,its,n,r,hl,e⟩:=I.lstM hH
 obtain⟨w,hw,rw'⟩:=r.get hy
 refine DD Ip ⟨_,e,rfl⟩ IY (F.args_list_pop_2 _ _)
  (MeetsSeq.list_pop_at l its.toArray n i t k w (J4 h1 h2) (by rw[AO,← hl]; exact hk) (by rw[← Gd]; exact hw) (by rw[AO]; lia)) ⟨e,?_⟩
 refine⟨y,_,I.lset (its':=its.eraseIdx k) hH e ?_ (r.eraseIdx k) ?_,rw',q⟩
 ·show its.toArray.eraseIdxIfInBounds k=(its.eraseIdx k).toArray
  rw[FO]
 ·have:=zEq xs k
  lia
def rCat:R2:=fun x y H Q=>∃ l b xs zs,x=.ref l/\y=.ref b/\H l=some (.lst xs)/\H b=some (.lst zs)/\xs.length+zs.length<=AC/\∀ p,H p=none->Q (.ref p) (upd H p (.lst (xs++zs)))
theorem zOu:OpR X (CW .Add) rCat:=by
 intro pins s σ H x y v u Q I rx ry h
 obtain⟨l,b,xs,zs,rfl,rfl,hH,hB,hz,q⟩:=h
 cases rx
 cases ry
 obtain⟨z,its,n,r,hl,e⟩:=I.lstM hH
 obtain⟨z2,its2,n2,r2,hl2,e2⟩:=I.lstM hB
 refine PySem.P.add_list e e2 ?_ (by rw[AO,AO]; lia)
 have ea:its.toArray++its2.toArray=(its++its2).toArray:=by simp
 rw[ea]
 exact⟨.ref _,_,I.lnew (t':=s.toks) (r.append r2) (by rw[A4]; lia),rfl,q _ I.fresh⟩
def rRep:R2:=fun x y H Q=>∃ l k xs,x=.ref l/\y=.int k/\H l=some (.lst xs)/\-(2 ^ 63)<=k/\k < 2 ^ 63/\xs.length * k.toNat<=AC /\
 ∀ p,H p=none->Q (.ref p) (upd H p (.lst (Ah k.toNat xs).flatten))
theorem zNE{α:Type}(xs:List α)(k:Nat):(Ah k xs).flatten.length=k * xs.length:=by
 induction k with
 | zero=>simp
 | succ k ih=>rw[BW,Cd,A4,ih,Nat.succ_mul,Nat.add_comm]
theorem zO5:OpR X (CW .Mult) rRep:=by
 intro pins s σ H x y v u Q I rx ry h
 obtain⟨l,k,xs,rfl,rfl,hH,h1,h2,hz,q⟩:=h
 cases rx
 obtain⟨t,rfl⟩:=ry
 obtain⟨z,its,n,r,hl,e⟩:=I.lstM hH
 have hlen:its.toArray.size * k.toNat<=AC:=by rw[AO,← hl]; exact hz
 have hcap:¬ its.toArray.size * k.toNat > (2 ^ 63 - 1) / 8:=by
  have:(AC:Nat)<=(2 ^ 63 - 1) / 8:=by decide
  lia
 have hfit:¬ (!Builtin.List.listFitsIndex k)=true:=by
  rw[J4 h1 h2]
  exact AZ
 have hlong:¬ Bo (its.toArray.size * k.toNat)=true:=by
  rw[notLongL hlen]
  exact AZ
 have hnew:HP (fun x1 x2=>x1++x2) #[] (Ah (if its.toArray.isEmpty=true then 0 else k.toNat) its.toArray)=(Ah k.toNat its).flatten.toArray:=by
  have f0:∀ m:Nat,HP (fun x1 x2=>x1++x2) #[] (Ah m its.toArray)=(Ah m its).flatten.toArray:=fun m=>by
   have:=zEg its m []
   rw[C0]at this
   exact this
  rw[f0]
  cases its with
  | nil=>simp
  | cons a r'=>rw[if_neg (by simp)]
 refine wpAny_binaryOp_repeat_ref (T:="list") (U:="int") (by decide) ⟨_,e,rfl⟩ (fun s'=>IW s' k t) noFill_list_mul F.fills_int_mul Iq repeat_list F.slot_int_index.lookup
  (DD Iq (IW s k t) F.entry_int_rmul (F.args_int_rmul_2 _ _) (int___rmul___int_list k t l its.toArray n)
   ⟨e,rfl,⟨_,e,rfl⟩,DD F.slot_list_mul ⟨_,e,rfl⟩ F.entry_list_mul (F.args_list_mul_2 _ _) (Kp l its.toArray n k t hfit hcap hlong) ⟨e,?_⟩⟩)
 rw[hnew]
 exact⟨.ref _,_,I.lnew (t':=s.toks) (r.rep k.toNat) (by rw[zNE,Nat.mul_comm]; exact hz),rfl,q _ I.fresh⟩
end
end L2
namespace Att
open PySem PySem.W PySem.Calls PyProof.Rows
theorem zD0{P:J5}{h:Heap}:∀ (ns:List Int) (vs:List AD),WellAll P h vs (ns.map WData.int)->Ei vs ns:=by
 intro ns
 induction ns with
 | nil =>
  intro vs w
  rw[Aj]at w
  cases w
  exact .nil
 | cons n ns ih =>
  intro vs w
  rw[AN]at w
  cases w with
  | cons a b =>
   cases a
   exact .cons _ _ (ih _ b)
theorem zJn{l:OpenLaw}{n:Nat}(hn:l.most=some n){P:J5}{h:Heap}{args:List WData}{vals:List AD}
  (hpre:l.row.toRowW.claim.pre args=true) (hwl:WellAll P h vals args) :
  ∃ a vs ns,vals=[Bc a]/\args=[WData.list (ns.map WData.int)]/\h.get? a=some { cls:=.type "list",data:=.seq vs.toArray }/\Ei vs ns/\ns.length<=n:=by
 have hsh:WShape.hasAll [] args [.list .int]=true:=(pre_splitW hpre).1
 have hc:l.pre.holds [] { args:=args }=true:=(pre_splitW hpre).2
 obtain⟨d,r,rfl,h1,h2⟩:=hasAllW_cons hsh
 obtain rfl:=hasAllW_nil h2
 obtain⟨xs,rfl,h3⟩:=hasW_list h1
 obtain⟨ns,rfl⟩:=items_int h3
 have hlen:ns.length<=n:=by
  unfold OpenLaw.pre at hc
  have h4:(WTm.not (.lt (.lit (.int (n:Int))) (.len (.arg 0)))).holds [] { args:=[.list (ns.map .int)] }=true:=by
   have h4:=(holds_andW hc).1
   rw[hn]at h4
   exact h4
  have h5:=condW_of h4 (w_not (w_lt w_lit (w_len_list (w_arg rfl))))
  rw[A7]at h5
  refine Nat.le_of_not_lt fun q=>?_
  have q':(n:Int) < ((ns.length:Nat):Int):=by lia
  first
   | (rw[decide_eq_true q']at h5; exact absurd h5 (by decide))
   | (simp at h5; lia)
 cases hwl with
 | cons w1 w2 =>
  cases w2
  cases w1 with
  | list ho hall=>exact⟨_,_,ns,rfl,rfl,ho,zD0 ns _ hall,hlen⟩
theorem zJs(l:OpenLaw)(args:List WData):l.row.toRowW.claim.post args (.bool true) args=true :=
 postW_of (r:=l.row.toRowW) (X:=(true == true))
  (show WShape.has [] (.bool true) .bool=true by first | rfl | decide | simp[WShape.has,WShape.arms,WShape.armsAll])
  (show (WTm.eq .res (.lit (.bool true))).value [] { args:=args,res:=some (.bool true),after:=args }=some (.bool (true == true)) from w_eq_bool (w_res rfl) w_lit) rfl
theorem attach_call{l:OpenLaw}{n:Nat}{q:Ai}{loose:List Str}{XP:(Str->Option AD)->Heap->Prop}{YP:Ax->Heap->Prop}{d:DefRec}
  (hn:l.most=some n) (hdf:d.params.defaults=[])
  (call:∀ (w:Ax) (s₀ s₁:AG) (mg mb:Str->Option AD) (fa:Addr) (o:Obj) (pm cd doc:AD) (a:Addr) (vs:List AD) (ns:List Int),
   Ground q loose [] XP w s₀ mg mb s₁.heap->YP w s₁.heap ->
   s₁.heap.get? fa=some o->o.data=.func (docDef d.name d.params d.body d.scope pm cd doc)->s₁.heap.CodeRec cd d.name->mg d.name=some (.ref fa) ->
   s₁.heap.get? a=some { cls:=.type "list",data:=.seq vs.toArray }->Ei vs ns->ns.length<=n->s₁.gens=#[] ->
   DR (model l.prog w) Fu (.call (.ref fa) ⟨[.ref a],[]⟩) (fun r s'=>r=.ok (.ret (.bool true))/\OldK s₁.heap s'.heap/\s'.os=s₁.os/\Ef s'.gens) s₁) :
  WalkO q loose XP YP l.row.toRowW d [] (fun f vs=>HA f vs):=by
 intro w s₀ s₁ mg mb G Y fa o pm cd doc dV kV ho hd hcd hD hmg hg args vals as hpre hlay hrd hwl hlo
 obtain rfl:dV=.none:=Dflts.none hD hdf
 obtain rfl:kV=.none:=Dflts.noKw hD
 obtain⟨a,vs,ns,rfl,rfl,hobj,hints,hlen⟩:=zJn hn hpre hwl
 refine enter_call (Dw (call w s₀ s₁ mg mb fa o pm cd doc a vs ns G Y ho (fd_plain hd) hcd hmg hobj hints hlen hg) fun r s' hq=>?_)
 obtain⟨rfl,h2,h3,h4⟩:=hq
 exact⟨.inl ⟨.bool true,.bool true,[],rfl,fun _=>rfl,.bool true,zJs l _,fun _=>⟨JM,fun _ hm=>(nomatch hm)⟩⟩,h2,h3,h4⟩
end Att
namespace L2
open PySem PySem.Spec PyProof.Rows
theorem zEr:∀ {vs:List AD} {ns:List Int},Ei vs ns->Vals (ns.map V.int) vs
 | _,_,.nil=>.nil
 | _,_,.cons n t h=>.cons ⟨t,rfl⟩ (zEr h)
noncomputable def defArgs (s:Stmt):HM:=match s with
 | .FunctionDef _ a _ _ _ _ _ _ _ _=>a
 | _=>{ posonlyargs:=[],args:=[],vararg:=none,kwonlyargs:=[],kw_defaults:=[],kwarg:=none,defaults:=[] }
noncomputable def defBody (s:Stmt):List Stmt:=match s with
 | .FunctionDef _ _ b _ _ _ _ _ _ _=>b
 | _=>[]
noncomputable def defScope (s:Stmt):Df:=match s with
 | .FunctionDef _ _ _ _ _ _ sc _ _ _=>sc
 | _=>{ kind:=.function,names:=[],isGenerator:=false,isCoroutine:=false }
noncomputable abbrev CX0:CXT:=fun _ _ _ _ _ _=>False
noncomputable abbrev E0:XK:=fun _ _ _=>False
theorem pass0{X:Cx}:Passes CX0 X E0:=fun _ _ _ _ _ _ _ h=>h.elim
structure Fun(K:AM)(x qual:Str)(st:Stmt)(f:Addr)(fd:Ab):Prop where
 ex:∃ (oc:AD) (od:Option Addr) (kV doc pm:AD) (an:Option Addr) (cdv ct:AD) (osl:Array (Option AD)),
  fd=CA x qual (defArgs st) (defBody st) (defScope st) .none kV doc pm an cdv ct/\K.lookup f=some ⟨oc,od,.func fd,osl⟩/\Bt K cdv qual=true
 kp:BN K (.ref f)=true
section
variable {P:Ai}{w:Ax}{K:AM}{mg:Str->Option AD}{base:Heap}
theorem Fun.ok{x qual:Str}{st:Stmt}{f:Addr}{fd:Ab}{N ps:List Str}{k:Nat}{sp:Sp}(F:Fun K x qual st f fd)(S:FnScope N ps (defScope st))(len:∀ vs H Q E,sp vs H Q E->vs.length=ps.length)
  (hbody:∀ (cdv:AD) (A:BE) (outer:List Env) (s:AG) (H:Hp) (vs:List V) (Q:VK) (E:XK),Room k (A.deeper (E4 qual (defScope st) s.heap.objs.size f cdv))->sp vs H Q E ->
   ∃ t,PSs (cxOf CX0 P w K mg base N qual (defScope st) f cdv A outer s H E).nox (defBody st) t/\t { nx:=fun _ H'=>Q .non H',rt:=Q } (start N vs) H):FnOk P w K mg base CX0 (k+1) f fd ps sp:=by
 obtain⟨oc,od,kV,doc,pm,an,cdv,ct,osl,rfl,lk,hcd⟩:=F.ex
 refine zIS lk hcd S len fun A outer s H vs Q E hr hsp=>?_
 obtain⟨t,h,q⟩:=hbody cdv A outer s H vs Q E hr hsp
 exact⟨t,h.nox,q⟩
theorem Fun.binds{x qual:Str}{st:Stmt}{f:Addr}{fd:Ab}{ps:List Str}(F:Fun K x qual st f fd)
  (h:∀ (kV doc pm:AD) (an:Option Addr) (cdv ct:AD) (us:List AD),us.length=ps.length->Hx (CA x qual (defArgs st) (defBody st) (defScope st) .none kV doc pm an cdv ct) ⟨us,[]⟩=pure (ps.zip us)):Binds K fd ps []:=by
 obtain⟨oc,od,kV,doc,pm,an,cdv,ct,osl,rfl,lk,hcd⟩:=F.ex
 exact .all (h kV doc pm an cdv ct)
theorem zFj{x qual:Str}{st:Stmt}{f:Addr}{oc:AD}{od an:Option Addr}{osl:Array (Option AD)}{kV doc pm cdv ct:AD}(l:K.lookup f=some ⟨oc,od,.func (CA x qual (defArgs st) (defBody st) (defScope st) .none kV doc pm an cdv ct),osl⟩)
  (c:Bt K cdv qual=true) (k:BN K (.ref f)=true):Fun K x qual st f (CA x qual (defArgs st) (defBody st) (defScope st) .none kV doc pm an cdv ct):=⟨⟨oc,od,kV,doc,pm,an,cdv,ct,osl,rfl,l,c⟩,k⟩
end
section
variable {X:Cx}
theorem pv(i:Nat){x:Str}{pos:Pos}(hN:X.N[i]?=some x:=by rfl)(hv:Vis X.env.scope x:=by first | exact DY rfl | exact Cf (DY rfl) | exact Cf (Cf rfl))(hd:(x == ("__debug__":Str))=false:=by decide)
  (hcd:(x == ("__classdict__":Str))=false:=by decide):PE X (.Name x pos) (tVar i):=zCk hN hv hd hcd
end
def Same (H H':Hp):Prop:=∀ b o,H b=some o->H' b=some o
theorem Same.refl(H:Hp):Same H H:=fun _ _ h=>h
end L2
set_option maxHeartbeats 4000000
namespace L2
open PySem PySem.Spec PyProof.Rows
noncomputable def cloOf (cells:List (Str×Addr)):List (Str×CQ)->List (Str×Addr)->List (Str×Addr)
 | [],acc=>acc
 | (n,k)::r,acc=>if k == .free then cloOf cells r ((n,(cells.lookup n).getD 0)::acc) else cloOf cells r acc
theorem zE3(h:∀ x∈scope.names,x.2=.free->∃ c,env.cells.lookup x.1=some c):Ej scope env=pure (cloOf env.cells scope.names []):=by
 have go:∀ (names:List (Str×CQ)) (acc:List (Str×Addr)),(∀ x∈names,x.2=.free->∃ c,env.cells.lookup x.1=some c) ->
   (forIn names acc fun (x:Str×CQ) (cs:List (Str×Addr))=>if (x.2 == BO)=true then (do let c ← cellOf env x.1; pure (Cr ((x.1,c)::cs))) else (pure (Cr cs):Sem _))=(pure (cloOf env.cells names acc):Sem _):=by
  intro names
  induction names with
  | nil=>intro acc _; rfl
  | cons x r ih =>
   intro acc hx
   obtain⟨n,k⟩:=x
   rw[Dg]
   have hr:=fun acc=>ih acc fun y hy=>hx y (AR _ hy)
   unfold cloOf
   by_cases hk:(k == BO)=true
   ·obtain⟨c,hc⟩:=hx (n,k) AY (by simpa using hk)
    have hc':env.cells.lookup n=some c:=hc
    have e:cellOf env n=pure c:=by unfold cellOf; rw[hc']
    simp only[hk,if_true,e,hc',FJ,pure_bind]
    exact hr _
   ·simp only[hk,if_false,pure_bind]
    exact hr _
 unfold Ej
 have:=go scope.names [] h
 simp only[bind_pure]
 exact this
theorem zBS:∀ (names:List (Str×CQ)) (acc:List (Str×Addr)),(cloOf cells names acc).lookup x=some c->((x,BO)∈names/\c=(cells.lookup x).getD 0)\/acc.lookup x=some c
 | [],acc,h=>.inr h
 | (n,k)::r,acc,h=>by
  unfold cloOf at h
  by_cases hk:(k == BO)=true
  ·rw[if_pos hk]at h
   have hk':k=.free:=by simpa using hk
   subst hk'
   rcases zBS r _ h with ⟨a,b⟩ | h'
   ·exact .inl ⟨AR _ a,b⟩
   ·clear h
    rw[Be]at h'
    cases e:x == n with
    | true =>
         rw[e]at h'; have q:x=n:=by simpa using e
         subst q
         have q2:(cells.lookup x).getD 0=c:=Au h'
         exact .inl ⟨AY,q2.symm⟩
    | false=>rw[e]at h'; exact .inr h'
  ·rw[if_neg hk]at h
   rcases zBS r _ h with ⟨a,b⟩ | h
   ·exact .inl ⟨AR _ a,b⟩
   ·exact .inr h
theorem zCX:∀ (names:List (Str×CQ)) (acc:List (Str×Addr)),((x,BO)∈names\/(acc.lookup x).isSome=true)->((cloOf cells names acc).lookup x).isSome=true
 | [],acc,h=>h.elim (fun z=>nomatch z) id
 | (n,k)::r,acc,h=>by
  unfold cloOf
  by_cases hk:(k == BO)=true
  ·rw[if_pos hk]
   refine zCX r _ ?_
   by_cases e:x=n
   ·subst e; exact .inr (by simp)
   ·rcases h with h | h
    ·rcases AL.mp h with h | h
     ·cases h; exact absurd rfl e
     ·exact .inl h
    ·refine .inr ?_
     rw[Be]
     have:(x == n)=false:=by simpa using e
     rw[this]; exact h
  ·rw[if_neg hk]
   refine zCX r _ ?_
   rcases h with h | h
   ·rcases AL.mp h with h | h
    ·cases h; exact absurd rfl hk
    ·exact .inl h
   ·exact .inr h
theorem zBa:∀ (names:List (Str×CQ)) (n:Nat) (acc:List (Str×Addr)),(BK n names acc).lookup x=some c->(n<=c/\(x,Bg)∈names)\/acc.lookup x=some c
 | [],_,acc,h=>.inr h
 | (y,k)::r,n,acc,h=>by
  unfold BK at h
  by_cases hk:(k == Bg)=true
  ·rw[if_pos hk]at h
   have hk':k=.cell:=by simpa using hk
   subst hk'
   rcases zBa r _ _ h with ⟨a,b⟩ | h'
   ·exact .inl ⟨by lia,AR _ b⟩
   ·clear h
    rw[Be]at h'
    cases e:x == y with
    | true =>
         rw[e]at h'; have q:x=y:=by simpa using e
         have q2:n=c:=Au h'
         subst q q2; exact .inl ⟨AK _,AY⟩
    | false=>rw[e]at h'; exact .inr h'
  ·rw[if_neg hk]at h
   rcases zBa r _ _ h with ⟨a,b⟩ | h
   ·exact .inl ⟨a,AR _ b⟩
   ·exact .inr h
theorem zFI:∀ (names:List (Str×CQ)) (n:Nat) (acc:List (Str×Addr)),(x,c)∈BK n names acc->n<=c\/(x,c)∈acc
 | [],_,acc,h=>.inr h
 | (y,k)::r,n,acc,h=>by
  unfold BK at h
  by_cases hk:(k == Bg)=true
  ·rw[if_pos hk]at h
   rcases zFI r _ _ h with a | h
   ·exact .inl (by lia)
   ·rcases AL.mp h with h | h
    ·cases h; exact .inl (AK _)
    ·exact .inr h
  ·rw[if_neg hk]at h
   exact zFI r _ _ h
theorem zFS:∀ (names:List (Str×CQ)) (n:Nat) (acc:List (Str×Addr)),(∀ p∈acc,p.2 < n)->n<=c->(x,c)∈BK n names acc->(y,c)∈BK n names acc->x=y
 | [],n,acc,ha,hc,h1,_=>by have q:c < n:=ha _ h1; exact absurd (Aa q hc) (BJ _)
 | (z,k)::r,n,acc,ha,hc,h1,h2=>by
  unfold BK at h1 h2
  by_cases hk:(k == Bg)=true
  ·rw[if_pos hk]at h1 h2
   have ha':∀ p∈(z,n)::acc,p.2 < n+1:=fun p hp=>by
    rcases AL.mp hp with h | h
    ·subst h; exact CT _
    ·exact DG (ha p h)
   by_cases hcn:n+1<=c
   ·exact zFS r _ _ ha' hcn h1 h2
   ·have hcn':c=n:=Nat.le_antisymm (GG.mp hcn) hc
    subst hcn'
    have g:∀ w,(w,c)∈BK (c+1) r ((z,c)::acc)->w=z:=fun w hw=>by
     rcases zFI r _ _ hw with a | a
     ·exact absurd a (Nat.not_succ_le_self _)
     ·rcases AL.mp a with a | a
      ·cases a; rfl
      ·have:=ha _ a; exact absurd this (BJ _)
    rw[g x h1,g y h2]
  ·rw[if_neg hk]at h1 h2
   exact zFS r _ _ ha hc h1 h2
theorem zD9:∀ (names:List (Str×CQ)) (h:Heap) (acc:List (Str×Addr)),(∀ p∈acc,∃ v,h.IsCell p.2 v)->(x,c)∈BK h.objs.size names acc->∃ v,(EZ h names).IsCell c v
 | [],_,acc,ha,hm=>ha _ hm
 | (z,k)::r,h,acc,ha,hm=>by
  unfold BK at hm
  unfold EZ
  by_cases hk:(k == Bg)=true
  ·rw[if_pos hk]at hm ⊢
   refine zD9 r (h.push { cls:=.type "cell",data:=.cell none }) ((z,h.objs.size)::acc) (fun p hp=>?_) (by rw[BS]; exact hm)
   rcases AL.mp hp with e | e
   ·subst e; exact⟨none,_,AQ _ rfl,rfl⟩
   ·obtain⟨v,q⟩:=ha p e
    exact⟨v,q.keeps fun b o e=>AE _ e⟩
  ·rw[if_neg hk]at hm ⊢
   exact zD9 r h acc ha hm
theorem zGF
  (hQ:Q (newEnv scope s.heap.objs.size globals (BK (s.heap.objs.size+1) scope.names cl) qual none .none (some env) Dj) { s with heap:=EZ (s.heap.push { cls:=.type "dict",data:=.dict #[] }) scope.names }) :
  AV M A (J6 scope globals cl [] qual none .none (some env)) Q E s:=by
 simp only[J6,Gz,if_true]
 refine AB (wpAny_alloc ?_)
 refine AB (wpAny_layCells _ (fun name kind cells=>by cases hkc:kind == Bg <;> simp[hkc]) _ _ _ _ ?_)
 rw[show ({ s with heap:=s.heap.push { cls:=.type "dict",data:=.dict #[] } }:AG).heap.objs.size=s.heap.objs.size+1 from BS ..]
 refine AB ?_
 rw[Do]
 exact AH (AH hQ)
noncomputable def compOk (N N':List Str) (ix:List (Option Nat)) (outer names:List (Str×CQ)):Bool :=
 decide (N'.length=ix.length) && ((N'.zip ix).all fun p=>match p.2 with | none=>true | some j=>decide (N[j]?=some p.1) && names.contains (p.1,BO)) &&
 (names.all fun p=>(p.2 != .free || outer.lookup p.1 == some .cell || outer.lookup p.1 == some .free) && (p.2 != .local || names.lookup p.1 == some .local) && (p.2 != .cell || names.lookup p.1 == some .cell) && (p.2 != .free || names.lookup p.1 == some .free))
noncomputable def frm (ix:List (Option Nat)) (σ:St):St:=ix.map fun o=>o.bind fun j=>(σ[j]?).join
noncomputable def cxC (X:Cx) (N:List Str) (scope:Df) (C:Addr) (cs:List (Str×Addr)) (s:AG) (H:Hp) (ex:List Addr):Cx where
 prog:=X.prog
 w:=X.w
 K:=X.K
 mg:=X.mg
 base:=X.base
 A:=X.A
 N:=N
 s₀:=s
 H₀:=H
 env:=E7 scope cs C X.env
 outer:=X.stack
 stack:=X.stack
 ex:=ex
 fn:=fun x=>scope.names.lookup x == some .cell
 calm:=X.calm
 pn:=[]
 xe:=fun _ _=>False
structure CompOk(X:Cx)(N':List Str)(ix:List (Option Nat))(scope:Df):Prop where
 kind:scope.kind=.function
 ok:compOk X.N N' ix X.env.scope.names scope.names=true
section
variable {X:Cx}{N':List Str}{ix:List (Option Nat)}{scope:Df}
theorem CompOk.len(S:CompOk X N' ix scope):N'.length=ix.length:=by
 have h:=S.ok; unfold compOk at h; simp only[An,decide_eq_true_eq]at h; exact h.1.1
theorem CompOk.name(S:CompOk X N' ix scope)(hp:p∈scope.names) :
  (p.2=.free->X.env.scope.names.lookup p.1=some .cell\/X.env.scope.names.lookup p.1=some .free)/\(p.2=.local->scope.names.lookup p.1=some .local)/\(p.2=.cell->scope.names.lookup p.1=some .cell)/\(p.2=.free->scope.names.lookup p.1=some .free):=by
 have h:=S.ok; unfold compOk at h; simp only[An]at h
 have q:=Aw.mp h.2 p hp
 simp only[An,EL,bne_iff_ne,beq_iff_eq,ne_eq]at q
 obtain⟨⟨⟨a,b⟩,c⟩,d⟩:=q
 refine⟨fun e=>?_,fun e=>?_,fun e=>?_,fun e=>?_⟩
 ·rcases a with (a | a) | a
  ·exact absurd e a
  ·exact .inl a
  ·exact .inr a
 ·exact b.resolve_left fun z=>z e
 ·exact c.resolve_left fun z=>z e
 ·exact d.resolve_left fun z=>z e
theorem CompOk.at(S:CompOk X N' ix scope){i j:Nat}{x:Str}(h1:N'[i]?=some x)(h2:ix[i]?=some (some j)):X.N[j]?=some x/\(x,BO)∈scope.names:=by
 have h:=S.ok; unfold compOk at h; simp only[An]at h
 have hz:(x,some j)∈N'.zip ix:=by
  have:(N'.zip ix)[i]?=some (x,some j):=by rw[Dv]; exact⟨h1,h2⟩
  exact DX this
 have q:=Aw.mp h.1.2 _ hz
 simp only[An,decide_eq_true_eq,List.contains_iff_mem]at q
 exact q
theorem zOe{σ:St}{i:Nat}{v:V}(h:(frm ix σ)[i]?=some (some v)):∃ j,ix[i]?=some (some j)/\σ[j]?=some (some v):=by
 unfold frm at h
 rw[Af]at h
 cases e:ix[i]? with
 | none=>rw[e]at h; cases h
 | some o =>
  rw[e]at h
  cases o with
  | none=>cases h
  | some j =>
   have h':(σ[j]?).join=some v:=Au h
   refine⟨j,rfl,?_⟩
   cases e2:σ[j]? with
   | none=>rw[e2]at h'; cases h'
   | some w=>rw[e2]at h'; rw[show w=some v from h']
theorem zB9{env:Env}:∀ (names:List (Str×CQ)) (x:Str),
  (names.map fun (n,k)=>if (k == BO && env.scope.kind == .function && env.kindOf n == some .cell) then (n,Bg) else (n,k)).lookup x =
   match names.lookup x with
   | some .free=>if (env.scope.kind == .function && env.kindOf x == some .cell) then some Bg else some .free
   | o=>o
 | [],_=>rfl
 | (n,k)::r,x=>by
  have ih:=zB9 (env:=env) r x
  rw[AN]
  show JN x ((if (k == BO && env.scope.kind == .function && env.kindOf n == some .cell)=true then (n,Bg) else (n,k))::_)=_
  cases hx:x == n with
  | true =>
   have e:x=n:=by simpa using hx
   subst e
   simp only[Be,beq_self_eq_true]
   cases k <;> by_cases hc:(env.scope.kind == .function && env.kindOf x == some .cell)=true <;> simp[Be,hc] <;> simp_all
  | false =>
   simp only[Be,hx]
   rw[← ih]
   split <;> simp only[Be,hx]
theorem kindC(x:Str):(E7 scope cs C X.env).kindOf x =
   match scope.names.lookup x with
   | some .free=>if (X.env.scope.kind == .function && X.env.kindOf x == some .cell) then some Bg else some .free
   | o=>o:=zB9 scope.names x
end
theorem zLA{X:Cx}{N':List Str}{ix:List (Option Nat)}{scope:Df}(S:CompOk X N' ix scope){pins:List (Addr×Obj)}{σ:St}{H:Hp}{s:AG}{fp:List Addr}{D:Addr}{o:Obj}
  (I:Inv X pins σ H s) (hf:∀ b∈fp,FpOk X pins H b) (ho:∀ b∈fp,∃ o,s.heap.get? b=some o) (hc:X.calm=true) {h3:Heap} {C:Addr} (hk3:∀ b u,s.heap.get? b=some u->h3.get? b=some u) (hC:C=h3.objs.size) (hs3:s.heap.objs.size<=h3.objs.size) {h4:Heap}
  (h4e:h4=EZ (h3.push { cls:=.type "dict",data:=.dict #[] }) scope.names) {t4:Nat} :
  Inv (cxC X N' scope C (BK (C+1) scope.names (cloOf X.env.cells scope.names [])) s H fp) [] (frm ix σ) H { s with heap:=h4,toks:=t4 }:=by
 have hsz:s.heap.objs.size<=C:=by rw[hC]; exact hs3
 have hk4:∀ b u,h3.get? b=some u->h4.get? b=some u:=fun b u e=>by rw[h4e]; exact Er _ _ b u (AE _ e)
 have hk:∀ b u,s.heap.get? b=some u->h4.get? b=some u:=fun b u e=>hk4 b u (hk3 b u e)
 have hpC:(h3.push { cls:=.type "dict",data:=.dict #[] }).objs.size=C+1:=by rw[hC,BS]
 have clo:∀ x c,(cloOf X.env.cells scope.names []).lookup x=some c->X.env.cells.lookup x=some c:=fun x c h=>by
  rcases zBS scope.names [] h with ⟨hm,e⟩ | h
  ·obtain⟨c',hc'⟩:=I.ok.has x ((S.name hm).1 rfl)
   rw[hc']at e ⊢
   rw[e]; rfl
  ·cases h
 have cloM:∀ p∈cloOf X.env.cells scope.names [],∃ x,(x,BO)∈scope.names/\p.1=x/\X.env.cells.lookup x=some p.2:=by
  have go:∀ (names:List (Str×CQ)) (acc:List (Str×Addr)),(∀ q∈names,q∈scope.names)->(∀ p∈acc,∃ x,(x,BO)∈scope.names/\p.1=x/\X.env.cells.lookup x=some p.2) ->
    ∀ p∈cloOf X.env.cells names acc,∃ x,(x,BO)∈scope.names/\p.1=x/\X.env.cells.lookup x=some p.2:=by
   intro names
   induction names with
   | nil=>intro acc _ ha; exact ha
   | cons q r ih =>
    intro acc hn ha
    obtain⟨n,k⟩:=q
    unfold cloOf
    by_cases hkf:(k == BO)=true
    ·rw[if_pos hkf]
     have e:k=.free:=by simpa using hkf
     subst e
     refine ih _ (fun q hq=>hn q (AR _ hq)) fun p hp=>?_
     rcases AL.mp hp with e | hp
     ·subst e
      have hm:=hn (n,.free) AY
      obtain⟨c',hc'⟩:=I.ok.has n ((S.name hm).1 rfl)
      refine⟨n,hm,rfl,?_⟩
      show JN n X.env.cells=some ((X.env.cells.lookup n).getD 0)
      rw[hc']; rfl
     ·exact ha p hp
    ·rw[if_neg hkf]
     exact ih _ (fun q hq=>hn q (AR _ hq)) ha
  exact go scope.names [] (fun _ h=>h) fun p hp=>nomatch hp
 have cellLt:∀ x c,X.env.cells.lookup x=some c->c < s.heap.objs.size:=fun x c h=>by
  obtain⟨v,q⟩:=I.cell x c h; exact q.lt
 have split:∀ x c,(BK (C+1) scope.names (cloOf X.env.cells scope.names [])).lookup x=some c->(C+1<=c/\(x,Bg)∈scope.names)\/X.env.cells.lookup x=some c:=fun x c h=>by
  rcases zBa scope.names _ _ h with h | h
  ·exact .inl h
  ·exact .inr (clo x c h)
 have cells4:∀ x c,(BK (C+1) scope.names (cloOf X.env.cells scope.names [])).lookup x=some c->∃ v,h4.IsCell c v:=fun x c h=>by
  rw[h4e]
  refine zD9 (x:=x) scope.names _ (cloOf X.env.cells scope.names []) (fun p hp=>?_) (by rw[hpC]; exact BG h)
  obtain⟨y,_,_,e⟩:=cloM p hp
  obtain⟨v,q⟩:=I.cell y p.2 e
  exact⟨v,q.keeps fun b u e=>AE _ (hk3 b u e)⟩
 have bLt:∀ b∈fp,b < s.heap.objs.size:=fun b hb=>by obtain⟨u,e⟩:=ho b hb; exact AJ e
 have nfree:∀ b,s.heap.objs.size<=b->H b=none:=fun b hb=>I.hok.fresh hb
 have HC:C < h4.objs.size:=by
  have:h4.get? C=some { cls:=.type "dict",data:=.dict #[] }:=by
   rw[h4e]; refine Er _ _ _ _ ?_
   rw[hC]; exact AQ _ rfl
  exact AJ this
 refine⟨⟨I.ok.mod,?_,I.ok.glob,I.ok.blt,hsz,fun x y c h1 h2=>?_,fun x hx=>?_,fun x c hx h=>?_,fun h=>I.ok.hd hc,I.ok.frames,.inl rfl,fun b hb=>⟨?_,fun x c h=>?_⟩,fun b u e=>I.bs b u e,Al I.ok.bsz I.sz,fun b u e hb=>?_,fun b hb hz=>?_,I.stack,I.stkFree⟩,
  rfl,I.bare,Un.kept hk,⟨fun _=>none,?_,fun i x v h1 h2 h3=>?_⟩,cells4,?_,fun x c h=>?_,fun p hp=>absurd (show p∈([]:List (Addr×Obj)) from hp) (by simp),I.hok.kept hk,?_⟩
 ·exact S.kind
 ·-- injective
  have m1:=BG h1
  have m2:=BG h2
  rcases split x c h1 with ⟨a,_⟩ | a
  ·exact zFS scope.names (C+1) _ (fun p hp=>by obtain⟨y,_,_,e⟩:=cloM p hp; exact DG (Aa (cellLt y _ e) hsz)) a m1 m2
  ·rcases split y c h2 with ⟨b,_⟩ | b
   ·exact absurd (Aa (cellLt x c a) (Al hsz (Dz b))) (BJ _)
   ·exact I.ok.inj x y c a b
 ·-- has
  have hx':(E7 scope (BK (C+1) scope.names (cloOf X.env.cells scope.names [])) C X.env).kindOf x=some .cell\/(E7 scope (BK (C+1) scope.names (cloOf X.env.cells scope.names [])) C X.env).kindOf x=some .free:=hx
  rw[kindC]at hx'
  have key:scope.names.lookup x=some .cell\/scope.names.lookup x=some .free:=by
   cases e:scope.names.lookup x with
   | none=>rw[e]at hx'; rcases hx' with z | z <;> cases z
   | some k =>
    rw[e]at hx'
    cases k <;> first | exact .inl rfl | exact .inr rfl | (rcases hx' with z | z <;> cases z)
  refine Cu.mp (C4 scope.names _ _ ?_)
  rcases key with k | k
  ·exact .inl k
  ·exact .inr (zCX scope.names [] (.inl (BG k)))
 ·-- own cells are new
  have hx':(scope.names.lookup x == some Bg)=true:=hx
  have hx'':scope.names.lookup x=some .cell:=by simpa using hx'
  rcases zBa scope.names _ _ h with ⟨a,_⟩ | a
  ·exact Al hsz (Dz a)
  ·rcases zBS scope.names [] a with ⟨hm,_⟩ | z
   ·have:=(S.name hm).2.2.2 rfl
    rw[hx'']at this; cases this
   ·cases z
 ·exact Ag (Aa (bLt b hb) hsz)
 ·rcases split x c h with ⟨a,_⟩ | a
  ·exact BZ (Aa (bLt b hb) (Al hsz (Dz a)))
  ·exact (hf b hb).2.2.2.2.1 x c a
 ·rcases (hf b hb).2.2.2.1 with z | z
  ·exact I.ok.noex b u e z
  ·exact absurd (Aa (AJ e) (Al I.ok.bsz z)) (BJ _)
 ·rcases AL.mp (I.stkSub b hz) with e | e
  ·exact (hf b hb).2.1 e
  ·exact (hf b hb).2.2.1 e
 ·-- the block's names
  rw[h4e]
  show (EZ (h3.push { cls:=.type "dict",data:=.dict #[] }) scope.names).Ns C (fun _=>none)
  rw[hC]
  exact (Heap.Ns.new h3 (.type "dict")).keeps (Er _ _)
 ·obtain⟨j,e1,e2⟩:=zOe h2
  obtain⟨hn,hm⟩:=S.at h1 e1
  have hkx:=(S.name hm).2.2.2 rfl
  have hox:=(S.name hm).1 rfl
  obtain⟨m,hns,hl⟩:=I.loc
  have vis:Vis X.env.scope x:=by rcases hox with z | z; exact .inr (.inl z); exact .inr (.inr z)
  obtain⟨u,r,l⟩:=hl j x v hn e2 vis
  refine⟨u,r,.inr ⟨?_,?_⟩⟩
  ·show (E7 scope _ C X.env).kindOf x=some .cell\/(E7 scope _ C X.env).kindOf x=some .free
   rw[kindC,hkx]
   dsimp only
   split
   ·exact .inl rfl
   ·exact .inr rfl
  ·rcases l with ⟨k,_⟩ | ⟨_,c,hc',hcell⟩
   ·have k':X.env.scope.names.lookup x=some .local:=k
    rcases hox with z | z <;> rw[z]at k' <;> cases k'
   ·have hs:((BK (C+1) scope.names (cloOf X.env.cells scope.names [])).lookup x).isSome=true:=C4 scope.names _ _ (.inr (zCX scope.names [] (.inl hm)))
    obtain⟨c',e'⟩:=Cu.mp hs
    have:c'=c:=by
     rcases split x c' e' with ⟨_,q⟩ | q
     ·have:=(S.name q).2.2.1 rfl
      rw[show scope.names.lookup x=some .free from hkx]at this; cases this
     ·rw[hc']at q; exact (Au q).symm
    subst this
    exact⟨c',e',hcell.keeps hk⟩
 ·exact nfree C hsz
 ·rcases split x c h with ⟨a,_⟩ | a
  ·exact nfree c (Al hsz (Dz a))
  ·exact I.freeC x c a
 ·show (frm ix σ).length=N'.length
  unfold frm; rw[A7,S.len]
theorem zFg(I:Nat->AG->Prop)
  (turn:∀ n s,I n s->AV (model prog w) A (DC it) (fun r s₁=>match r with
   | none=>R (.ok .next) s₁
   | some v=>AV (model prog w) A (Ep target it v) (fun _ s₁'=>AV (model prog w) A (assign target env v) (fun _ s₂ =>
     AV (model prog w) A (forIn ifs true fun c r=>if r=true then do let ok ← HU c env (eval c env); pure (Cr ok) else pure (Cr r)) (fun ok s₃ =>
      if ok=true then AV (model prog w) A (eval elt env) (fun x s₄ =>
       AV (model prog w) A (call (.builtin "list.append") [acc,x]) (fun _ s₅=>∃ m,m < n/\I m s₅) (fun _ _=>False) s₄) (fun _ _=>False) s₃
      else ∃ m,m < n/\I m s₃) (fun _ _=>False) s₂) (fun _ _=>False) s₁') (fun _ _=>False) s₁) (fun _ _=>False) s)
  (n:Nat) (h:I n s) :
  DR (model prog w) A (.compLoop (.ListComp elt [⟨target,iter,ifs,0⟩] scope pos) 0 it acc env) R s:=by
 refine codeAny_loop rfl I (fun n s hI=>?_) n h
 show AV _ A ((compTurn (.ListComp elt [⟨target,iter,ifs,0⟩] scope pos) 0 it acc env).onRaise (fun x=>do noteFrame x env; theTreesLotGoes x)) _ _ s
 refine wpAny_noted ?_
 rw[compTurn_list]
 refine AB (FU (AB (Bj (turn n s hI) (fun r s₁ h₁=>?_) fun _ _ h'=>h'.elim)))
 cases r with
 | none=>exact AH h₁
 | some v =>
  refine AB (Bj h₁ (fun _ s₁' h₁'=>?_) fun _ _ h'=>h'.elim)
  refine AB (Bj h₁' (fun _ s₂ h₂=>AB (Bj h₂ (fun ok s₃ h₃=>?_) fun _ _ h'=>h'.elim)) fun _ _ h'=>h'.elim)
  cases ok with
  | false=>exact AH ⟨rfl,h₃⟩
  | true =>
   exact AB (AB (Bj h₃ (fun x s₄ h₄=>AB (Bj h₄ (fun _ s₅ h₅=>AH (AH ⟨rfl,h₅⟩)) fun _ _ h'=>h'.elim)) fun _ _ h'=>h'.elim))
noncomputable def PTs (X:Cx) (ifs:List Expr) (t:TT):Prop :=
 ∀ (pins:List (Addr×Obj)) (s:AG) (σ:St) (H:Hp) (Q:Bool->Hp->Prop),Inv X pins σ H s->t σ H Q ->
  AV (model X.prog X.w) X.A (forIn ifs true fun c r=>if r=true then do let ok ← HU c X.env (eval c X.env); pure (Cr ok) else pure (Cr r)) (TP X pins σ Q) X.xe s
noncomputable def tYes:TT:=fun _ H Q=>Q true H
theorem zN6:PTs X [] tYes:=fun _ _ _ H _ I h=>wpAny_tests_nil ⟨H,I,h⟩
theorem zM7(h:PT X c t):PTs X [c] t:=fun pins s σ H Q I hw=>wpAny_tests_one (h pins s σ H Q I hw)
def CompW (J:It) (ix:List (Option Nat)) (g:TG) (tc:TT) (te:TE) (σ:St) (H1:Hp) (Q:VK):Prop:=∃ W:Nat->Nat->List V->St->Hp->Prop,(∃ m,W 0 m [] (frm ix σ) H1) /\
 ∀ i m ys σ' H',W i m ys σ' H' ->
  (J.stop i H'/\ys.length<=AC/\∀ D,H' D=none->Q (.ref D) (upd H' D (.lst ys))) \/
  (J.go i H'/\ys.length < AC/\∃ N:List V->St->Hp->Prop,(∀ ys' σ2 H2,N ys' σ2 H2->∃ m',m' < m/\W (i+1) m' ys' σ2 H2) /\
   ∀ x H2,J.yld i H' x H2->g x σ' H2 fun σ2 H3=>tc σ2 H3 fun b H4=>if b=true then te σ2 H4 fun v H5=>N (ys++[v]) σ2 H5 else N ys σ2 H4)
noncomputable def tComp (wi:TI) (ix:List (Option Nat)) (g:TG) (tc:TT) (te:TE):TE:=fun σ H Q=>wi σ H fun J H1=>CompW J ix g tc te σ H1 Q
theorem HOk.adopt(x:HOk P w H h)(hn:H a=none)(new:ObjOk P w (upd H a o) h a o):HOk P w (upd H a o) h:=fun b u e=>by
 by_cases hb:b=a
 ·subst hb; rw[zAO]at e; cases e; exact new
 ·rw[zAB hb]at e
  exact (x b u e).stay (fun c v _ q=>q) (fun c q=>by rw[zAB (zAE q hn)]; exact q) fun c xs q=>by rw[zAB (zAE q hn)]; exact q
section
variable {X:Cx}{N':List Str}{ix:List (Option Nat)}{scope:Df}{elt tg iter:Expr}{ifs:List Expr}{pos:Pos}{wi:TI}{g:TG}{tc:TT}{te:TE}
theorem zEo(S:CompOk X N' ix scope)(hc:X.calm=true)(hi:PI X tg iter wi)
  (hg:∀ C cs s H ex,PG (cxC X N' scope C cs s H ex) tg g) (ht:∀ C cs s H ex,PTs (cxC X N' scope C cs s H ex) ifs tc) (he:∀ C cs s H ex,PE (cxC X N' scope C cs s H ex) elt te) (I:Inv X pins σ H s) (hw:tComp wi ix g tc te σ H Q)
  (fin:∀ (D C:Addr) (o:Obj) (H':Hp) (s':AG),Inv X (pins++[(C,o)]) σ H' s'->(∃ m,s'.heap.Ns C m)->(X.s₀.heap.objs.size<=C)->(∀ x c,X.env.cells.lookup x=some c->c≠C)->(∀ p∈X.pn++pins,p.1≠C)->Q (.ref D) H'->J7 (model X.prog X.w) X.A X.xe use QQ (.ref D) C (.ok .next) s')
  (hs:∀ x,CP iter X.env x=pure x:=by intro _; rfl) :
  AV (model X.prog X.w) X.A (comprehension (.ListComp elt [⟨tg,iter,ifs,0⟩] scope pos) scope X.env (firstIterPos [⟨tg,iter,ifs,0⟩] pos) (Kq []) false (eval iter X.env) use) QQ X.xe s:=by
 refine wpAny_comprehension_free (cl:=cloOf X.env.cells scope.names []) rfl hs (zE3 fun x hx hk=>I.ok.has x.1 ((S.name hx).1 hk)) S.kind (fun x hx hl=>(S.name hx).2.1 hl) ?_
 refine thn (hi pins s σ H _ I hw) fun v s1 h1=>thn h1 fun itv s2 h2=>?_
 obtain⟨it,fp,tn,J,H2,e,I2,T,st2,f2,W,⟨m0,w0⟩,turn⟩:=h2
 subst e
 refine BF ?_
 refine zGF ?_
 generalize hH3:s2.heap.push { cls:=.type "list",dict:=none,data:=.seq ([]:List AD).toArray }=h3
 have hD3:h3.get? s2.heap.objs.size=some { cls:=.type "list",dict:=none,data:=.seq ([]:List AD).toArray }:=by rw[← hH3]; exact AQ _ rfl
 have hk3:∀ b u,s2.heap.get? b=some u->h3.get? b=some u:=fun b u e=>by rw[← hH3]; exact AE _ e
 have hz3:h3.objs.size=s2.heap.objs.size+1:=by rw[← hH3,BS]
 have ho2:∀ b∈fp,∃ o,s2.heap.get? b=some o:=fun b hb=>by obtain⟨o,e,_⟩:=T.obj _ _ st2 b hb; exact⟨o,e⟩
 show DR (model X.prog X.w) X.A (.compStart (.ListComp elt [⟨tg,iter,ifs,0⟩] scope pos) 0 (.ref it) (.ref s2.heap.objs.size) (E7 scope (BK (h3.objs.size+1) scope.names (cloOf X.env.cells scope.names [])) h3.objs.size X.env)) (J7 (model X.prog X.w) X.A X.xe use QQ (.ref s2.heap.objs.size) h3.objs.size) { s2 with heap:=EZ (h3.push { cls:=.type "dict",data:=.dict #[] }) scope.names }
 generalize hD:s2.heap.objs.size=D at hD3 hz3 ⊢
 generalize hC:h3.objs.size=C at hz3 ⊢
 generalize h4e:EZ (h3.push { cls:=.type "dict",data:=.dict #[] }) scope.names=h4
 have hk4:∀ b u,h3.get? b=some u->h4.get? b=some u:=fun b u e=>by rw[← h4e]; exact Er _ _ b u (AE _ e)
 have I4:Inv (cxC X N' scope C (BK (C+1) scope.names (cloOf X.env.cells scope.names [])) s2 H2 fp) [] (frm ix σ) H2 { s2 with heap:=h4,toks:=s2.toks } :=
  zLA (D:=D) (o:={ cls:=.none,data:=.dict #[] }) S I2 f2 ho2 hc hk3 hC.symm (by rw[hC,hz3,hD]; exact G9 _) h4e.symm
 have hcellD:∀ x c,(BK (C+1) scope.names (cloOf X.env.cells scope.names [])).lookup x=some c->c≠D:=fun x c h z=>by
  rcases zBa scope.names _ _ h with ⟨a,_⟩ | a
  ·rw[z,hz3]at a; lia
  ·rcases zBS scope.names [] a with ⟨hm,e⟩ | a
   ·obtain⟨c',hc'⟩:=I2.ok.has x ((S.name hm).1 rfl)
    rw[hc']at e
    obtain⟨v,q⟩:=I2.cell x c' hc'
    have e':c=c':=e
    rw[← e',z,← hD]at q
    exact absurd q.lt (BJ _)
   ·cases a
 have hDC:D≠C:=by rw[hz3]; exact Ag (CT _)
 have hDfp:D∉fp:=fun hb=>by obtain⟨o,e⟩:=ho2 D hb; exact absurd (hD ▸ AJ e) (BJ _)
 generalize hX':cxC X N' scope C (BK (C+1) scope.names (cloOf X.env.cells scope.names [])) s2 H2 fp=X' at I4
 have hfpX:∀ {H':Hp} {oD:Obj},(∀ b∈fp,H' b=none)->∀ b∈fp,FpOk X' [(D,oD)] H' b:=fun {H' oD} hn b hb=>by
  rw[← hX']
  refine⟨hn b hb,fun z=>?_,fun z=>?_,.inl hb,fun x c h z=>?_,fun p hp=>?_⟩
  rotate_right
  ·have hp':p∈[(D,oD)]:=hp
   have e:p=(D,oD):=by simpa using hp'
   subst e
   exact fun z=>hDfp (by rw[show D=b from z]; exact hb)
  ·obtain⟨o,e⟩:=ho2 b hb
   have z':b=C:=z
   have q:=AJ e
   rw[z',hz3,hD]at q
   exact absurd (JO (CT D) q) (BJ _)
  ·have z':b∈frs X.stack:=z
   rcases AL.mp (I2.stkSub b z') with e | e
   ·exact (f2 b hb).2.1 e
   ·exact (f2 b hb).2.2.1 e
  ·rw[← hX']at I4
   exact (I4.ok.exf b hb).2 x c h z
 have HDnone:H2 D=none:=I2.hok.fresh (by rw[hD]; exact AK _)
 have key:∀ (s':AG),s'={ s2 with heap:=h4,toks:=s2.toks } ->
   DR (model X.prog X.w) X.A (.compLoop (.ListComp elt [⟨tg,iter,ifs,0⟩] scope pos) 0 (.ref it) (.ref D) X'.env) (J7 (model X.prog X.w) X.A X.xe use QQ (.ref D) C) s':=by
  rintro s' rfl
  refine zFg (fun n s'=>∃ i ys σ' H' its,Inv X' [] σ' H' s'/\tn i s'.heap/\(∀ b∈fp,H' b=none)/\H' D=none/\s'.heap.PlainList D its/\Vals ys its.toList/\W i n ys σ' H') ?_ m0
   ⟨0,[],frm ix σ,H2,#[],I4,T.keep _ _ _ st2 fun b hb o e=>hk4 b o (hk3 b o e),fun b hb=>(f2 b hb).1,HDnone,⟨_,hk4 _ _ hD3⟩,.nil,w0⟩
  rintro n s3 ⟨i,ys,σ3,H3,its,I3,st3,fr3,hD3n,hpl,hv,w3⟩
  have hc':X'.calm=true:=by rw[← hX']; exact hc
  have xe':∀ e s,X'.xe e s->False:=by rw[← hX']; exact fun _ _ z=>z
  have pr:X'.prog=X.prog:=by rw[← hX']; rfl
  have pw:X'.w=X.w:=by rw[← hX']; rfl
  have pK:X'.K=X.K:=by rw[← hX']; rfl
  have pA:X'.A=X.A:=by rw[← hX']; rfl
  have p0:X'.s₀=s2:=by rw[← hX']; rfl
  have pH:X'.H₀=H2:=by rw[← hX']; rfl
  have px:X'.ex=fp:=by rw[← hX']; rfl
  have pf:X'.fs=frs X.stack:=by rw[← hX']; rfl
  have pL:X'.env.locals=C:=by rw[← hX']; rfl
  have pn0:X'.pn=[]:=by rw[← hX']; rfl
  have pcs:X'.env.cells=BK (C+1) scope.names (cloOf X.env.cells scope.names []):=by rw[← hX']; rfl
  obtain⟨nD,hoD⟩:=id hpl
  have Dfs:D∉X'.fs:=fun z=>by
   rw[pf]at z
   rcases AL.mp (I2.stkSub D z) with e | e
   ·have q:=I2.lt; rw[← e,hD]at q; exact BJ _ q
   ·exact I2.nofs (by rw[hD]; exact AK _) e
  have I3':Inv X' [(D,_)] σ3 H3 s3:=I3.pins_of fun p hp=>by
   have e:p=(D,_):=AI.mp hp
   subst e
   exact⟨hoD,hD3n,by rw[pL]; exact hDC,Dfs,fun v z=>by cases z⟩
  have hg':PG X' tg g:=hX' ▸ hg _ _ _ _ _
  have ht':PTs X' ifs tc:=hX' ▸ ht _ _ _ _ _
  have he':PE X' elt te:=hX' ▸ he _ _ _ _ _
  have hsizes:its.toList.length=ys.length:=hv.length.symm
  rcases turn i n ys σ3 H3 w3 with ⟨stop,hlen,qn⟩ | ⟨go,hlt,N,hN,step⟩
  ·-- the end
   have T':=T.done X' pr pw pK hc' i _ s3 σ3 H3 (fun _ _=>False) I3' (hfpX fr3) st3 stop
   rw[pA]at T'
   refine thn T' fun r s4 ⟨hr,I5⟩=>?_
   subst hr
   obtain⟨gD,nDn,_,_,_⟩:=I5.pin (D,_) (Ak _ (AI.mpr rfl))
   have gD':s4.heap.get? D=some { cls:=.type "list",data:=.seq its nD }:=gD
   obtain⟨m,hns,_⟩:=I5.loc
   rw[pL]at hns
   obtain⟨oC,es,ep,hoC,hdC,_⟩:=id hns
   have ub:Un (frs X.stack) fp H2 H3 s2.heap s4.heap:=by
    have q:=I5.base
    rw[px,pH,p0]at q
    rw[← pf]; exact q
   have bLt:∀ b u,s2.heap.get? b=some u->b≠D:=fun b u e z=>by have q:=AJ e; rw[z,hD]at q; exact BJ _ q
   have u':Un (frs X.stack) fp H2 (upd H3 D (.lst ys)) s2.heap s4.heap :=
    ⟨ub.keep,ub.slot,fun b o e n hx=>by rw[zAB (bLt b o e)]; exact ub.free b o e n hx,ub.there,fun b xs e=>by rw[zAB (zAE (ub.tups b xs e) hD3n)]; exact ub.tups b xs e,
     fun b o u e=>by rw[zAB (zAE (ub.frzs b o u e) hD3n)]; exact ub.frzs b o u e,fun b ps e=>by obtain⟨more,q⟩:=ub.tbls b ps e; exact⟨more,by rw[zAB (zAE q hD3n)]; exact q⟩⟩
   have hok':HOk X.prog X.w (upd H3 D (.lst ys)) s4.heap:=by
    have q:=I5.hok
    rw[pr,pw]at q
    exact q.adopt hD3n ⟨hlen,its.toList,nD,hv,by simpa using gD'⟩
   have os':s4.os=s2.os:=by have q:=I5.os; rw[p0]at q; exact q
   have Iend:Inv X pins σ (upd H3 D (.lst ys)) s4:=I2.call' (ch:=fp) os' u' hok' I5.bare fun b hb=>⟨(f2 b hb).2.2.2.1,(f2 b hb).2.1,(f2 b hb).2.2.2.2.1,(f2 b hb).2.2.2.2.2⟩
   have hsC:s2.heap.objs.size<=C:=by rw[hz3,hD]; exact G9 _
   have freeC:upd H3 D (.lst ys) C=none:=by rw[zAB (A6 hDC)]; have q:=I5.free; rw[pL]at q; exact q
   have Iend':Inv X (pins++[(C,oC)]) σ (upd H3 D (.lst ys)) s4:=Iend.pins_of fun p hp=>by
    rcases CD.mp hp with hp | hp
    ·exact Iend.pin p (Ak _ hp)
    ·have e:p=(C,oC):=AI.mp hp
     subst e
     exact⟨hoC,freeC,BZ (Aa I2.lt hsC),I2.nofs hsC,fun v z=>by rw[show oC.data=J0 v from z]at hdC; cases hdC⟩
   exact fin D C oC _ s4 Iend' ⟨m,hns⟩ (Al I2.sz hsC) (fun x c h z=>by obtain⟨v,q⟩:=I2.cell x c h; exact absurd (Aa q.lt hsC) (by rw[z]; exact BJ _))
    (fun p hp z=>by have q:=AJ (I2.pin p hp).1; exact absurd (Aa q hsC) (by rw[z]; exact BJ _)) (qn D hD3n)
  ·have T':=T.item X' pr pw pK hc' i _ s3 σ3 H3 (fun _ _=>False) I3' (hfpX fr3) st3 go
   rw[pA]at T'
   refine thn T' fun r s4 ⟨u,hr,h4'⟩=>?_
   subst hr
   refine thn h4' fun _ s5 ⟨x,H5,I5,r5,y5,st5,fr5⟩=>?_
   have I5':=I5.pinned (hfpX fr5) (T.obj _ _ st5)
   have A1:=hg' _ s5 σ3 H5 x u _ I5' r5 (step x H5 y5)
   rw[pr,pw,pA]at A1
   refine Bj A1 (fun _ s6 ⟨σ6,H6,I6,q6⟩=>?_) xe'
   have A2:=ht' _ s6 σ6 H6 _ I6 q6
   rw[pr,pw,pA]at A2
   refine Bj A2 (fun b s7 ⟨H7,I7,q7⟩=>?_) xe'
   have pinD:∀ {σ':St} {H':Hp} {s':AG},Inv X' ([(D,{ cls:=.type "list",data:=.seq its nD })]++pinsAt fp s5.heap) σ' H' s'->s'.heap.get? D=some { cls:=.type "list",data:=.seq its nD }/\H' D=none/\(∀ b∈fp,∀ o,s5.heap.get? b=some o->s'.heap.get? b=some o/\H' b=none):=fun {σ' H' s'} J=>by
    obtain⟨a1,a2,_⟩:=J.pin (D,_) (Ak _ (DW _ (AI.mpr rfl)))
    refine⟨a1,a2,fun b hb o e=>?_⟩
    obtain⟨b1,b2,_⟩:=J.pin (b,o) (Ak _ (Ak _ (zCS hb e)))
    exact⟨b1,b2⟩
   have frOf:∀ {σ':St} {H':Hp} {s':AG},Inv X' ([(D,{ cls:=.type "list",data:=.seq its nD })]++pinsAt fp s5.heap) σ' H' s'->∀ b∈fp,H' b=none:=fun {σ' H' s'} J b hb=>by
    obtain⟨o,e,_⟩:=T.obj _ _ st5 b hb
    exact ((pinD J).2.2 b hb o e).2
   have bare:∀ {σ':St} {H':Hp} {s':AG},Inv X' ([(D,{ cls:=.type "list",data:=.seq its nD })]++pinsAt fp s5.heap) σ' H' s'->Inv X' [] σ' H' s':=fun {σ' H' s'} J=>J.pins_of fun p hp=>nomatch hp
   cases b with
   | false =>
    obtain⟨m',hm,w'⟩:=hN ys σ6 H7 q7
    exact⟨m',hm,i+1,ys,σ6,H7,its,bare I7,T.keep _ _ _ st5 fun b hb o e=>((pinD I7).2.2 b hb o e).1,frOf I7,(pinD I7).2.1,⟨nD,(pinD I7).1⟩,hv,w'⟩
   | true =>
    have A3:=he' _ s7 σ6 H7 _ I7 q7
    rw[pr,pw,pA]at A3
    refine Bj A3 (fun v s8 ⟨x8,H8,I8,r8,q8⟩=>?_) xe'
    refine wpAny_list_append_plain (items:=its) ⟨nD,(pinD I8).1⟩ (fun h9 hl9 hs9=>?_) (by
     have:its.size=its.toList.length:=by simp
     rw[this,hsizes]; exact DB hlt)
    obtain⟨m',hm,w'⟩:=hN (ys++[x8]) σ6 H8 q8
    have I9:Inv X' [] σ6 H8 { s8 with heap:=h9,toks:=s8.toks }:=(bare I8).turned (t':=s8.toks) (it:=D) (fun b o hb e=>(hs9.2 b hb).trans e) (pinD I8).2.1 (by rw[pL]; exact hDC) (.inr (by rw[p0,hD]; exact AK _)) (by rw[pcs]; exact hcellD) (fun p hp=>by rw[pn0]at hp; exact nomatch hp)
    refine⟨m',hm,i+1,ys++[x8],σ6,H8,its.push v,I9,T.keep _ _ _ st5 fun b hb o e=>(hs9.2 b fun z=>hDfp (z ▸ hb)).trans ((pinD I8).2.2 b hb o e).1,frOf I8,(pinD I8).2.1,hl9,?_,w'⟩
    rw[Array.toList_push]
    exact hv.append (.cons r8 .nil)
 rw[← hX']at key
 exact codeAny_compStart_list (key _ rfl) (T.self _ 0 _ _ _ (T.keep _ _ _ st2 fun b hb o e=>hk4 b o (hk3 b o e)) (key _ rfl))
theorem zOB(S:CompOk X N' ix scope)(hc:X.calm=true)(hi:PI X tg iter wi)
  (hg:∀ C cs s H ex,PG (cxC X N' scope C cs s H ex) tg g) (ht:∀ C cs s H ex,PTs (cxC X N' scope C cs s H ex) ifs tc) (he:∀ C cs s H ex,PE (cxC X N' scope C cs s H ex) elt te)
  (hs:∀ x,CP iter X.env x=pure x:=by intro _; rfl):PE X (.ListComp elt [⟨tg,iter,ifs,0⟩] scope pos) (tComp wi ix g tc te):=by
 intro pins s σ H Q I h
 rw[eval_ListComp]
 refine zEo (use:=none) (QQ:=EP X pins σ Q) S hc hi hg ht he I h (fun D C o H' s' I' hns h1 h2 h3 q=>?_) hs
 obtain⟨m,hns⟩:=hns
 refine⟨m,hns,fun h' hs'=>⟨.ref D,H',?_,rfl,q⟩⟩
 obtain⟨a1,a2,a3,a4,_⟩:=I'.pin (C,o) (Ak _ (Ak _ (AI.mpr rfl)))
 exact I'.unpinned.turned (t':=s'.toks) (it:=C) (fun b u hb e=>(hs'.2 b hb).trans e) a2 a3 (.inr h1) h2 h3
theorem zMo(hN:X.N.Nodup)(hi':X.N[i]?=some x)(hx:Loc X.env.scope x)(S:CompOk X N' ix scope)(hc:X.calm=true)(hi:PI X tg iter wi)
  (hg:∀ C cs s H ex,PG (cxC X N' scope C cs s H ex) tg g) (ht:∀ C cs s H ex,PTs (cxC X N' scope C cs s H ex) ifs tc) (he:∀ C cs s H ex,PE (cxC X N' scope C cs s H ex) elt te)
  (hsw:EY (.ListComp elt [⟨tg,iter,ifs,0⟩] scope pos) (some (.Name x pos')) spos.line X.env=pure true:=by rfl)
  (hf:X.fn x=true\/X.env.scope.names.lookup x=some .local:=by first | exact .inl rfl | exact .inr rfl | assumption)
  (hs:∀ x,CP iter X.env x=pure x:=by intro _; rfl):PS X (.Assign [.Name x pos'] (.ListComp elt [⟨tg,iter,ifs,0⟩] scope pos) spos) (tAsg (tComp wi ix g tc te) (gName i)):=by
 intro pins s σ H D I h
 rw[exec_Assign_Name_used _ _ _ _ hsw]
 refine AB (FU (AB ?_))
 show AV _ X.A (do let _ ← comprehension (.ListComp elt [⟨tg,iter,ifs,0⟩] scope pos) scope X.env _ (Kq []) false (eval iter X.env) (some (assign (.Name x pos') X.env))) _ _ s
 refine AB (thn (zEo (use:=some (assign (.Name x pos') X.env)) (QQ:=fun _ s'=>SP X pins D .next s') S hc hi hg ht he I h (fun E C o H' s' I' hns h1 h2 h3 q=>?_) hs) fun _ s' q=>AH (AH q))
 obtain⟨m,hns⟩:=hns
 have P:=zGy (pos:=pos') hN hi' hx hf
 refine thn (P _ s' σ H' (.ref E) (.ref E) _ I' rfl q) fun _ s2 ⟨σ2,H2,I2,q2⟩=>?_
 obtain⟨a1,_⟩:=I'.pin (C,o) (Ak _ (Ak _ (AI.mpr rfl)))
 obtain⟨b1,b2,b3,b4,_⟩:=I2.pin (C,o) (Ak _ (Ak _ (AI.mpr rfl)))
 refine⟨m,?_,fun h' hs'=>⟨σ2,H2,I2.unpinned.turned (t':=s2.toks) (it:=C) (fun b u hb e=>(hs'.2 b hb).trans e) b2 b3 (.inr h1) h2 h3,q2⟩⟩
 obtain⟨oC,es,ep,hoC,r⟩:=hns
 have e:oC=o:=by
  have q:=hoC.symm.trans a1
  exact Au q
 subst e
 exact⟨oC,es,ep,b1,r⟩
end
structure Drawer(prog:Ai)(w:Ax)(it l:Addr)(xs:Array AD)(St:Nat->Heap->Prop):Prop where
 keep:∀ k h h',St k h->(∀ o,h.get? it=some o->h'.get? it=some o)->(∀ o,h.get? l=some o->h'.get? l=some o)->St k h'
 live:∀ k h,St k h->∃ o,h.get? it=some o/\∀ v,o.data≠.cell v
 item:∀ (A:BE) (k:Nat) (s:AG) (x:AD) (Q:AD->AG->Prop) (E:AD->AG->Prop),St k s.heap->xs[k]?=some x ->
  (∀ h',St (k+1) h'->BU it s.heap h'->Q x { s with heap:=h' })->AV (model prog w) A (As (.ref it)) Q E s
 fini:∀ (A:BE) (k:Nat) (s:AG) (Q:AD->AG->Prop) (E:AD->AG->Prop),A.handled=none->St k s.heap->xs[k]?=none ->
  (∀ h' e,Fh it s.heap h'->(∃ o,h'.get? e=some o/\o.cls=.type "StopIteration")->E (.ref e) { s with heap:=h' })->AV (model prog w) A (As (.ref it)) Q E s
section
variable {prog:Ai}{w:Ax}{A:BE}{E:AD->AG->Prop}{s:AG}
theorem zF6(it l:Addr)(xs:Array AD)(hne:l≠it):Drawer prog w it l xs (fun k h=>h.IsListIter it l k/\h.IsList l xs) where
 keep:=fun k h h' st k1 k2=>⟨st.1.at k1,st.2.at k2⟩
 live:=fun k h st=>by obtain⟨⟨o,e,_,d⟩,_⟩:=st; exact⟨o,e,fun v z=>by rw[d]at z; cases z⟩
 item:=fun A k s x Q E st hx hQ=>wpAny_nextOf_list_item st.1 st.2 hx fun h' st' sb=>hQ h' ⟨st',st.2.extBut sb.extBut hne⟩ sb
 fini:=fun A k s Q E hh st hx hE=>wpAny_nextOf_list_end hh st.1 st.2 hx hE
theorem zHo(hit:s.heap.IsTupleIter it t i)(ht:s.heap.IsTuple t items)(hx:items[i]?=some x)
  (hQ:∀ h',h'.IsTupleIter it t (i+1)->BU it s.heap h'->Q x { s with heap:=h' }):AV (model prog w) A (As (.ref it)) Q E s:=by
 obtain⟨oi,hoi,hci,hdi⟩:=id hit; obtain⟨ot,hot,_,nt,hdt⟩:=ht
 unfold As; refine AB (Ay (name:=Ba "__next__") hit.typeIs Cs (A9 Cs hit.typeIs GP ?_ (GH _)))
 show AV _ _ (field (.ref it) 0 >>= _) _ _ s; refine AB (Ar hoi hdi (x:=.ref t) rfl ?_)
 show AV _ _ (if (Bc t == CU)=true then _ else _) _ _ s; rw[if_neg (show ¬ ((Bc t == CU)=true) from AZ)]
 show AV _ _ (field (.ref it) 1 >>= _) _ _ s; refine AB (Ar hoi hdi (x:=.int i 0) rfl ?_)
 show AV _ _ (HQ (.ref t) >>= _) _ _ s; refine AB (Bd hot hdt ?_); simp only[Bm,hx]
 refine AB (J8 hoi hdi (by simp) (AH ⟨x,rfl,AH (hQ _ ?_ (Fv ..))⟩))
 exact⟨_,Cb _ hoi (Obj.isFreed_of_fields (Hb hdi _)),(Obj.cls_mapFields ..).trans hci,by rw[Hb hdi]; simp[CV]⟩
theorem zEx(hh:A.handled=none)(hit:s.heap.IsTupleIter it t i)(ht:s.heap.IsTuple t items)(hx:items[i]?=none)
  (hE:∀ h' e,Fh it s.heap h'->(∃ o,h'.get? e=some o/\o.cls=.type "StopIteration")->E (.ref e) { s with heap:=h' }):AV (model prog w) A (As (.ref it)) Q E s:=by
 obtain⟨oi,hoi,hci,hdi⟩:=id hit; obtain⟨ot,hot,_,nt,hdt⟩:=ht
 unfold As; refine AB (Ay (name:=Ba "__next__") hit.typeIs Cs (A9 Cs hit.typeIs GP ?_ (GH _)))
 show AV _ _ (field (.ref it) 0 >>= _) _ _ s; refine AB (Ar hoi hdi (x:=.ref t) rfl ?_)
 show AV _ _ (if (Bc t == CU)=true then _ else _) _ _ s; rw[if_neg (show ¬ ((Bc t == CU)=true) from AZ)]
 show AV _ _ (field (.ref it) 1 >>= _) _ _ s; refine AB (Ar hoi hdi (x:=.int i 0) rfl ?_)
 show AV _ _ (HQ (.ref t) >>= _) _ _ s; refine AB (Bd hot hdt ?_); simp only[Bm,hx]
 refine AB (Cw (AB (J8 hoi hdi (by simp) ?_))); show AV _ _ (J9 (.type "StopIteration") [] >>= _) _ _ _
 refine AB ?_; simp only[J9,KA]; refine AB (BF ?_ (by size_fits)); refine AB (m:=E8 _ _) (B7 (a:=CU) (by first | rfl | (simp only[E8]; rfl)) ?_)
 refine BF ?_ (by size_fits); simp only[raiseNew]; refine AB (Ki ?_); (first | rw[show A.in1.handled=none from hh] | rw[hh]); refine AB (AH (wpAny_throw ?_))
 exact hE _ _ (((Fv ..).extBut.push _).push _) ⟨_,AQ _ rfl,rfl⟩
theorem zAs(it l:Addr)(xs:Array AD)(hne:l≠it):Drawer prog w it l xs (fun k h=>h.IsTupleIter it l k/\h.IsTuple l xs) where
 keep:=fun k h h' st k1 k2=>⟨let ⟨o,e,r⟩:=st.1; ⟨o,k1 o e,r⟩,let ⟨o,e,r⟩:=st.2; ⟨o,k2 o e,r⟩⟩
 live:=fun k h st=>by obtain⟨⟨o,e,_,d⟩,_⟩:=st; exact⟨o,e,fun v z=>by rw[d]at z; cases z⟩
 item:=fun A k s x Q E st hx hQ=>zHo st.1 st.2 hx fun h' st' sb=>hQ h' ⟨st',st.2.extBut sb.extBut hne⟩ sb
 fini:=fun A k s Q E hh st hx hE=>zEx hh st.1 st.2 hx hE
structure ZAp(z TI TO i1 i2 l1 l2:Addr):Prop where
 a:ZipApart z TI TO i1 i2 l1 l2
 l1TI:l1≠TI
 l2TI:l2≠TI
structure ZSt(z TI TO i1 i2:Addr)(S1 S2:Nat->Heap->Prop)(k:Nat)(f0:AD)(h:Heap):Prop where
 z:FV h z TI TO f0
 ti:Ce h TI (.ref i1) (.ref i2)
 to:∃ a b,Ce h TO a b
 s1:S1 k h
 s2:S2 k h
variable {z TI TO i1 i2 l1 l2:Addr}{S1 S2:Nat->Heap->Prop}{xs ys:Array AD}{k:Nat}
theorem zDY{x y:AD}{Q:AD->AG->Prop}(D:ZAp z TI TO i1 i2 l1 l2)(D1:Drawer prog w i1 l1 xs S1)(D2:Drawer prog w i2 l2 ys S2)(st:ZSt z TI TO i1 i2 S1 S2 k .none s.heap)(hx:xs[k]?=some x)(hy:ys[k]?=some y)
  (hQ:∀ h',ZSt z TI TO i1 i2 S1 S2 (k+1) (CV s.heap.objs.size) h'->Ce h' s.heap.objs.size x y ->
   (∀ c o,c≠z->c≠TO->c≠i1->c≠i2->s.heap.get? c=some o->h'.get? c=some o)->Q (.ref s.heap.objs.size) { s with heap:=h' }) :
  AV (model prog w) A (Builtin.«zip.__next__» ⟨[.ref z],[]⟩) (fun fin s'=>∃ v,fin=.done (.ret v)/\Q v s') E s:=by
 obtain⟨hz,hTI,⟨a,b,hTO⟩,st1,st2⟩:=st
 obtain⟨⟨TIz,TOz,i1z,i2z,TITO,TIi1,TIi2,TOi1,TOi2,i12,l1z,l1TO,l1i1,l1i2,l2z,l2TO,l2i1,l2i2⟩,_,_⟩:=D
 show AV _ _ (field (.ref z) 2 >>= _) _ _ _; refine AB (Ar hz rfl (x:=.bool false) rfl ?_)
 show AV _ _ (field (.ref z) 3 >>= _) _ _ _; refine AB (Ar hz rfl (x:=.ref TI) rfl (AB (Bd hTI rfl ?_)))
 show AV _ _ (Am (.ref z) >>= _) _ _ _; refine AB ?_; unfold Am
 refine AB (Ar hz rfl (x:=.none) rfl (AH ?_)); simp only[if_true]
 refine AB (Cw (AB (Ar hz rfl (x:=.ref TO) rfl (AB (A5 hz (by simp) fun h1 z1 b1=>?_)))))
 have z1':FV h1 z TI TO .ellipsis:=z1
 refine AB ?_; simp only[Hm,Hz,Dg,Do]
 refine AB (AB (FW ?_)); show AV _ _ (As (.ref i1) >>= _) _ _ _
 refine AB (D1.item _ k _ x _ _ (D1.keep _ _ _ st1 (fun o e=>b1.extBut _ _ i1z e) fun o e=>b1.extBut _ _ l1z e) hx fun h2 t1 b2=>AH ?_)
 have o2:Ce h2 TO a b:=b2.extBut _ _ TOi1 (b1.extBut _ _ TOz hTO)
 refine AB (Bd o2 rfl (AB (E9 o2 fun h3 o3 b3=>?_)))
 have o3':Ce h3 TO x b:=o3
 refine AB (FB (AH (AB (AB (FW ?_))))); show AV _ _ (As (.ref i2) >>= _) _ _ _
 have s2':S2 k h3:=D2.keep _ _ _ st2 (fun o e=>b3.extBut _ _ TOi2.symm (b2.extBut _ _ i12.symm (b1.extBut _ _ i2z e))) fun o e=>b3.extBut _ _ l2TO (b2.extBut _ _ l2i1 (b1.extBut _ _ l2z e))
 refine AB (D2.item _ k _ y _ _ s2' hy fun h4 t2 b4=>AH ?_)
 have o4:Ce h4 TO x b:=b4.extBut _ _ TOi2 o3'
 refine AB (Bd o4 rfl (AB (E9 o4 fun h5 o5 b5=>?_)))
 have o5':Ce h5 TO x y:=o5
 refine AB (FB (AH (AH (AB (Bd o5' rfl (AB (Gn ?_)))))))
 have hsz:h5.objs.size=s.heap.objs.size:=by rw[b5.1,b4.1,b3.1,b2.1,b1.1]
 have z5:FV h5 z TI TO .ellipsis:=b5.extBut _ _ TOz.symm (b4.extBut _ _ i2z.symm (b3.extBut _ _ TOz.symm (b2.extBut _ _ i1z.symm z1')))
 have k5:∀ c o,c≠z->c≠TO->c≠i1->c≠i2->s.heap.get? c=some o->h5.get? c=some o:=fun c o c1 c2 c3 c4 e=>b5.extBut _ _ c2 (b4.extBut _ _ c4 (b3.extBut _ _ c2 (b2.extBut _ _ c3 (b1.extBut _ _ c1 e))))
 have t1':S1 (k+1) h5:=D1.keep _ _ _ t1 (fun o e=>b5.extBut _ _ TOi1.symm (b4.extBut _ _ i12 (b3.extBut _ _ TOi1.symm e))) fun o e=>b5.extBut _ _ l1TO (b4.extBut _ _ l1i2 (b3.extBut _ _ l1TO e))
 have t2':S2 (k+1) h5:=D2.keep _ _ _ t2 (fun o e=>b5.extBut _ _ TOi2.symm e) fun o e=>b5.extBut _ _ l2TO e
 have hzlt:z < h5.objs.size:=AJ z5
 show AV _ _ (Bs (.ref z) (.ref h5.objs.size) >>= _) _ _ _; refine AB ?_; unfold Bs
 have z6:FV (h5.push { cls:=.type "tuple",data:=.seq #[x,y] }) z TI TO .ellipsis:=AE _ z5
 refine AB (A5 z6 (by simp) fun h7 z7 b7=>?_)
 have z7':FV h7 z TI TO (CV h5.objs.size):=z7
 refine A5 z7' (by simp) fun h8 z8 b8=>?_
 have z8':FV h8 z TI TO (CV h5.objs.size):=z8
 have up:∀ c o,c≠z->h5.get? c=some o->h8.get? c=some o:=fun c o c1 e=>b8.extBut _ _ c1 (b7.extBut _ _ c1 (AE _ e))
 have p8:Ce h8 h5.objs.size x y:=b8.extBut _ _ (BZ hzlt) (b7.extBut _ _ (BZ hzlt) (AQ _ rfl))
 rw[hsz]at z8' p8
 refine AH ⟨_,rfl,?_⟩
 show Q (.ref h5.objs.size) _
 rw[hsz]
 have uu:∀ c o,c≠z->c≠TO->c≠i1->c≠i2->s.heap.get? c=some o->h8.get? c=some o:=fun c o c1 c2 c3 c4 e=>up c o c1 (k5 c o c1 c2 c3 c4 e)
 exact hQ h8 ⟨z8',uu _ _ TIz TITO TIi1 TIi2 hTI,⟨x,y,up _ _ TOz o5'⟩,D1.keep _ _ _ t1' (fun o e=>up _ o i1z e) (fun o e=>up _ o l1z e),D2.keep _ _ _ t2' (fun o e=>up _ o i2z e) (fun o e=>up _ o l2z e)⟩ p8 uu
theorem zEa(hh:A.handled=none)(D:ZAp z TI TO i1 i2 l1 l2)(D1:Drawer prog w i1 l1 xs S1)(D2:Drawer prog w i2 l2 ys S2)(st:ZSt z TI TO i1 i2 S1 S2 k .none s.heap)(hend:xs[k]?=none\/ys[k]?=none)
  (hE:∀ h' e,(∀ c o,c≠z->c≠TO->c≠i1->c≠i2->s.heap.get? c=some o->h'.get? c=some o)->(∃ o,h'.get? e=some o/\o.cls=.type "StopIteration")->E (.ref e) { s with heap:=h' }) :
  AV (model prog w) A (Builtin.«zip.__next__» ⟨[.ref z],[]⟩) Q E s:=by
 obtain⟨hz,hTI,⟨a,b,hTO⟩,st1,st2⟩:=st
 obtain⟨⟨TIz,TOz,i1z,i2z,TITO,TIi1,TIi2,TOi1,TOi2,i12,l1z,l1TO,l1i1,l1i2,l2z,l2TO,l2i1,l2i2⟩,_,_⟩:=D
 show AV _ _ (field (.ref z) 2 >>= _) _ _ _; refine AB (Ar hz rfl (x:=.bool false) rfl ?_)
 show AV _ _ (field (.ref z) 3 >>= _) _ _ _; refine AB (Ar hz rfl (x:=.ref TI) rfl (AB (Bd hTI rfl ?_)))
 show AV _ _ (Am (.ref z) >>= _) _ _ _; refine AB ?_; unfold Am
 refine AB (Ar hz rfl (x:=.none) rfl (AH ?_)); simp only[if_true]
 refine AB (Cw (AB (Ar hz rfl (x:=.ref TO) rfl (AB (A5 hz (by simp) fun h1 z1 b1=>?_)))))
 have z1':FV h1 z TI TO .ellipsis:=z1
 refine AB ?_; simp only[Hm,Hz,Dg,Do]
 refine AB (AB (FW ?_)); show AV _ _ (As (.ref i1) >>= _) _ _ _
 have s1':S1 k h1:=D1.keep _ _ _ st1 (fun o e=>b1.extBut _ _ i1z e) fun o e=>b1.extBut _ _ l1z e
 cases hx:xs[k]? with
 | none =>
  refine AB (D1.fini _ k _ _ _ hh s1' hx fun h2 e b2 he=>?_)
  obtain⟨oe,hoe,hce⟩:=he
  have z2:FV h2 z TI TO .ellipsis:=b2 _ _ i1z.symm z1'
  have ez:e≠z:=fun q=>by subst q; rw[z2]at hoe; cases hoe; simp at hce
  exact A5 z2 (by simp) fun h3 _ b3=>hE h3 e (fun c o c1 _ c3 _ q=>b3.extBut _ _ c1 (b2 _ _ c3 (b1.extBut _ _ c1 q))) ⟨oe,b3.extBut _ _ ez hoe,hce⟩
 | some x =>
  have hy:ys[k]?=none:=by rcases hend with q | q; (rw[hx]at q; cases q); exact q
  refine AB (D1.item _ k _ x _ _ s1' hx fun h2 t1 b2=>AH ?_)
  have o2:Ce h2 TO a b:=b2.extBut _ _ TOi1 (b1.extBut _ _ TOz hTO)
  refine AB (Bd o2 rfl (AB (E9 o2 fun h3 o3 b3=>?_)))
  refine AB (FB (AH (AB (AB (FW ?_))))); show AV _ _ (As (.ref i2) >>= _) _ _ _
  have s2':S2 k h3:=D2.keep _ _ _ st2 (fun o e=>b3.extBut _ _ TOi2.symm (b2.extBut _ _ i12.symm (b1.extBut _ _ i2z e))) fun o e=>b3.extBut _ _ l2TO (b2.extBut _ _ l2i1 (b1.extBut _ _ l2z e))
  refine AB (D2.fini _ k _ _ _ hh s2' hy fun h4 e b4 he=>?_)
  obtain⟨oe,hoe,hce⟩:=he
  have z4:FV h4 z TI TO .ellipsis:=b4 _ _ i2z.symm (b3.extBut _ _ TOz.symm (b2.extBut _ _ i1z.symm z1'))
  have ez:e≠z:=fun q=>by subst q; rw[z4]at hoe; cases hoe; simp at hce
  exact A5 z4 (by simp) fun h5 _ b5=>hE h5 e (fun c o c1 c2 c3 c4 q=>b5.extBut _ _ c1 (b4 _ _ c4 (b3.extBut _ _ c2 (b2.extBut _ _ c3 (b1.extBut _ _ c1 q))))) ⟨oe,b5.extBut _ _ ez hoe,hce⟩
end
def Sq (b:Bool) (K:AM) (H:Hp) (a:Addr) (xs:List V):Prop:=if b then SqT K H a xs else SqL K H a xs
def SIt (b:Bool) (it l:Addr) (k:Nat) (h:Heap):Prop:=if b then h.IsTupleIter it l k else h.IsListIter it l k
def SOb (b:Bool) (l:Addr) (its:Array AD) (h:Heap):Prop:=if b then h.IsTuple l its else h.IsList l its
theorem SIt.keep(st:SIt b it l k h)(e:∀ o,h.get? it=some o->h'.get? it=some o):SIt b it l k h':=by
 cases b with
 | false=>exact (show h.IsListIter it l k from st).at e
 | true=>obtain⟨o,q,r⟩:=(show h.IsTupleIter it l k from st); exact⟨o,e o q,r⟩
theorem SIt.live(st:SIt b it l k h):∃ o,h.get? it=some o/\∀ v,o.data≠.cell v:=by
 cases b with
 | false=>obtain⟨o,q,_,d⟩:=(show h.IsListIter it l k from st); exact⟨o,q,fun v z=>by rw[d]at z; cases z⟩
 | true=>obtain⟨o,q,_,d⟩:=(show h.IsTupleIter it l k from st); exact⟨o,q,fun v z=>by rw[d]at z; cases z⟩
theorem zBL(b:Bool)(it l:Addr)(xs:Array AD)(hne:l≠it):Drawer prog w it l xs (fun k h=>SIt b it l k h/\SOb b l xs h):=by
 cases b with
 | false=>exact zF6 it l xs hne
 | true=>exact zAs it l xs hne
section
variable {X:Cx}{pins:List (Addr×Obj)}{σ:St}{H:Hp}{s:AG}
theorem Inv.sq(I:Inv X pins σ H s)(h:Sq b X.K H a xs):∃ its:List AD,Vals xs its/\SOb b a its.toArray s.heap/\xs.length<=AC:=by
 cases b with
 | false=>obtain⟨its,r,p,z⟩:=I.list h; exact⟨its,r,p.isList,z⟩
 | true=>obtain⟨its,r,p,z⟩:=I.tuple h; exact⟨its,r,p,z⟩
theorem Inv.sq_inj(I:Inv X pins σ H s)(h:Sq b X.K H a xs)(h':Sq b X.K H a ys):xs=ys:=by
 cases b with
 | false=>exact I.list_inj h h'
 | true=>exact I.tuple_inj h h'
end
def Itz (b:Bool) (K:AM) (a1 a2:Addr):It :=
 ⟨fun i H=>∃ xs ys x y,Sq b K H a1 xs/\Sq b K H a2 ys/\xs[i]?=some x/\ys[i]?=some y,
  fun i H v H'=>∃ T x y,v=.ref T/\H T=none/\H'=upd H T (.tup [x,y])/\(∀ xs,Sq b K H a1 xs->xs[i]?=some x)/\∀ ys,Sq b K H a2 ys->ys[i]?=some y,
  fun i H=>∃ xs ys,Sq b K H a1 xs/\Sq b K H a2 ys/\(xs.length<=i\/ys.length<=i)⟩
structure ZTn(b:Bool)(z TI TO i1 i2 a1 a2:Addr)(k:Nat)(h:Heap):Prop where
 z:FV h z TI TO .none
 ti:Ce h TI (.ref i1) (.ref i2)
 to:∃ a b,Ce h TO a b
 s1:SIt b i1 a1 k h
 s2:SIt b i2 a2 k h
theorem zKo{P:Ai}{w:Ax}{K:AM}{elts:List Expr}{x1:Nat}{tp:Pos}(b:Bool){z TI TO i1 i2 a1 a2:Addr}(D:ZAp z TI TO i1 i2 a1 a2) :
  Turn P w K (.Tuple elts x1 tp) (Itz b K a1 a2) [z,TI,TO,i1,i2] z (ZTn b z TI TO i1 i2 a1 a2) where
 mem:=by simp
 obj:=fun i h st c hc=>by
  simp only[AL,Ao,or_false]at hc
  rcases hc with e | e | e | e | e
  ·exact⟨_,e ▸ st.z,fun v z=>by cases z⟩
  ·exact⟨_,e ▸ st.ti,fun v z=>by cases z⟩
  ·obtain⟨a,b,q⟩:=st.to; exact⟨_,e ▸ q,fun v z=>by cases z⟩
  ·obtain⟨o,q,d⟩:=st.s1.live; exact⟨o,e ▸ q,d⟩
  ·obtain⟨o,q,d⟩:=st.s2.live; exact⟨o,e ▸ q,d⟩
 keep:=fun i h h' st k=>⟨k z (by simp) _ st.z,k TI (by simp) _ st.ti,(let ⟨a,b,q⟩:=st.to; ⟨a,b,k TO (by simp) _ q⟩),st.s1.keep fun o e=>k i1 (by simp) o e,st.s2.keep fun o e=>k i2 (by simp) o e⟩
 item:=by
  intro X hP hw hK hc i pins s σ H E I hf st hg
  subst hP hw hK
  obtain⟨xs,ys,x,y,h1,h2,hx,hy⟩:=hg
  obtain⟨its1,v1,o1,z1⟩:=I.sq h1
  obtain⟨its2,v2,o2,z2⟩:=I.sq h2
  obtain⟨u1,e1,r1⟩:=v1.get hx
  obtain⟨u2,e2,r2⟩:=v2.get hy
  have hT:s.TypeIs (.ref z) "zip":=⟨_,st.z,rfl⟩
  have nH:∀ c∈[z,TI,TO,i1,i2],H c=none:=fun c hc=>(hf c hc).1
  unfold DC
  refine AB (B8 (Ay (name:=Ba "__next__") hT CK (A9 CK hT EM
   (zDY D (zBL b i1 a1 its1.toArray D.a.l1i1) (zBL b i2 a2 its2.toArray D.a.l2i2) ⟨st.z,st.ti,st.to,⟨st.s1,o1⟩,⟨st.s2,o2⟩⟩ (by simpa using e1) (by simpa using e2) fun h' st' hp hk=>AH ?_) (D9 _))))
  refine⟨_,rfl,?_⟩
  have fT:H s.heap.objs.size=none:=I.hok.fresh (AK _)
  have hk':∀ c o,c∉[z,TO,i1,i2]->s.heap.get? c=some o->h'.get? c=some o:=fun c o hc e=>by
   simp only[AL,Ao,or_false,not_or]at hc
   exact hk c o hc.1 hc.2.1 hc.2.2.1 hc.2.2.2 e
  have sub:∀ c∈[z,TO,i1,i2],c∈[z,TI,TO,i1,i2]:=fun c hc=>by
   simp only[AL,Ao,or_false]at hc ⊢
   rcases hc with e | e | e | e <;> simp[e]
  have trk:∀ c u,H c=some u->c∉[z,TO,i1,i2]:=fun c u e hc=>by rw[nH c (sub c hc)]at e; cases e
  have nT:∀ c o,s.heap.get? c=some o->c≠s.heap.objs.size:=fun c o e=>Ag (AJ e)
  have hok1:HOk X.prog X.w H h':=fun c u e=>(I.hok c u e).stay (fun d v hd q=>hk' d v (by
   rcases hd with rfl | hd
   ·exact trk d u e
   ·exact trk d _ hd) q) (fun _ q=>q) fun _ _ q=>q
  have I1:Inv X pins σ (upd H s.heap.objs.size (.tup [x,y])) { s with heap:=h',toks:=s.toks }:=by
   refine I.step (g':=s.gens) (d':=s.drawn) (t':=s.toks) (ch:=[z,TO,i1,i2]) (fun c hc=>?_) (fun c o _ _ hc e _=>hk' c o hc e) (fun c o _ _ hc e _=>⟨o.slots,hk' c o hc e⟩)
    (fun c o _ e n=>by rw[zAB (nT c o e)]; exact n) (fun c o hc e=>⟨o,hk' c o hc e⟩) (fun c xs e=>by rw[zAB (zAE e fT)]; exact e) (fun c o u e=>by rw[zAB (zAE e fT)]; exact e)
    (fun c ps e=>⟨#[],by rw[zAB (zAE e fT),e]; simp⟩) (fun m hm=>?_) (hok1.adopt fT ⟨by show 2<=AC; decide,[u1,u2],.cons r1 (.cons r2 .nil),_,hp,rfl,⟨0,rfl⟩,rfl⟩) I.bare
   ·obtain⟨_,f1,f2,f3,f4,f5⟩:=hf c (sub c hc); exact⟨f3,f1,f4,f5⟩
   ·obtain⟨o,es,ep,ho,r⟩:=hm
    exact⟨o,es,ep,hk' _ o (fun hc=>(hf _ (sub _ hc)).2.1 rfl) ho,r⟩
  refine wpAny_letOwnedTupleGo_zip st'.z fun h9 hz2 hs2=>?_
  obtain⟨_,f1,f2,f3,f4,f5⟩:=hf z (by simp)
  have nz:upd H s.heap.objs.size (.tup [x,y]) z=none:=by rw[zAB (nT z _ st.z)]; exact nH z (by simp)
  have I2:Inv X pins σ (upd H s.heap.objs.size (.tup [x,y])) { s with heap:=h9,toks:=s.toks }:=by
   have q:=I1.turned (h':=h9) (t':=s.toks) (it:=z) (fun c o hc e=>(hs2.2 c hc).trans e) nz f1 f3 f4 f5
   exact q
  refine⟨.ref s.heap.objs.size,_,I2,rfl,⟨s.heap.objs.size,x,y,rfl,fT,rfl,fun xs' q=>by rw[I.sq_inj q h1]; exact hx,fun ys' q=>by rw[I.sq_inj q h2]; exact hy⟩,?_,fun c hc=>?_⟩
  ·have up:∀ c o,c≠z->h'.get? c=some o->h9.get? c=some o:=fun c o hc e=>(hs2.2 c hc).trans e
   exact⟨hz2,up _ _ D.a.TIz st'.ti,(let ⟨a,b,q⟩:=st'.to; ⟨a,b,up _ _ D.a.TOz q⟩),st'.s1.1.keep fun o e=>up _ o D.a.i1z e,st'.s2.1.keep fun o e=>up _ o D.a.i2z e⟩
  ·obtain⟨o,e,_⟩:∃ o,s.heap.get? c=some o/\True:=by
    simp only[AL,Ao,or_false]at hc
    rcases hc with e | e | e | e | e
    ·exact⟨_,e ▸ st.z,trivial⟩
    ·exact⟨_,e ▸ st.ti,trivial⟩
    ·obtain⟨a,b,q⟩:=st.to; exact⟨_,e ▸ q,trivial⟩
    ·obtain⟨o,q,d⟩:=st.s1.live; exact⟨o,e ▸ q,trivial⟩
    ·obtain⟨o,q,d⟩:=st.s2.live; exact⟨o,e ▸ q,trivial⟩
   rw[zAB (nT c o e)]; exact nH c hc
 done:=by
  intro X hP hw hK hc i pins s σ H E I hf st hg
  subst hP hw hK
  obtain⟨xs,ys,h1,h2,hl⟩:=hg
  obtain⟨its1,v1,o1,z1⟩:=I.sq h1
  obtain⟨its2,v2,o2,z2⟩:=I.sq h2
  have l1:=v1.length
  have l2:=v2.length
  have hT:s.TypeIs (.ref z) "zip":=⟨_,st.z,rfl⟩
  unfold DC
  refine AB (B8 (Ay (name:=Ba "__next__") hT CK (A9 CK hT EM
   (zEa (I.ok.hd hc) D (zBL b i1 a1 its1.toArray D.a.l1i1) (zBL b i2 a2 its2.toArray D.a.l2i2) ⟨st.z,st.ti,st.to,⟨st.s1,o1⟩,⟨st.s2,o2⟩⟩
    (hl.imp (fun q=>by simp; lia) fun q=>by simp; lia) fun h' e hk he=>?_) (D9 _))))
  obtain⟨o,ho,hcl⟩:=he
  refine AB (CB (T:="StopIteration") (b:=true) ⟨o,ho,hcl⟩ D6 (AH ⟨rfl,?_⟩))
  have hk':∀ c o,c∉[z,TO,i1,i2]->s.heap.get? c=some o->h'.get? c=some o:=fun c o hc e=>by
   simp only[AL,Ao,or_false,not_or]at hc
   exact hk c o hc.1 hc.2.1 hc.2.2.1 hc.2.2.2 e
  have sub:∀ c∈[z,TO,i1,i2],c∈[z,TI,TO,i1,i2]:=fun c hc=>by
   simp only[AL,Ao,or_false]at hc ⊢
   rcases hc with e | e | e | e <;> simp[e]
  have trk:∀ c u,H c=some u->c∉[z,TO,i1,i2]:=fun c u e hc=>by rw[(hf c (sub c hc)).1]at e; cases e
  refine I.step (g':=s.gens) (d':=s.drawn) (t':=s.toks) (ch:=[z,TO,i1,i2]) (fun c hc=>?_) (fun c o _ _ hc e _=>hk' c o hc e) (fun c o _ _ hc e _=>⟨o.slots,hk' c o hc e⟩)
   (fun c o _ e n=>n) (fun c o hc e=>⟨o,hk' c o hc e⟩) (fun c xs e=>e) (fun c o u e=>e) (fun c ps e=>⟨#[],by rw[e]; simp⟩) (fun m hm=>?_) (fun c u e=>(I.hok c u e).stay (fun d v hd q=>hk' d v (by
    rcases hd with rfl | hd
    ·exact trk d u e
    ·exact trk d _ hd) q) (fun _ q=>q) fun _ _ q=>q) I.bare
  ·obtain⟨_,f1,f2,f3,f4,f5⟩:=hf c (sub c hc); exact⟨f3,f1,f4,f5⟩
  ·obtain⟨o,es,ep,ho,r⟩:=hm
   exact⟨o,es,ep,hk' _ o (fun hc=>(hf _ (sub _ hc)).2.1 rfl) ho,r⟩
 self:=fun _ _ _ _ _ st h=>GI st.z h
section
variable {prog:Ai}{w:Ax}{A:BE}{E:AD->AG->Prop}{s:AG}
noncomputable abbrev zT1 (h:Heap) (l1:Addr):Heap:=h.push { cls:=.type "tuple_iterator",data:=.fields #[.ref l1,.int 0 0] }
abbrev zT2 (h:Heap) (l1 l2:Addr):Heap:=(zT1 h l1).push { cls:=.type "tuple_iterator",data:=.fields #[.ref l2,.int 0 0] }
abbrev zT3 (h:Heap) (l1 l2:Addr):Heap:=(zT2 h l1 l2).push { cls:=.type "tuple",data:=.seq #[.ref h.objs.size,.ref (zT1 h l1).objs.size] }
abbrev zT4 (h:Heap) (l1 l2:Addr):Heap:=(zT3 h l1 l2).push { cls:=.type "tuple",data:=.seq #[.none,.none] }
abbrev zT5 (h:Heap) (l1 l2:Addr):Heap:=(zT4 h l1 l2).push { cls:=.type "zip",data:=.fields #[.none,.bool false,.bool false,.ref (zT2 h l1 l2).objs.size,.ref (zT3 h l1 l2).objs.size] }
theorem zHQ(l1 l2:Addr)(xs ys:Array AD) :
  Ir (Builtin.«zip.__new__» ⟨[.type "zip",.ref l1,.ref l2],[]⟩) (fun _ R s=>s.heap.IsTuple l1 xs/\s.heap.IsTuple l2 ys/\R (.ok (.ret (.ref (zT4 s.heap l1 l2).objs.size))) { s with heap:=zT5 s.heap l1 l2 }) :=
 .of_wp fun prog w A R s h=>by
  obtain⟨hp,g,d,tk,os⟩:=s; obtain⟨hl1,hl2,h⟩:=h
  have sub0:=sub_zip
  have T1:Ge (Gf ⟨hp,g,d,tk,os⟩) l1 xs:=hl1
  have T2:Ge (Gf ⟨hp.push { cls:=.type "tuple_iterator",data:=.fields #[.ref l1,.int 0 0] },g,d,tk,os⟩) l2 ys:=Jj hl2 _
  wp_walk using CF T1,CF T2
  exact⟨_,rfl,h⟩
theorem zEm(hl1:s.heap.IsTuple l1 xs)(hl2:s.heap.IsTuple l2 ys)
  (h:∀ h',ZTn true (s.heap.objs.size+4) (s.heap.objs.size+2) (s.heap.objs.size+3) s.heap.objs.size (s.heap.objs.size+1) l1 l2 0 h'->(∀ c o,s.heap.get? c=some o->h'.get? c=some o)->Q (.ref (s.heap.objs.size+4)) { s with heap:=h' }) :
  AV (model prog w) A (call (.type "zip") [.ref l1,.ref l2]) Q E s:=by
 refine Ek F.called_zip (by decide) (F.typeCall_zip_2 _ _) (F.newCall_zip_2 _ _) (fun obj=>F.args_object_init_3 obj _ _) F.entry_zip_new (zHQ l1 l2 xs ys) ⟨hl1,hl2,?_⟩
 have z1:(zT1 s.heap l1).objs.size=s.heap.objs.size+1:=BS ..
 have z2:(zT2 s.heap l1 l2).objs.size=s.heap.objs.size+2:=by rw[BS,z1]
 have z3:(zT3 s.heap l1 l2).objs.size=s.heap.objs.size+3:=by rw[BS,z2]
 have z4:(zT4 s.heap l1 l2).objs.size=s.heap.objs.size+4:=by rw[BS,z3]
 have up:∀ c o,(zT4 s.heap l1 l2).get? c=some o->(zT5 s.heap l1 l2).get? c=some o:=fun c o e=>AE _ e
 have g5:(zT5 s.heap l1 l2).get? (zT4 s.heap l1 l2).objs.size=some _:=AQ _ rfl
 have g4:(zT5 s.heap l1 l2).get? (zT3 s.heap l1 l2).objs.size=some _:=up _ _ (AQ _ rfl)
 have g3:(zT5 s.heap l1 l2).get? (zT2 s.heap l1 l2).objs.size=some _:=up _ _ (AE _ (AQ _ rfl))
 have g2:(zT5 s.heap l1 l2).get? (zT1 s.heap l1).objs.size=some _:=up _ _ (AE _ (AE _ (AQ _ rfl)))
 have g1:(zT5 s.heap l1 l2).get? s.heap.objs.size=some _:=up _ _ (AE _ (AE _ (AE _ (AQ _ rfl))))
 show _/\_
 rw[z2,z3,z4]at g5
 rw[z1,z2]at g3
 rw[z3]at g4
 rw[z1]at g2
 rw[z4]
 exact⟨⟨_,g5,rfl⟩,h _ ⟨g5,g3,⟨_,_,g4⟩,⟨_,g1,rfl,rfl⟩,⟨_,g2,rfl,rfl⟩⟩ fun c o x=>up _ _ (AE _ (AE _ (AE _ (AE _ x))))⟩
end
open AutoSeq1 (wpAny_loadPart')
noncomputable def rngV (lo:Int) (n:Nat):List V:=(AF n).map fun (i:Nat)=>V.int (lo+(i:Int))
theorem zDX(lo:Int)(n:Nat):(rngV lo n).length=n:=by simp[rngV]
theorem zFU{lo:Int}{n:Nat}{acc:Array AD}(h:El (fun i v=>∃ t,v=.int (lo+i * 1) t) acc n):Vals (rngV lo n) acc.toList:=by
 obtain⟨hn,hi⟩:=h
 have key:∀ (xs:List V) (us:List AD),xs.length=us.length->(∀ (i:Nat) (x:V) (u:AD),xs[i]?=some x->us[i]?=some u->RelV x u)->Vals xs us:=by
  intro xs
  induction xs with
  | nil=>intro us hl _; cases us with
   | nil=>exact .nil
   | cons _ _=>cases hl
  | cons x xs ih=>intro us hl hr; cases us with
   | nil=>cases hl
   | cons u us=>exact .cons (hr 0 x u rfl rfl) (ih us (by simpa using hl) fun i y v e1 e2=>hr (i+1) y v (by simpa using e1) (by simpa using e2))
 refine key _ _ (by rw[zDX]; simp[hn]) fun i x u e1 e2=>?_
 unfold rngV at e1
 rw[Af]at e1
 cases e3:(AF n)[i]? with
 | none=>rw[e3]at e1; cases e1
 | some j =>
  rw[e3]at e1
  have hj:j=i/\i < n:=by
   obtain⟨h1,h2⟩:=Ac.mp e3
   rw[List.getElem_range]at h2
   exact⟨h2.symm,by simpa using h1⟩
  obtain⟨rfl,hjn⟩:=hj
  have e1':x=V.int (lo+(j:Int)):=(Au e1).symm
  subst e1'
  obtain⟨t,ht⟩:=hi j u (by simpa using e2)
  exact⟨t,by rw[ht]; simp⟩
section
variable {prog:Ai}{w:Ax}{A:BE}{E:AD->AG->Prop}{s:AG}
theorem zGM{Q:List AD->AG->Prop}{r:Addr}{a b c:Int}{t u v:Tok}{n:Nat}(hh:A.handled=none)(hr:Kr s.heap r a b c t u v)(hsmall:D7 a b c=true)(hn:B9 a b c=n)(hlen:n<=2 ^ 24)
  (hQ:∀ h' tk acc,(∀ b o,s.heap.get? b=some o->h'.get? b=some o)->El (fun i v=>∃ t,v=.int (a+i * c) t) acc n->Q acc.toList { s with heap:=h',toks:=tk }) :
  AV (model prog w) A (collect (.ref r)) Q E s:=by
 unfold collect
 refine AB (wpAny_runValue (Es F.entry_proto_collect ?_)); rw[DM F.plain_proto_collect _]
 show AV _ A.in1 (Kq [] >>= fun l=>again (.builtin "list.__iadd__" ⟨[l,.ref r],[]⟩)) _ _ s
 refine AB (BF (AH ⟨EN IF _,Es F.entry_list_iadd ?_⟩)); rw[DM IF _]
 show AV _ A.in1 (Bu (.ref s.heap.objs.size) (.ref r) (.ref s.heap.objs.size)) _ _ _
 have hS:(s.heap.push { cls:=.type "list",data:=.seq ([]:List AD).toArray }).get? s.heap.objs.size=some { cls:=.type "list",data:=.seq ([]:List AD).toArray }:=AQ _ rfl
 have hr2:Kr (s.heap.push { cls:=.type "list",data:=.seq ([]:List AD).toArray }) r a b c t u v:=AE _ hr
 let RR:Result->AG->Prop:=fun r s'=>match r with
  | .ok (.ret v)=>v=.ref s.heap.objs.size/\∃ h' tk acc c',s'={ s with heap:=h',toks:=tk }/\(∀ b o,s.heap.get? b=some o->h'.get? b=some o)/\h'.get? s.heap.objs.size=some { cls:=.type "list",dict:=none,data:=.seq acc c',slots:=#[] }/\El (fun i v=>∃ t,v=.int (a+i * c) t) acc n
  | _=>False
 have go:∀ (v:AD) (s':AG),RR (.ok (.ret v)) s'->AV (model prog w) A (match v with | .ref a=>(do match (← load a).data with | .seq xs _=>pure xs.toList | _=>unsupported "internal:collect") | _=>unsupported "internal:collect") Q E s':=fun v s' hR=>by
  obtain⟨rfl,h',tk,acc,c',rfl,hk,hS',hacc⟩:=hR
  show AV _ A (load s.heap.objs.size >>= _) _ _ _
  exact AB (wpAny_load hS' (AH (hQ h' tk acc hk hacc)))
 have base:=wpAny_extend_range (prog:=prog) (w:=w) (A:=A) (R:=RR) (s:={ s with heap:=s.heap.push { cls:=.type "list",data:=.seq ([]:List AD).toArray } }) hh hr2 hsmall hn hlen _ (.ref s.heap.objs.size) _ hS fun h' tk acc' c' hk hS' hacc =>
  ⟨rfl,h',tk,acc',c',rfl,fun b o e=>hk b o (Ag (AJ e)) (AE _ e),hS',hacc⟩
 refine Bj base (fun fin s' h=>?_) (fun e s' h=>A8 h)
 cases fin with
 | done f=>cases f with
  | ret v=>exact go v s' h
  | next=>exact A8 h
  | brk=>exact A8 h
  | cont=>exact A8 h
 | again c' =>
  refine⟨h.1,Dw h.2 fun r s'' hr=>?_⟩
  cases r with
  | error e=>exact A8 hr
  | ok f=>cases f with
   | ret v=>exact go v s'' hr
   | next=>exact A8 hr
   | brk=>exact A8 hr
   | cont=>exact A8 hr
theorem zFz(r:Addr){a b c:Int}{t u v:Tok}{n:Nat}(hsmall:D7 a b c=true)(hn:B9 a b c=n)(hlen:n<=2 ^ 24) :
  Ir (Builtin.«tuple.__new__» ⟨[.type "tuple",.ref r],[]⟩) (fun A R s=>A.handled=none/\s.heap.get? r=some { cls:=.type "range",data:=.fields #[.int a t,.int b u,.int c v] }/\∀ (h':Heap) (tk:Nat) (acc:Array AD),(∀ b o,s.heap.get? b=some o->h'.get? b=some o) ->
   El (fun i v=>∃ t,v=.int (a+i * c) t) acc n->R (.ok (.ret (.ref h'.objs.size))) { s with heap:=h'.push { cls:=.type "tuple",data:=.seq acc },toks:=tk }) :=
 .of_wp fun prog w A R s h=>by
  obtain⟨hh,hr,h⟩:=h
  have s1:=sub_tuple_self
  have s2:=init_tuple_lookup
  have s3:=madeHere_tuple
  have hT:s.TypeIs (.ref r) "range":=⟨_,hr,rfl⟩
  have hh1:A.in1.handled=none:=hh
  have hr':Kr s.heap r a b c t u v:=hr
  wp_walk using DV hT,zGM hh1 hr' hsmall hn hlen
  intro h' tk acc hk hacc
  show AV _ _ (Bn acc.toList.toArray >>= fun v=>ret v) _ _ _; unfold Bn
  refine AB (BF ?_ (show acc.toList.toArray.size<=AC by simp only[Gp]; rw[hacc.1,Bz]; omega)); refine AH ⟨_,rfl,?_⟩
  rw[show acc.toList.toArray=acc by simp]
  exact h h' tk acc hk hacc
theorem zGE{Q:AD->AG->Prop}{r:Addr}{a b c:Int}{t u v:Tok}{n:Nat}(hh:A.handled=none)(hr:s.heap.get? r=some { cls:=.type "range",data:=.fields #[.int a t,.int b u,.int c v] })(hsmall:D7 a b c=true)
  (hn:B9 a b c=n) (hlen:n<=2 ^ 24)
  (h:∀ (h':Heap) (tk:Nat) (acc:Array AD),(∀ b o,s.heap.get? b=some o->h'.get? b=some o)->El (fun i v=>∃ t,v=.int (a+i * c) t) acc n->Q (.ref h'.objs.size) { s with heap:=h'.push { cls:=.type "tuple",data:=.seq acc },toks:=tk }) :
  AV (model prog w) A (call (.type "tuple") [.ref r]) Q E s :=
 Ek F.called_tuple (by decide) (F.typeCall_tuple_1 _) (F.newCall_tuple_1 _) (fun obj=>Dl obj _) F.entry_tuple_new (zFz r hsmall hn hlen) ⟨hh,hr,fun h' tk acc hk hacc=>⟨⟨_,AQ _ rfl,rfl⟩,h h' tk acc hk hacc⟩⟩
end
section
variable {X:Cx}
theorem zIy:CallR X (.type "range") (fun xs H Q=>∃ j:Int,xs=[.int j]/\∀ p,H p=none->Q (.ref p) (upd H p (.rng 0 j))):=by
 intro pins s σ H xs us Q I r h
 obtain⟨j,rfl,q⟩:=h
 obtain⟨u,rfl,t,rfl⟩:=vals1 r
 refine Km ⟨.ref s.heap.objs.size,_,I.laid (fun b o e=>AE _ e) (AK _) (show ObjOk X.prog X.w _ _ _ (.rng 0 j) from ⟨_,_,_,AQ _ rfl⟩),rfl,q _ (I.hok.fresh (AK _))⟩
theorem zI6:CallR X (.type "range") (fun xs H Q=>∃ i j:Int,xs=[.int i,.int j]/\∀ p,H p=none->Q (.ref p) (upd H p (.rng i j))):=by
 intro pins s σ H xs us Q I r h
 obtain⟨i,j,rfl,q⟩:=h
 obtain⟨u,u',rfl,⟨t,rfl⟩,⟨t',rfl⟩⟩:=vals2 r
 refine Kn ⟨.ref s.heap.objs.size,_,I.laid (fun b o e=>AE _ e) (AK _) (show ObjOk X.prog X.w _ _ _ (.rng i j) from ⟨_,_,_,AQ _ rfl⟩),rfl,q _ (I.hok.fresh (AK _))⟩
theorem rsz{lo hi:Int}:B9 lo hi 1=(((hi - lo).toNat:Nat):Int):=by rw[KH]; split <;> omega
theorem zF1(hc:X.calm=true):CallR X (.type "list") (fun xs H Q=>∃ p lo hi,xs=[.ref p]/\H p=some (.rng lo hi)/\(-(2 ^ 62)<=lo/\lo < 2 ^ 62/\-(2 ^ 62)<=hi/\hi < 2 ^ 62)/\(hi - lo).toNat<=2 ^ 24/\∀ l,H l=none->Q (.ref l) (upd H l (.lst (rngV lo (hi - lo).toNat)))):=by
 intro pins s σ H xs us Q I r h
 obtain⟨p,lo,hi,rfl,hp,⟨b1,b2,b3,b4⟩,hl,q⟩:=h
 obtain⟨u,rfl,rx⟩:=vals1 r
 cases rx
 obtain⟨t,t',t'',ho⟩:=(show ObjOk X.prog X.w H s.heap p (.rng lo hi) from I.hok p _ hp)
 refine call_list_range (n:=(hi - lo).toNat) (I.ok.hd hc) ho (Iz b1 b2 b3 b4) rsz hl fun h' tk acc c' hk e hacc=>?_
 exact⟨.ref s.heap.objs.size,_,I.laid hk (AK _) (show ObjOk X.prog X.w _ h' _ (.lst _) from ⟨by rw[zDX,Bz]; omega,acc.toList,c',zFU hacc,by simpa using e⟩),rfl,q _ (I.hok.fresh (AK _))⟩
theorem zE5(hc:X.calm=true):CallR X (.type "tuple") (fun xs H Q=>∃ p lo hi,xs=[.ref p]/\H p=some (.rng lo hi)/\(-(2 ^ 62)<=lo/\lo < 2 ^ 62/\-(2 ^ 62)<=hi/\hi < 2 ^ 62)/\(hi - lo).toNat<=2 ^ 24/\∀ l,H l=none->Q (.ref l) (upd H l (.tup (rngV lo (hi - lo).toNat)))):=by
 intro pins s σ H xs us Q I r h
 obtain⟨p,lo,hi,rfl,hp,⟨b1,b2,b3,b4⟩,hl,q⟩:=h
 obtain⟨u,rfl,rx⟩:=vals1 r
 cases rx
 obtain⟨t,t',t'',ho⟩:=(show ObjOk X.prog X.w H s.heap p (.rng lo hi) from I.hok p _ hp)
 refine zGE (n:=(hi - lo).toNat) (I.ok.hd hc) ho (Iz b1 b2 b3 b4) rsz hl fun h' tk acc hk hacc=>?_
 have I1:Inv X pins σ H { s with heap:=h',toks:=tk }:=I.kept hk
 exact⟨.ref h'.objs.size,_,I1.laid (t':=tk) (fun b o e=>AE _ e) (AK _) (show ObjOk X.prog X.w _ _ _ (.tup _) from ⟨by rw[zDX,Bz]; omega,acc.toList,zFU hacc,by simpa using TupD.new h' acc⟩),rfl,q _ (I1.hok.fresh (AK _))⟩
theorem zIN{bs:List Bool}:∀ {us:List AD},Vals (bs.map V.bl) us->LSm.BoolsAre us bs:=by
 induction bs with
 | nil=>intro us h; cases h; exact .nil
 | cons b bs ih=>intro us h; cases h with
  | cons r t=>cases r; exact .cons b (ih t)
theorem zKm(hc:X.calm=true):CallR X (.builtin "all") (fun xs H Q=>∃ (p:Addr) (bs:List Bool),xs=[.ref p]/\SqL X.K H p (bs.map V.bl)/\Q (.bl (bs.all id)) H):=by
 intro pins s σ H xs us Q I r h
 obtain⟨p,bs,rfl,hq,q⟩:=h
 obtain⟨u,rfl,rx⟩:=vals1 r
 cases rx
 obtain⟨its,rv,pl,hz⟩:=I.list hq
 have hb:=zIN rv
 have hl:=pl.isList
 have hlt:p < s.heap.objs.size:=by obtain⟨_,e,_⟩:=hl; exact AJ e
 refine call_all_walk (Fw hl ?_)
 refine⟨s.heap.objs.size,[s.heap.objs.size,p],[s.heap.objs.size],its.toArray.size,_,_,fun i=>(bs[i]?).getD true,rfl,JP (A:=X.A.in1) (I.ok.hd hc) _ p (Ag hlt) its.toArray,⟨⟨_,AQ _ rfl,rfl,rfl⟩,hl.push _⟩,fun i v s' Q' E' hP hQ=>?_,fun h' tk hk=>?_⟩
 ·obtain⟨b,e,rfl⟩:=hb.get i v (by simpa using hP)
  simp only[e,FJ]at hQ
  exact Cq hQ
 ·have e:((AF its.toArray.size).all fun i=>(bs[i]?).getD true)=bs.all id:=by rw[AO,hb.length]; exact LSm.range_all bs
  rw[e]
  exact⟨.bl (bs.all id),H,I.kept (GY hk),rfl,q⟩
end
theorem zD6(t:Addr)(items:Array AD)(n:Nat)(dd:Option Addr)(sl:Array (Option AD))(x:AD)(e:AD->Bool)(j:Nat)(hj:j < items.size)(hit:e items[j]=true)(hno:∀ m (hm:m < items.size),m < j->e items[m]=false) :
  Ir (Builtin.«tuple.index» ⟨[.ref t,x],[]⟩) (fun A R s=>s.heap.get? t=some { cls:=.type "tuple",dict:=dd,data:=.seq items n,slots:=sl }/\(∀ y,y∈items->G8 A.in1 s y x (e y))/\R (.ok (.ret (.int j s.toks))) { s with toks:=s.toks+1 }) :=
 .of_wp fun prog w A R s h=>by
  obtain⟨hp,g,d,tk,os⟩:=s; obtain⟨hl,he,h⟩:=h
  wp_walk using wpAny_loadPart' hl
  show AV _ _ (forIn (m:=Sem) (β:=Option Fin×PUnit) [:min items.size items.size] (none,()) _) _ _ _
  rw[IG]
  refine wpAny_forIn_list _ (fun rest b s'=>b=(none,())/\s'=⟨hp,g,d,tk,os⟩/\∃ i,i<=j/\rest=Ec i (items.size - i) 1) _ ?_ ?_ _ _ ?_
  ·rintro i rest b s' ⟨rfl,rfl,k,hk,hr⟩
   have hlt:k < items.size:=by lia
   obtain⟨m,hm⟩:∃ m,items.size - k=m+1:=⟨items.size - k - 1,by lia⟩
   rw[hm,Hn]at hr
   injection hr with h1 h2
   subst h1
   have hi:items[i]?=some items[i]:=by simp[hlt]
   simp only[hi]
   refine AB (he items[i] (Array.getElem_mem hlt) prog w _ _ ?_)
   by_cases hij:i=j
   ·subst hij
    rw[hit]
    simp only[if_true]
    refine AB ?_
    show AV _ _ (do let v ← mkInt i; ret v) _ _ _
    exact AB (GQ (AH (AH (AH ⟨_,rfl,h⟩))))
   ·rw[hno i hlt (by lia)]
    simp only[C2,if_false]
    exact AH ⟨rfl,rfl,i+1,by lia,by rw[h2]; congr 1; lia⟩
  ·rintro b s' ⟨rfl,rfl,k,hk,hr⟩
   have q:items.size - k=0:=by have q:=congrArg JH hr; simp at q; lia
   lia
  ·refine⟨rfl,rfl,0,Cp _,?_⟩
   simp[IH]
section
variable {X:Cx}
def rTupIndex (K:AM):V->List V->Hp->VK->Prop:=fun x vs H Q=>∃ t xs y j,x=.ref t/\vs=[y]/\SqT K H t xs/\flatV y=true/\xs.all flatV=true/\(xs.findIdx? fun z=>eqV z y)=some j/\Q (.int (j:Nat)) H
theorem zF9:MtM X "tuple.index" (rTupIndex X.K):=by
 intro pins s σ H x vs v us Q I rx rv h
 obtain⟨t,xs,y,j,rfl,rfl,hq,fy,fx,hj,q⟩:=h
 cases rx
 obtain⟨u,rfl,ru⟩:=rv.one
 obtain⟨its,r,⟨⟨cls,dd,data,sl⟩,ho,hc,n,hd⟩,hz⟩:=I.tuple hq
 simp only at hc hd
 subst hc hd
 have hlen:=r.length
 obtain⟨hjl,hjt,hjn⟩:=FC.mp hj
 have hiU:∀ m (hm:m < its.length),eqU y its[m]=eqV (xs[m]'(by lia)) y:=fun m hm=>by
  have e1:xs[m]?=some (xs[m]'(by lia)):=by simp
  obtain⟨u',hu',ru'⟩:=r.get e1
  have e2:its[m]=u':=by rw[BP hm]at hu'; exact Au hu'
  rw[e2]
  exact zFD ru' (Aw.mp fx _ (EA _))
 refine DD F.slot_tuple_index ⟨_,ho,rfl⟩ F.entry_tuple_index (F.args_tuple_index_2 _ _)
  (zD6 t its.toArray n dd sl u (eqU y) j (by simp; lia) (by show eqU y its[j]=true; rw[hiU j (by lia)]; exact hjt) (fun m hm hmj=>by
   show eqU y its[m]=false
   rw[hiU m (by simpa using hm)]
   exact Bool.eq_false_iff.mpr (hjn m hmj))) ⟨ho,?_,?_⟩
 ·intro z hzm
  exact zCQ ru fy r fx z (by simpa using hzm)
 ·exact⟨.int (j:Nat),H,I.tok _,⟨_,rfl⟩,q⟩
end
section
variable {X:Cx}
theorem Same.upd(h:H p=none):Same H (upd H p o):=fun b u e=>by rw[zAB (zAE e h)]; exact e
end
theorem zQJ(hg:Gl X x)(hm:X.mg x=none)(hv:B6 x=some (.type T))(hn:x≠"__name__":=by decide)(hd:(x == ("__debug__":Str))=false:=by decide):PE X (.Name x pos) (tC (.ty T)):=zOG (v:=.ty T) hg hm hv rfl hn hd
theorem zNX(K:AM)(hK:X.K=K)(hc:X.calm=true)(h:PGs X es t)(hn:(B3 es X.env).length=n:=by rfl)(hst:(B3 es X.env).findIdx? (·.1)=none:=by rfl):PG X (.Tuple es k pos) (gTup K n t):=by
 subst hK
 exact zP2 hc h hn hst
section
variable {prog:Ai}{w:Ax}{A:BE}{E:AD->AG->Prop}{s:AG}
theorem zHi(hT:T="list"\/T="tuple")(ho:s.heap.get? it=some o)(hc:o.cls=.type T)(hd:o.data=.seq vs.toArray n)(hI:Ei vs ns)(h64:vs.length < 64)
  (h:∀ (h1 h':Heap) (out:Array AD) (e:Nat) (ns':List Int),(∀ b o,s.heap.get? b=some o->h1.get? b=some o)->(∀ b o,h1.get? b=some o->h'.get? b=some o)->h'.get? h1.objs.size=some (IZ "list" out e)->Ei out.toList ns'->ns'.Perm ns->ns'.Pairwise (·<=·)->Q (.ref h1.objs.size) { s with heap:=h' }) :
  AV (model prog w) A (call (.builtin "sorted") [.ref it]) Q E s:=by
 refine Calls.call_function_entry kind_sorted plain_sorted entry_sorted (args_sorted1 _) ?_; unfold Builtin.«sorted»; refine AB (m:=checkCount "sorted" 1 1 _) (AH ?_)
 refine AB (wpAny_collect_seq it hT ho hc hd (fun h1 hk1=>?_) (by rw[AO,Bz]; lia))
 refine AB (wpAny_newList ?_)
 have hoL:(h1.push (IZ "list" vs.toArray 0)).get? h1.objs.size=some (IZ "list" vs.toArray 0):=AQ _ rfl
 show AV _ _ _ _ _ { s with heap:=h1.push (IZ "list" vs.toArray 0) }
 refine AB (Br (A9 slot_list_sort ⟨_,hoL,rfl⟩ entry_list_sort (list_sort_tree hoL hI h64 fun out ns' a1 a2 a3=>⟨_,rfl,?_⟩) (args_list_sort _)))
 obtain⟨e,he⟩:=sortedHeap_at (out:=out) hoL
 refine AH ⟨_,rfl,h h1 _ out e ns' hk1 (fun b ob q=>?_) he a1 a2 a3⟩
 have hlt:=AJ q
 rw[sortedHeap_old (Ag hlt) (by rw[size_push']; exact DG hlt)]
 exact AE _ q
end
theorem zCe:∀ {us:List AD} {ns:List Int},Ei us ns->Vals (ns.map V.int) us
 | _,_,.nil=>.nil
 | _,_,.cons _ t r=>.cons ⟨t,rfl⟩ (zCe r)
section
variable {X:Cx}
theorem zF8:CallR X (.builtin "sorted") (fun xs H Q=>∃ (p:Addr) (ns:List Int),xs=[.ref p]/\(SqL X.K H p (ns.map V.int)\/SqT X.K H p (ns.map V.int))/\ns.length < 64/\∀ (l:Addr) (ns':List Int),H l=none->ns'.Perm ns->ns'.Pairwise (·<=·)->Q (.ref l) (upd H l (.lst (ns'.map V.int)))):=by
 intro pins s σ H xs us Q I r h
 obtain⟨p,ns,rfl,hq,hl,q⟩:=h
 obtain⟨u,rfl,rx⟩:=vals1 r
 cases rx
 have go:∀ (T:String) (o:Obj) (its:List AD) (n:Nat),(T="list"\/T="tuple")->s.heap.get? p=some o->o.cls=.type T->o.data=.seq its.toArray n->Vals (ns.map V.int) its->AV (model X.prog X.w) X.A (call (.builtin "sorted") [.ref p]) (EP X pins σ Q) X.xe s:=fun T o its n hT ho hc hd rv=>by
  have hlen:=rv.length
  rw[A7]at hlen
  refine zHi hT ho hc hd (zHy rv) (by lia) fun h1 h' out e ns' k1 k2 he hI hp hs=>?_
  have I1:Inv X pins σ H { s with heap:=h1 }:=I.kept (t':=s.toks) k1
  have hl':ns'.length < 64:=by rw[hp.length_eq]; exact hl
  exact⟨.ref h1.objs.size,_,I1.laid (t':=s.toks) k2 (AK _) (show ObjOk X.prog X.w _ h' _ (.lst _) from ⟨by rw[A7,Bz]; lia,out.toList,e,zCe hI,by simpa [IZ] using he⟩),rfl,q _ ns' (I1.hok.fresh (AK _)) hp hs⟩
 rcases hq with hq | hq
 ·obtain⟨its,rv,⟨o,n,e,c,_,d⟩,_⟩:=I.list hq
  exact go "list" o its n (.inl rfl) e c d rv
 ·obtain⟨its,rv,⟨o,e,c,n,d⟩,_⟩:=I.tuple hq
  exact go "tuple" o its n (.inr rfl) e c d rv
end
section
variable {prog:Ai}{w:Ax}{A:BE}{E:AD->AG->Prop}{s:AG}
theorem zCZ{t sl:Addr}{items:Array AD}{vl vu:AD}{lo hi:Option Int}{Q:AD->AG->Prop}(ht:Ih s.heap t items)(hs:s.heap.IsSliceOf sl vl vu .none)(pl:E5 vl lo)(pu:E5 vu hi)
  (hw:HT.sIx items.size 0 lo=0/\HT.sIx items.size items.size hi=items.size) (h:Q (.ref t) s):AV (model prog w) A (ED (.ref t) (.ref sl)) Q E s:=by
 obtain⟨os,hos,hcs,hds⟩:=id hs
 have hTs:s.TypeIs (.ref sl) "slice":=⟨os,hos,hcs⟩
 unfold ED; try with_reducible refine Br ?_
 first | refine AB (AH ?_) | skip
 refine AB (Ik ht.typeIs (by decide) ?_); refine AB (Ay (name:=Ba "__getitem__") ht.typeIs Bi (A9 Bi ht.typeIs ID ?_ (IS _ _)))
 show AV _ _ (Ex (.ref t) >>= _) _ _ s; refine AB (KJ ht ?_); refine AB (DV hTs ?_)
 rw[if_pos (by decide)]; refine AB (HT.sliceApplied_gen hs pl pu ?_)
 have hyes:((((HT.sIx items.size 0 lo:Nat):Int) == 0 && (1:Int) == 1 && (HT.sIx items.size items.size hi - HT.sIx items.size 0 lo) == items.size)=true):=by
  rw[hw.1,hw.2]; simp
 show AV _ _ (if (((HT.sIx items.size 0 lo:Nat):Int) == 0 && (1:Int) == 1 && (HT.sIx items.size items.size hi - HT.sIx items.size 0 lo) == items.size)=true then _ else _) _ _ s
 rw[if_pos hyes]
 refine AB ?_
 unfold JQ
 refine AB (DV ht.typeIs (AH ?_))
 rw[if_pos (by decide)]
 exact AB (Cw (AH ⟨_,rfl,AH h⟩))
end
end L2
namespace D
open PySem L2
abbrev Fg:=AM
structure Lam where
 params:HM
 body:Expr
 scope:Df
 qual:Str
 x:Str
inductive T where
 | a (v:V)
 | t (xs:List T)
 | l (xs:List T)
 | f (n:Str)
 | x (c:Str) (fs:List (Str×V))
 | m (L:Lam) (ts:List T)
abbrev Dk:=Sum (List (Key×T)) (List (List Key×T))
inductive G where
 | v (t:T)
 | l (xs:List T)
 | r (xs:List T)
 | k (xs:List T)
 | d (kvs:Dk)
 | e (kvs:Dk)
noncomputable def isMut:G->Bool
 | .l _=>true
 | .d _=>true
 | _=>false
inductive S where
 | v (t:T)
 | l (xs:List T)
 | s (i:Nat)
 | d (kvs:Dk)
abbrev En:=List (Option G)
abbrev DE:=En->Option (S×En)
abbrev DT:=En->Option (Bool×En)
abbrev DA:=En->Option (List S×En)
inductive O where
 | nx (g:En) | rt (s:S) (g:En) | bk (g:En) | ct (g:En)
abbrev DS:=En->Option O
noncomputable def cOk:List V->Bool
 | .int _::_=>true
 | .ref _::_=>true
 | [.str x]=>decide (x="yes") || decide (x="no")
 | _=>false
def KT (K:Fg) (a:Addr) (xs:List V):Prop:=∃ (o:Obj) (its:Array AD) (n:Nat),K.lookup a=some o/\o.cls=.type "tuple"/\o.dict=none/\o.data=.seq its n/\its.size<=AC/\Vals xs its.toList/\cOk xs=true
def Tp (K:Fg) (H:Hp) (p:Addr) (vs:List V):Prop:=H p=some (.tup vs)\/KT K p vs
theorem Tp.sq(h:Tp K H p vs):SqT K H p vs:=by
 rcases h with h | ⟨o,its,n,a,b,c,d,e,f,_⟩
 ·exact SqT.of h
 ·exact .inr ⟨o,its,n,a,b,d,e,f⟩
theorem Tp.of(h:H p=some (.tup vs)):Tp K H p vs:=.inl h
def KL (K:Fg) (a:Addr) (xs:List V):Prop:=∃ (o:Obj) (its:Array AD) (n:Nat),K.lookup a=some o/\o.cls=.type "list"/\o.dict=none/\o.data=.seq its n/\its.size<=AC/\Vals xs its.toList
def KF (K:Fg) (H:Hp) (p:Addr) (vs:List V):Prop:=(∃ o,H p=some (.frz o (.lst vs)))\/KL K p vs
def XOk (K:Fg) (H:Hp) (p:Addr) (c:Str) (fs:List (Str×V)):Prop:=∃ (C:Addr) (d:Option Addr),D8 K Ad c=some (some (.ref C)) /\
 H p=some (.ext fun h=>∃ o,h.get? p=some o/\o.cls=.ref C/\o.dict=d/\PySem.W.notCls o=true)/\((d=none/\fs=[])\/∃ dx,d=some dx/\H dx=some (.xd fs))
def FOk (K:Fg) (v:V) (n:Str):Prop:=∃ p,v=.ref p/\D8 K Ad n=some (some (.ref p))
noncomputable def lamO (L:Lam) (f c c':Addr):Heap->Prop:=fun h=>∃ pm ct,h.get? f=some (FP "<lambda>" L.qual L.params L.body L.scope [(L.x,c)] pm c' ct)
def cellO (c:Addr) (v:V) (o:Obj):Heap->Prop:=fun h=>h.get? c=some o/\∃ u,RelV v u/\o.data=.cell (some u)
def LOk (H:Hp) (f:Addr) (L:Lam) (vs:List V):Prop:=∃ (c c':Addr) (v:V) (o:Obj),vs=[v]/\H f=some (.ext (lamO L f c c'))/\H c=some (.ext (cellO c v o))/\H c'=some (.cod L.qual)
mutual
noncomputable def Im (K:Fg) (H:Hp):V->T->Prop
 | v,.a u=>v=u
 | v,.t ts=>∃ p vs,v=.ref p/\Tp K H p vs/\Ims K H vs ts
 | v,.l ts=>∃ p vs,v=.ref p/\KF K H p vs/\Ims K H vs ts
 | v,.f n=>FOk K v n
 | v,.x c fs=>∃ p,v=.ref p/\XOk K H p c fs
 | v,.m L ts=>∃ p vs,v=.ref p/\LOk H p L vs/\Ims K H vs ts
noncomputable def Ims (K:Fg) (H:Hp):List V->List T->Prop
 | vs,[]=>vs=[]
 | vs,t::ts=>∃ v r,vs=v::r/\Im K H v t/\Ims K H r ts
end
structure W where
 L:List Addr
 R:Addr->Prop
structure Fr where
 H0:Hp
 fx:List Addr
 pins:List (Nat×Addr)
def Evo (L:List Addr) (H H':Hp):Prop:=∀ b o,H b=some o->b∉L->H' b=some o
noncomputable def Mu:HO->Prop
 | .lst _=>True
 | .dK _=>True
 | .dT _=>True
 | _=>False
def LL (L:List Addr) (H:Hp):Prop:=∀ p∈L,∃ o,H p=some o/\Mu o
theorem Evo.refl:Evo L H H:=fun _ _ h _=>h
theorem Evo.trans(a:Evo L H H1)(b:Evo L H1 H2):Evo L H H2:=fun c o h n=>b c o (a c o h n) n
theorem Evo.wide(a:Evo L' H H')(h:∀ p∈L',p∈L):Evo L H H':=fun c o e n=>a c o e fun z=>n (h c z)
theorem Evo.new(h:H p=none):Evo L H (upd H p o):=fun b u e _=>by rw[zAB (zAE e h)]; exact e
theorem Evo.of_same(h:Same H H'):Evo L H H':=fun b u e _=>h b u e
theorem zB7(e:Evo L H H')(hL:LL L H)(h:Tp K H p vs):Tp K H' p vs:=by
 rcases h with h | h
 ·refine .inl (e _ _ h fun z=>?_)
  obtain⟨o,q,m⟩:=hL p z
  rw[h]at q; cases q; exact m
 ·exact .inr h
theorem LOk.evo(e:Evo L H H')(hL:LL L H)(h:LOk H f M vs):LOk H' f M vs:=by
 obtain⟨c,c',v,o,h0,h1,h2,h3⟩:=h
 have n:∀ {b o},H b=some o->¬ Mu o->b∉L:=fun {b o} q m z=>by
  obtain⟨u,q',m'⟩:=hL b z
  rw[q]at q'; cases q'; exact m m'
 exact⟨c,c',v,o,h0,e _ _ h1 (n h1 id),e _ _ h2 (n h2 id),e _ _ h3 (n h3 id)⟩
def TabOk (K:Fg) (H:Hp):Prop:=∀ c P,CG K "is_so"=some (c,P)->H P=some (.tbq "is_so.<locals>.<lambda>")
theorem TabOk.evo(e:Evo L H H')(hL:LL L H)(h:TabOk K H):TabOk K H':=fun c P z=>e _ _ (h c P z) fun m=>by
 obtain⟨o,q,mu⟩:=hL P m
 rw[h c P z]at q; cases q; exact mu
theorem KF.evo(e:Evo L H H')(hL:LL L H)(h:KF K H p vs):KF K H' p vs:=by
 rcases h with ⟨o,h⟩ | h
 ·refine .inl ⟨o,e _ _ h fun z=>?_⟩
  obtain⟨o,q,m⟩:=hL p z
  rw[h]at q; cases q; exact m
 ·exact .inr h
theorem XOk.evo(e:Evo L H H')(hL:LL L H)(h:XOk K H p c fs):XOk K H' p c fs:=by
 obtain⟨C,d,h1,h2,h3⟩:=h
 refine⟨C,d,h1,e _ _ h2 fun z=>?_,h3.imp id fun ⟨dx,a,b⟩=>⟨dx,a,e _ _ b fun z=>?_⟩⟩
 ·obtain⟨o,q,m⟩:=hL p z
  rw[h2]at q; cases q; exact m
 ·obtain⟨o,q,m⟩:=hL dx z
  rw[b]at q; cases q; exact m
mutual
theorem Im.evo(e:Evo L H H')(hL:LL L H):∀ {v:V} {t:T},Im K H v t->Im K H' v t
 | _,.a _,h=>h
 | _,.t _,h=>by
  unfold Im at h ⊢
  obtain⟨p,vs,rfl,hs,hi⟩:=h
  exact⟨p,vs,rfl,zB7 e hL hs,Ims.evo e hL hi⟩
 | _,.l _,h=>by
  unfold Im at h ⊢
  obtain⟨p,vs,rfl,hs,hi⟩:=h
  exact⟨p,vs,rfl,hs.evo e hL,Ims.evo e hL hi⟩
 | _,.f _,h=>by
  unfold Im at h ⊢
  exact h
 | _,.x _ _,h=>by
  unfold Im at h ⊢
  obtain⟨p,rfl,hs⟩:=h
  exact⟨p,rfl,hs.evo e hL⟩
 | _,.m _ _,h=>by
  unfold Im at h ⊢
  obtain⟨p,vs,rfl,hs,hi⟩:=h
  exact⟨p,vs,rfl,hs.evo e hL,Ims.evo e hL hi⟩
theorem Ims.evo(e:Evo L H H')(hL:LL L H):∀ {vs:List V} {ts:List T},Ims K H vs ts->Ims K H' vs ts
 | _,[],h=>h
 | _,_::_,h=>by
  unfold Ims at h ⊢
  obtain⟨v,r,rfl,h1,h2⟩:=h
  exact⟨v,r,rfl,Im.evo e hL h1,Ims.evo e hL h2⟩
end
section
variable {K:Fg}{H H':Hp}
theorem Ims.nil:Ims K H [] []:=by unfold Ims; rfl
theorem Ims.cons(h:Im K H v t)(hs:Ims K H vs ts):Ims K H (v::vs) (t::ts):=by unfold Ims; exact⟨v,vs,rfl,h,hs⟩
theorem Ims.inv(h:Ims K H vs (t::ts)):∃ v r,vs=v::r/\Im K H v t/\Ims K H r ts:=by unfold Ims at h; exact h
theorem Ims.inv0(h:Ims K H vs []):vs=[]:=by unfold Ims at h; exact h
theorem Ims.len:∀ {vs:List V} {ts:List T},Ims K H vs ts->vs.length=ts.length
 | _,[],h=>by rw[h.inv0]; rfl
 | _,_::_,h=>by obtain⟨v,r,rfl,_,h2⟩:=h.inv; simp[h2.len]
theorem Ims.app:∀ {vs us:List V} {ts ss:List T},Ims K H vs ts->Ims K H us ss->Ims K H (vs++us) (ts++ss)
 | _,_,[],_,h,h'=>by rw[h.inv0]; exact h'
 | _,_,_::_,_,h,h'=>by obtain⟨v,r,rfl,h1,h2⟩:=h.inv; exact .cons h1 (h2.app h')
theorem Ims.one(h:Im K H v t):Ims K H [v] [t]:=.cons h .nil
theorem Ims.get:∀ {vs:List V} {ts:List T} {i:Nat} {t:T},Ims K H vs ts->ts[i]?=some t->∃ v,vs[i]?=some v/\Im K H v t
 | _,[],_,_,_,e=>by simp at e
 | _,_::_,0,_,h,e=>by obtain⟨v,r,rfl,h1,h2⟩:=h.inv; simp at e; subst e; exact⟨v,rfl,h1⟩
 | _,_::_,i+1,_,h,e=>by obtain⟨v,r,rfl,h1,h2⟩:=h.inv; simpa using h2.get (i:=i) (by simpa using e)
theorem Ims.take:∀ (n:Nat) {vs:List V} {ts:List T},Ims K H vs ts->Ims K H (vs.take n) (ts.take n)
 | 0,_,_,_=>by simp; exact .nil
 | _+1,_,[],h=>by rw[h.inv0]; exact .nil
 | n+1,_,_::_,h=>by obtain⟨v,r,rfl,h1,h2⟩:=h.inv; exact .cons h1 (h2.take n)
theorem Ims.drop:∀ (n:Nat) {vs:List V} {ts:List T},Ims K H vs ts->Ims K H (vs.drop n) (ts.drop n)
 | 0,_,_,h=>h
 | _+1,_,[],h=>by rw[h.inv0]; exact .nil
 | n+1,_,_::_,h=>by obtain⟨v,r,rfl,h1,h2⟩:=h.inv; exact h2.drop n
theorem Ims.set:∀ {vs:List V} {ts:List T} (i:Nat) {v:V} {t:T},Ims K H vs ts->Im K H v t->Ims K H (vs.set i v) (ts.set i t)
 | _,[],_,_,_,h,_=>by rw[h.inv0]; exact .nil
 | _,_::_,0,_,_,h,h'=>by obtain⟨v,r,rfl,h1,h2⟩:=h.inv; exact .cons h' h2
 | _,_::_,i+1,_,_,h,h'=>by obtain⟨v,r,rfl,h1,h2⟩:=h.inv; exact .cons h1 (h2.set i h')
theorem Ims.erase:∀ {vs:List V} {ts:List T} (i:Nat),Ims K H vs ts->Ims K H (vs.eraseIdx i) (ts.eraseIdx i)
 | _,[],_,h=>by rw[h.inv0]; exact .nil
 | _,_::_,0,h=>by obtain⟨v,r,rfl,h1,h2⟩:=h.inv; exact h2
 | _,_::_,i+1,h=>by obtain⟨v,r,rfl,h1,h2⟩:=h.inv; exact .cons h1 (h2.erase i)
theorem Ims.rev:∀ {vs:List V} {ts:List T},Ims K H vs ts->Ims K H vs.reverse ts.reverse
 | _,[],h=>by rw[h.inv0]; exact .nil
 | _,_::_,h=>by obtain⟨v,r,rfl,h1,h2⟩:=h.inv; simp only[C8]; exact h2.rev.app (.one h1)
theorem Ims.atoms:∀ (vs:List V),Ims K H vs (vs.map T.a)
 | []=>.nil
 | v::r=>.cons (by unfold Im; rfl) (Ims.atoms r)
theorem Ims.of_atoms:∀ {vs:List V} {us:List V},Ims K H vs (us.map T.a)->vs=us
 | _,[],h=>h.inv0
 | _,_::_,h=>by obtain⟨v,r,rfl,h1,h2⟩:=h.inv; unfold Im at h1; rw[h1,Ims.of_atoms h2]
theorem Im.atom:Im K H v (.a v):=by unfold Im; rfl
theorem Im.tup(h:H p=some (.tup vs))(hs:Ims K H vs ts):Im K H (.ref p) (.t ts):=by unfold Im; exact⟨p,vs,rfl,Tp.of h,hs⟩
theorem Im.inv(h:Im K H v (.t ts)):∃ p vs,v=.ref p/\Tp K H p vs/\Ims K H vs ts:=by unfold Im at h; exact h
theorem Im.invl(h:Im K H v (.l ts)):∃ p vs,v=.ref p/\KF K H p vs/\Ims K H vs ts:=by unfold Im at h; exact h
theorem Im.fn(h:FOk K v n):Im K H v (.f n):=by unfold Im; exact h
theorem Im.invf(h:Im K H v (.f n)):FOk K v n:=by unfold Im at h; exact h
theorem Im.invx(h:Im K H v (.x c fs)):∃ p,v=.ref p/\XOk K H p c fs:=by unfold Im at h; exact h
theorem Im.lam(h:LOk H p L vs)(hs:Ims K H vs ts):Im K H (.ref p) (.m L ts):=by unfold Im; exact⟨p,vs,rfl,h,hs⟩
theorem Im.invm(h:Im K H v (.m L ts)):∃ p vs,v=.ref p/\LOk H p L vs/\Ims K H vs ts:=by unfold Im at h; exact h
theorem Im.inva(h:Im K H v (.a u)):v=u:=by unfold Im at h; exact h
end
theorem KF.sq(h:KF K H p vs):SqL K H p vs:=by
 rcases h with h | h
 ·exact .inl (.inr h)
 ·exact .inr h
theorem KF.of(h:SqL K H p vs)(n:∀ us,H p≠some (.lst us)):KF K H p vs:=by
 rcases h with (h | h) | h
 ·exact absurd h (n vs)
 ·exact .inl h
 ·exact .inr h
def DOk (K:Fg) (H:Hp):HO->Dk->Prop
 | .dK l,.inl kvs=>Ee (fun (a:Key×V) (b:Key×T)=>a.1=b.1/\Im K H a.2 b.2) l kvs
 | .dT l,.inr kvs=>Ee (fun (a:List Key×V) (b:List Key×T)=>a.1=b.1/\Im K H a.2 b.2) l kvs
 | _,_=>False
theorem DOk.mu(h:DOk K H o kvs):Mu o:=by
 unfold DOk at h
 split at h
 ·trivial
 ·trivial
 ·exact h.elim
theorem DOk.evo(e:Evo L H H')(hL:LL L H)(h:DOk K H o kvs):DOk K H' o kvs:=by
 unfold DOk at h ⊢
 split at h
 ·exact Paired.mapP h fun _ _ z=>⟨z.1,z.2.evo e hL⟩
 ·exact Paired.mapP h fun _ _ z=>⟨z.1,z.2.evo e hL⟩
 ·exact h.elim
def GOk (K:Fg) (w:W) (H:Hp) (v:V):G->Prop
 | .v t=>Im K H v t
 | .l xs=>∃ p vs,v=.ref p/\p∈w.L/\H p=some (.lst vs)/\Ims K H vs xs
 | .r xs=>∃ p vs,v=.ref p/\Ims K H vs xs/\H p=some (.lst vs)/\p∉w.L/\w.R p
 | .k xs=>∃ p vs,v=.ref p/\Ims K H vs xs/\KF K H p vs
 | .d kvs=>∃ p o,v=.ref p/\p∈w.L/\H p=some o/\DOk K H o kvs
 | .e kvs=>∃ p o,v=.ref p/\DOk K H o kvs/\H p=some o/\p∉w.L/\w.R p
theorem GOk.own(m:isMut g=true)(h:GOk K w H v g):∃ p,v=.ref p/\p∈w.L:=by
 cases g with
 | l xs=>obtain⟨p,vs,e,m,_⟩:=h; exact⟨p,e,m⟩
 | d xs=>obtain⟨p,vs,e,m,_⟩:=h; exact⟨p,e,m⟩
 | v _=>cases m
 | r _=>cases m
 | k _=>cases m
 | e _=>cases m
def Ow (C:Fr) (p:Addr):Prop:=p∈C.fx\/C.H0 p=none
structure Rep(K:Fg)(C:Fr)(w:W)(Γ:En)(σ:St)(H:Hp):Prop where
 len:σ.length=Γ.length
 val:∀ (i:Nat) g,Γ[i]?=some (some g)->∃ v,σ[i]?=some (some v)/\GOk K w H v g
 apart:∀ (i j:Nat) p g g',isMut g=true->isMut g'=true->Γ[i]?=some (some g)->Γ[j]?=some (some g')->σ[i]?=some (some (.ref p))->σ[j]?=some (some (.ref p))->i=j
 lst:LL w.L H
 own:∀ p∈w.L,Ow C p
 ra:∀ p,w.R p->∃ o,H p=some o
 rl:∀ p,w.R p->p∉w.L
 frame:∀ b o,C.H0 b=some o->b∉C.fx->H b=some o
 tab:TabOk K H
 pin:∀ q∈C.pins,σ[q.1]?=some (some (.ref q.2))/\∃ xs,Γ[q.1]?=some (some (.l xs))
def SOk (K:Fg) (C:Fr) (w:W) (σ:St) (H:Hp) (v:V):S->Prop
 | .v t=>Im K H v t
 | .l xs=>∃ p vs,v=.ref p/\p∉w.L/\¬ w.R p/\Ow C p/\H p=some (.lst vs)/\Ims K H vs xs
 | .s i=>σ[i]?=some (some v)
 | .d kvs=>∃ p o,v=.ref p/\p∉w.L/\¬ w.R p/\Ow C p/\H p=some o/\DOk K H o kvs
section
variable {K:Fg}{C:Fr}{w:W}{Γ Γ':En}{σ:St}{H H':Hp}
theorem GOk.evo(e:Evo w.L H H')(hL:LL w.L H)(hl:isMut g=false)(h:GOk K w H v g):GOk K w H' v g:=by
 cases g with
 | v t=>exact Im.evo e hL h
 | l xs=>cases hl
 | d xs=>cases hl
 | e kvs =>
  obtain⟨p,o,rfl,hi,h⟩:=h
  exact⟨p,o,rfl,hi.evo e hL,e _ _ h.1 h.2.1,h.2⟩
 | r xs =>
  obtain⟨p,vs,rfl,hi,h⟩:=h
  exact⟨p,vs,rfl,hi.evo e hL,e _ _ h.1 h.2.1,h.2⟩
 | k xs =>
  obtain⟨p,vs,rfl,hi,h⟩:=h
  exact⟨p,vs,rfl,hi.evo e hL,h.evo e hL⟩
theorem SOk.evo(e:Evo w.L H H')(hL:LL w.L H)(h:SOk K C w σ H v s):SOk K C w σ H' v s:=by
 cases s with
 | v t=>exact Im.evo e hL h
 | l xs =>
  obtain⟨p,vs,rfl,n1,n2,o,h1,h2⟩:=h
  exact⟨p,vs,rfl,n1,n2,o,e _ _ h1 n1,h2.evo e hL⟩
 | s i=>exact h
 | d kvs =>
  obtain⟨p,o,rfl,n1,n2,ow,h1,h2⟩:=h
  exact⟨p,o,rfl,n1,n2,ow,e _ _ h1 n1,h2.evo e hL⟩
theorem SOk.atom:SOk K C w σ H v (.v (.a v)):=by show Im K H v (.a v); exact Im.atom
theorem SOk.inva(h:SOk K C w σ H v (.v (.a u))):v=u:=by
 have h':Im K H v (.a u):=h
 exact h'.inva
theorem SOk.invt(h:SOk K C w σ H v (.v (.t ts))):∃ p vs,v=.ref p/\Tp K H p vs/\Ims K H vs ts:=by
 have h':Im K H v (.t ts):=h
 exact h'.inv
theorem Rep.evo0(r:Rep K C w Γ σ H)(e:∀ b o,H b=some o->H' b=some o):Rep K C w Γ σ H' where
 len:=r.len
 val:=fun i g h=>by
  obtain⟨v,e1,e2⟩:=r.val i g h
  refine⟨v,e1,?_⟩
  cases g with
  | l xs =>
   obtain⟨p,vs,rfl,hp,h1,h2⟩:=e2
   exact⟨p,vs,rfl,hp,e _ _ h1,h2.evo (L:=w.L) (fun b o h _=>e b o h) r.lst⟩
  | d xs =>
   obtain⟨p,o,rfl,hp,h1,h2⟩:=e2
   exact⟨p,o,rfl,hp,e _ _ h1,h2.evo (L:=w.L) (fun b o h _=>e b o h) r.lst⟩
  | v t=>exact GOk.evo (fun b o h _=>e b o h) r.lst rfl e2
  | r xs=>exact GOk.evo (fun b o h _=>e b o h) r.lst rfl e2
  | k xs=>exact GOk.evo (fun b o h _=>e b o h) r.lst rfl e2
  | e xs=>exact GOk.evo (fun b o h _=>e b o h) r.lst rfl e2
 apart:=r.apart
 lst:=fun p hp=>by obtain⟨o,h,m⟩:=r.lst p hp; exact⟨o,e _ _ h,m⟩
 own:=r.own
 ra:=fun p hp=>by obtain⟨o,h⟩:=r.ra p hp; exact⟨o,e _ _ h⟩
 rl:=r.rl
 frame:=fun b o h n=>e _ _ (r.frame b o h n)
 tab:=fun c P z=>e _ _ (r.tab c P z)
 pin:=r.pin
theorem Rep.same(r:Rep K C w Γ σ H)(e:Same H H'):Rep K C w Γ σ H':=r.evo0 e
theorem Rep.new(r:Rep K C w Γ σ H)(h:H p=none):Rep K C w Γ σ (upd H p o):=r.evo0 fun b u e=>by rw[zAB (zAE e h)]; exact e
theorem Rep.fresh(r:Rep K C w Γ σ H)(h:H p=none):p∉w.L/\¬ w.R p/\Ow C p:=by
 refine⟨fun z=>?_,fun z=>?_,?_⟩
 ·obtain⟨vs,e,_⟩:=r.lst p z; rw[h]at e; cases e
 ·obtain⟨o,e⟩:=r.ra p z; rw[h]at e; cases e
 ·by_cases q:p∈C.fx
  ·exact .inl q
  ·refine .inr ?_
   cases e:C.H0 p with
   | none=>rfl
   | some o=>rw[r.frame p o e q]at h; cases h
theorem Rep.newl(r:Rep K C w Γ σ H)(h:H p=none)(hi:Ims K H vs ts):SOk K C w σ (upd H p (.lst vs)) (.ref p) (.l ts):=by
 obtain⟨a,b,c⟩:=r.fresh h
 exact⟨p,vs,rfl,a,b,c,zAO,hi.evo (Evo.new h) r.lst⟩
theorem Rep.newt(r:Rep K C w Γ σ H)(h:H p=none)(hi:Ims K H vs ts):SOk K C w σ (upd H p (.tup vs)) (.ref p) (.v (.t ts)):=by
 exact Im.tup zAO (hi.evo (L:=w.L) (Evo.new h) r.lst)
theorem Rep.put3(r:Rep K C w Γ σ H)(m0:isMut g0=true)(m1:isMut g1=true)(hpin:∀ xs,g0=.l xs->∃ ys,g1=.l ys)(hi:Γ[i]?=some (some g0))(hp:σ[i]?=some (some (.ref p)))(ev1:Evo [p] H H')(hp':H' p=some ob)(mb:Mu ob)(hq:p∈w.L)(hu:GOk K w H' (.ref p) g1) :
  Rep K C w (Γ.set i (some g1)) σ H'/\Evo w.L H H':=by
 have hiΓ:i < Γ.length:=(Ac.mp hi).1
 have ev:Evo w.L H H':=ev1.wide fun q hq'=>AI.mp hq' ▸ hq
 have ne:∀ {c:Addr} {o:HO},c≠p->H c=some o->H' c=some o:=fun n e=>ev1 _ _ e fun z=>n (AI.mp z)
 refine⟨⟨by simpa using r.len,fun j g h=>?_,fun j k c g g' mg mg' h1 h2 h3 h4=>?_,fun c hc=>?_,r.own,fun c hc=>?_,r.rl,fun b o h n=>?_,r.tab.evo ev r.lst,fun c hc=>?_⟩,ev⟩
 ·by_cases hj:j=i
  ·subst hj
   rw[Aq hiΓ]at h
   cases h
   exact⟨_,hp,hu⟩
  ·rw[AW (A6 hj)]at h
   obtain⟨v,e1,e2⟩:=r.val j g h
   refine⟨v,e1,?_⟩
   cases g with
   | l zs =>
    obtain⟨c,vs',rfl,hc,h1,h2⟩:=e2
    have:c≠p:=fun z=>hj (r.apart j i p _ _ rfl m0 h hi (z ▸ e1) hp)
    exact⟨c,vs',rfl,hc,ne this h1,h2.evo ev r.lst⟩
   | d zs =>
    obtain⟨c,vs',rfl,hc,h1,h2⟩:=e2
    have:c≠p:=fun z=>hj (r.apart j i p _ _ rfl m0 h hi (z ▸ e1) hp)
    exact⟨c,vs',rfl,hc,ne this h1,h2.evo ev r.lst⟩
   | v t=>exact GOk.evo ev r.lst rfl e2
   | r zs=>exact GOk.evo ev r.lst rfl e2
   | k zs=>exact GOk.evo ev r.lst rfl e2
   | e zs=>exact GOk.evo ev r.lst rfl e2
 ·have back:∀ (m:Nat) (g:G),isMut g=true->(Γ.set i (some g1))[m]?=some (some g)->∃ g',isMut g'=true/\Γ[m]?=some (some g'):=fun m g mg h=>by
   by_cases hm:m=i
   ·subst hm; exact⟨g0,m0,hi⟩
   ·rw[AW (A6 hm)]at h; exact⟨g,mg,h⟩
  obtain⟨z1,y1,g1⟩:=back j g mg h1
  obtain⟨z2,y2,g2⟩:=back k g' mg' h2
  exact r.apart j k c z1 z2 y1 y2 g1 g2 h3 h4
 ·by_cases hcp:c=p
  ·subst hcp; exact⟨ob,hp',mb⟩
  ·obtain⟨o,e,m⟩:=r.lst c hc; exact⟨o,ne hcp e,m⟩
 ·have:c≠p:=fun z=>r.rl c hc (z ▸ hq)
  obtain⟨o,e⟩:=r.ra c hc
  exact⟨o,ne this e⟩
 ·by_cases hb:b=p
  ·subst hb
   rcases r.own b hq with z | z
   ·exact absurd z n
   ·rw[z]at h; cases h
  ·exact ne hb (r.frame b o h n)
 ·obtain⟨h1,zs,h2⟩:=r.pin c hc
  refine⟨h1,?_⟩
  by_cases hm:c.1=i
  ·rw[hm,hi]at h2
   cases h2
   obtain⟨ys,e⟩:=hpin zs rfl
   exact⟨ys,by rw[hm,Aq hiΓ,e]⟩
  ·exact⟨zs,by rw[AW (A6 hm)]; exact h2⟩
theorem Rep.put2(r:Rep K C w Γ σ H)(hi:Γ[i]?=some (some (.l xs)))(hp:σ[i]?=some (some (.ref p)))(ev1:Evo [p] H H')(hp':H' p=some (.lst us))(hu:Ims K H' us ys) :
  Rep K C w (Γ.set i (some (.l ys))) σ H'/\Evo w.L H H':=by
 obtain⟨v,e1,q,vs,rfl,hq,hv,_⟩:=r.val i _ hi
 rw[hp]at e1; cases e1
 exact r.put3 rfl rfl (fun _ _=>⟨ys,rfl⟩) hi hp ev1 hp' trivial hq ⟨p,us,rfl,hq,hp',hu⟩
theorem Rep.put(r:Rep K C w Γ σ H)(hi:Γ[i]?=some (some (.l xs)))(hp:σ[i]?=some (some (.ref p)))(hu:Ims K H us ys) :
  Rep K C w (Γ.set i (some (.l ys))) σ (upd H p (.lst us))/\Evo w.L H (upd H p (.lst us)):=by
 obtain⟨v,e1,q,vs,rfl,hq,hv,_⟩:=r.val i _ hi
 rw[hp]at e1; cases e1
 have ev1:Evo [p] H (upd H p (.lst us)):=fun b o e n=>by rw[zAB (show b≠p from fun z=>n (AI.mpr z))]; exact e
 exact r.put2 hi hp ev1 zAO (hu.evo (ev1.wide fun q hq'=>AI.mp hq' ▸ hq) r.lst)
theorem Rep.temp(r:Rep K C w Γ σ H)(n1:p∉w.L)(n2:¬ w.R p)(ow:Ow C p)(hl:∃ o,H p=some o/\Mu o)(ev1:Evo [p] H H'):Rep K C w Γ σ H':=by
 have ne:∀ {c:Addr} {o:HO},c≠p->H c=some o->H' c=some o:=fun n e=>ev1 _ _ e fun z=>n (AI.mp z)
 have hL:LL [p] H:=fun q hq=>by rw[AI.mp hq]; exact hl
 refine⟨r.len,fun j g h=>?_,r.apart,fun c hc=>?_,r.own,fun c hc=>?_,r.rl,fun b o h n=>?_,r.tab.evo ev1 hL,r.pin⟩
 ·obtain⟨v,e1,e2⟩:=r.val j g h
  refine⟨v,e1,?_⟩
  cases g with
  | v t=>exact Im.evo ev1 hL e2
  | l zs =>
   obtain⟨c,vs',rfl,hc,h1,h2⟩:=e2
   exact⟨c,vs',rfl,hc,ne (fun z=>n1 (z ▸ hc)) h1,h2.evo ev1 hL⟩
  | r zs =>
   obtain⟨c,vs',rfl,h1,h2⟩:=e2
   exact⟨c,vs',rfl,h1.evo ev1 hL,ne (fun z=>n2 (z ▸ h2.2.2)) h2.1,h2.2⟩
  | k zs =>
   obtain⟨c,vs',rfl,h1,h2⟩:=e2
   exact⟨c,vs',rfl,h1.evo ev1 hL,h2.evo ev1 hL⟩
  | d zs =>
   obtain⟨c,vs',rfl,hc,h1,h2⟩:=e2
   exact⟨c,vs',rfl,hc,ne (fun z=>n1 (z ▸ hc)) h1,h2.evo ev1 hL⟩
  | e zs =>
   obtain⟨c,vs',rfl,h1,h2⟩:=e2
   exact⟨c,vs',rfl,h1.evo ev1 hL,ne (fun z=>n2 (z ▸ h2.2.2)) h2.1,h2.2⟩
 ·obtain⟨o,e,m⟩:=r.lst c hc; exact⟨o,ne (fun z=>n1 (z ▸ hc)) e,m⟩
 ·obtain⟨o,e⟩:=r.ra c hc; exact⟨o,ne (fun z=>n2 (z ▸ hc)) e⟩
 ·by_cases hb:b=p
  ·subst hb
   rcases ow with z | z
   ·exact absurd z n
   ·rw[z]at h; cases h
  ·exact ne hb (r.frame b o h n)
theorem Rep.setv(r:Rep K C w Γ σ H)(hg:isMut g=false)(h:GOk K w H v g)(hn:∀ q∈C.pins,q.1≠i):Rep K C w (Γ.set i (some g)) (σ.set i (some v)) H where
 len:=by simpa using r.len
 val:=fun j g' hj=>by
  by_cases hji:j=i
  ·subst hji
   have hjl:j < Γ.length:=by
    rcases CY j Γ.length with z | z
    ·exact z
    ·rw[BH (by simpa using z)]at hj; cases hj
   rw[Aq hjl]at hj
   cases hj
   exact⟨v,by rw[Aq (by rw[r.len]; exact hjl)],h⟩
  ·rw[AW (A6 hji)]at hj
   rw[AW (A6 hji)]
   exact r.val j g' hj
 apart:=fun j k p ga gb ma mb h1 h2 h3 h4=>by
  have ne:∀ (m:Nat) (gc:G),isMut gc=true->(Γ.set i (some g))[m]?=some (some gc)->m≠i/\Γ[m]?=some (some gc):=fun m gc mc hm=>by
   by_cases e:m=i
   ·subst e
    rcases CY m Γ.length with z | z
    ·rw[Aq z]at hm; cases hm; rw[hg]at mc; cases mc
    ·rw[BH (by simpa using z)]at hm; cases hm
   ·rw[AW (A6 e)]at hm; exact⟨e,hm⟩
  obtain⟨n1,g1⟩:=ne j ga ma h1
  obtain⟨n2,g2⟩:=ne k gb mb h2
  rw[AW (A6 n1)]at h3
  rw[AW (A6 n2)]at h4
  exact r.apart j k p ga gb ma mb g1 g2 h3 h4
 lst:=r.lst
 own:=r.own
 ra:=r.ra
 rl:=r.rl
 frame:=r.frame
 tab:=r.tab
 pin:=fun q hq=>by
  obtain⟨h1,xs,h2⟩:=r.pin q hq
  have:=hn q hq
  exact⟨by rw[AW (A6 this)]; exact h1,xs,by rw[AW (A6 this)]; exact h2⟩
theorem Rep.setm(r:Rep K C w Γ σ H)(mg:isMut g=true)(n1:p∉w.L)(n2:¬ w.R p)(ow:Ow C p)(hp:H p=some ob)(mb:Mu ob)(hv:GOk K ⟨p::w.L,w.R⟩ H (.ref p) g)(hn:∀ q∈C.pins,q.1≠i) :
  Rep K C ⟨p::w.L,w.R⟩ (Γ.set i (some g)) (σ.set i (some (.ref p))) H where
 len:=by simpa using r.len
 val:=fun j g' hj=>by
  by_cases hji:j=i
  ·subst hji
   have hjl:j < Γ.length:=by
    rcases CY j Γ.length with z | z
    ·exact z
    ·rw[BH (by simpa using z)]at hj; cases hj
   rw[Aq hjl]at hj
   cases hj
   exact⟨_,by rw[Aq (by rw[r.len]; exact hjl)],hv⟩
  ·rw[AW (A6 hji)]at hj
   rw[AW (A6 hji)]
   obtain⟨v,e1,e2⟩:=r.val j g' hj
   refine⟨v,e1,?_⟩
   cases g' with
   | v t=>exact e2
   | l ys=>obtain⟨c,us,rfl,hc,h1,h2⟩:=e2; exact⟨c,us,rfl,AR _ hc,h1,h2⟩
   | d ys=>obtain⟨c,us,rfl,hc,h1,h2⟩:=e2; exact⟨c,us,rfl,AR _ hc,h1,h2⟩
   | r ys =>
    obtain⟨c,us,rfl,hi,h⟩:=e2
    refine⟨c,us,rfl,hi,h.1,fun z=>?_,h.2.2⟩
    rcases AL.mp z with z | z
    ·exact n2 (z ▸ h.2.2)
    ·exact h.2.1 z
   | e ys =>
    obtain⟨c,us,rfl,hi,h⟩:=e2
    refine⟨c,us,rfl,hi,h.1,fun z=>?_,h.2.2⟩
    rcases AL.mp z with z | z
    ·exact n2 (z ▸ h.2.2)
    ·exact h.2.1 z
   | k ys=>exact e2
 apart:=fun j k c ga gb ma mb' h1 h2 h3 h4=>by
  have ne:∀ (m:Nat) (gc:G),isMut gc=true->m≠i->(Γ.set i (some g))[m]?=some (some gc)->(σ.set i (some (.ref p)))[m]?=some (some (.ref c))->Γ[m]?=some (some gc)/\σ[m]?=some (some (.ref c))/\c≠p:=fun m gc mc e h h'=>by
   rw[AW (A6 e)]at h
   rw[AW (A6 e)]at h'
   refine⟨h,h',fun z=>?_⟩
   obtain⟨v,e1,hg⟩:=r.val m _ h
   obtain⟨q,rfl,hq⟩:=hg.own mc
   rw[h']at e1; cases e1
   exact n1 (z ▸ hq)
  have at_i:∀ (m:Nat),m=i->(σ.set i (some (.ref p)))[m]?=some (some (.ref c))->c=p:=fun m e h=>by
   subst e
   rcases CY m σ.length with z | z
   ·rw[Aq z]at h; cases h; rfl
   ·rw[BH (by simpa using z)]at h; cases h
  by_cases e1:j=i
  ·by_cases e2:k=i
   ·rw[e1,e2]
   ·obtain⟨_,_,n⟩:=ne k gb mb' e2 h2 h4
    exact absurd (at_i j e1 h3) n
  ·obtain⟨g1,s1,n⟩:=ne j ga ma e1 h1 h3
   by_cases e2:k=i
   ·exact absurd (at_i k e2 h4) n
   ·obtain⟨g2,s2,_⟩:=ne k gb mb' e2 h2 h4
    exact r.apart j k c ga gb ma mb' g1 g2 s1 s2
 lst:=fun c hc=>by
  rcases AL.mp hc with e | e
  ·subst e; exact⟨ob,hp,mb⟩
  ·exact r.lst c e
 own:=fun c hc=>by
  rcases AL.mp hc with e | e
  ·subst e; exact ow
  ·exact r.own c e
 ra:=r.ra
 rl:=fun c hc z=>by
  rcases AL.mp z with e | e
  ·subst e; exact n2 hc
  ·exact r.rl c hc e
 frame:=r.frame
 tab:=r.tab
 pin:=fun q hq=>by
  obtain⟨h1,xs',h2⟩:=r.pin q hq
  have:=hn q hq
  exact⟨by rw[AW (A6 this)]; exact h1,xs',by rw[AW (A6 this)]; exact h2⟩
theorem Rep.setl(r:Rep K C w Γ σ H)(n1:p∉w.L)(n2:¬ w.R p)(ow:Ow C p)(hp:H p=some (.lst vs))(hv:Ims K H vs xs)(hn:∀ q∈C.pins,q.1≠i) :
  Rep K C ⟨p::w.L,w.R⟩ (Γ.set i (some (.l xs))) (σ.set i (some (.ref p))) H :=
 r.setm rfl n1 n2 ow hp trivial ⟨p,vs,rfl,AY,hp,hv⟩ hn
theorem Rep.setd(r:Rep K C w Γ σ H)(n1:p∉w.L)(n2:¬ w.R p)(ow:Ow C p)(hp:H p=some ob)(hv:DOk K H ob kvs)(hn:∀ q∈C.pins,q.1≠i) :
  Rep K C ⟨p::w.L,w.R⟩ (Γ.set i (some (.d kvs))) (σ.set i (some (.ref p))) H :=
 r.setm rfl n1 n2 ow hp hv.mu ⟨p,ob,rfl,AY,hp,hv⟩ hn
theorem Rep.newd(r:Rep K C w Γ σ H)(h:H p=none)(hi:DOk K H ob kvs):SOk K C w σ (upd H p ob) (.ref p) (.d kvs):=by
 obtain⟨a,b,c⟩:=r.fresh h
 exact⟨p,ob,rfl,a,b,c,zAO,hi.evo (Evo.new h) r.lst⟩
end
def SOks (K:Fg) (C:Fr) (w:W) (σ:St) (H:Hp):List V->List S->Prop
 | [],[]=>True
 | v::vs,s::ss=>SOk K C w σ H v s/\SOks K C w σ H vs ss
 | _,_=>False
noncomputable def Nw (H:Hp) (v:V):S->Prop
 | .l _=>∃ p,v=.ref p/\H p=none
 | .d _=>∃ p,v=.ref p/\H p=none
 | _=>True
def Nws (H:Hp):List V->List S->Prop
 | v::vs,s::ss=>Nw H v s/\Nws H vs ss
 | _,_=>True
theorem zAo{L:List Addr}{H H':Hp}{p:Addr}(e:Evo L H H')(hL:LL L H')(h:H' p=none):H p=none:=by
 cases q:H p with
 | none=>rfl
 | some o =>
  by_cases z:p∈L
  ·obtain⟨vs,u,_⟩:=hL p z; rw[h]at u; cases u
  ·rw[e p o q z]at h; cases h
theorem Nw.back{L:List Addr}{H H':Hp}{v:V}{s:S}(n:Nw H' v s)(e:Evo L H H')(hL:LL L H'):Nw H v s:=by
 cases s with
 | l xs=>obtain⟨p,a,b⟩:=n; exact⟨p,a,zAo e hL b⟩
 | d xs=>obtain⟨p,a,b⟩:=n; exact⟨p,a,zAo e hL b⟩
 | v t=>trivial
 | s i=>trivial
theorem Nws.back{L:List Addr}{H H':Hp}(e:Evo L H H')(hL:LL L H'):∀ {vs:List V} {ss:List S},Nws H' vs ss->Nws H vs ss
 | [],[],_=>trivial
 | [],_::_,_=>trivial
 | _::_,[],_=>trivial
 | _::_,_::_,h=>⟨h.1.back e hL,Nws.back e hL h.2⟩
theorem Nws.get{H:Hp}:∀ {vs:List V} {ss:List S} {k:Nat} {v:V} {s:S},Nws H vs ss->vs[k]?=some v->ss[k]?=some s->Nw H v s
 | [],_,_,_,_,_,e,_=>by simp at e
 | _::_,[],_,_,_,_,_,e=>by simp at e
 | _::_,_::_,0,_,_,h,e,e'=>by simp at e e'; subst e e'; exact h.1
 | _::_,_::_,k+1,_,_,h,e,e'=>Nws.get (k:=k) h.2 (by simpa using e) (by simpa using e')
def SimE (K:Fg) (te:TE) (f:DE):Prop:=∀ (C:Fr) (w:W) (Γ:En) (σ:St) (H:Hp) (s:S) (Γ':En) (Q:VK),Rep K C w Γ σ H->f Γ=some (s,Γ') ->
 (∀ v H',Rep K C w Γ' σ H'->Evo w.L H H'->SOk K C w σ H' v s->Nw H v s->Q v H')->te σ H Q
def SimT (K:Fg) (tt:TT) (f:DT):Prop:=∀ (C:Fr) (w:W) (Γ:En) (σ:St) (H:Hp) (b:Bool) (Γ':En) (Q:Bool->Hp->Prop),Rep K C w Γ σ H->f Γ=some (b,Γ') ->
 (∀ H',Rep K C w Γ' σ H'->Evo w.L H H'->Q b H')->tt σ H Q
def SimA (K:Fg) (ta:TA) (f:DA):Prop:=∀ (C:Fr) (w:W) (Γ:En) (σ:St) (H:Hp) (ss:List S) (Γ':En) (Q:List V->Hp->Prop),Rep K C w Γ σ H->f Γ=some (ss,Γ') ->
 (∀ vs H',Rep K C w Γ' σ H'->Evo w.L H H'->SOks K C w σ H' vs ss->Nws H vs ss->Q vs H')->ta σ H Q
def OkO (K:Fg) (C:Fr) (D:Ends):O->Prop
 | .nx Γ=>∀ w σ H,Rep K C w Γ σ H->D.nx σ H
 | .rt s Γ=>∀ w σ H v,Rep K C w Γ σ H->SOk K C w σ H v s->D.rt v H
 | .bk Γ=>∀ w σ H,Rep K C w Γ σ H->D.bk σ H
 | .ct Γ=>∀ w σ H,Rep K C w Γ σ H->D.ct σ H
def SimS (K:Fg) (ip:Option Nat) (ts:TS) (g:DS):Prop:=∀ (C:Fr) (w:W) (Γ:En) (σ:St) (H:Hp) (D:Ends) (o:O),C.pins.map (·.1)=ip.toList->Rep K C w Γ σ H->g Γ=some o->OkO K C D o->ts D σ H
def SimR2 (K:Fg) (r:R2) (h:En->S->S->Option S):Prop:=∀ (C:Fr) (w:W) (Γ:En) (σ:St) (H:Hp) (x y:V) (a b s:S) (Q:VK),Rep K C w Γ σ H->SOk K C w σ H x a->SOk K C w σ H y b->h Γ a b=some s ->
 (∀ v H',Rep K C w Γ σ H'->Evo w.L H H'->SOk K C w σ H' v s->Nw H v s->Q v H')->r x y H Q
def SimR1 (K:Fg) (r:V->Hp->VK->Prop) (h:En->S->Option S):Prop:=∀ (C:Fr) (w:W) (Γ:En) (σ:St) (H:Hp) (x:V) (a s:S) (Q:VK),Rep K C w Γ σ H->SOk K C w σ H x a->h Γ a=some s ->
 (∀ v H',Rep K C w Γ σ H'->Evo w.L H H'->SOk K C w σ H' v s->Nw H v s->Q v H')->r x H Q
def SimRs (K:Fg) (r:List V->Hp->VK->Prop) (h:En->List S->Option S):Prop:=∀ (C:Fr) (w:W) (Γ:En) (σ:St) (H:Hp) (xs:List V) (as:List S) (s:S) (Q:VK),Rep K C w Γ σ H->SOks K C w σ H xs as->h Γ as=some s ->
 (∀ v H',Rep K C w Γ σ H'->Evo w.L H H'->SOk K C w σ H' v s->Nw H v s->Q v H')->r xs H Q
noncomputable def jV (i:Nat):DE:=fun Γ=>match Γ[i]? with
 | some (some (.v t))=>some (.v t,Γ)
 | some (some (.l _))=>some (.s i,Γ)
 | some (some (.r _))=>some (.s i,Γ)
 | some (some (.k _))=>some (.s i,Γ)
 | some (some (.d _))=>some (.s i,Γ)
 | some (some (.e _))=>some (.s i,Γ)
 | _=>none
noncomputable def dC (v:V):DE:=fun Γ=>some (.v (.a v),Γ)
noncomputable def dOp (h:En->S->S->Option S) (fa fb:DE):DE:=fun Γ=>(fa Γ).bind fun p=>(fb p.2).bind fun q=>(h q.2 p.1 q.1).map fun s=>(s,q.2)
noncomputable def dUn (h:En->S->Option S) (fa:DE):DE:=fun Γ=>(fa Γ).bind fun p=>(h p.2 p.1).map fun s=>(s,p.2)
noncomputable def dCB (h:En->List S->Option S) (fa:DA):DE:=fun Γ=>(fa Γ).bind fun p=>(h p.2 p.1).map fun s=>(s,p.2)
noncomputable def qQ:DA:=fun Γ=>some ([],Γ)
noncomputable def jW (fa:DE) (fr:DA):DA:=fun Γ=>(fa Γ).bind fun p=>(fr p.2).bind fun q=>some (p.1::q.1,q.2)
noncomputable def S.tree:S->Option T
 | .v t=>some t
 | _=>none
def trees:List S->Option (List T)
 | []=>some []
 | s::r=>s.tree.bind fun t=>(trees r).map fun ts=>t::ts
noncomputable def gd {α:Type} (n:Nat) (x:α):Option α:=if n<=AC then some x else none
theorem zA8{α:Type}{n:Nat}{x y:α}(h:gd n x=some y):n<=AC/\x=y:=by
 unfold gd at h; split at h
 ·exact⟨by assumption,Au h⟩
 ·cases h
def dTup (fa:DA):DE:=fun Γ=>(fa Γ).bind fun p=>(trees p.1).bind fun ts=>gd ts.length (.v (.t ts),p.2)
def dLst (fa:DA):DE:=fun Γ=>(fa Γ).bind fun p=>(trees p.1).bind fun ts=>gd ts.length (.l ts,p.2)
noncomputable def dTest (f:DE):DT:=fun Γ=>(f Γ).bind fun p=>match p.1 with
 | .v (.a (.bl b))=>some (b,p.2)
 | _=>none
noncomputable def dAnd (f g:DT):DT:=fun Γ=>(f Γ).bind fun p=>if p.1=true then g p.2 else some (false,p.2)
noncomputable def dOr (f g:DT):DT:=fun Γ=>(f Γ).bind fun p=>if p.1=true then some (true,p.2) else g p.2
noncomputable def dNot (f:DT):DT:=fun Γ=>(f Γ).bind fun p=>some (!p.1,p.2)
def dAndV (f g:DE):DE:=fun Γ=>(dTest f Γ).bind fun p=>if p.1=true then g p.2 else some (.v (.a (.bl false)),p.2)
def dOrV (f g:DE):DE:=fun Γ=>(dTest f Γ).bind fun p=>if p.1=true then some (.v (.a (.bl true)),p.2) else g p.2
def dNotV (f:DE):DE:=fun Γ=>(dTest f Γ).bind fun p=>some (.v (.a (.bl !p.1)),p.2)
noncomputable def dIfE (c:DT) (f g:DE):DE:=fun Γ=>(c Γ).bind fun p=>if p.1=true then f p.2 else g p.2
section
variable {K:Fg}{ip:Option Nat}
theorem bind_some{α β:Type}{x:Option α}{f:α->Option β}{y:β}(h:x.bind f=some y):∃ a,x=some a/\f a=some y:=by
 cases x with
 | none=>cases h
 | some a=>exact⟨a,rfl,h⟩
theorem zAA{α β:Type}{x:Option α}{f:α->β}{y:β}(h:x.map f=some y):∃ a,x=some a/\f a=y:=by
 cases x with
 | none=>cases h
 | some a=>exact⟨a,rfl,Au h⟩
theorem zMm{i:Nat}:SimE K (tVar i) (jV i):=by
 intro C w Γ σ H s Γ' Q R h k
 unfold jV at h
 split at h
 ·rename_i t e
  cases h
  obtain⟨v,e1,e2⟩:=R.val i _ e
  exact⟨v,e1,k v H R .refl e2 trivial⟩
 ·rename_i xs e
  cases h
  obtain⟨v,e1,e2⟩:=R.val i _ e
  exact⟨v,e1,k v H R .refl e1 trivial⟩
 ·rename_i xs e
  cases h
  obtain⟨v,e1,e2⟩:=R.val i _ e
  exact⟨v,e1,k v H R .refl e1 trivial⟩
 ·rename_i xs e
  cases h
  obtain⟨v,e1,e2⟩:=R.val i _ e
  exact⟨v,e1,k v H R .refl e1 trivial⟩
 ·rename_i xs e
  cases h
  obtain⟨v,e1,e2⟩:=R.val i _ e
  exact⟨v,e1,k v H R .refl e1 trivial⟩
 ·rename_i xs e
  cases h
  obtain⟨v,e1,e2⟩:=R.val i _ e
  exact⟨v,e1,k v H R .refl e1 trivial⟩
 ·cases h
theorem zDv{v:V}:SimE K (tC v) (dC v):=by
 intro C w Γ σ H s Γ' Q R h k
 cases h
 exact k v H R .refl SOk.atom trivial
theorem zCi{r:R2}{h:En->S->S->Option S}{ta tb:TE}{fa fb:DE}(hr:SimR2 K r h)(ha:SimE K ta fa)(hb:SimE K tb fb):SimE K (tOp r ta tb) (dOp h fa fb):=by
 intro C w Γ σ H s Γ' Q R e k
 obtain⟨p,e1,e⟩:=bind_some e
 obtain⟨q,e2,e⟩:=bind_some e
 obtain⟨z,e3,e⟩:=zAA e
 cases e
 refine ha C w Γ σ H p.1 p.2 _ R e1 fun v1 H1 R1 ev1 o1 n1=>?_
 refine hb C w p.2 σ H1 q.1 q.2 _ R1 e2 fun v2 H2 R2 ev2 o2 n2=>?_
 exact hr C w q.2 σ H2 v1 v2 _ _ _ Q R2 (o1.evo ev2 R1.lst) o2 e3 fun v H3 R3 ev3 o3 n3=>k v H3 R3 ((ev1.trans ev2).trans ev3) o3 (n3.back (ev1.trans ev2) R2.lst)
theorem zOi{r:V->Hp->VK->Prop}{h:En->S->Option S}{ta:TE}{fa:DE}(hr:SimR1 K r h)(ha:SimE K ta fa):SimE K (tUn r ta) (dUn h fa):=by
 intro C w Γ σ H s Γ' Q R e k
 obtain⟨p,e1,e⟩:=bind_some e
 obtain⟨z,e3,e⟩:=zAA e
 cases e
 refine ha C w Γ σ H p.1 p.2 _ R e1 fun v1 H1 R1 ev1 o1 n1=>?_
 exact hr C w p.2 σ H1 v1 _ _ Q R1 o1 e3 fun v H3 R3 ev3 o3 n3=>k v H3 R3 (ev1.trans ev3) o3 (n3.back ev1 R1.lst)
theorem zJL{r:List V->Hp->VK->Prop}{h:En->List S->Option S}{ta:TA}{fa:DA}(hr:SimRs K r h)(ha:SimA K ta fa):SimE K (tCB r ta) (dCB h fa):=by
 intro C w Γ σ H s Γ' Q R e k
 obtain⟨p,e1,e⟩:=bind_some e
 obtain⟨z,e3,e⟩:=zAA e
 cases e
 refine ha C w Γ σ H p.1 p.2 _ R e1 fun v1 H1 R1 ev1 o1 n1=>?_
 exact hr C w p.2 σ H1 v1 _ _ Q R1 o1 e3 fun v H3 R3 ev3 o3 n3=>k v H3 R3 (ev1.trans ev3) o3 (n3.back ev1 R1.lst)
theorem zGs:SimA K tNil qQ:=by
 intro C w Γ σ H s Γ' Q R e k
 cases e
 exact k [] H R .refl trivial trivial
theorem zLL{ta:TE}{tr:TA}{fa:DE}{fr:DA}(ha:SimE K ta fa)(hr:SimA K tr fr):SimA K (tCons ta tr) (jW fa fr):=by
 intro C w Γ σ H s Γ' Q R e k
 obtain⟨p,e1,e⟩:=bind_some e
 obtain⟨q,e2,e⟩:=bind_some e
 cases e
 refine ha C w Γ σ H p.1 p.2 _ R e1 fun v1 H1 R1 ev1 o1 n1=>?_
 exact hr C w p.2 σ H1 q.1 q.2 _ R1 e2 fun vs H2 R2 ev2 o2 n2=>k (v1::vs) H2 R2 (ev1.trans ev2) ⟨o1.evo ev2 R1.lst,o2⟩ ⟨n1,n2.back ev1 R1.lst⟩
theorem zCF{C:Fr}{w:W}{σ:St}{H:Hp}:∀ {vs:List V} {ss:List S} {ts:List T},SOks K C w σ H vs ss->trees ss=some ts->Ims K H vs ts
 | [],[],_,_,e=>by cases e; exact .nil
 | v::vs,s::ss,_,h,e=>by
  obtain⟨t,e1,e⟩:=bind_some e
  obtain⟨ts,e2,e⟩:=zAA e
  cases e
  cases s with
  | v t'=>cases e1; exact .cons h.1 (zCF h.2 e2)
  | l _=>cases e1
  | s _=>cases e1
  | d _=>cases e1
 | [],_::_,_,h,_=>h.elim
 | _::_,[],_,h,_=>h.elim
theorem zOK{ta:TA}{fa:DA}(ha:SimA K ta fa):SimE K (tTup ta) (dTup fa):=by
 intro C w Γ σ H s Γ' Q R e k
 obtain⟨p,e1,e⟩:=bind_some e
 obtain⟨ts,e2,e⟩:=bind_some e
 obtain⟨hn,e⟩:=zA8 e
 cases e
 refine ha C w Γ σ H p.1 p.2 _ R e1 fun vs H1 R1 ev1 o1 _=>?_
 have hi:=zCF o1 e2
 exact⟨by rw[hi.len]; exact hn,fun q hq=>k _ _ (R1.new hq) (ev1.trans (Evo.new hq)) (R1.newt hq hi) trivial⟩
theorem zOQ{ta:TA}{fa:DA}(ha:SimA K ta fa):SimE K (tLst ta) (dLst fa):=by
 intro C w Γ σ H s Γ' Q R e k
 obtain⟨p,e1,e⟩:=bind_some e
 obtain⟨ts,e2,e⟩:=bind_some e
 obtain⟨hn,e⟩:=zA8 e
 cases e
 refine ha C w Γ σ H p.1 p.2 _ R e1 fun vs H1 R1 ev1 o1 _=>?_
 have hi:=zCF o1 e2
 exact⟨by rw[hi.len]; exact hn,fun q hq=>k _ _ (R1.new hq) (ev1.trans (Evo.new hq)) (R1.newl hq hi) ⟨_,rfl,zAo ev1 R1.lst hq⟩⟩
theorem zCK{ta:TE}{fa:DE}(ha:SimE K ta fa):SimT K (tTest ta) (dTest fa):=by
 intro C w Γ σ H s Γ' Q R e k
 obtain⟨p,e1,e⟩:=bind_some e
 obtain⟨p1,p2⟩:=p
 dsimp only at e
 split at e
 ·cases e
  refine ha C w Γ σ H _ _ _ R e1 fun v H1 R1 ev1 o1 _=>?_
  exact⟨_,SOk.inva o1,k H1 R1 ev1⟩
 ·cases e
theorem zNi{ta tb:TT}{fa fb:DT}(ha:SimT K ta fa)(hb:SimT K tb fb):SimT K (tAnd ta tb) (dAnd fa fb):=by
 intro C w Γ σ H s Γ' Q R e k
 obtain⟨⟨p,G1⟩,e1,e⟩:=bind_some e
 refine ha C w Γ σ H p G1 _ R e1 fun H1 R1 ev1=>?_
 cases p with
 | true=>exact (if_pos rfl).mpr (hb C w G1 σ H1 s Γ' Q R1 (by simpa using e) fun H2 R2 ev2=>k H2 R2 (ev1.trans ev2))
 | false =>
  have e':(false,G1)=(s,Γ'):=by simpa using e
  cases e'
  exact (if_neg AZ).mpr (k H1 R1 ev1)
theorem zPl{ta tb:TT}{fa fb:DT}(ha:SimT K ta fa)(hb:SimT K tb fb):SimT K (tOr ta tb) (dOr fa fb):=by
 intro C w Γ σ H s Γ' Q R e k
 obtain⟨⟨p,G1⟩,e1,e⟩:=bind_some e
 refine ha C w Γ σ H p G1 _ R e1 fun H1 R1 ev1=>?_
 cases p with
 | false=>exact (if_neg AZ).mpr (hb C w G1 σ H1 s Γ' Q R1 (by simpa using e) fun H2 R2 ev2=>k H2 R2 (ev1.trans ev2))
 | true =>
  have e':(true,G1)=(s,Γ'):=by simpa using e
  cases e'
  exact (if_pos rfl).mpr (k H1 R1 ev1)
theorem zNq{ta:TT}{fa:DT}(ha:SimT K ta fa):SimT K (tNot ta) (dNot fa):=by
 intro C w Γ σ H s Γ' Q R e k
 obtain⟨p,e1,e⟩:=bind_some e
 cases e
 exact ha C w Γ σ H p.1 p.2 _ R e1 fun H1 R1 ev1=>k H1 R1 ev1
theorem zLp{ta tb:TE}{fa fb:DE}(ha:SimE K ta fa)(hb:SimE K tb fb):SimE K (tAndV ta tb) (dAndV fa fb):=by
 intro C w Γ σ H s Γ' Q R e k
 obtain⟨⟨p,G1⟩,e1,e⟩:=bind_some e
 refine (zCK ha) C w Γ σ H p G1 (fun c H1=>if c=true then tb σ H1 Q else Q (.bl false) H1) R e1 fun H1 R1 ev1=>?_
 cases p with
 | true=>exact (if_pos rfl).mpr (hb C w G1 σ H1 s Γ' Q R1 (by simpa using e) fun v H2 R2 ev2 o n=>k v H2 R2 (ev1.trans ev2) o (n.back ev1 R1.lst))
 | false =>
  have e':(S.v (.a (.bl false)),G1)=(s,Γ'):=by simpa using e
  cases e'
  exact (if_neg AZ).mpr (k _ H1 R1 ev1 SOk.atom trivial)
theorem zOO{ta tb:TE}{fa fb:DE}(ha:SimE K ta fa)(hb:SimE K tb fb):SimE K (tOrV ta tb) (dOrV fa fb):=by
 intro C w Γ σ H s Γ' Q R e k
 obtain⟨⟨p,G1⟩,e1,e⟩:=bind_some e
 refine (zCK ha) C w Γ σ H p G1 (fun c H1=>if c=true then Q (.bl true) H1 else tb σ H1 Q) R e1 fun H1 R1 ev1=>?_
 cases p with
 | false=>exact (if_neg AZ).mpr (hb C w G1 σ H1 s Γ' Q R1 (by simpa using e) fun v H2 R2 ev2 o n=>k v H2 R2 (ev1.trans ev2) o (n.back ev1 R1.lst))
 | true =>
  have e':(S.v (.a (.bl true)),G1)=(s,Γ'):=by simpa using e
  cases e'
  exact (if_pos rfl).mpr (k _ H1 R1 ev1 SOk.atom trivial)
theorem zKv{ta:TE}{fa:DE}(ha:SimE K ta fa):SimE K (tNotV ta) (dNotV fa):=by
 intro C w Γ σ H s Γ' Q R e k
 obtain⟨⟨p,G1⟩,e1,e⟩:=bind_some e
 cases e
 exact (zCK ha) C w Γ σ H p G1 (fun c H1=>Q (.bl (!c)) H1) R e1 fun H1 R1 ev1=>k _ H1 R1 ev1 SOk.atom trivial
theorem zOV{tc:TT}{ta tb:TE}{fc:DT}{fa fb:DE}(hc:SimT K tc fc)(ha:SimE K ta fa)(hb:SimE K tb fb):SimE K (tIf tc ta tb) (dIfE fc fa fb):=by
 intro C w Γ σ H s Γ' Q R e k
 obtain⟨⟨p,G1⟩,e1,e⟩:=bind_some e
 refine hc C w Γ σ H p G1 _ R e1 fun H1 R1 ev1=>?_
 cases p with
 | true=>exact (if_pos rfl).mpr (ha C w G1 σ H1 s Γ' Q R1 (by simpa using e) fun v H2 R2 ev2 o n=>k v H2 R2 (ev1.trans ev2) o (n.back ev1 R1.lst))
 | false=>exact (if_neg AZ).mpr (hb C w G1 σ H1 s Γ' Q R1 (by simpa using e) fun v H2 R2 ev2 o n=>k v H2 R2 (ev1.trans ev2) o (n.back ev1 R1.lst))
end
noncomputable def dNext:DS:=fun Γ=>some (.nx Γ)
noncomputable def dSeq (f g:DS):DS:=fun Γ=>(f Γ).bind fun o=>match o with
 | .nx Γ'=>g Γ'
 | o=>some o
noncomputable def dNever:DS:=fun _=>none
noncomputable def dDrop (f:DE):DS:=fun Γ=>(f Γ).map fun p=>.nx p.2
noncomputable def dRet (f:DE):DS:=fun Γ=>(f Γ).map fun p=>.rt p.1 p.2
noncomputable def dIf (c:DT) (f g:DS):DS:=fun Γ=>(c Γ).bind fun p=>if p.1=true then f p.2 else g p.2
noncomputable def setS (i:Nat) (s:S) (Γ:En):Option En:=match s with
 | .v t=>some (Γ.set i (some (.v t)))
 | .l xs=>some (Γ.set i (some (.l xs)))
 | .d xs=>some (Γ.set i (some (.d xs)))
 | .s j=>match Γ[j]? with
  | some (some (.r xs))=>some (Γ.set i (some (.r xs)))
  | _=>none
def dSet (i:Nat) (f:DE):DS:=fun Γ=>(f Γ).bind fun p=>(setS i p.1 p.2).map .nx
noncomputable def dWhile (c:DT) (b:DS):Nat->DS
 | 0=>fun _=>none
 | n+1=>fun Γ=>(c Γ).bind fun p=>if p.1=true then (b p.2).bind fun o=>match o with
   | .nx Γ'=>dWhile c b n Γ'
   | .ct Γ'=>dWhile c b n Γ'
   | .bk Γ'=>some (.nx Γ')
   | .rt s Γ'=>some (.rt s Γ')
  else some (.nx p.2)
section
variable {K:Fg}{ip:Option Nat}
theorem zKH:SimS K ip tNext dNext:=fun C w Γ σ H D o _ R e k=>by cases e; exact k w σ H R
theorem zIK{ts:DS}:SimS K ip tNever dNever:=fun C w Γ σ H D o _ R e k=>by cases e
theorem zLl{t u:TS}{f g:DS}(h1:SimS K ip t f)(h2:SimS K ip u g):SimS K ip (tSeq t u) (dSeq f g):=by
 intro C w Γ σ H D o hp R e k
 obtain⟨o1,e1,e⟩:=bind_some e
 refine h1 C w Γ σ H _ o1 hp R e1 ?_
 cases o1 with
 | nx Γ1=>exact fun w' σ' H' R'=>h2 C w' Γ1 σ' H' D o hp R' e k
 | rt s Γ1=>cases e; exact k
 | bk Γ1=>cases e; exact k
 | ct Γ1=>cases e; exact k
theorem zJU{te:TE}{f:DE}(h:SimE K te f):SimS K ip (tDrop te) (dDrop f):=by
 intro C w Γ σ H D o hp R e k
 obtain⟨p,e1,e⟩:=zAA e
 subst e
 exact h C w Γ σ H p.1 p.2 _ R e1 fun v H1 R1 _ _ _=>k w σ H1 R1
theorem zK4{te:TE}{f:DE}(h:SimE K te f):SimS K ip (tRet te) (dRet f):=by
 intro C w Γ σ H D o hp R e k
 obtain⟨p,e1,e⟩:=zAA e
 subst e
 exact h C w Γ σ H p.1 p.2 _ R e1 fun v H1 R1 _ o _=>k w σ H1 v R1 o
theorem zMn{tc:TT}{t u:TS}{c:DT}{f g:DS}(hc:SimT K tc c)(h1:SimS K ip t f)(h2:SimS K ip u g):SimS K ip (tIfS tc t u) (dIf c f g):=by
 intro C w Γ σ H D o hp R e k
 obtain⟨⟨p,G1⟩,e1,e⟩:=bind_some e
 refine hc C w Γ σ H p G1 _ R e1 fun H1 R1 _=>?_
 cases p with
 | true=>exact (if_pos rfl).mpr (h1 C w G1 σ H1 D o hp R1 (by simpa using e) k)
 | false=>exact (if_neg AZ).mpr (h2 C w G1 σ H1 D o hp R1 (by simpa using e) k)
theorem zBT{C:Fr}{i:Nat}(hp:C.pins.map (·.1)=ip.toList)(hi:ip≠some i):∀ q∈C.pins,q.1≠i:=fun q hq e=>by
 have:q.1∈ip.toList:=hp ▸ BQ.mpr ⟨q,hq,rfl⟩
 rw[Dr]at this
 exact hi (by rw[this,e])
theorem zOS{C:Fr}{w:W}{Γ Γ':En}{σ:St}{H:Hp}{v:V}{s:S}{i:Nat}(R:Rep K C w Γ σ H)(o:SOk K C w σ H v s)(e:setS i s Γ=some Γ')(hn:∀ q∈C.pins,q.1≠i):∃ w',Rep K C w' Γ' (σ.set i (some v)) H:=by
 cases s with
 | v t=>cases e; exact⟨w,R.setv rfl o hn⟩
 | d xs =>
  cases e
  obtain⟨p,vs,rfl,n1,n2,ow,h1,h2⟩:=o
  exact⟨_,R.setd n1 n2 ow h1 h2 hn⟩
 | l xs =>
  cases e
  obtain⟨p,vs,rfl,n1,n2,ow,h1,h2⟩:=o
  exact⟨_,R.setl n1 n2 ow h1 h2 hn⟩
 | s j =>
  unfold setS at e
  dsimp only at e
  split at e
  ·rename_i xs he
   cases e
   obtain⟨v',e1,e2⟩:=R.val j _ he
   have o':σ[j]?=some (some v):=o
   rw[o']at e1; cases e1
   exact⟨w,R.setv rfl e2 hn⟩
  ·cases e
theorem zFW{te:TE}{f:DE}{i:Nat}(h:SimE K te f)(hi:ip≠some i):SimS K ip (tAsg te (gName i)) (dSet i f):=by
 intro C w Γ σ H D o hp R e k
 obtain⟨p,e1,e⟩:=bind_some e
 obtain⟨Γ1,e2,e⟩:=zAA e
 subst e
 refine h C w Γ σ H p.1 p.2 _ R e1 fun v H1 R1 _ o1 _=>?_
 obtain⟨w',R'⟩:=zOS R1 o1 e2 (zBT hp hi)
 exact k w' _ H1 R'
theorem zHC{tc:TT}{tb:TS}{c:DT}{b:DS}(n:Nat)(hc:SimT K tc c)(hb:SimS K ip tb b):SimS K ip (tWhile tc tb) (dWhile c b n):=by
 intro C w Γ σ H D o hp R e k
 refine⟨fun m σ H=>∃ w Γ,Rep K C w Γ σ H/\dWhile c b m Γ=some o,⟨n,w,Γ,R,e⟩,?_⟩
 rintro m σ1 H1 ⟨w1,Γ1,R1,e1⟩
 cases m with
 | zero=>cases e1
 | succ m =>
  unfold dWhile at e1
  obtain⟨⟨p,G2⟩,e2,e1⟩:=bind_some e1
  refine hc C w1 Γ1 σ1 H1 p G2 _ R1 e2 fun H2 R2 _=>?_
  cases p with
  | false =>
   rw[if_neg AZ]at e1 ⊢
   cases e1
   exact k w1 σ1 H2 R2
  | true =>
   rw[if_pos rfl]at e1 ⊢
   obtain⟨o2,e3,e1⟩:=bind_some e1
   refine⟨fun σ' H'=>∃ w Γ,Rep K C w Γ σ' H'/\dWhile c b m Γ=some o,fun σ' H' ⟨w',Γ',R',e'⟩=>⟨m,CT _,w',Γ',R',e'⟩,?_⟩
   refine hb C w1 G2 σ1 H2 _ o2 hp R2 e3 ?_
   cases o2 with
   | nx Γ'=>exact fun w' σ' H' R'=>⟨w',Γ',R',e1⟩
   | ct Γ'=>exact fun w' σ' H' R'=>⟨w',Γ',R',e1⟩
   | bk Γ'=>cases e1; exact k
   | rt s Γ'=>cases e1; exact k
end
section
variable {K:Fg}{C:Fr}{w:W}{Γ Γ':En}{σ:St}{H H':Hp}
theorem Rep.base(R:Rep K C w Γ σ H):Rep K ⟨H,w.L,C.pins⟩ w Γ σ H :=
 ⟨R.len,R.val,R.apart,R.lst,fun p hp=>.inl hp,R.ra,R.rl,fun b o h _=>h,R.tab,R.pin⟩
theorem Rep.back(R:Rep K C w Γ σ H)(hC:C1=⟨H,w.L,C.pins⟩)(R1:Rep K C1 w1 Γ1 σ1 H1):Rep K C w1 Γ1 σ1 H1:=by
 subst hC
 refine⟨R1.len,R1.val,R1.apart,R1.lst,fun p hp=>?_,R1.ra,R1.rl,fun b o h n=>R1.frame b o (R.frame b o h n) fun z=>?_,R1.tab,R1.pin⟩
 ·rcases R1.own p hp with z | z
  ·exact R.own p z
  ·exact (R.fresh z).2.2
 ·rcases R.own b z with q | q
  ·exact n q
  ·rw[q]at h; cases h
theorem Ow.back(R:Rep K C w Γ σ H)(hC:C1=⟨H,w.L,C.pins⟩)(h:Ow C1 p):Ow C p:=by
 subst hC
 rcases h with z | z
 ·exact R.own p z
 ·exact (R.fresh z).2.2
theorem SOk.back(R:Rep K C w Γ σ H)(hC:C1=⟨H,w.L,C.pins⟩)(o:SOk K C1 w1 σ1 H1 v s):SOk K C w1 σ1 H1 v s:=by
 cases s with
 | v t=>exact o
 | s i=>exact o
 | l xs =>
  obtain⟨p,vs,e,n1,n2,ow,h1,h2⟩:=o
  exact⟨p,vs,e,n1,n2,Ow.back R hC ow,h1,h2⟩
 | d xs =>
  obtain⟨p,vs,e,n1,n2,ow,h1,h2⟩:=o
  exact⟨p,vs,e,n1,n2,Ow.back R hC ow,h1,h2⟩
theorem Rep.freeze(R:Rep K C w Γ σ H)(hi:Γ[i]?=some (some (.l xs)))(hp:σ[i]?=some (some (.ref p)))(hn:∀ q∈C.pins,q.1≠i) :
  Rep K C ⟨w.L.filter (fun q=>decide (q≠p)),fun q=>q=p\/w.R q⟩ (Γ.set i (some (.r xs))) σ H:=by
 have hiΓ:i < Γ.length:=(Ac.mp hi).1
 obtain⟨v0,e0,q0,vs0,rfl,hq0,hv0,hi0⟩:=R.val i _ hi
 rw[hp]at e0; cases e0
 have mem:∀ {q:Addr},q∈w.L.filter (fun q=>decide (q≠p)) ↔ q∈w.L/\q≠p:=by intro q; simp
 have back:∀ (m:Nat) (g:G),isMut g=true->(Γ.set i (some (.r xs)))[m]?=some (some g)->m≠i/\Γ[m]?=some (some g):=fun m g mg h=>by
  by_cases hm:m=i
  ·subst hm; rw[Aq hiΓ]at h; cases h; cases mg
  ·rw[AW (A6 hm)]at h; exact⟨hm,h⟩
 refine⟨by simpa using R.len,fun j g h=>?_,fun j k c ga gb ma mb h1 h2 h3 h4=>?_,fun c hc=>R.lst c (mem.mp hc).1,fun c hc=>R.own c (mem.mp hc).1,fun c hc=>?_,fun c hc z=>?_,R.frame,R.tab,fun q hq=>?_⟩
 ·by_cases hj:j=i
  ·subst hj
   rw[Aq hiΓ]at h
   cases h
   exact⟨_,hp,p,vs0,rfl,hi0,hv0,fun z=>(mem.mp z).2 rfl,.inl rfl⟩
  ·rw[AW (A6 hj)]at h
   obtain⟨v,e1,e2⟩:=R.val j g h
   refine⟨v,e1,?_⟩
   cases g with
   | v t=>exact e2
   | l ys =>
    obtain⟨c,us,rfl,hc,h1,h2⟩:=e2
    exact⟨c,us,rfl,mem.mpr ⟨hc,fun z=>hj (R.apart j i p _ _ rfl rfl h hi (z ▸ e1) hp)⟩,h1,h2⟩
   | d ys =>
    obtain⟨c,us,rfl,hc,h1,h2⟩:=e2
    exact⟨c,us,rfl,mem.mpr ⟨hc,fun z=>hj (R.apart j i p _ _ rfl rfl h hi (z ▸ e1) hp)⟩,h1,h2⟩
   | r ys =>
    obtain⟨c,us,rfl,h1,h2⟩:=e2
    exact⟨c,us,rfl,h1,h2.1,fun z=>h2.2.1 (mem.mp z).1,.inr h2.2.2⟩
   | e ys =>
    obtain⟨c,us,rfl,h1,h2⟩:=e2
    exact⟨c,us,rfl,h1,h2.1,fun z=>h2.2.1 (mem.mp z).1,.inr h2.2.2⟩
   | k ys=>exact e2
 ·obtain⟨_,g1⟩:=back j ga ma h1
  obtain⟨_,g2⟩:=back k gb mb h2
  exact R.apart j k c ga gb ma mb g1 g2 h3 h4
 ·rcases hc with e | e
  ·subst e; exact⟨_,hv0⟩
  ·exact R.ra c e
 ·rcases hc with e | e
  ·exact (mem.mp z).2 e
  ·exact R.rl c e (mem.mp z).1
 ·obtain⟨h1,zs,h2⟩:=R.pin q hq
  exact⟨h1,zs,by rw[AW (A6 (hn q hq))]; exact h2⟩
noncomputable def frz1 (Γ:En) (i:Nat):En:=match Γ[i]? with
 | some (some (.l xs))=>Γ.set i (some (.r xs))
 | _=>Γ
def frz (Γ:En) (src:List Nat):En:=src.foldl frz1 Γ
theorem Rep.frz:∀ (src:List Nat) {w:W} {Γ:En},Rep K C w Γ σ H->(∀ i∈src,∀ q∈C.pins,q.1≠i) ->
  ∃ w',Rep K C w' (frz Γ src) σ H/\(∀ p∈w'.L,p∈w.L)/\∀ i∈src,∀ p,σ[i]?=some (some (.ref p))->(∃ xs,Γ[i]?=some (some (.l xs)))->p∉w'.L:=by
 intro src
 induction src with
 | nil=>intro w Γ R _; exact⟨w,R,fun p h=>h,fun i hi=>nomatch hi⟩
 | cons i r ih =>
  intro w Γ R hn
  have step:∃ w1,Rep K C w1 (frz1 Γ i) σ H/\(∀ p∈w1.L,p∈w.L)/\(∀ p,σ[i]?=some (some (.ref p))->(∃ xs,Γ[i]?=some (some (.l xs)))->p∉w1.L):=by
   unfold frz1
   split
   ·rename_i xs e
    obtain⟨v,e1,p,vs,rfl,_⟩:=R.val i _ e
    refine⟨_,R.freeze e e1 (hn i AY),fun q hq=>(De.mp hq).1,fun q hq _ z=>?_⟩
    rw[e1]at hq; cases hq
    have:=(De.mp z).2
    simp at this
   ·rename_i e
    exact⟨w,R,fun p h=>h,fun p _ ⟨xs,h⟩=>absurd h (e xs)⟩
  obtain⟨w1,R1,s1,n1⟩:=step
  obtain⟨w2,R2,s2,n2⟩:=ih R1 (fun j hj=>hn j (AR _ hj))
  refine⟨w2,R2,fun p h=>s1 p (s2 p h),fun j hj p hp hx=>?_⟩
  rcases AL.mp hj with e | e
  ·subst e; exact fun z=>n1 p hp hx (s2 p z)
  ·by_cases hji:j=i
   ·subst hji; exact fun z=>n1 p hp hx (s2 p z)
   ·refine n2 j e p hp ?_
    obtain⟨xs,hx⟩:=hx
    refine⟨xs,?_⟩
    unfold frz1
    split
    ·rw[AW (A6 hji)]; exact hx
    ·exact hx
end
abbrev DI:=En->Option ((List T×List Nat)×En)
def ItOk (K:Fg) (w:W) (Γ:En) (σ:St) (J:It) (H:Hp) (its:List T) (src:List Nat):Prop:=its.length<=AC/\∀ L',(∀ p∈L',p∈w.L)->(∀ i∈src,∀ p,σ[i]?=some (some (.ref p))->(∃ xs,Γ[i]?=some (some (.l xs)))->p∉L')->∀ H2,Evo L' H H2 ->
 (∀ (i:Nat) t,its[i]?=some t->J.go i H2/\∀ x H3,J.yld i H2 x H3->(∀ b o,H2 b=some o->H3 b=some o)/\Im K H3 x t)/\J.stop its.length H2
def SimI (K:Fg) (wi:TI) (di:DI):Prop:=∀ (C:Fr) (w:W) (Γ:En) (σ:St) (H:Hp) (its:List T) (src:List Nat) (Γ':En) (R:It->Hp->Prop),Rep K C w Γ σ H->di Γ=some ((its,src),Γ') ->
 (∀ J H',Rep K C w Γ' σ H'->Evo w.L H H'->ItOk K w Γ' σ J H' its src->R J H')->wi σ H R
def SimG (K:Fg) (ip:Option Nat) (g:TG) (tg:En->T->Option En):Prop:=∀ (C:Fr) (w:W) (Γ:En) (σ:St) (H:Hp) (v:V) (t:T) (Γ':En) (Q:St->Hp->Prop),C.pins.map (·.1)=ip.toList->Rep K C w Γ σ H->Im K H v t->tg Γ t=some Γ' ->
 (∀ σ',Rep K C w Γ' σ' H->Q σ' H)->g v σ H Q
def SimGs (K:Fg) (ip:Option Nat) (g:TGs) (tg:En->List T->Option En):Prop:=∀ (C:Fr) (w:W) (Γ:En) (σ:St) (H:Hp) (vs:List V) (ts:List T) (Γ':En) (Q:St->Hp->Prop),C.pins.map (·.1)=ip.toList->Rep K C w Γ σ H->Ims K H vs ts->tg Γ ts=some Γ' ->
 (∀ σ',Rep K C w Γ' σ' H->Q σ' H)->g vs σ H Q
noncomputable def gdName (i:Nat):En->T->Option En:=fun Γ t=>some (Γ.set i (some (.v t)))
noncomputable def gdNil:En->List T->Option En:=fun Γ ts=>match ts with
 | []=>some Γ
 | _=>none
noncomputable def gdCons (f:En->T->Option En) (g:En->List T->Option En):En->List T->Option En:=fun Γ ts=>match ts with
 | []=>none
 | t::r=>(f Γ t).bind fun Γ1=>g Γ1 r
noncomputable def gdTup (n:Nat) (g:En->List T->Option En):En->T->Option En:=fun Γ t=>match t with
 | .t ts=>if ts.length=n then g Γ ts else none
 | _=>none
section
variable {K:Fg}{ip:Option Nat}
theorem zI1(hi:ip≠some i):SimG K ip (gName i) (gdName i):=by
 intro C w Γ σ H v t Γ' Q hp R h e k
 cases e
 exact k _ (R.setv rfl h (zBT hp hi))
theorem zKF:SimGs K ip gNil gdNil:=by
 intro C w Γ σ H vs ts Γ' Q hp R h e k
 cases ts with
 | nil=>cases e; exact⟨h.inv0,k σ R⟩
 | cons t r=>cases e
theorem zH3(h1:SimG K ip g f)(h2:SimGs K ip gs fs):SimGs K ip (gCons g gs) (gdCons f fs):=by
 intro C w Γ σ H vs ts Γ' Q hp R h e k
 cases ts with
 | nil=>cases e
 | cons t r =>
  obtain⟨Γ1,e1,e2⟩:=bind_some e
  obtain⟨v,us,rfl,i1,i2⟩:=h.inv
  exact⟨v,us,rfl,h1 C w Γ σ H v t Γ1 _ hp R i1 e1 fun σ1 R1=>h2 C w Γ1 σ1 H us r Γ' Q hp R1 i2 e2 k⟩
theorem zLh(h:SimGs K ip gs fs):SimG K ip (gTup K n gs) (gdTup n fs):=by
 intro C w Γ σ H v t Γ' Q hp R hi e k
 cases t with
 | a u=>cases e
 | l u=>cases e
 | f u=>cases e
 | x u v=>cases e
 | m u v=>cases e
 | t ts =>
  unfold gdTup at e
  dsimp only at e
  split at e
  ·rename_i hn
   obtain⟨p,us,rfl,h1,h2⟩:=hi.inv
   exact⟨p,us,rfl,h1.sq,by rw[h2.len]; exact hn,h C w Γ σ H us ts Γ' Q hp R h2 e k⟩
  ·cases e
end
noncomputable def forD (tg:En->T->Option En) (b:DS):List T->DS
 | []=>fun Γ=>some (.nx Γ)
 | t::r=>fun Γ=>(tg Γ t).bind fun Γ1=>(b Γ1).bind fun o=>match o with
  | .nx Γ'=>forD tg b r Γ'
  | .ct Γ'=>forD tg b r Γ'
  | .bk Γ'=>some (.nx Γ')
  | .rt s Γ'=>some (.rt s Γ')
def dFor (ip:Option Nat) (di:DI) (tg:En->T->Option En) (b:DS):DS:=fun Γ=>(di Γ).bind fun p=>if p.1.2.all (fun i=>decide (ip≠some i))=true then forD tg b p.1.1 (frz p.2 p.1.2) else none
theorem zLa(hi:SimI K wi di)(hg:SimG K ip g tg)(hb:SimS K ip tb b):SimS K ip (tFor wi g tb) (dFor ip di tg b):=by
 intro C w Γ σ H D o hp R e k
 obtain⟨⟨⟨its,src⟩,Γ1⟩,e1,e⟩:=bind_some e
 dsimp only at e
 split at e
 rotate_left
 ·cases e
 rename_i hsrc
 refine hi C w Γ σ H its src Γ1 _ R e1 fun J H1 R1 _ ⟨hl,hJ⟩=>?_
 have hs:∀ i∈src,∀ q∈C.pins,q.1≠i:=fun i hi'=>zBT hp (by have:=Aw.mp hsrc i hi'; simpa using this)
 obtain⟨w2,R2,sub,avoid⟩:=R1.frz src hs
 have hC:∃ C1:Fr,C1=⟨H1,w2.L,C.pins⟩:=⟨_,rfl⟩
 obtain⟨C1,hC⟩:=hC
 have R3:Rep K C1 w2 (frz Γ1 src) σ H1:=hC ▸ R2.base
 have hp1:C1.pins.map (·.1)=ip.toList:=by rw[hC]; exact hp
 refine⟨fun i m σ H=>m=its.length - i/\i<=its.length/\∃ w Γ,Rep K C1 w Γ σ H/\forD tg b (its.drop i) Γ=some o,⟨_,rfl,Cp _,w2,_,R3,e⟩,?_⟩
 rintro i m σ' H' ⟨rfl,hi',w',Γ',R',e'⟩
 have ev:Evo w2.L H1 H':=fun b o h n=>R'.frame b o (by rw[hC]; exact h) (by rw[hC]; exact n)
 obtain⟨go,stop⟩:=hJ w2.L sub avoid H' ev
 by_cases hlt:i < its.length
 ·obtain⟨t,ht⟩:∃ t,its[i]?=some t:=⟨its[i],by simp[hlt]⟩
  have hd:its.drop i=t::its.drop (i+1):=by
   obtain⟨h1,h2⟩:=Ac.mp ht
   rw[← h2]; exact GJ h1
  rw[hd]at e'
  unfold forD at e'
  obtain⟨Γ2,e2,e'⟩:=bind_some e'
  obtain⟨o2,e3,e'⟩:=bind_some e'
  obtain⟨g1,g2⟩:=go i t ht
  refine .inr ⟨g1,fun σ H=>∃ w Γ,Rep K C1 w Γ σ H/\forD tg b (its.drop (i+1)) Γ=some o,fun σ2 H2 ⟨w2,Γ2,R2,e2⟩=>⟨_,by lia,rfl,hlt,w2,Γ2,R2,e2⟩,fun x H3 hx=>?_⟩
  obtain⟨k1,k2⟩:=g2 x H3 hx
  refine hg C1 w' Γ' σ' H3 x t Γ2 _ hp1 (R'.evo0 k1) k2 e2 fun σ4 R4=>?_
  refine hb C1 w' Γ2 σ4 H3 _ o2 hp1 R4 e3 ?_
  cases o2 with
  | nx Γ5=>exact fun w5 σ5 H5 R5=>⟨w5,Γ5,R5,e'⟩
  | ct Γ5=>exact fun w5 σ5 H5 R5=>⟨w5,Γ5,R5,e'⟩
  | bk Γ5=>cases e'; exact fun w5 σ5 H5 R5=>k w5 σ5 H5 (R2.back hC R5)
  | rt s Γ5=>cases e'; exact fun w5 σ5 H5 v R5 o5=>k w5 σ5 H5 v (R2.back hC R5) (o5.back R2 hC)
 ·have:i=its.length:=by lia
  subst this
  rw[Ho]at e'
  cases e'
  exact .inl ⟨stop,k w' σ' H' (R2.back hC R')⟩
noncomputable def pick1 (mu:Option Nat) (k:Nat):Option G->Option G
 | some (.l xs)=>if mu=some k then some (.l xs) else some (.r xs)
 | some (.d xs)=>some (.e xs)
 | o=>o
def pick (mu:Option Nat) (ix:List (Option Nat)) (Γ:En):En:=ix.map fun o=>o.bind fun k=>pick1 mu k (Γ[k]?).join
def compD (tg:En->T->Option En) (dc:DT) (de:DE):List T->En->Option (List T×En)
 | [],Γ=>some ([],Γ)
 | t::r,Γ=>(tg Γ t).bind fun Γ1=>(dc Γ1).bind fun p=>if p.1=true then (de p.2).bind fun q=>q.1.tree.bind fun t'=>(compD tg dc de r q.2).map fun z=>(t'::z.1,z.2) else compD tg dc de r p.2
noncomputable def cback (mu:Option (Nat×Nat)) (Γ Γo:En):En:=match mu with
 | none=>Γ
 | some (j,i)=>match Γo[j]? with
  | some (some (.l xs))=>Γ.set i (some (.l xs))
  | _=>Γ
def dComp (mu:Option (Nat×Nat)) (ix:List (Option Nat)) (di:DI) (tg:En->T->Option En) (dc:DT) (de:DE):DE:=fun Γ=>(di Γ).bind fun p =>
 match mu with
 | none=>(compD tg dc de p.1.1 (pick none ix p.2)).map fun z=>(.l z.1,p.2)
 | some (j,i)=>if i∈p.1.2 then none else match p.2[i]? with
  | some (some (.l _))=>(compD tg dc de p.1.1 (pick (some i) ix p.2)).map fun z=>(.l z.1,cback mu p.2 z.2)
  | _=>none
section
variable {K:Fg}
theorem zDz
  (hp:C1.pins.map (·.1)=jp.toList) (hg:SimG K jp g tg) (hc:SimT K tc dc) (he:SimE K te de) (hl:its.length<=AC) (hC:C1.H0=H1)
  (hJ:∀ H2,Evo C1.fx H1 H2->(∀ (i:Nat) t,its[i]?=some t->J.go i H2/\∀ x H3,J.yld i H2 x H3->(∀ b o,H2 b=some o->H3 b=some o)/\Im K H3 x t)/\J.stop its.length H2)
  (hfx:∀ p,p∈w1.L->p∈C1.fx)
  (R:Rep K C1 w1 Γ0 (frm ix σ) H1) (e:compD tg dc de its Γ0=some (ts,Γe))
  (k:∀ σ' H' ys,Rep K C1 w1 Γe σ' H'->Ims K H' ys ts->ys.length<=AC->∀ D,H' D=none->Q (.ref D) (upd H' D (.lst ys))):CompW J ix g tc te σ H1 Q:=by
 refine⟨fun i m ys σ' H'=>m=its.length - i/\i<=its.length/\ys.length<=i/\∃ Γ pre post,Rep K C1 w1 Γ σ' H'/\Ims K H' ys pre/\compD tg dc de (its.drop i) Γ=some (post,Γe)/\ts=pre++post,⟨_,rfl,Cp _,Cp _,Γ0,[],ts,R,.nil,e,rfl⟩,?_⟩
 rintro i m ys σ' H' ⟨rfl,hi,hy,Γ,pre,post,R',hpre,e',rfl⟩
 have ev:Evo C1.fx H1 H':=fun b o h n=>R'.frame b o (by rw[hC]; exact h) n
 obtain⟨go,stop⟩:=hJ H' ev
 by_cases hlt:i < its.length
 ·obtain⟨t,ht⟩:∃ t,its[i]?=some t:=⟨its[i],by simp[hlt]⟩
  have hd:its.drop i=t::its.drop (i+1):=by
   obtain⟨h1,h2⟩:=Ac.mp ht
   rw[← h2]; exact GJ h1
  rw[hd]at e'
  unfold compD at e'
  obtain⟨Γ1,e1,e'⟩:=bind_some e'
  obtain⟨⟨b,Γ2⟩,e2,e'⟩:=bind_some e'
  obtain⟨g1,g2⟩:=go i t ht
  refine .inr ⟨g1,by lia,fun ys' σ2 H2=>ys'.length<=i+1/\∃ Γ pre' post',Rep K C1 w1 Γ σ2 H2/\Ims K H2 ys' pre'/\compD tg dc de (its.drop (i+1)) Γ=some (post',Γe)/\pre++post=pre'++post',fun ys' σ2 H2 ⟨a,b⟩=>⟨_,by lia,rfl,hlt,a,b⟩,fun x H2 hx=>?_⟩
  obtain⟨k1,k2⟩:=g2 x H2 hx
  have ev1:Evo w1.L H' H2:=fun b o h _=>k1 b o h
  have R2:=R'.evo0 k1
  refine hg C1 w1 Γ σ' H2 x t Γ1 _ hp R2 k2 e1 fun σ3 R3=>?_
  refine hc C1 w1 Γ1 σ3 H2 b Γ2 _ R3 e2 fun H4 R4 ev4=>?_
  have hpre4:Ims K H4 ys pre:=(hpre.evo ev1 R'.lst).evo ev4 R3.lst
  cases b with
  | true =>
   rw[if_pos rfl]at e' ⊢
   obtain⟨⟨s,Γ3⟩,e3,e'⟩:=bind_some e'
   obtain⟨t',e4,e'⟩:=bind_some e'
   obtain⟨⟨ts',Γ4⟩,e5,e'⟩:=zAA e'
   cases e'
   refine he C1 w1 Γ2 σ3 H4 s Γ3 _ R4 e3 fun v H5 R5 ev5 o5 _=>?_
   cases s with
   | l _=>cases e4
   | s _=>cases e4
   | d _=>cases e4
   | v t'' =>
    cases e4
    exact⟨by simp; lia,Γ3,pre++[t'],ts',R5,(hpre4.evo ev5 R4.lst).app (.one o5),e5,by simp⟩
  | false =>
   rw[if_neg AZ]at e' ⊢
   exact⟨by lia,Γ2,pre,post,R4,hpre4,e',rfl⟩
 ·have:i=its.length:=by lia
  subst this
  rw[Ho]at e'
  cases e'
  rw[Bp]at k
  exact .inl ⟨stop,by lia,k σ' H' ys R' hpre (by lia)⟩
theorem zCT{mu:Option Nat}{ix:List (Option Nat)}{Γ:En}{j:Nat}{g:G}(h:(pick mu ix Γ)[j]?=some (some g)):∃ k g',ix[j]?=some (some k)/\Γ[k]?=some (some g')/\pick1 mu k (some g')=some g:=by
 unfold pick at h
 rw[Af]at h
 cases e:ix[j]? with
 | none=>rw[e]at h; cases h
 | some o =>
  rw[e]at h
  cases o with
  | none=>cases h
  | some k =>
   have h':pick1 mu k (Γ[k]?).join=some g:=Au h
   cases e2:Γ[k]? with
   | none=>rw[e2]at h'; cases h'
   | some o2 =>
    cases o2 with
    | none=>rw[e2]at h'; cases h'
    | some g'=>rw[e2]at h'; exact⟨k,g',rfl,e2,h'⟩
theorem zEK{ix:List (Option Nat)}{σ:St}{j k:Nat}{v:V}(h:ix[j]?=some (some k))(hv:σ[k]?=some (some v)):(frm ix σ)[j]?=some (some v):=by
 unfold frm
 rw[Af,h]
 show some ((σ[k]?).join)=_
 rw[hv]; rfl
theorem zFG{mu:Option (Nat×Nat)}{ix:List (Option Nat)}{wi:TI}{g:TG}{tc:TT}{te:TE}{di:DI}{tg:En->T->Option En}{dc:DT}{de:DE}(hi:SimI K wi di)(hg:SimG K (mu.map (·.1)) g tg)(hc:SimT K tc dc)(he:SimE K te de)
  (hmu:∀ j i,mu=some (j,i)->ix[j]?=some (some i)) (hix:∀ (j j' i:Nat),mu.map (·.2)=some i->ix[j]?=some (some i)->ix[j']?=some (some i)->j=j'):SimE K (tComp wi ix g tc te) (dComp mu ix di tg dc de):=by
 intro C w Γ σ H s Γ' Q R e k
 obtain⟨⟨⟨its,src⟩,Γ1⟩,e1,e⟩:=bind_some e
 refine hi C w Γ σ H its src Γ1 _ R e1 fun J H1 R1 ev1 ⟨hl,hJ⟩=>?_
 cases mu with
 | none =>
  obtain⟨⟨ts,Γe⟩,e2,e⟩:=zAA e
  cases e
  have Rin:Rep K ⟨H1,[],[]⟩ ⟨[],fun q=>w.R q\/q∈w.L⟩ (pick none ix Γ1) (frm ix σ) H1:=by
   refine⟨by simp[pick,frm],fun j g h=>?_,fun i j p ga gb ma mb h1 h2 h3 h4=>?_,fun p hp=>(nomatch hp),fun p hp=>(nomatch hp),fun p hp=>?_,fun p hp=>(nofun),fun b o h _=>h,R1.tab,fun q hq=>(nomatch hq)⟩
   ·obtain⟨k',g',a1,a2,a3⟩:=zCT h
    obtain⟨v,b1,b2⟩:=R1.val k' g' a2
    refine⟨v,zEK a1 b1,?_⟩
    cases g' with
    | v t=>cases a3; exact b2
    | l xs =>
     have:g=.r xs:=by simpa [pick1] using a3.symm
     subst this
     obtain⟨p,vs,rfl,c1,c2,c3⟩:=b2
     exact⟨p,vs,rfl,c3,c2,nofun,.inr c1⟩
    | r xs =>
     cases a3
     obtain⟨p,vs,rfl,c1,c2⟩:=b2
     exact⟨p,vs,rfl,c1,c2.1,nofun,.inl c2.2.2⟩
    | d xs =>
     cases a3
     obtain⟨p,vs,rfl,c1,c2,c3⟩:=b2
     exact⟨p,vs,rfl,c3,c2,nofun,.inr c1⟩
    | e xs =>
     cases a3
     obtain⟨p,vs,rfl,c1,c2⟩:=b2
     exact⟨p,vs,rfl,c1,c2.1,nofun,.inl c2.2.2⟩
    | k xs=>cases a3; exact b2
   ·obtain⟨k',g',a1,a2,a3⟩:=zCT h1
    cases g' with
    | v t=>cases a3; cases ma
    | l xs =>
     have:ga=.r xs:=by simpa [pick1] using a3.symm
     subst this; cases ma
    | r xs=>cases a3; cases ma
    | k xs=>cases a3; cases ma
    | d xs=>cases a3; cases ma
    | e xs=>cases a3; cases ma
   ·rcases hp with z | z
    ·exact R1.ra p z
    ·obtain⟨o,z,_⟩:=R1.lst p z; exact⟨o,z⟩
  refine zDz (jp:=none) (C1:=⟨H1,[],[]⟩) rfl hg hc he hl rfl (fun H2 ev=>hJ [] (fun p hp=>nomatch hp) (fun _ _ _ _ _=>nofun) H2 ev) (fun p hp=>hp) Rin e2 fun σ' H' ys R' hy hz D hD=>?_
  have R2:Rep K C w Γ1 σ H':=R1.evo0 fun b o h=>R'.frame b o h nofun
  exact k _ _ (R2.new hD) ((ev1.trans fun b o h _=>R'.frame b o h nofun).trans (Evo.new hD)) (R2.newl hD hy) ⟨_,rfl,zAo (L:=w.L) (ev1.trans fun b o h _=>R'.frame b o h nofun) R2.lst hD⟩
 | some m =>
  obtain⟨j,i⟩:=m
  dsimp only at e
  split at e
  ·cases e
  rename_i hsrc
  split at e
  rotate_left
  ·cases e
  rename_i xs0 hx0
  obtain⟨⟨ts,Γe⟩,e2,e⟩:=zAA e
  cases e
  obtain⟨v0,s0,p,vs0,rfl,m0,h0,i0⟩:=R1.val i _ hx0
  have hij:=hmu j i rfl
  have Rin:Rep K ⟨H1,[p],[(j,p)]⟩ ⟨[p],fun q=>w.R q\/(q∈w.L/\q≠p)⟩ (pick (some i) ix Γ1) (frm ix σ) H1:=by
   refine⟨by simp[pick,frm],fun j' g h=>?_,fun i1 i2 p' ga gb ma mb h1 h2 h3 h4=>?_,fun q hq=>?_,fun q hq=>.inl hq,fun q hq=>?_,fun q hq z=>?_,fun b o h _=>h,R1.tab,fun q hq=>?_⟩
   ·obtain⟨k',g',a1,a2,a3⟩:=zCT h
    obtain⟨v,b1,b2⟩:=R1.val k' g' a2
    refine⟨v,zEK a1 b1,?_⟩
    cases g' with
    | v t=>cases a3; exact b2
    | l xs =>
     obtain⟨p',vs,rfl,c1,c2,c3⟩:=b2
     by_cases hk:i=k'
     ·subst hk
      have:g=.l xs:=by simpa [pick1] using a3.symm
      subst this
      rw[s0]at b1; cases b1
      exact⟨p,vs,rfl,AI.mpr rfl,c2,c3⟩
     ·have:g=.r xs:=by simpa [pick1,hk] using a3.symm
      subst this
      have hne:p'≠p:=fun z=>hk (R1.apart i k' p _ _ rfl rfl hx0 a2 s0 (z ▸ b1))
      exact⟨p',vs,rfl,c3,c2,fun z=>hne (AI.mp z),.inr ⟨c1,hne⟩⟩
    | d xs =>
     cases a3
     obtain⟨p',o',rfl,c1,c2,c3⟩:=b2
     have hne:p'≠p:=fun z=>by
      subst z
      rw[h0]at c2; cases c2
      exact c3
     exact⟨p',o',rfl,c3,c2,fun z=>hne (AI.mp z),.inr ⟨c1,hne⟩⟩
    | r xs =>
     cases a3
     obtain⟨p',vs,rfl,c1,c2⟩:=b2
     exact⟨p',vs,rfl,c1,c2.1,fun z=>c2.2.1 (AI.mp z ▸ m0),.inl c2.2.2⟩
    | e xs =>
     cases a3
     obtain⟨p',vs,rfl,c1,c2⟩:=b2
     exact⟨p',vs,rfl,c1,c2.1,fun z=>c2.2.1 (AI.mp z ▸ m0),.inl c2.2.2⟩
    | k xs=>cases a3; exact b2
   ·have only:∀ (n:Nat) (gc:G),isMut gc=true->(pick (some i) ix Γ1)[n]?=some (some gc)->ix[n]?=some (some i):=fun n gc mc h=>by
     obtain⟨k',g',a1,a2,a3⟩:=zCT h
     cases g' with
     | v t=>cases a3; cases mc
     | l xs =>
      by_cases hk:i=k'
      ·subst hk; exact a1
      ·have:gc=.r xs:=by simpa [pick1,hk] using a3.symm
       subst this; cases mc
     | r xs=>cases a3; cases mc
     | k xs=>cases a3; cases mc
     | d xs=>cases a3; cases mc
     | e xs=>cases a3; cases mc
    exact hix i1 i2 i rfl (only i1 ga ma h1) (only i2 gb mb h2)
   ·rw[AI.mp hq]; exact⟨_,h0,trivial⟩
   ·rcases hq with z | z
    ·exact R1.ra q z
    ·obtain⟨o,z,_⟩:=R1.lst q z.1; exact⟨o,z⟩
   ·have e:=AI.mp z
    rcases hq with z | z
    ·exact R1.rl q z (e ▸ m0)
    ·exact z.2 e
   ·rw[AI.mp hq]
    refine⟨zEK hij s0,xs0,?_⟩
    unfold pick
    rw[Af,hij]
    show some (pick1 (some i) i (Γ1[i]?).join)=_
    rw[hx0]; simp[pick1,Option.join]
  have av:∀ i'∈src,∀ q,σ[i']?=some (some (.ref q))->(∃ xs,Γ1[i']?=some (some (.l xs)))->q∉[p]:=fun i' hi' q hq ⟨xs,hx⟩ z=>by
   rw[AI.mp z]at hq
   have:=R1.apart i i' p _ _ rfl rfl hx0 hx s0 hq
   subst this
   exact hsrc hi'
  refine zDz (jp:=some j) (C1:=⟨H1,[p],[(j,p)]⟩) rfl hg hc he hl rfl (fun H2 ev=>hJ [p] (fun q hq=>AI.mp hq ▸ m0) av H2 ev) (fun p hp=>hp) Rin e2 fun σ' H' ys R' hy hz D hD=>?_
  obtain⟨q1,xs',q2⟩:=R'.pin (j,p) (AI.mpr rfl)
  obtain⟨v',s',p',us',rfl,_,h',i'⟩:=R'.val j _ q2
  have s'':σ'[j]?=some (some (.ref p)):=q1
  rw[s'']at s'; cases s'
  have evp:Evo [p] H1 H':=fun b o h n=>R'.frame b o h n
  have R2:Rep K C w (Γ1.set i (some (.l xs'))) σ H':=(R1.put2 hx0 s0 evp h' i').1
  have eb:cback (some (j,i)) Γ1 Γe=Γ1.set i (some (.l xs')):=by unfold cback; dsimp only; rw[q2]
  rw[eb]at k
  exact k _ _ (R2.new hD) ((ev1.trans (evp.wide fun q hq=>AI.mp hq ▸ m0)).trans (Evo.new hD)) (R2.newl hD hy) ⟨_,rfl,zAo (L:=w.L) (ev1.trans (evp.wide fun q hq=>AI.mp hq ▸ m0)) R2.lst hD⟩
end
abbrev DF:=List G->Option (G×List T)
def ROk (K:Fg) (H H':Hp) (v:V):G->Prop
 | .v t=>Im K H' v t
 | .l xs=>∃ p us,v=.ref p/\H p=none/\H' p=some (.lst us)/\Ims K H' us xs
 | .r _=>False
 | .k _=>False
 | .d kvs=>∃ p o,v=.ref p/\H p=none/\H' p=some o/\DOk K H' o kvs
 | .e _=>False
theorem zEJ(h:DOk K H (.lst vs) kvs):False:=h
noncomputable def pinsG (ip:Option Nat) (vs:List V):List (Nat×Addr):=match ip with
 | none=>[]
 | some k=>match vs[k]? with
  | some (.ref p)=>[(k,p)]
  | _=>[]
def spD (K:Fg) (ip:Option Nat) (n:Nat) (F:DF):Sp:=fun vs H Q _=>vs.length=n/\∃ (w:W) (gs:List G) (r:G) (ys:List T),F gs=some (r,ys)/\Rep K ⟨H,w.L,pinsG ip vs⟩ w (gs.map some) (vs.map some) H /\
 (pinsG ip vs).map (·.1)=ip.toList/\(∀ p∈w.L,p∈(pinsG ip vs).map (·.2)) /\
 ∀ v H',Evo w.L H H'->(∀ q∈pinsG ip vs,∃ us,H' q.2=some (.lst us)/\Ims K H' us ys)->ROk K H H' v r->Q v H'
noncomputable def outl (ip:Option Nat) (Γ:En):List T:=match ip with
 | none=>[]
 | some k=>match Γ[k]? with
  | some (some (.l xs))=>xs
  | _=>[]
noncomputable def resG (ip:Option Nat) (Γ:En):S->Option G
 | .v t=>some (.v t)
 | .l xs=>some (.l xs)
 | .s i=>if ip=some i then none else match Γ[i]? with
  | some (some (.l xs))=>some (.l xs)
  | some (some (.d xs))=>some (.d xs)
  | _=>none
 | .d xs=>some (.d xs)
def fnD (ip:Option Nat) (np nN:Nat) (g:DS):DF:=fun gs=>if gs.length=np then (g (gs.map some++Ah (nN - np) none)).bind fun o=>match o with
  | .nx Γ=>some (.v (.a .non),outl ip Γ)
  | .rt s Γ=>(resG ip Γ s).map fun r=>(r,outl ip Γ)
  | _=>none
 else none
section
variable {K:Fg}
theorem Rep.more(R:Rep K C w Γ σ H)(n:Nat):Rep K C w (Γ++Ah n none) (σ++Ah n none) H:=by
 have get:∀ {j:Nat} {g:G},(Γ++Ah n none)[j]?=some (some g)->Γ[j]?=some (some g):=fun {j g} h=>by
  rcases CY j Γ.length with z | z
  ·rw[BM z]at h; exact h
  ·rw[Ck z,GW]at h; split at h <;> cases h
 have put:∀ {j:Nat} {o:Option V},j < σ.length->(σ++Ah n none)[j]?=σ[j]?:=fun z=>BM z
 have lt:∀ {j:Nat} {g:G},Γ[j]?=some (some g)->j < σ.length:=fun h=>by rw[R.len]; exact (Ac.mp h).1
 refine⟨by simp[R.len],fun i g h=>?_,fun i j p ga gb ma mb h1 h2 h3 h4=>?_,R.lst,R.own,R.ra,R.rl,R.frame,R.tab,fun q hq=>?_⟩
 ·have h':=get h
  obtain⟨v,e1,e2⟩:=R.val i g h'
  exact⟨v,by rw[put (o:=none) (lt h')]; exact e1,e2⟩
 ·have g1:=get h1
  have g2:=get h2
  rw[put (o:=none) (lt g1)]at h3
  rw[put (o:=none) (lt g2)]at h4
  exact R.apart i j p ga gb ma mb g1 g2 h3 h4
 ·obtain⟨h1,xs,h2⟩:=R.pin q hq
  exact⟨by rw[put (o:=none) (lt h2)]; exact h1,xs,by rw[BM (Ac.mp h2).1]; exact h2⟩
theorem zC3(hb:SimS K ip ts g)(h:spD K ip np (fnD ip np N.length g) vs H Q E):ts { nx:=fun _ H'=>Q .non H',rt:=Q } (L2.start N vs) H:=by
 obtain⟨hn,w,gs,r,ys,e,R,hp,hL,k⟩:=h
 unfold fnD at e
 have hg:gs.length=np:=by
  have:=R.len
  simp at this
  lia
 rw[if_pos hg]at e
 obtain⟨o,e1,e⟩:=bind_some e
 have R0:Rep K ⟨H,w.L,pinsG ip vs⟩ w (gs.map some++Ah (N.length - np) none) (L2.start N vs) H:=by
  unfold L2.start
  rw[hn]
  exact R.more _
 have fin:∀ {w':W} {Γ':En} {σ':St} {H':Hp},Rep K ⟨H,w.L,pinsG ip vs⟩ w' Γ' σ' H'->outl ip Γ'=ys->∀ v,ROk K H H' v r->Q v H':=fun {w' Γ' σ' H'} R' eo v hr=>by
  refine k v H' (fun b o h n=>R'.frame b o h n) (fun q hq=>?_) hr
  obtain⟨h1,xs,h2⟩:=R'.pin q hq
  obtain⟨v',e1,p,us,rfl,_,h3,h4⟩:=R'.val q.1 _ h2
  rw[h1]at e1; cases e1
  refine⟨us,h3,?_⟩
  have hq1:q.1∈ip.toList:=hp ▸ BQ.mpr ⟨q,hq,rfl⟩
  rw[Dr]at hq1
  unfold outl at eo
  rw[hq1]at eo
  dsimp only at eo
  rw[h2]at eo
  dsimp only at eo
  rw[← eo]; exact h4
 have notpin:∀ {w':W} {Γ':En} {σ':St} {H':Hp} {p:Addr},Rep K ⟨H,w.L,pinsG ip vs⟩ w' Γ' σ' H'->(∀ q∈pinsG ip vs,q.2≠p)->Ow ⟨H,w.L,pinsG ip vs⟩ p->H p=none:=fun {w' Γ' σ' H' p} R' hne ow=>by
  rcases ow with z | z
  ·obtain⟨q,hq,e⟩:=BQ.mp (hL p z)
   exact absurd e (hne q hq)
  ·exact z
 refine hb _ w _ _ H _ o hp R0 e1 ?_
 cases o with
 | nx Γ' =>
  cases e
  exact fun w' σ' H' R'=>fin R' rfl _ (by show Im K H' V.non (.a .non); exact Im.atom)
 | rt s Γ' =>
  obtain⟨r',e2,e⟩:=zAA e
  cases e
  refine fun w' σ' H' v R' o'=>fin R' rfl v ?_
  have inL:∀ q∈pinsG ip vs,q.2∈w'.L:=fun q hq=>by
   obtain⟨h1,xs,h2⟩:=R'.pin q hq
   obtain⟨v',e1,p,us,rfl,h3,_⟩:=R'.val q.1 _ h2
   rw[h1]at e1; cases e1
   exact h3
  cases s with
  | v t=>cases e2; exact o'
  | l xs =>
   cases e2
   obtain⟨p,us,rfl,n1,n2,ow,h1,h2⟩:=o'
   exact⟨p,us,rfl,notpin R' (fun q hq z=>n1 (z ▸ inL q hq)) ow,h1,h2⟩
  | d xs =>
   cases e2
   obtain⟨p,us,rfl,n1,n2,ow,h1,h2⟩:=o'
   exact⟨p,us,rfl,notpin R' (fun q hq z=>n1 (z ▸ inL q hq)) ow,h1,h2⟩
  | s i =>
   unfold resG at e2
   dsimp only at e2
   split at e2
   ·cases e2
   rename_i hi
   split at e2
   ·rename_i xs hx
    cases e2
    obtain⟨v',e3,p,us,rfl,h3,h4,h5⟩:=R'.val i _ hx
    have o'':σ'[i]?=some (some v):=o'
    rw[o'']at e3; cases e3
    refine⟨p,us,rfl,notpin R' (fun q hq z=>?_) (R'.own p h3),h4,h5⟩
    obtain⟨h1,ys',h2⟩:=R'.pin q hq
    have:=R'.apart q.1 i q.2 _ _ rfl rfl h2 hx h1 (z ▸ o'')
    have hq1:q.1∈ip.toList:=hp ▸ BQ.mpr ⟨q,hq,rfl⟩
    rw[Dr]at hq1
    exact hi (by rw[hq1,this])
   ·rename_i xs hx
    cases e2
    obtain⟨v',e3,p,us,rfl,h3,h4,h5⟩:=R'.val i _ hx
    have o'':σ'[i]?=some (some v):=o'
    rw[o'']at e3; cases e3
    refine⟨p,us,rfl,notpin R' (fun q hq z=>?_) (R'.own p h3),h4,h5⟩
    obtain⟨h1,ys',h2⟩:=R'.pin q hq
    have:=R'.apart q.1 i q.2 _ _ rfl rfl h2 hx h1 (z ▸ o'')
    have hq1:q.1∈ip.toList:=hp ▸ BQ.mpr ⟨q,hq,rfl⟩
    rw[Dr]at hq1
    exact hi (by rw[hq1,this])
   ·cases e2
 | bk Γ'=>cases e
 | ct Γ'=>cases e
noncomputable def argG (ip:Option Nat) (Γ:En) (k:Nat):S->Option G
 | .v t=>some (.v t)
 | .l xs=>some (if ip=some k then .l xs else .r xs)
 | .s i=>match Γ[i]? with
  | some (some (.l xs))=>some (if ip=some k then .l xs else .r xs)
  | some (some (.r xs))=>if ip=some k then none else some (.r xs)
  | some (some (.k xs))=>if ip=some k then none else some (.k xs)
  | some (some (.d xs))=>if ip=some k then none else some (.e xs)
  | some (some (.e xs))=>if ip=some k then none else some (.e xs)
  | _=>none
 | .d xs=>if ip=some k then none else some (.e xs)
def argsG (ip:Option Nat) (Γ:En):Nat->List S->Option (List G)
 | _,[]=>some []
 | k,s::r=>(argG ip Γ k s).bind fun g=>(argsG ip Γ (k+1) r).map fun gs=>g::gs
noncomputable def isSl (i:Nat):S->Bool
 | .s j=>j == i
 | _=>false
noncomputable def isTmp:S->Bool
 | .l _=>true
 | _=>false
def onceS (ip:Option Nat) (ss:List S):Bool:=match ip with
 | none=>true
 | some k=>match ss[k]? with
  | some (.s i)=>(ss.eraseIdx k).all fun s=>!isSl i s
  | some (.l _)=>(ss.eraseIdx k).all fun s=>!isTmp s
  | _=>false
noncomputable def backS (ip:Option Nat) (Γ:En) (ss:List S) (ys:List T):En:=match ip with
 | none=>Γ
 | some k=>match ss[k]? with
  | some (.s i)=>Γ.set i (some (.l ys))
  | _=>Γ
noncomputable def toS:G->S
 | .v t=>.v t
 | .l xs=>.l xs
 | .r xs=>.l xs
 | .k xs=>.l xs
 | .d xs=>.d xs
 | .e xs=>.d xs
def dCall (ip:Option Nat) (F:DF) (ds:List V) (fa:DA):DE:=fun Γ=>(fa Γ).bind fun p=>if onceS ip p.1=true then (argsG ip p.2 0 (p.1++ds.map fun v=>.v (.a v))).bind fun gs=>(F gs).map fun q=>(toS q.1,backS ip p.2 p.1 q.2) else none
theorem SOks.app:∀ {vs:List V} {ss:List S},SOks K C w σ H vs ss->∀ ds:List V,SOks K C w σ H (vs++ds) (ss++ds.map fun v=>.v (.a v))
 | [],[],_,[]=>trivial
 | [],[],_,d::ds=>⟨SOk.atom,SOks.app (vs:=[]) (ss:=[]) trivial ds⟩
 | _::_,_::_,h,ds=>⟨h.1,SOks.app h.2 ds⟩
 | [],_::_,h,_=>h.elim
 | _::_,[],h,_=>h.elim
theorem SOks.len:∀ {vs:List V} {ss:List S},SOks K C w σ H vs ss->vs.length=ss.length
 | [],[],_=>rfl
 | _::_,_::_,h=>by simp[SOks.len h.2]
 | [],_::_,h=>h.elim
 | _::_,[],h=>h.elim
theorem SOks.get:∀ {vs:List V} {ss:List S} {k:Nat} {s:S},SOks K C w σ H vs ss->ss[k]?=some s->∃ v,vs[k]?=some v/\SOk K C w σ H v s
 | [],[],_,_,_,e=>by simp at e
 | v::_,_::_,0,_,h,e=>by simp at e; subst e; exact⟨v,rfl,h.1⟩
 | _::_,_::_,k+1,_,h,e=>by simpa using SOks.get (k:=k) h.2 (by simpa using e)
 | [],_::_,_,_,h,_=>h.elim
 | _::_,[],_,_,h,_=>h.elim
theorem zBx:∀ {ss:List S} {k:Nat} {gs:List G},argsG ip Γ k ss=some gs->gs.length=ss.length
 | [],_,_,e=>by cases e; rfl
 | s::r,k,_,e=>by
  obtain⟨g,e1,e⟩:=bind_some e
  obtain⟨gs,e2,e⟩:=zAA e
  cases e
  simp[zBx e2]
theorem zA0:∀ {ss:List S} {k:Nat} {gs:List G} {j:Nat} {g:G},argsG ip Γ k ss=some gs->gs[j]?=some g->∃ s,ss[j]?=some s/\argG ip Γ (k+j) s=some g
 | [],_,_,_,_,e,h=>by cases e; simp at h
 | s::r,k,_,j,g,e,h=>by
  obtain⟨g',e1,e⟩:=bind_some e
  obtain⟨gs,e2,e⟩:=zAA e
  cases e
  cases j with
  | zero=>simp at h; subst h; exact⟨s,rfl,e1⟩
  | succ j =>
   obtain⟨s',a,b⟩:=zA0 (j:=j) e2 (by simpa using h)
   exact⟨s',by simpa using a,by rw[← b]; congr 1; lia⟩
theorem zDT(hF:∀ gs r,F gs=some r->gs.length=n)(ha:SimA K ta fa):SimE K (tCall (spD K ip n F) ds E ta) (dCall ip F ds fa):=by
 intro C w Γ σ H s Γ' Q R e k
 obtain⟨⟨ss,Γ1⟩,e1,e⟩:=bind_some e
 dsimp only at e
 split at e
 rotate_left
 ·cases e
 rename_i honce
 obtain⟨gs,e2,e⟩:=bind_some e
 obtain⟨⟨r,ys⟩,e3,e⟩:=zAA e
 cases e
 refine ha C w Γ σ H ss Γ1 _ R e1 fun vs0 H1 R1 ev1 o0 n0=>?_
 have o1:=o0.app ds
 have hl0:=o0.len
 generalize hvs:vs0++ds=vs at o1 ⊢
 generalize hss:ss++(ds.map fun v=>S.v (.a v))=ss' at o1 e2
 have hl:=o1.len
 have hgl:=zBx e2
 have hn:vs.length=n:=by rw[hl,← hgl]; exact hF _ _ e3
 have resOk:∀ {H2:Hp} {v:V} {L:List Addr},Evo L H1 H2->ROk K H1 H2 v r->Rep K C w Γ1 σ H1->SOk K C w σ H2 v (toS r):=fun {H2 v L} ev hr R=>by
  cases r with
  | v t=>exact hr
  | l xs =>
   obtain⟨p,us,rfl,h1,h2,h3⟩:=hr
   obtain⟨a,b,c⟩:=R.fresh h1
   exact⟨p,us,rfl,a,b,c,h2,h3⟩
  | r xs=>exact hr.elim
  | k xs=>exact hr.elim
  | d xs =>
   obtain⟨p,us,rfl,h1,h2,h3⟩:=hr
   obtain⟨a,b,c⟩:=R.fresh h1
   exact⟨p,us,rfl,a,b,c,h2,h3⟩
  | e xs=>exact hr.elim
 have resNew:∀ {H2:Hp} {v:V},ROk K H1 H2 v r->Nw H v (toS r):=fun {H2 v} hr=>by
  cases r with
  | v t=>trivial
  | l xs =>
   obtain⟨p,us,rfl,h1,h2,h3⟩:=hr
   exact⟨p,rfl,zAo ev1 R1.lst h1⟩
  | r xs=>exact hr.elim
  | k xs=>exact hr.elim
  | d xs =>
   obtain⟨p,us,rfl,h1,h2,h3⟩:=hr
   exact⟨p,rfl,zAo ev1 R1.lst h1⟩
  | e xs=>exact hr.elim
 cases ip with
 | none =>
  have Rc:Rep K ⟨H1,[],[]⟩ ⟨[],fun q=>∃ o,H1 q=some o⟩ (gs.map some) (vs.map some) H1:=by
   refine⟨by simp[hl,hgl],fun j g h=>?_,fun i j p ga gb ma mb h1 h2 h3 h4=>?_,fun p hp=>(nomatch hp),fun p hp=>(nomatch hp),fun p hp=>hp,fun p hp=>nofun,fun b o h _=>h,R1.tab,fun q hq=>(nomatch hq)⟩
   ·rw[Af]at h
    obtain⟨g',h',h⟩:=zAA h
    cases h
    obtain⟨s,a1,a2⟩:=zA0 e2 h'
    obtain⟨v,b1,b2⟩:=o1.get a1
    refine⟨v,by rw[Af,b1]; rfl,?_⟩
    cases s with
    | v t=>cases a2; exact b2
    | l xs =>
     simp only[argG,reduceCtorEq,if_false,Ap]at a2
     subst a2
     obtain⟨p,us,rfl,n1,n2,ow,h1,h2⟩:=b2
     exact⟨p,us,rfl,h2,h1,nofun,⟨_,h1⟩⟩
    | d xs =>
     simp only[argG,reduceCtorEq,if_false,Ap]at a2
     subst a2
     obtain⟨p,us,rfl,n1,n2,ow,h1,h2⟩:=b2
     exact⟨p,us,rfl,h2,h1,nofun,⟨_,h1⟩⟩
    | s i =>
     unfold argG at a2
     dsimp only at a2
     split at a2
     ·rename_i xs hx
      simp only[reduceCtorEq,if_false,Ap]at a2
      subst a2
      obtain⟨v',c1,p,us,rfl,c2,c3,c4⟩:=R1.val i _ hx
      have b2':σ[i]?=some (some v):=b2
      rw[b2']at c1; cases c1
      exact⟨p,us,rfl,c4,c3,nofun,⟨_,c3⟩⟩
     ·rename_i xs hx
      simp only[reduceCtorEq,if_false,Ap]at a2
      subst a2
      obtain⟨v',c1,p,us,rfl,c2,c3⟩:=R1.val i _ hx
      have b2':σ[i]?=some (some v):=b2
      rw[b2']at c1; cases c1
      exact⟨p,us,rfl,c2,c3.1,nofun,R1.ra p c3.2.2⟩
     ·rename_i xs hx
      simp only[reduceCtorEq,if_false,Ap]at a2
      subst a2
      obtain⟨v',c1,c2⟩:=R1.val i _ hx
      have b2':σ[i]?=some (some v):=b2
      rw[b2']at c1; cases c1
      exact c2
     ·rename_i xs hx
      simp only[reduceCtorEq,if_false,Ap]at a2
      subst a2
      obtain⟨v',c1,p,us,rfl,c2,c3,c4⟩:=R1.val i _ hx
      have b2':σ[i]?=some (some v):=b2
      rw[b2']at c1; cases c1
      exact⟨p,us,rfl,c4,c3,nofun,⟨_,c3⟩⟩
     ·rename_i xs hx
      simp only[reduceCtorEq,if_false,Ap]at a2
      subst a2
      obtain⟨v',c1,p,us,rfl,c2,c3⟩:=R1.val i _ hx
      have b2':σ[i]?=some (some v):=b2
      rw[b2']at c1; cases c1
      exact⟨p,us,rfl,c2,c3.1,nofun,R1.ra p c3.2.2⟩
     ·cases a2
   ·rw[Af]at h1
    obtain⟨g',h',h⟩:=zAA h1
    cases h
    obtain⟨s,a1,a2⟩:=zA0 e2 h'
    cases s with
    | v t=>cases a2; cases ma
    | l xs=>simp[argG]at a2; subst a2; cases ma
    | d xs=>simp[argG]at a2; subst a2; cases ma
    | s i =>
     unfold argG at a2
     dsimp only at a2
     split at a2 <;> simp at a2 <;> (subst a2; cases ma)
  refine⟨hn,⟨[],fun q=>∃ o,H1 q=some o⟩,gs,r,ys,e3,Rc,rfl,(fun p hp=>nomatch hp),fun v H2 ev _ hr=>?_⟩
  have R2:Rep K C w Γ1 σ H2:=R1.evo0 fun b o h=>ev b o h nofun
  exact k v H2 R2 (ev1.trans fun b o h _=>ev b o h nofun) (resOk ev hr R1) (resNew hr)
 | some kk =>
  have hkk:∃ s,ss[kk]?=some s:=by
   unfold onceS at honce
   dsimp only at honce
   cases z:ss[kk]? with
   | none=>rw[z]at honce; cases honce
   | some s=>exact⟨s,rfl⟩
  obtain⟨sk,hsk⟩:=hkk
  have hkl:kk < ss.length:=(Ac.mp hsk).1
  have hsk':ss'[kk]?=some sk:=by rw[← hss,BM hkl]; exact hsk
  obtain⟨vk,hvk,ok⟩:=o1.get hsk'
  have at_k:∃ p us xs,vk=.ref p/\H1 p=some (.lst us)/\Ims K H1 us xs/\argG (some kk) Γ1 kk sk=some (.l xs)/\((∃ i,sk=.s i/\Γ1[i]?=some (some (.l xs))/\σ[i]?=some (some (.ref p))/\p∈w.L)\/(sk=.l xs/\p∉w.L/\¬ w.R p/\Ow C p)):=by
   obtain⟨gk,hgk⟩:∃ g,gs[kk]?=some g:=⟨gs[kk]'(by rw[hgl,← hss]; simp; lia),by simp⟩
   obtain⟨s,a1,a2⟩:=zA0 e2 hgk
   rw[hsk']at a1; cases a1
   rw[FQ]at a2
   cases sk with
   | v t=>unfold onceS at honce; dsimp only at honce; rw[hsk]at honce; cases honce
   | l xs =>
    obtain⟨p,us,rfl,n1,n2,ow,h1,h2⟩:=ok
    exact⟨p,us,xs,rfl,h1,h2,by simp[argG],.inr ⟨rfl,n1,n2,ow⟩⟩
   | s i =>
    unfold argG at a2
    dsimp only at a2
    have ok':σ[i]?=some (some vk):=ok
    split at a2
    ·rename_i xs hx
     obtain⟨v',c1,p,us,rfl,c2,c3,c4⟩:=R1.val i _ hx
     rw[ok']at c1; cases c1
     exact⟨p,us,xs,rfl,c3,c4,by simp[argG,hx],.inl ⟨i,rfl,hx,ok',c2⟩⟩
    ·rw[if_pos rfl]at a2; cases a2
    ·rw[if_pos rfl]at a2; cases a2
    ·rw[if_pos rfl]at a2; cases a2
    ·rw[if_pos rfl]at a2; cases a2
    ·cases a2
   | d xs=>unfold onceS at honce; dsimp only at honce; rw[hsk]at honce; cases honce
  obtain⟨p,us,xs,rfl,hpu,hus,hag,hsort⟩:=at_k
  have other:∀ (j:Nat) s,j≠kk->ss'[j]?=some s->(∀ i xs',s=.s i->Γ1[i]?=some (some (.l xs'))->σ[i]?≠some (some (.ref p)))/\(∀ xs' q,s=.l xs'->SOk K C w σ H1 (.ref q) s->q≠p):=fun j s hj hs=>by
   rcases hsort with ⟨i0,rfl,g0,s0,m0⟩ | ⟨rfl,n1,n2,ow⟩
   ·refine⟨fun i xs' e hx z=>?_,fun xs' q e h z=>?_⟩
    ·subst e
     have:=R1.apart i0 i p _ _ rfl rfl g0 hx s0 z
     subst this
     have hjl:j < ss.length:=by
      rcases CY j ss.length with z | z
      ·exact z
      ·rw[← hss,Ck z,Af]at hs
       obtain⟨d,_,hs⟩:=zAA hs
       cases hs
     rw[← hss,BM hjl]at hs
     unfold onceS at honce
     dsimp only at honce
     rw[hsk]at honce
     have:=Aw.mp honce (.s i0) (FX.mpr ⟨j,hj,hs⟩)
     simp[isSl]at this
    ·subst e
     obtain⟨q',us'',e,n1,_⟩:=h
     cases e
     exact n1 (z ▸ m0)
   ·refine⟨fun i xs' e hx z=>?_,fun xs' q e h z=>?_⟩
    ·obtain⟨v',c1,p',us2,rfl,c2,_⟩:=R1.val i _ hx
     rw[z]at c1; cases c1
     exact n1 c2
    ·subst e
     have hjl:j < ss.length:=by
      rcases CY j ss.length with z | z
      ·exact z
      ·rw[← hss,Ck z,Af]at hs
       obtain⟨d,_,hs⟩:=zAA hs
       cases hs
     rw[← hss,BM hjl]at hs
     unfold onceS at honce
     dsimp only at honce
     rw[hsk]at honce
     have:=Aw.mp honce _ (FX.mpr ⟨j,hj,hs⟩)
     simp[isTmp]at this
  have hpins:pinsG (some kk) vs=[(kk,p)]:=by unfold pinsG; dsimp only; rw[hvk]
  have Rc:Rep K ⟨H1,[p],[(kk,p)]⟩ ⟨[p],fun q=>(∃ o,H1 q=some o)/\q≠p⟩ (gs.map some) (vs.map some) H1:=by
   have get:∀ {j:Nat} {g:G},(gs.map some)[j]?=some (some g)->∃ s,ss'[j]?=some s/\argG (some kk) Γ1 j s=some g:=fun {j g} h=>by
    rw[Af]at h
    obtain⟨g',h',h⟩:=zAA h
    cases h
    obtain⟨s,a1,a2⟩:=zA0 e2 h'
    exact⟨s,a1,by rw[FQ]at a2; exact a2⟩
   have only:∀ {j:Nat} {gc:G},isMut gc=true->(gs.map some)[j]?=some (some gc)->j=kk:=fun {j gc} mc h=>by
    obtain⟨s,a1,a2⟩:=get h
    by_cases hj:kk=j
    ·exact hj.symm
    ·cases s with
     | v t=>cases a2; cases mc
     | l xs=>simp[argG,hj]at a2; subst a2; cases mc
     | d xs=>simp[argG,hj]at a2; subst a2; cases mc
     | s i =>
      unfold argG at a2
      dsimp only at a2
      split at a2 <;> simp[hj]at a2 <;> (subst a2; cases mc)
   refine⟨by simp[hl,hgl],fun j g h=>?_,fun i j p' ga gb ma mb h1 h2 h3 h4=>(only ma h1).trans (only mb h2).symm,fun q hq=>?_,fun q hq=>.inl hq,fun q hq=>hq.1,fun q hq z=>hq.2 (AI.mp z),fun b o h _=>h,R1.tab,fun q hq=>?_⟩
   ·obtain⟨s,a1,a2⟩:=get h
    obtain⟨v,b1,b2⟩:=o1.get a1
    refine⟨v,by rw[Af,b1]; rfl,?_⟩
    by_cases hj:j=kk
    ·subst hj
     rw[hsk']at a1; cases a1
     rw[hag]at a2; cases a2
     rw[hvk]at b1; cases b1
     exact⟨p,us,rfl,AI.mpr rfl,hpu,hus⟩
    ·have hj':¬ kk=j:=fun z=>hj z.symm
     obtain⟨x1,x2⟩:=other j s hj a1
     cases s with
     | v t=>cases a2; exact b2
     | l xs' =>
      simp only[argG,Ap,hj',if_false]at a2
      subst a2
      have b3:=b2
      obtain⟨q,us',rfl,n1,n2,ow,h1,h2⟩:=b2
      have hne:q≠p:=x2 xs' q rfl b3
      exact⟨q,us',rfl,h2,h1,fun z=>hne (AI.mp z),⟨_,h1⟩,hne⟩
     | s i =>
      have b2':σ[i]?=some (some v):=b2
      unfold argG at a2
      dsimp only at a2
      split at a2
      ·rename_i xs' hx
       simp only[Ap,hj',if_false]at a2
       subst a2
       obtain⟨v',c1,q,us',rfl,c2,c3,c4⟩:=R1.val i _ hx
       rw[b2']at c1; cases c1
       have hne:q≠p:=fun z=>x1 i xs' rfl hx (z ▸ b2')
       exact⟨q,us',rfl,c4,c3,fun z=>hne (AI.mp z),⟨_,c3⟩,hne⟩
      ·rename_i xs' hx
       simp only[Ap,hj',if_false]at a2
       subst a2
       obtain⟨v',c1,q,us',rfl,c2,c3⟩:=R1.val i _ hx
       rw[b2']at c1; cases c1
       have hne:q≠p:=fun z=>by
        subst z
        rcases hsort with ⟨_,_,_,_,m0⟩ | ⟨_,n1,n2,ow⟩
        ·exact c3.2.1 m0
        ·exact n2 c3.2.2
       exact⟨q,us',rfl,c2,c3.1,fun z=>hne (AI.mp z),R1.ra q c3.2.2,hne⟩
      ·rename_i xs' hx
       simp only[Ap,hj',if_false]at a2
       subst a2
       obtain⟨v',c1,c2⟩:=R1.val i _ hx
       rw[b2']at c1; cases c1
       exact c2
      ·rename_i xs' hx
       simp only[Ap,hj',if_false]at a2
       subst a2
       obtain⟨v',c1,q,us',rfl,c2,c3,c4⟩:=R1.val i _ hx
       rw[b2']at c1; cases c1
       have hne:q≠p:=fun z=>by subst z; rw[hpu]at c3; cases c3; exact zEJ c4
       exact⟨q,us',rfl,c4,c3,fun z=>hne (AI.mp z),⟨_,c3⟩,hne⟩
      ·rename_i xs' hx
       simp only[Ap,hj',if_false]at a2
       subst a2
       obtain⟨v',c1,q,us',rfl,c2,c3⟩:=R1.val i _ hx
       rw[b2']at c1; cases c1
       have hne:q≠p:=fun z=>by subst z; have c4:=c3.1; rw[hpu]at c4; cases c4; exact zEJ c2
       exact⟨q,us',rfl,c2,c3.1,fun z=>hne (AI.mp z),R1.ra q c3.2.2,hne⟩
      ·cases a2
     | d xs' =>
      simp only[argG,Ap,hj',if_false]at a2
      subst a2
      obtain⟨q,us',rfl,n1,n2,ow,h1,h2⟩:=b2
      have hne:q≠p:=fun z=>by subst z; rw[hpu]at h1; cases h1; exact zEJ h2
      exact⟨q,us',rfl,h2,h1,fun z=>hne (AI.mp z),⟨_,h1⟩,hne⟩
   ·rw[AI.mp hq]; exact⟨_,hpu,trivial⟩
   ·rw[AI.mp hq]
    refine⟨by rw[Af,hvk]; rfl,xs,?_⟩
    obtain⟨gk,hgk⟩:∃ g,gs[kk]?=some g:=⟨gs[kk]'(by rw[hgl,← hss]; simp; lia),by simp⟩
    obtain⟨s,a1,a2⟩:=zA0 e2 hgk
    rw[hsk']at a1; cases a1
    rw[FQ,hag]at a2; cases a2
    rw[Af,hgk]; rfl
  refine⟨hn,⟨[p],fun q=>(∃ o,H1 q=some o)/\q≠p⟩,gs,r,ys,e3,by rw[hpins]; exact Rc,by rw[hpins]; rfl,by rw[hpins]; exact fun q hq=>hq,fun v H2 ev hch hr=>?_⟩
  rw[hpins]at hch
  obtain⟨us2,hp2,hu2⟩:=hch (kk,p) (AI.mpr rfl)
  rcases hsort with ⟨i0,rfl,g0,s0,m0⟩ | ⟨rfl,n1,n2,ow⟩
  ·obtain⟨R2,ev2⟩:=R1.put2 g0 s0 ev hp2 hu2
   have hb:backS (some kk) Γ1 ss ys=Γ1.set i0 (some (.l ys)):=by unfold backS; dsimp only; rw[hsk]
   dsimp only at k
   rw[hb]at k
   exact k v H2 R2 (ev1.trans ev2) (resOk ev hr R1) (resNew hr)
  ·have hb:backS (some kk) Γ1 ss ys=Γ1:=by unfold backS; dsimp only; rw[hsk]
   dsimp only at k
   rw[hb]at k
   have R2:=R1.temp n1 n2 ow ⟨_,hpu,trivial⟩ ev
   refine k v H2 R2 (fun b o h n=>?_) (resOk ev hr R1) (resNew hr)
   by_cases z:b=p
   ·subst z
    have hv0:vs0[kk]?=some (.ref b):=by
     rw[← hvs,BM (by rw[hl0]; exact hkl)]at hvk; exact hvk
    obtain⟨p',e',hn'⟩:=n0.get hv0 hsk
    cases e'
    rw[hn']at h; cases h
   ·exact ev b o (ev1 b o h n) fun q=>z (AI.mp q)
end
noncomputable def lsOf (Γ:En):S->Option (List T)
 | .l xs=>some xs
 | .s i=>match Γ[i]? with
  | some (some (.l xs))=>some xs
  | some (some (.r xs))=>some xs
  | _=>none
 | .v _=>none
 | .d _=>none
noncomputable def sqlOf (Γ:En):S->Option (List T)
 | .l xs=>some xs
 | .s i=>match Γ[i]? with
  | some (some (.l xs))=>some xs
  | some (some (.r xs))=>some xs
  | some (some (.k xs))=>some xs
  | _=>none
 | .v (.l xs)=>some xs
 | .v _=>none
 | .d _=>none
section
variable {K:Fg}{C:Fr}{w:W}{Γ:En}{σ:St}{H:Hp}
theorem zE8(R:Rep K C w Γ σ H)(o:SOk K C w σ H x s)(e:lsOf Γ s=some xs):∃ p vs,x=.ref p/\H p=some (.lst vs)/\Ims K H vs xs:=by
 cases s with
 | v t=>cases e
 | d _=>cases e
 | l ys=>cases e; obtain⟨p,vs,rfl,_,_,_,h1,h2⟩:=o; exact⟨p,vs,rfl,h1,h2⟩
 | s i =>
  have o':σ[i]?=some (some x):=o
  unfold lsOf at e
  dsimp only at e
  split at e
  ·rename_i ys h
   cases e
   obtain⟨v,e1,p,vs,rfl,_,h1,h2⟩:=R.val i _ h
   rw[o']at e1; cases e1
   exact⟨p,vs,rfl,h1,h2⟩
  ·rename_i ys h
   cases e
   obtain⟨v,e1,p,vs,rfl,h1,h2,_⟩:=R.val i _ h
   rw[o']at e1; cases e1
   exact⟨p,vs,rfl,h2,h1⟩
  ·cases e
theorem zA4(R:Rep K C w Γ σ H)(o:SOk K C w σ H x s)(e:sqlOf Γ s=some xs):∃ p vs,x=.ref p/\SqL K H p vs/\Ims K H vs xs:=by
 cases s with
 | v t =>
  cases t with
  | l ys =>
   cases e
   obtain⟨p,vs,rfl,h1,h2⟩:=(show Im K H x (.l xs) from o).invl
   exact⟨p,vs,rfl,h1.sq,h2⟩
  | a _=>cases e
  | t _=>cases e
  | f _=>cases e
  | x _ _=>cases e
  | m _ _=>cases e
 | d _=>cases e
 | l ys=>cases e; obtain⟨p,vs,rfl,_,_,_,h1,h2⟩:=o; exact⟨p,vs,rfl,SqL.of h1,h2⟩
 | s i =>
  have o':σ[i]?=some (some x):=o
  unfold sqlOf at e
  dsimp only at e
  split at e
  ·rename_i ys h
   cases e
   obtain⟨v,e1,p,vs,rfl,_,h1,h2⟩:=R.val i _ h
   rw[o']at e1; cases e1
   exact⟨p,vs,rfl,SqL.of h1,h2⟩
  ·rename_i ys h
   cases e
   obtain⟨v,e1,p,vs,rfl,h1,h2,_⟩:=R.val i _ h
   rw[o']at e1; cases e1
   exact⟨p,vs,rfl,SqL.of h2,h1⟩
  ·rename_i ys h
   cases e
   obtain⟨v,e1,p,vs,rfl,h1,h2⟩:=R.val i _ h
   rw[o']at e1; cases e1
   exact⟨p,vs,rfl,h2.sq,h1⟩
  ·cases e
end
noncomputable def iS:S->Option Int
 | .v (.a (.int i))=>some i
 | _=>none
noncomputable def mkI (i:Int):S:=.v (.a (.int i))
noncomputable def mkB (b:Bool):S:=.v (.a (.bl b))
section
variable {K:Fg}{C:Fr}{w:W}{Γ:En}{σ:St}{H:Hp}
theorem zBh(o:SOk K C w σ H x s)(e:iS s=some i):x=.int i:=by
 unfold iS at e
 split at e
 ·cases e; exact o.inva
 ·cases e
end
noncomputable def inR (b:Nat):Int->Bool
 | .ofNat n=>EO n b
 | .negSucc n=>EO n b
theorem zDA:inR b i=true ↔ -((b:Int)+1)<=i/\i<=b:=by
 cases i with
 | ofNat n =>
  simp only[inR,KB,Int.ofNat_eq_natCast]
  lia
 | negSucc n =>
  simp only[inR,KB,Int.negSucc_eq]
  lia
theorem inR62(h:inR 4611686018427387903 i=true):-(2 ^ 62)<=i/\i < 2 ^ 62:=by have:=zDA.mp h; lia
theorem inR63(h:inR 9223372036854775807 i=true):-(2 ^ 63)<=i/\i < 2 ^ 63:=by have:=zDA.mp h; lia
theorem zCC(h:n<=b):inR b (n:Int)=true:=zDA.mpr ⟨by lia,by lia⟩
def opII (g:Int->Int->V):En->S->S->Option S:=fun _ a b=>(iS a).bind fun i=>(iS b).bind fun j=>some (.v (.a (g i j)))
def opIIc (c:Int->Int->Prop) [∀ i j,Decidable (c i j)] (g:Int->Int->V):En->S->S->Option S:=fun _ a b=>(iS a).bind fun i=>(iS b).bind fun j=>if c i j then some (.v (.a (g i j))) else none
theorem zBX:SimR2 K (rI0 g) (opII g):=by
 intro C w Γ σ H x y a b s Q R ox oy e k
 obtain⟨i,e1,e⟩:=bind_some e
 obtain⟨j,e2,e⟩:=bind_some e
 cases e
 exact⟨i,j,zBh ox e1,zBh oy e2,k _ H R .refl SOk.atom trivial⟩
theorem zCJ [∀ i j,Decidable (c i j)]:SimR2 K (rI c g) (opIIc c g):=by
 intro C w Γ σ H x y a b s Q R ox oy e k
 obtain⟨i,e1,e⟩:=bind_some e
 obtain⟨j,e2,e⟩:=bind_some e
 split at e
 ·rename_i hc
  cases e
  exact⟨i,j,zBh ox e1,zBh oy e2,hc,k _ H R .refl SOk.atom trivial⟩
 ·cases e
theorem zNy:((inR 18446744073709551615 i && inR 18446744073709551615 (-i)) || (inR 18446744073709551615 j && inR 18446744073709551615 (-j)))=true ↔ CMul i j:=by
 unfold CMul
 simp only[EL,An,zDA]
 lia
noncomputable instance (i j:Int):Decidable (CMul i j):=decidable_of_iff _ zNy
noncomputable instance (i j:Int):Decidable (CDiv i j):=by unfold CDiv; infer_instance
noncomputable instance (i j:Int):Decidable (CPow i j):=by unfold CPow; infer_instance
theorem SimR2.or(a:SimR2 K r h)(b:SimR2 K r' h'):SimR2 K (fun x y H Q=>r x y H Q\/r' x y H Q) (fun Γ x y=>(h Γ x y).or (h' Γ x y)):=by
 intro C w Γ σ H x y s1 s2 s Q R ox oy e k
 dsimp only at e
 cases q:h Γ s1 s2 with
 | some z =>
  rw[q,Hq]at e
  cases e
  exact .inl (a C w Γ σ H x y s1 s2 _ Q R ox oy q k)
 | none =>
  rw[q,Cg]at e
  exact .inr (b C w Γ σ H x y s1 s2 _ Q R ox oy e k)
def addStr:En->S->S->Option S:=fun _ a b=>match a,b with
 | .v (.a (.str x)),.v (.a (.str y))=>gd (x.length+y.length) (.v (.a (.str (x++y))))
 | _,_=>none
noncomputable def rAddStr:R2:=fun x y H Q=>∃ i j,x=.str i/\y=.str j/\i.length+j.length<=AC/\Q (.str (i++j)) H
theorem zF3:SimR2 K rAddStr addStr:=by
 intro C w Γ σ H x y a b s Q R ox oy e k
 unfold addStr at e
 split at e
 ·obtain⟨h,e⟩:=zA8 e
  cases e
  exact⟨_,_,ox.inva,oy.inva,h,k _ H R .refl SOk.atom trivial⟩
 ·cases e
noncomputable def rCatS (K:Fg):R2:=fun x y H Q=>∃ a b xs ys,x=.ref a/\y=.ref b/\Tp K H a xs/\Tp K H b ys/\xs.length+ys.length<=AC/\∀ p H',Same H H'->Tp K H' p (xs++ys)->Q (.ref p) H'
open PySem.Spec PyProof.Rows in
theorem zOR:OpR X (CW .Add) (rCatS X.K):=by
 intro pins s σ H x y v u Q I rx ry h
 obtain⟨a,b,xs,ys,rfl,rfl,ha,hb,hz,q⟩:=h
 cases rx
 cases ry
 obtain⟨its,r1,t1,z1⟩:=I.tuple ha.sq
 obtain⟨its2,r2,t2,z2⟩:=I.tuple hb.sq
 by_cases hx:xs=[]
 ·subst hx
  have e:its=[]:=by have:=r1.length; simpa using this.symm
  subst e
  obtain⟨⟨cls,dd,data,sl⟩,ho,hc,n,hd⟩:=id t1
  obtain⟨⟨cls2,dd2,data2,sl2⟩,ho2,hc2,n2,hd2⟩:=id t2
  simp only at hc hd hc2 hd2
  subst hc hd hc2 hd2
  refine HV ⟨_,ho,rfl⟩ ⟨_,ho2,rfl⟩ GF G6 D5 Dx (Dq _ _)
   (tuple_addW0 a b _ its2.toArray n n2 dd dd2 sl sl2 (by simp)) ⟨ho,ho2,?_⟩
  exact⟨.ref b,H,I,rfl,q b H (Same.refl H) (by simpa using hb)⟩
 ·have hne:its≠[]:=fun e=>hx (by have:=r1.length; rw[e]at this; simpa using this)
  refine HT.cat_tup t1 t2 hne (fun e=>?_) (fun e=>?_) (by rw[← r1.length,← r2.length]; exact hz)
  ·have ey:ys=[]:=by have:=r2.length; rw[e]at this; simpa using this
   subst ey
   exact⟨.ref a,H,I,rfl,q a H (Same.refl H) (by simpa using ha)⟩
  ·have hf:H s.heap.objs.size=none:=I.hok.fresh (AK _)
   refine⟨.ref s.heap.objs.size,_,I.laid (t':=s.toks) (fun b o e=>AE _ e) (AK _) (show ObjOk X.prog X.w _ _ _ (.tup (xs++ys)) from ⟨by simpa using hz,its++its2,r1.append r2,TupD.new _ _⟩),rfl,q _ _ (Same.upd hf) (.inl zAO)⟩
def addTup:En->S->S->Option S:=fun _ a b=>match a,b with
 | .v (.t xs),.v (.t ys)=>gd (xs.length+ys.length) (.v (.t (xs++ys)))
 | _,_=>none
theorem zFX:SimR2 K (rCatS K) addTup:=by
 intro C w Γ σ H x y a b s Q R ox oy e k
 unfold addTup at e
 split at e
 ·obtain⟨h,e⟩:=zA8 e
  cases e
  obtain⟨p,vs,rfl,h1,i1⟩:=ox.invt
  obtain⟨q,us,rfl,h2,i2⟩:=oy.invt
  refine⟨p,q,vs,us,rfl,rfl,h1,h2,by rw[i1.len,i2.len]; exact h,fun c H' sm hc=>k _ H' (R.same sm) (.of_same sm) ?_ trivial⟩
  have ev:Evo w.L H H':=.of_same sm
  show Im K H' (.ref c) (.t _)
  unfold Im
  exact⟨c,_,rfl,hc,(i1.evo ev R.lst).app (i2.evo ev R.lst)⟩
 ·cases e
def addLst:En->S->S->Option S:=fun Γ a b=>(lsOf Γ a).bind fun xs=>(lsOf Γ b).bind fun ys=>gd (xs.length+ys.length) (.l (xs++ys))
theorem zFs:SimR2 K rCat addLst:=by
 intro C w Γ σ H x y a b s Q R ox oy e k
 obtain⟨xs,e1,e⟩:=bind_some e
 obtain⟨ys,e2,e⟩:=bind_some e
 obtain⟨h,e⟩:=zA8 e
 cases e
 obtain⟨p,vs,rfl,h1,i1⟩:=zE8 R ox e1
 obtain⟨q,us,rfl,h2,i2⟩:=zE8 R oy e2
 exact⟨p,q,vs,us,rfl,rfl,h1,h2,by rw[i1.len,i2.len]; exact h,fun c hc=>k _ _ (R.new hc) (Evo.new hc) (R.newl hc (i1.app i2)) ⟨c,rfl,hc⟩⟩
def addS:En->S->S->Option S:=fun Γ x y=>((opII fun i j=>.int (i+j)) Γ x y).or ((addTup Γ x y).or ((addLst Γ x y).or (addStr Γ x y)))
def rAddS (K:Fg):R2:=fun x y H Q=>rI0 (fun i j=>.int (i+j)) x y H Q\/rCatS K x y H Q\/rCat x y H Q\/rAddStr x y H Q
theorem zJ0:SimR2 K (rAddS K) addS:=zBX.or (zFX.or (zFs.or zF3))
theorem zN0:OpR X (CW .Add) (rAddS X.K):=zPk.or (zOR.or (zOu.or zHO))
def fitM (n:Nat) (k:Int):Bool:=inR 9223372036854775807 k && EO (n * k.toNat) AC
def mulLst:En->S->S->Option S:=fun Γ a b=>(lsOf Γ a).bind fun xs=>(iS b).bind fun k=>if fitM xs.length k=true then some (.l (Ah k.toNat xs).flatten) else none
theorem Ims.rep(h:Ims K H vs ts):∀ n:Nat,Ims K H (Ah n vs).flatten (Ah n ts).flatten
 | 0=>.nil
 | n+1=>by rw[BW,BW,Cd,Cd]; exact h.app (h.rep n)
theorem zF2:SimR2 K rRep mulLst:=by
 intro C w Γ σ H x y a b s Q R ox oy e k
 obtain⟨xs,e1,e⟩:=bind_some e
 obtain⟨n,e2,e⟩:=bind_some e
 split at e
 ·rename_i h
  cases e
  unfold fitM at h
  rw[An]at h
  have h0:=inR63 h.1
  have h3:=Ea h.2
  obtain⟨p,vs,rfl,h1,i1⟩:=zE8 R ox e1
  exact⟨p,n,vs,rfl,zBh oy e2,h1,h0.1,h0.2,by rw[i1.len]; exact h3,fun c hc=>k _ _ (R.new hc) (Evo.new hc) (R.newl hc (i1.rep _)) ⟨c,rfl,hc⟩⟩
 ·cases e
def mulS:En->S->S->Option S:=fun Γ x y=>(opIIc CMul (fun i j=>.int (i * j)) Γ x y).or (mulLst Γ x y)
def rMulS:R2:=fun x y H Q=>rI CMul (fun i j=>.int (i * j)) x y H Q\/rRep x y H Q
theorem zJV:SimR2 K rMulS mulS:=zCJ.or zF2
theorem zOJ:OpR X (CW .Mult) rMulS:=zPP.or zO5
def modS:En->S->S->Option S:=opIIc (fun _ j=>0 < j) fun i j=>.int (i % j)
def fdivS:En->S->S->Option S:=opIIc CDiv fun i j=>.int (i / j)
def powS:En->S->S->Option S:=opIIc CPow fun i j=>.int (i ^ j.toNat)
def subS:En->S->S->Option S:=opII fun i j=>.int (i - j)
def ltS:En->S->S->Option S:=opII fun i j=>.bl (decide (i < j))
def gtS:En->S->S->Option S:=opII fun i j=>.bl (decide (j < i))
def geS:En->S->S->Option S:=opII fun i j=>.bl (decide (j<=i))
def negS:En->S->Option S:=fun _ a=>(iS a).map fun i=>mkI (-i)
theorem zIx:SimR1 K (rU fun i=>.int (-i)) negS:=by
 intro C w Γ σ H x a s Q R ox e k
 obtain⟨i,e1,e⟩:=zAA e
 cases e
 exact⟨i,zBh ox e1,k _ H R .refl SOk.atom trivial⟩
def ixS:En->S->S->Option S:=fun Γ a b=>(iS b).bind fun i=>match a with
 | .v (.t xs)=>(atI xs i).map .v
 | .v (.a (.str z))=>if z.length<=AC then (atI z.cps.toList i).map fun c=>.v (.a (.str ⟨#[c]⟩)) else none
 | a=>(sqlOf Γ a).bind fun xs=>(atI xs i).map .v
theorem zGY(h:Ims K H vs ts)(e:atI ts i=some t):∃ v,atI vs i=some v/\Im K H v t:=by
 unfold atI at e ⊢
 rw[h.len]
 obtain⟨j,e1,e⟩:=bind_some e
 obtain⟨v,e2,hv⟩:=h.get e
 exact⟨v,by rw[e1]; exact e2,hv⟩
theorem zKk:SimR2 K (rIx K) ixS:=by
 intro C w Γ σ H x y a b s Q R ox oy e k
 obtain⟨i,e1,e⟩:=bind_some e
 have hy:=zBh oy e1
 split at e
 ·rename_i xs
  obtain⟨t,e2,e⟩:=zAA e
  cases e
  obtain⟨p,vs,rfl,h1,i1⟩:=ox.invt
  obtain⟨v,e3,hv⟩:=zGY i1 e2
  exact .inr (.inl ⟨p,vs,i,v,rfl,hy,h1.sq,e3,k v H R .refl hv trivial⟩)
 ·rename_i z
  split at e
  ·rename_i hz
   obtain⟨c,e2,e⟩:=zAA e
   cases e
   exact .inr (.inr ⟨_,i,c,ox.inva,hy,hz,e2,k _ H R .refl SOk.atom trivial⟩)
  ·cases e
 ·obtain⟨xs,e2,e⟩:=bind_some e
  obtain⟨t,e3,e⟩:=zAA e
  cases e
  obtain⟨p,vs,rfl,h1,i1⟩:=zA4 R ox e2
  obtain⟨v,e4,hv⟩:=zGY i1 e3
  exact .inl ⟨p,vs,i,v,rfl,hy,h1,e4,k v H R .refl hv trivial⟩
def lenS:En->List S->Option S:=fun Γ as=>match as with
 | [.v (.t xs)]=>some (mkI xs.length)
 | [.v (.a (.str z))]=>if z.length<=AC then some (mkI z.length) else none
 | [a]=>(sqlOf Γ a).map fun xs=>mkI xs.length
 | _=>none
def rLenS (K:Fg):List V->Hp->VK->Prop:=fun xs H Q=>(∃ p ys,xs=[.ref p]/\(SqL K H p ys\/SqT K H p ys)/\Q (.int ys.length) H)\/(∃ z,xs=[.str z]/\z.length<=AC/\Q (.int z.length) H)
theorem soks1(h:SOks K C w σ H vs [a]):∃ v,vs=[v]/\SOk K C w σ H v a:=by
 match vs,h with
 | [v],h=>exact⟨v,rfl,h.1⟩
theorem soks2(h:SOks K C w σ H vs [a,b]):∃ v u,vs=[v,u]/\SOk K C w σ H v a/\SOk K C w σ H u b:=by
 match vs,h with
 | [v,u],h=>exact⟨v,u,rfl,h.1,h.2.1⟩
theorem zJk:SimRs K (rLenS K) lenS:=by
 intro C w Γ σ H vs as s Q R o e k
 unfold lenS at e
 split at e
 ·cases e
  obtain⟨v,rfl,o1⟩:=soks1 o
  obtain⟨p,us,rfl,h1,i1⟩:=o1.invt
  refine .inl ⟨p,us,rfl,.inr h1.sq,?_⟩
  rw[i1.len]
  exact k _ H R .refl SOk.atom trivial
 ·rename_i z
  split at e
  ·rename_i hz
   cases e
   obtain⟨v,rfl,o1⟩:=soks1 o
   exact .inr ⟨z,by rw[o1.inva],hz,k _ H R .refl SOk.atom trivial⟩
  ·cases e
 ·obtain⟨xs,e1,e⟩:=zAA e
  cases e
  obtain⟨v,rfl,o1⟩:=soks1 o
  obtain⟨p,us,rfl,h1,i1⟩:=zA4 R o1 e1
  refine .inl ⟨p,us,rfl,.inl h1,?_⟩
  rw[i1.len]
  exact k _ H R .refl SOk.atom trivial
 ·cases e
theorem zIn:CallR X (.builtin "len") (rLenS X.K):=zFr.or zF4
def seqS (Γ:En):S->Option (List T)
 | .v (.t xs)=>some xs
 | a=>sqlOf Γ a
theorem zDm(R:Rep K C w Γ σ H)(o:SOk K C w σ H x s)(e:seqS Γ s=some xs):∃ p vs,x=.ref p/\(SqL K H p vs\/SqT K H p vs)/\Ims K H vs xs:=by
 unfold seqS at e
 split at e
 ·cases e
  obtain⟨p,us,rfl,h1,i1⟩:=o.invt
  exact⟨p,us,rfl,.inr h1.sq,i1⟩
 ·obtain⟨p,us,rfl,h1,i1⟩:=zA4 R o e
  exact⟨p,us,rfl,.inl h1,i1⟩
def tupleS:En->List S->Option S:=fun Γ as=>match as with
 | [.v (.t xs)]=>some (.v (.t xs))
 | [a]=>(sqlOf Γ a).map fun xs=>.v (.t xs)
 | _=>none
theorem zGA:SimRs K (fun xs H Q=>∃ p ys,xs=[.ref p]/\((SqL K H p ys/\∀ l,H l=none->Q (.ref l) (upd H l (.tup ys)))\/(SqT K H p ys/\Q (.ref p) H))) tupleS:=by
 intro C w Γ σ H vs as s Q R o e k
 unfold tupleS at e
 split at e
 ·cases e
  obtain⟨v,rfl,o1⟩:=soks1 o
  have o2:=o1
  obtain⟨p,us,rfl,h1,i1⟩:=o1.invt
  exact⟨p,us,rfl,.inr ⟨h1.sq,k _ H R .refl o2 trivial⟩⟩
 ·obtain⟨xs,e1,e⟩:=zAA e
  cases e
  obtain⟨v,rfl,o1⟩:=soks1 o
  obtain⟨p,us,rfl,h1,i1⟩:=zA4 R o1 e1
  exact⟨p,us,rfl,.inl ⟨h1,fun l hl=>k _ _ (R.new hl) (Evo.new hl) (R.newt hl i1) trivial⟩⟩
 ·cases e
abbrev DO:=En->Option (Option Int×En)
def SimO (K:Fg) (t:TO) (f:DO):Prop:=∀ (C:Fr) (w:W) (Γ:En) (σ:St) (H:Hp) (i:Option Int) (Γ':En) (Q:Option Int->Hp->Prop),Rep K C w Γ σ H->f Γ=some (i,Γ')->(∀ H',Rep K C w Γ' σ H'->Evo w.L H H'->Q i H')->t σ H Q
noncomputable def dNoPart:DO:=fun Γ=>some (none,Γ)
def dPart (f:DE):DO:=fun Γ=>(f Γ).bind fun p=>(iS p.1).map fun i=>(some i,p.2)
theorem zHA:SimO K tNoPart dNoPart:=fun C w Γ σ H i Γ' Q R e k=>by cases e; exact k H R .refl
theorem zK6(h:SimE K t f):SimO K (tPart t) (dPart f):=by
 intro C w Γ σ H i Γ' Q R e k
 obtain⟨p,e1,e⟩:=bind_some e
 obtain⟨i,e2,e⟩:=zAA e
 cases e
 exact h C w Γ σ H p.1 p.2 _ R e1 fun v H1 R1 ev o _=>⟨i,zBh o e2,k H1 R1 ev⟩
def cutT (xs:List T) (lo hi:Option Int):List T:=(xs.drop (HT.sIx xs.length 0 lo)).take (HT.sIx xs.length xs.length hi - HT.sIx xs.length 0 lo)
theorem Ims.cut(h:Ims K H vs ts)(lo hi:Option Int):Ims K H (cutV vs lo hi) (cutT ts lo hi):=by
 unfold cutV cutT
 rw[h.len]
 exact (h.drop _).take _
def slS (Γ:En) (lo hi:Option Int):S->Option S
 | .v (.t xs)=>some (.v (.t (cutT xs lo hi)))
 | .v (.a _)=>none
 | a=>(sqlOf Γ a).map fun xs=>.l (cutT xs lo hi)
def dSl (f:DE) (lo hi:DO):DE:=fun Γ=>(f Γ).bind fun p=>(lo p.2).bind fun l=>(hi l.2).bind fun h=>(slS h.2 l.1 h.1 p.1).map fun s=>(s,h.2)
def rSlTS (K:Fg):V->Option Int->Option Int->Hp->VK->Prop:=fun x lo hi H Q=>∃ a xs,x=.ref a/\Tp K H a xs/\∀ p H',Same H H'->Tp K H' p (cutV xs lo hi)->Q (.ref p) H'
theorem zNz:SlR X (rSlTS X.K):=by
 intro pins s σ H x v vl vu lo hi sl Q I rx hs pl pu h
 obtain⟨a,xs,rfl,hx,q⟩:=h
 cases rx
 obtain⟨its,r,ht,hz⟩:=I.tuple hx.sq
 have hlen:its.toArray.size=xs.length:=by rw[AO]; exact r.length.symm
 refine⟨"tuple",_,Bi.lookup,ht.typeIs,?_⟩
 by_cases hw:HT.sIx xs.length 0 lo=0/\HT.sIx xs.length xs.length hi=xs.length
 ·refine zCZ ht hs pl pu (by rw[hlen]; exact hw) ⟨.ref a,H,I,rfl,q a H (Same.refl H) ?_⟩
  unfold cutV
  rw[hw.1,hw.2,II,JR,Bl (AK _)]
  exact hx
 ·refine HT.qY ht hs pl pu (by rw[hlen]; exact hw) ?_ (by rw[hlen]; exact hz)
  rw[hlen]
  have hf:H s.heap.objs.size=none:=I.hok.fresh (AK _)
  refine⟨.ref s.heap.objs.size,_,I.laid (t':=s.toks) (o:=.tup (cutV xs lo hi)) (fun b ob q=>AE _ q) (AK _) ?_,rfl,q _ _ (Same.upd hf) (.inl zAO)⟩
  exact⟨Al (zDJ xs lo hi) hz,_,(r.drop (HT.sIx xs.length 0 lo)).take (HT.sIx xs.length xs.length hi - HT.sIx xs.length 0 lo),TupD.new _ _⟩
def rSlS (K:Fg):V->Option Int->Option Int->Hp->VK->Prop:=fun x lo hi H Q=>rSlTS K x lo hi H Q\/rSlL K x lo hi H Q
theorem sl_S:SlR X (rSlS X.K):=zNz.or zNg
theorem zP4(he:SimE K te f)(hl:SimO K tl lo)(hh:SimO K th hi):SimE K (tSl (rSlS K) te tl th) (dSl f lo hi):=by
 intro C w Γ σ H s Γ' Q R e k
 obtain⟨⟨a,G1⟩,e1,e⟩:=bind_some e
 obtain⟨⟨i,G2⟩,e2,e⟩:=bind_some e
 obtain⟨⟨j,G3⟩,e3,e⟩:=bind_some e
 obtain⟨z,e4,e⟩:=zAA e
 cases e
 dsimp only at e4
 refine he C w Γ σ H a G1 _ R e1 fun v H1 R1 ev1 o1 n1=>?_
 refine hl C w G1 σ H1 i G2 _ R1 e2 fun H2 R2 ev2=>?_
 refine hh C w G2 σ H2 j G3 _ R2 e3 fun H3 R3 ev3=>?_
 have o3:=(o1.evo ev2 R1.lst).evo ev3 R2.lst
 have ev:=(ev1.trans ev2).trans ev3
 unfold slS at e4
 split at e4
 ·cases e4
  obtain⟨p,us,rfl,h1,i1⟩:=o3.invt
  refine .inl ⟨p,us,rfl,h1,fun c H' sm hc=>k _ H' (R3.same sm) (ev.trans (.of_same sm)) ?_ trivial⟩
  show Im K H' (.ref c) (.t _)
  unfold Im
  exact⟨c,_,rfl,hc,(i1.evo (.of_same sm) R3.lst).cut _ _⟩
 ·cases e4
 ·obtain⟨xs,e5,e4⟩:=zAA e4
  cases e4
  obtain⟨p,us,rfl,h1,i1⟩:=zA4 R3 o3 e5
  exact .inr ⟨p,us,rfl,h1,fun c hc=>k _ _ (R3.new hc) (ev.trans (Evo.new hc)) (R3.newl hc (i1.cut _ _)) ⟨c,rfl,zAo ev R3.lst hc⟩⟩
def SimMut (K:Fg) (r:V->List V->Hp->VK->Prop) (h:En->List T->List S->Option (T×List T)):Prop:=∀ (C:Fr) (w:W) (Γ:En) (σ:St) (H:Hp) (l:Addr) (us:List V) (xs:List T) (vs:List V) (as:List S) (t:T) (ys:List T) (Q:VK),Rep K C w Γ σ H->H l=some (.lst us)->Ims K H us xs->us.length<=AC->SOks K C w σ H vs as->h Γ xs as=some (t,ys) ->
 (∀ v us',Ims K H us' ys->Im K H v t->Q v (upd H l (.lst us')))->r (.ref l) vs H Q
noncomputable def isLs (Γ:En) (i:Nat):Bool:=match Γ[i]? with
 | some (some (.l _))=>true
 | _=>false
def dMut (i:Nat) (h:En->List T->List S->Option (T×List T)) (fa:DA):DE:=fun Γ=>if isLs Γ i=true then (fa Γ).bind fun p=>match p.2[i]? with
 | some (some (.l xs))=>(gd xs.length ()).bind fun _=>(h p.2 xs p.1).map fun q=>(.v q.1,p.2.set i (some (.l q.2)))
 | _=>none
 else none
theorem zGv(R:Rep K C w Γ σ H)(h:isLs Γ i=true):∃ p vs,σ[i]?=some (some (.ref p))/\H p=some (.lst vs):=by
 unfold isLs at h
 split at h
 ·rename_i xs e
  obtain⟨v,e1,p,vs,rfl,_,h1,_⟩:=R.val i _ e
  exact⟨p,vs,e1,h1⟩
 ·cases h
theorem zGh(hr:SimMut K r h)(ha:SimA K ta fa):SimE K (tBM K "list" r (tVar i) ta) (dMut i h fa):=by
 intro C w Γ σ H s Γ' Q R e k
 unfold dMut at e
 split at e
 rotate_left
 ·cases e
 rename_i hl
 obtain⟨p,vs,e1,e2⟩:=zGv R hl
 obtain⟨⟨as,G1⟩,e3,e⟩:=bind_some e
 dsimp only at e
 split at e
 rotate_left
 ·cases e
 rename_i xs hx
 obtain⟨_,eg,e⟩:=bind_some e
 obtain⟨hsz,_⟩:=zA8 eg
 obtain⟨⟨t,ys⟩,e4,e⟩:=zAA e
 cases e
 refine⟨.ref p,e1,.inl ⟨rfl,vs,SqL.of e2⟩,?_⟩
 refine ha C w Γ σ H as G1 _ R e3 fun us H1 R1 ev1 o1 n1=>?_
 obtain⟨v,s1,q,ws,rfl,m1,h1,i1⟩:=R1.val i _ hx
 rw[e1]at s1; cases s1
 refine hr C w G1 σ H1 p ws xs us as t ys _ R1 h1 i1 (by rw[i1.len]; exact hsz) o1 e4 fun v us' hu hv=>?_
 obtain⟨R2,ev2⟩:=R1.put hx e1 hu
 exact k v _ R2 (ev1.trans ev2) (hv.evo ev2 R1.lst) trivial
theorem zLF(hr:SimMut K r h):SimE K (tBM0 K "list" r (tVar i)) (dMut i h qQ):=by
 intro C w Γ σ H s Γ' Q R e k
 have:=zGh (i:=i) hr (zGs (K:=K)) C w Γ σ H s Γ' Q R e k
 obtain⟨v,e1,e2,e3⟩:=this
 exact⟨v,e1,e2,e3⟩
noncomputable def hAppend:En->List T->List S->Option (T×List T):=fun _ xs as=>match as with
 | [.v t]=>if xs.length < AC then some (.a .non,xs++[t]) else none
 | _=>none
theorem zIW:SimMut K rAppend hAppend:=by
 intro C w Γ σ H l us xs vs as t ys Q R hl hi hz o e k
 unfold hAppend at e
 split at e
 ·rename_i t'
  split at e
  ·rename_i hn
   cases e
   obtain⟨v,rfl,o1⟩:=soks1 o
   exact⟨l,us,v,rfl,rfl,hl,by rw[hi.len]; exact hn,k _ _ (hi.app (.one o1)) Im.atom⟩
  ·cases e
 ·cases e
noncomputable def hPop:En->List T->List S->Option (T×List T):=fun _ xs as=>match as with
 | []=>(xs[xs.length - 1]?).map fun t=>(t,xs.dropLast)
 | _=>none
theorem Ims.dropLast(h:Ims K H vs ts):Ims K H vs.dropLast ts.dropLast:=by
 rw[ET,ET,h.len]; exact h.take _
theorem soks0(h:SOks K C w σ H vs []):vs=[]:=by
 match vs,h with
 | [],_=>rfl
theorem zOP:SimMut K rPop hPop:=by
 intro C w Γ σ H l us xs vs as t ys Q R hl hi hz o e k
 unfold hPop at e
 split at e
 ·obtain⟨t',e1,e⟩:=zAA e
  cases e
  obtain⟨v,e2,hv⟩:=hi.get e1
  exact⟨l,us,v,rfl,soks0 o,hl,by rw[hi.len]; exact e2,k _ _ hi.dropLast hv⟩
 ·cases e
def hPopAt:En->List T->List S->Option (T×List T):=fun _ xs as=>match as with
 | [.v (.a (.int i))]=>if inR 9223372036854775807 i=true then (FI i xs.length).bind fun k=>(xs[k]?).map fun t=>(t,xs.eraseIdx k) else none
 | _=>none
theorem zKP:SimMut K rPopAt hPopAt:=by
 intro C w Γ σ H l us xs vs as t ys Q R hl hi hz o e k
 unfold hPopAt at e
 split at e
 ·rename_i i
  split at e
  ·rename_i hb
   have hb:=inR63 hb
   obtain⟨j,e1,e⟩:=bind_some e
   obtain⟨t',e2,e⟩:=zAA e
   cases e
   obtain⟨v,rfl,o1⟩:=soks1 o
   obtain⟨y,e3,hy⟩:=hi.get e2
   exact⟨l,us,i,j,y,rfl,by rw[o1.inva],hl,hb.1,hb.2,by rw[hi.len]; exact e1,e3,k _ _ (hi.erase _) hy⟩
  ·cases e
 ·cases e
def hExtend:En->List T->List S->Option (T×List T):=fun Γ xs as=>match as with
 | [a]=>(lsOf Γ a).bind fun zs=>gd (xs.length+zs.length) (.a .non,xs++zs)
 | _=>none
theorem zID:SimMut K rExtend hExtend:=by
 intro C w Γ σ H l us xs vs as t ys Q R hl hi hz o e k
 unfold hExtend at e
 split at e
 ·obtain⟨zs,e1,e⟩:=bind_some e
  obtain⟨hg,e⟩:=zA8 e
  cases e
  obtain⟨v,rfl,o1⟩:=soks1 o
  obtain⟨p,ws,rfl,h1,i1⟩:=zE8 R o1 e1
  exact⟨l,p,us,ws,rfl,rfl,hl,h1,by rw[hi.len,i1.len]; exact hg,k _ _ (hi.app i1) Im.atom⟩
 ·cases e
def dSetIx (i:Nat) (fe fi:DE):DS:=fun Γ=>(fe Γ).bind fun p=>p.1.tree.bind fun t=>if isLs p.2 i=true then (fi p.2).bind fun q=>(iS q.1).bind fun k=>match q.2[i]? with
  | some (some (.l xs))=>(ixN xs.length k).map fun j=>.nx (q.2.set i (some (.l (xs.set j t))))
  | _=>none
 else none
theorem zHJ(he:SimE K te fe)(hi:SimE K ti fi):SimS K ip (tAsg te (gSub (tVar i) ti rSetL)) (dSetIx i fe fi):=by
 intro C w Γ σ H D o hp R e k
 obtain⟨⟨s,G1⟩,e1,e⟩:=bind_some e
 obtain⟨t,e2,e⟩:=bind_some e
 dsimp only at e e2
 split at e
 rotate_left
 ·cases e
 rename_i hl
 obtain⟨⟨s2,G2⟩,e3,e⟩:=bind_some e
 obtain⟨n,e4,e⟩:=bind_some e
 dsimp only at e e4
 split at e
 rotate_left
 ·cases e
 rename_i xs hx
 obtain⟨j,e5,e⟩:=zAA e
 subst e
 cases s with
 | l _=>cases e2
 | s _=>cases e2
 | d _=>cases e2
 | v t' =>
  cases e2
  refine he C w Γ σ H _ G1 _ R e1 fun v H1 R1 ev1 o1 n1=>?_
  obtain⟨p,vs,s1,h1⟩:=zGv R1 hl
  refine⟨.ref p,s1,?_⟩
  refine hi C w G1 σ H1 s2 G2 _ R1 e3 fun v2 H2 R2 ev2 o2 n2=>?_
  obtain⟨v3,s3,q,ws,rfl,m3,h3,i3⟩:=R2.val i _ hx
  rw[s1]at s3; cases s3
  have o1':Im K H1 v t:=o1
  exact⟨p,ws,n,j,rfl,zBh o2 e4,h3,by rw[i3.len]; exact e5,k w σ _ (R2.put hx s1 (i3.set j (o1'.evo ev2 R1.lst))).1⟩
noncomputable def boolsOf:List T->Option (List Bool)
 | []=>some []
 | .a (.bl b)::r=>(boolsOf r).map fun bs=>b::bs
 | _=>none
theorem zFt:∀ {vs:List V} {ts:List T} {bs:List Bool},Ims K H vs ts->boolsOf ts=some bs->vs=bs.map V.bl
 | _,[],_,h,e=>by cases e; exact h.inv0
 | _,.a (.bl b)::r,_,h,e=>by
  obtain⟨v,us,rfl,h1,h2⟩:=h.inv
  obtain⟨bs,e1,e⟩:=zAA e
  cases e
  rw[h1.inva,zFt h2 e1]; rfl
 | _,.t _::_,_,_,e=>by cases e
 | _,.l _::_,_,_,e=>by cases e
 | _,.f _::_,_,_,e=>by cases e
 | _,.x _ _::_,_,_,e=>by cases e
 | _,.m _ _::_,_,_,e=>by cases e
 | _,.a .non::_,_,_,e=>by cases e
 | _,.a (.int _)::_,_,_,e=>by cases e
 | _,.a (.str _)::_,_,_,e=>by cases e
 | _,.a (.byt _)::_,_,_,e=>by cases e
 | _,.a (.flt _)::_,_,_,e=>by cases e
 | _,.a (.ref _)::_,_,_,e=>by cases e
 | _,.a (.ty _)::_,_,_,e=>by cases e
def allS:En->List S->Option S:=fun Γ as=>match as with
 | [a]=>(sqlOf Γ a).bind fun xs=>(boolsOf xs).map fun bs=>mkB (bs.all id)
 | _=>none
theorem zIl:SimRs K (fun xs H Q=>∃ (p:Addr) (bs:List Bool),xs=[.ref p]/\SqL K H p (bs.map V.bl)/\Q (.bl (bs.all id)) H) allS:=by
 intro C w Γ σ H vs as s Q R o e k
 unfold allS at e
 split at e
 ·obtain⟨xs,e1,e⟩:=bind_some e
  obtain⟨bs,e2,e⟩:=zAA e
  cases e
  obtain⟨v,rfl,o1⟩:=soks1 o
  obtain⟨p,us,rfl,h1,i1⟩:=zA4 R o1 e1
  exact⟨p,bs,rfl,by rw[← zFt i1 e2]; exact h1,k _ H R .refl SOk.atom trivial⟩
 ·cases e
def tyN (Γ:En):S->Option String
 | .v (.t _)=>some "tuple"
 | .v (.a (.int _))=>some "int"
 | .v (.a (.bl _))=>some "bool"
 | .v (.a (.str _))=>some "str"
 | .v (.a .non)=>some "NoneType"
 | .v (.l _)=>some "list"
 | .v _=>none
 | a=>(sqlOf Γ a).map fun _=>"list"
def TyS (K:Fg) (H:Hp) (n:String):V->Prop
 | .int _=>n="int"
 | .bl _=>n="bool"
 | .str _=>n="str"
 | .non=>n="NoneType"
 | .ref p=>(n="list"/\∃ xs,SqL K H p xs)\/(n="tuple"/\∃ xs,SqT K H p xs)
 | _=>False
theorem zKA(R:Rep K C w Γ σ H)(o:SOk K C w σ H x s)(e:tyN Γ s=some n):TyS K H n x:=by
 unfold tyN at e
 split at e
 ·cases e; obtain⟨p,us,rfl,h1,i1⟩:=o.invt; exact .inr ⟨rfl,us,h1.sq⟩
 ·cases e; rw[o.inva]; exact rfl
 ·cases e; rw[o.inva]; exact rfl
 ·cases e; rw[o.inva]; exact rfl
 ·cases e; rw[o.inva]; exact rfl
 ·rename_i ys; cases e; obtain⟨p,us,rfl,h1,i1⟩:=(show Im K H x (.l ys) from o).invl; exact .inl ⟨rfl,us,h1.sq⟩
 ·cases e
 ·obtain⟨xs,e1,e⟩:=zAA e
  cases e
  obtain⟨p,us,rfl,h1,i1⟩:=zA4 R o e1
  exact .inl ⟨rfl,us,h1⟩
theorem zJr(I:Inv X pins σ H s)(rx:RelV x u)(ty:TyS X.K H n x):∃ P:Heap->Prop,PySem.W.KitX X.K u (.type n) P/\P s.heap/\u≠.builtin "__main__.__loader__#opaque":=by
 cases x with
 | non=>cases ty; cases (show u=CU from rx); exact⟨_,PySem.W.kitx_none,DP,fun z=>nomatch z⟩
 | bl y=>cases ty; cases (show u=Fs y from rx); exact⟨_,PySem.W.kitx_bool,DP,fun z=>nomatch z⟩
 | int i=>cases ty; obtain⟨t,q⟩:=(show ∃ t,u=Bb i t from rx); cases q; exact⟨_,PySem.W.kitx_int,DP,fun z=>nomatch z⟩
 | str y=>cases ty; obtain⟨t,q⟩:=(show ∃ t,u=FN y t from rx); cases q; exact⟨_,PySem.W.kitx_str,DP,fun z=>nomatch z⟩
 | ref p =>
  cases (show u=Bc p from rx)
  rcases ty with ⟨rfl,xs,h⟩ | ⟨rfl,xs,h⟩
  ·obtain⟨its,_,pl,_⟩:=I.list h
   obtain⟨o,h1,h2,_⟩:=pl.isList
   exact⟨_,PySem.W.kitx_list,⟨o,h1,h2⟩,fun z=>nomatch z⟩
  ·obtain⟨its,_,pl,_⟩:=I.tuple h
   obtain⟨o,h1,h2,_⟩:=pl
   exact⟨_,PySem.W.kitx_tuple,⟨o,h1,h2⟩,fun z=>nomatch z⟩
 | byt _=>exact ty.elim
 | flt _=>exact ty.elim
 | ty _=>exact ty.elim
noncomputable def tyIx:String->Option Nat
 | "int"=>some 0
 | "bool"=>some 1
 | "str"=>some 2
 | "list"=>some 3
 | "tuple"=>some 4
 | "NoneType"=>some 5
 | _=>none
noncomputable def tyNm:Nat->String
 | 0=>"int" | 1=>"bool" | 2=>"str" | 3=>"list" | 4=>"tuple" | _=>"NoneType"
@[simp] theorem zS7:tyIx "int"=some 0:=(rfl)
@[simp] theorem zS8:tyIx "bool"=some 1:=(rfl)
@[simp] theorem zSv:tyIx "str"=some 2:=(rfl)
@[simp] theorem zTE:tyIx "list"=some 3:=(rfl)
@[simp] theorem zS2:tyIx "tuple"=some 4:=(rfl)
@[simp] theorem zTc:tyIx "NoneType"=some 5:=(rfl)
theorem zG8(h:tyIx a=some i):a=tyNm i/\i < 6:=by
 unfold tyIx at h
 split at h <;> first | (cases h; exact⟨rfl,by decide⟩) | cases h
def subTy (a b:String):Option Bool:=(tyIx a).bind fun i=>(tyIx b).bind fun j=>if j=5 then none else some (i == j || (i == 1 && j == 0))
theorem zKx(e:subTy a b=some c):Hc K (.type a) (.type b)=some c:=by
 obtain⟨i,e1,z0⟩:=bind_some e
 obtain⟨j,e2,z⟩:=bind_some z0
 clear z0
 clear e
 obtain⟨rfl,hi⟩:=zG8 e1
 obtain⟨rfl,hj⟩:=zG8 e2
 clear e1 e2
 by_cases h5:j=5
 ·rw[if_pos h5]at z; cases z
 rw[if_neg h5]at z
 cases z
 have key:∀ i < 6,∀ j < 5,Hc K (.type (tyNm i)) (.type (tyNm j))=some (i == j || (i == 1 && j == 0)):=fun i hi j hj=>by
  match i,hi,j,hj with
  | 0,_,0,_=>kernel_rfl
  | 0,_,1,_=>kernel_rfl
  | 0,_,2,_=>kernel_rfl
  | 0,_,3,_=>kernel_rfl
  | 0,_,4,_=>kernel_rfl
  | 1,_,0,_=>kernel_rfl
  | 1,_,1,_=>kernel_rfl
  | 1,_,2,_=>kernel_rfl
  | 1,_,3,_=>kernel_rfl
  | 1,_,4,_=>kernel_rfl
  | 2,_,0,_=>kernel_rfl
  | 2,_,1,_=>kernel_rfl
  | 2,_,2,_=>kernel_rfl
  | 2,_,3,_=>kernel_rfl
  | 2,_,4,_=>kernel_rfl
  | 3,_,0,_=>kernel_rfl
  | 3,_,1,_=>kernel_rfl
  | 3,_,2,_=>kernel_rfl
  | 3,_,3,_=>kernel_rfl
  | 3,_,4,_=>kernel_rfl
  | 4,_,0,_=>kernel_rfl
  | 4,_,1,_=>kernel_rfl
  | 4,_,2,_=>kernel_rfl
  | 4,_,3,_=>kernel_rfl
  | 4,_,4,_=>kernel_rfl
  | 5,_,0,_=>kernel_rfl
  | 5,_,1,_=>kernel_rfl
  | 5,_,2,_=>kernel_rfl
  | 5,_,3,_=>kernel_rfl
  | 5,_,4,_=>kernel_rfl
 exact key i hi j (by lia)
noncomputable def subLT:String->Option Bool
 | "int"=>some false
 | "bool"=>some false
 | "str"=>some false
 | "NoneType"=>some false
 | "list"=>some true
 | "tuple"=>some true
 | _=>none
theorem zLC(e:subLT a=some c):PySem.W.kitAny K (.type a) [.type "list",.type "tuple"]=some c:=by
 unfold subLT at e
 split at e <;> first | (cases e; kernel_rfl) | cases e
def rIsi (K:Fg):List V->Hp->VK->Prop:=fun xs H Q=>∃ x T n b,xs=[x,.ty T]/\TyS K H n x/\subTy n T=some b/\Q (.bl b) H
theorem zLr:CallR X (.builtin "isinstance") (rIsi X.K):=by
 intro pins s σ H xs us Q I r h
 obtain⟨x,T,n,b,rfl,ty,e,q⟩:=h
 obtain⟨u,u',rfl,r1,r2⟩:=vals2 r
 cases (show u'=Cz T from r2)
 obtain⟨P,Z,hP,hx⟩:=zJr I r1 ty
 exact PySem.W.kia_one Z I.kIn hP (zKx e) hx fun tk=>⟨.bl b,H,I.tok tk,rfl,q⟩
def rIsiLT (K:Fg):List V->Hp->VK->Prop:=fun xs H Q=>∃ x p n b,xs=[x,.ref p]/\SqT K H p [.ty "list",.ty "tuple"]/\TyS K H n x/\subLT n=some b/\Q (.bl b) H
theorem zHc:CallR X (.builtin "isinstance") (rIsiLT X.K):=by
 intro pins s σ H xs us Q I r h
 obtain⟨x,p,n,b,rfl,hp,ty,e,q⟩:=h
 obtain⟨u,u',rfl,r1,r2⟩:=vals2 r
 cases (show u'=Bc p from r2)
 obtain⟨its,rv,⟨o,ho,hcl,⟨m,hd⟩⟩,hz⟩:=I.tuple hp
 obtain⟨u1,u2,rfl,q1,q2⟩:=vals2 rv
 cases (show u1=Cz "list" from q1)
 cases (show u2=Cz "tuple" from q2)
 obtain⟨P,Z,hP,hx⟩:=zJr I r1 ty
 obtain⟨cls,dd,data,sl⟩:=o
 simp only at hcl hd
 subst hcl hd
 exact PySem.W.kia_tup Z I.kIn hP ho (zLC e) hx fun tk=>⟨.bl b,H,I.tok tk,rfl,q⟩
def isiS:En->List S->Option S:=fun Γ as=>match as with
 | [a,.v (.a (.ty T))]=>(tyN Γ a).bind fun n=>(subTy n T).map mkB
 | [a,.v (.t [.a (.ty "list"),.a (.ty "tuple")])]=>(tyN Γ a).bind fun n=>(subLT n).map mkB
 | _=>none
def rIsiS (K:Fg):List V->Hp->VK->Prop:=fun xs H Q=>rIsi K xs H Q\/rIsiLT K xs H Q
theorem zJd:CallR X (.builtin "isinstance") (rIsiS X.K):=zLr.or zHc
theorem zJQ:SimRs K (rIsiS K) isiS:=by
 intro C w Γ σ H vs as s Q R o e k
 unfold isiS at e
 split at e
 ·obtain⟨n,e1,e⟩:=bind_some e
  obtain⟨b,e2,e⟩:=zAA e
  cases e
  obtain⟨v,u,rfl,o1,o2⟩:=soks2 o
  exact .inl ⟨v,_,n,b,by rw[o2.inva],zKA R o1 e1,e2,k _ H R .refl SOk.atom trivial⟩
 ·obtain⟨n,e1,e⟩:=bind_some e
  obtain⟨b,e2,e⟩:=zAA e
  cases e
  obtain⟨v,u,rfl,o1,o2⟩:=soks2 o
  obtain⟨p,us,rfl,h1,i1⟩:=o2.invt
  have hus:us=[.ty "list",.ty "tuple"]:=Ims.of_atoms (us:=[.ty "list",.ty "tuple"]) i1
  subst hus
  exact .inr ⟨v,p,n,b,rfl,h1.sq,zKA R o1 e1,e2,k _ H R .refl SOk.atom trivial⟩
 ·cases e
def intS:En->List S->Option S:=fun _ as=>match as with
 | [.v (.a (.int i))]=>some (mkI i)
 | [.v (.a (.bl b))]=>some (mkI (if b then 1 else 0))
 | _=>none
theorem zI0:SimRs K (fun xs H Q=>(∃ i,xs=[.int i]/\Q (.int i) H)\/∃ k,xs=[.bl k]/\Q (.int (if k then 1 else 0)) H) intS:=by
 intro C w Γ σ H vs as s Q R o e k
 unfold intS at e
 split at e
 ·cases e
  obtain⟨v,rfl,o1⟩:=soks1 o
  exact .inl ⟨_,by rw[o1.inva],k _ H R .refl SOk.atom trivial⟩
 ·cases e
  obtain⟨v,rfl,o1⟩:=soks1 o
  exact .inr ⟨_,by rw[o1.inva],k _ H R .refl SOk.atom trivial⟩
 ·cases e
def max2S:En->List S->Option S:=fun _ as=>match as with
 | [.v (.a (.int i)),.v (.a (.int j))]=>some (mkI (if j > i then j else i))
 | _=>none
theorem zHV:SimRs K (fun xs H Q=>∃ i j,xs=[.int i,.int j]/\Q (.int (if j > i then j else i)) H) max2S:=by
 intro C w Γ σ H vs as s Q R o e k
 unfold max2S at e
 split at e
 ·cases e
  obtain⟨v,u,rfl,o1,o2⟩:=soks2 o
  exact⟨_,_,by rw[o1.inva,o2.inva],k _ H R .refl SOk.atom trivial⟩
 ·cases e
noncomputable def atomsOf:List T->Option (List V)
 | []=>some []
 | .a v::r=>(atomsOf r).map fun vs=>v::vs
 | _=>none
theorem zDR:∀ {vs:List V} {ts:List T} {us:List V},Ims K H vs ts->atomsOf ts=some us->vs=us
 | _,[],_,h,e=>by cases e; exact h.inv0
 | _,.a b::r,_,h,e=>by
  obtain⟨v,us,rfl,h1,h2⟩:=h.inv
  obtain⟨bs,e1,e⟩:=zAA e
  cases e
  rw[h1.inva,zDR h2 e1]
 | _,.t _::_,_,_,e=>by cases e
 | _,.l _::_,_,_,e=>by cases e
 | _,.f _::_,_,_,e=>by cases e
 | _,.x _ _::_,_,_,e=>by cases e
 | _,.m _ _::_,_,_,e=>by cases e
noncomputable def tBMS (K:Fg) (r:V->List V->Hp->VK->Prop) (to:TE) (t:TA):TE:=fun σ H Q=>to σ H fun x H1=>(∃ p xs,x=.ref p/\Tp K H1 p xs)/\t σ H1 fun xs H2=>r x xs H2 Q
open PySem.Spec PyProof.Rows in
theorem zOY{X:Cx}{o e:Expr}{es:List Expr}{to:TE}{t:TA}{name:Str}{apos cpos:Pos}{id:String}{r:V->List V->Hp->VK->Prop}(slot:Slot "tuple" name id)(hty:HZ (.builtin id)=pure (.type "method_descriptor"))(hm:MtM X id r)(ho:PE X o to)(ha:PA X (e::es) t)
  (hbase:C7 o name X.env (eval o X.env)=eval o X.env:=by rfl)
  (hfew:((Bw cpos (AU (e::es) X.env)).all (fun x=>!x.1) && (Gk cpos (E6 [] X.env)).all (fun x=>x.1.isSome) && decide ((e::es).length+([]:List EF).length+(if ([]:List EF).isEmpty then 0 else 1) < 30))=true:=by rfl)
  (hline:(apos.endLine == cpos.line)=true:=by rfl) (hs:AU (e::es) X.env=(false,eval e X.env)::AU es X.env:=by rfl) (hplain:(Bw cpos (AU es X.env)).any (·.1)=false:=by rfl) :
  PE X (.Call (.Attribute o name apos) (e::es) [] cpos) (tBMS X.K r to t):=by
 intro pins s σ H Q I h
 refine Ha hbase hfew hline rfl (thn (ho pins s σ H _ I h) fun v s1 ⟨x,H1,I1,r1,⟨p,xs,ex,hp⟩,q1⟩=>?_)
 subst ex
 cases r1
 have key:∃ o',s1.heap.get? p=some o'/\o'.cls=.type "tuple"/\o'.dict=none:=by
  rcases hp with hp | ⟨o',its,n,a1,a2,a3,a4⟩
  ·obtain⟨_,its,_,o',ho',hc',_,hd'⟩:=(show ObjOk X.prog X.w H1 s1.heap p (.tup xs) from I1.hok p _ hp)
   exact⟨o',ho',hc',hd'⟩
  ·exact⟨o',I1.kIn p o' a1,a2,a3⟩
 obtain⟨o',ho',hc',hd'⟩:=key
 refine⟨"tuple",id,F.plainAttrs_tuple,slot,hty,⟨o',ho',hc'⟩,fun a e=>by cases e; exact⟨o',ho',hd'⟩,?_⟩
 have hA:=ha cpos pins s1 σ H1 _ I1 q1
 rw[hs]at hA ⊢
 refine EB (by show (false || (Bw cpos (AU es X.env)).any (·.1))=false; rw[hplain] <;> rfl) (Gm ?_)
 exact thn hA fun us s2 ⟨vs,H2,I2,r2,q2⟩=>hm pins s2 σ H2 (.ref p) vs (.ref p) us Q I2 (show RelV (.ref p) (.ref p) from rfl) r2 q2
def dIndex (fo:DE) (fa:DA):DE:=fun Γ=>(fo Γ).bind fun p=>(fa p.2).bind fun q=>match p.1,q.1 with
 | .v (.t xs),[.v (.a y)]=>(atomsOf xs).bind fun vs=>if flatV y=true/\vs.all flatV=true then (vs.findIdx? fun z=>eqV z y).map fun j=>(mkI (j:Nat),q.2) else none
 | _,_=>none
theorem zJZ(ho:SimE K to fo)(ha:SimA K ta fa):SimE K (tBMS K (rTupIndex K) to ta) (dIndex fo fa):=by
 intro C w Γ σ H s Γ' Q R e k
 obtain⟨⟨a,G1⟩,e1,e⟩:=bind_some e
 obtain⟨⟨as,G2⟩,e2,e⟩:=bind_some e
 dsimp only at e
 split at e
 ·rename_i xs y
  obtain⟨vs,e3,e⟩:=bind_some e
  split at e
  ·rename_i hf
   obtain⟨j,e4,e⟩:=zAA e
   cases e
   refine ho C w Γ σ H _ G1 _ R e1 fun v H1 R1 ev1 o1 n1=>?_
   have o1':=o1
   obtain⟨p,us,rfl,h1,i1⟩:=o1.invt
   refine⟨⟨p,us,rfl,h1⟩,?_⟩
   refine ha C w G1 σ H1 _ _ _ R1 e2 fun ws H2 R2 ev2 o2 n2=>?_
   obtain⟨u,rfl,o3⟩:=soks1 o2
   obtain⟨p',us',e5,h1',i1'⟩:=(o1'.evo ev2 R1.lst).invt
   cases e5
   have hus:=zDR i1' e3
   subst hus
   exact⟨p,us',_,j,rfl,by rw[o3.inva],h1'.sq,hf.1,hf.2,e4,k _ H2 R2 (ev1.trans ev2) SOk.atom trivial⟩
  ·cases e
 ·cases e
end D
namespace L2
open PySem PySem.Spec PyProof.Rows
section
variable {X:Cx}{tg:Expr}
def iSeq (K:AM) (tl:TE):TI:=fun σ H R=>tl σ H fun x H1=>∃ a,x=.ref a/\(((∃ xs,SqL K H1 a xs)/\R (Itl K a) H1)\/((∃ xs,SqT K H1 a xs)/\R (Itt K a) H1))
theorem zNP(hl:PE X l tl):PI X tg l (iSeq X.K tl):=by
 intro pins s σ H R I h
 refine thn (hl pins s σ H _ I h) fun v s1 ⟨x,H1,I1,r1,q1⟩=>?_
 obtain⟨a,e,q⟩:=q1
 subst e
 cases r1
 rcases q with ⟨⟨xs,hq⟩,q⟩ | ⟨⟨xs,hq⟩,q⟩
 ·obtain⟨its,rv,p,hz⟩:=I1.list hq
  refine Fw p.isList ?_
  refine⟨s1.heap.objs.size,[s1.heap.objs.size],_,_,H1,rfl,I1.kept (t':=s1.toks) fun b o e=>AE _ e,zKI a _,⟨_,AQ _ rfl,rfl,rfl⟩,fun b hb=>?_,q⟩
  have e:b=s1.heap.objs.size:=by simpa using hb
  subst e
  exact I1.fpOk (AK _) (I1.hok.fresh (AK _))
 ·obtain⟨its,rv,p,hz⟩:=I1.tuple hq
  refine CF (show s1.heap.IsTuple a its.toArray from p) ?_
  refine⟨s1.heap.objs.size,[s1.heap.objs.size],_,_,H1,rfl,I1.kept (t':=s1.toks) fun b o e=>AE _ e,zHB a _,⟨_,AQ _ rfl,rfl,rfl⟩,fun b hb=>?_,q⟩
  have e:b=s1.heap.objs.size:=by simpa using hb
  subst e
  exact I1.fpOk (AK _) (I1.hok.fresh (AK _))
end
section
variable {X:Cx}{elts:List Expr}{x1:Nat}{tp:Pos}
def iZipU (K:AM) (ta:TA):TI:=fun σ H R=>ta σ H fun vs H1=>∃ (b:Bool) (a1 a2:Addr),vs=[.ref a1,.ref a2]/\(∃ xs,Sq b K H1 a1 xs)/\(∃ ys,Sq b K H1 a2 ys)/\R (Itz b K a1 a2) H1
theorem zNc(hg:Gl X "zip")(hm:X.mg "zip"=none)(ha:PA X [e1,e2] ta)(hs:AU [e1,e2] X.env=[(false,eval e1 X.env),(false,eval e2 X.env)]:=by rfl)(hs2:AU [e2] X.env=[(false,eval e2 X.env)]:=by rfl) :
  PI X (.Tuple elts x1 tp) (.Call (.Name "zip" p) [e1,e2] [] pos) (iZipU X.K ta):=by
 intro pins s σ H R I h
 refine GN (zAx I hg hm boot_zip (Av (thn (ha pos pins s σ H _ I h) fun us s1 ⟨vs,H1,I1,r1,q1⟩=>?_) (by rw[hs,hs2]) (by rw[hs2]; rfl)))
 obtain⟨b,a1,a2,e,⟨xs,h1⟩,⟨ys,h2⟩,q⟩:=q1
 subst e
 obtain⟨u1,u2,e,r,r'⟩:=vals2 r1
 subst e
 cases r; cases r'
 obtain⟨its1,v1,o1,z1⟩:=I1.sq h1
 obtain⟨its2,v2,o2,z2⟩:=I1.sq h2
 have lt1:a1 < s1.heap.objs.size:=by cases b with
  | false=>obtain⟨o,e,_⟩:=(show s1.heap.IsList a1 its1.toArray from o1); exact AJ e
  | true=>obtain⟨o,e,_⟩:=(show s1.heap.IsTuple a1 its1.toArray from o1); exact AJ e
 have lt2:a2 < s1.heap.objs.size:=by cases b with
  | false=>obtain⟨o,e,_⟩:=(show s1.heap.IsList a2 its2.toArray from o2); exact AJ e
  | true=>obtain⟨o,e,_⟩:=(show s1.heap.IsTuple a2 its2.toArray from o2); exact AJ e
 have D:ZAp (s1.heap.objs.size+4) (s1.heap.objs.size+2) (s1.heap.objs.size+3) s1.heap.objs.size (s1.heap.objs.size+1) a1 a2 :=
  ⟨Ks lt1 lt2,Ag (Aa lt1 (BV _ 2)),Ag (Aa lt2 (BV _ 2))⟩
 have fin:∀ h',ZTn b (s1.heap.objs.size+4) (s1.heap.objs.size+2) (s1.heap.objs.size+3) s1.heap.objs.size (s1.heap.objs.size+1) a1 a2 0 h'->(∀ c o,s1.heap.get? c=some o->h'.get? c=some o) ->
   AV (model X.prog X.w) X.A (GE (.ref (s1.heap.objs.size+4))) (PIE X pins σ (.Tuple elts x1 tp) R) X.xe { s1 with heap:=h' }:=fun h' st hk=>by
  refine GI st.z ?_
  refine⟨_,_,_,_,H1,rfl,I1.kept (t':=s1.toks) hk,zKo b D,st,fun c hc=>?_,q⟩
  have hc':s1.heap.objs.size<=c:=by
   simp only[AL,Ao,or_false]at hc
   rcases hc with e | e | e | e | e <;> (rw[e]) <;> first | exact AK _ | exact BV _ _
  exact I1.fpOk hc' (I1.hok.fresh hc')
 cases b with
 | false=>exact call_zip_2 o1 o2 fun h' hz hTI hTO it1 it2 _ hk=>fin h' ⟨hz,hTI,⟨_,_,hTO⟩,it1,it2⟩ hk
 | true=>exact zEm o1 o2 fin
end
end L2
namespace D
open PySem L2
noncomputable def rngT (lo:Int) (n:Nat):List T:=(AF n).map fun (i:Nat)=>T.a (.int (lo+(i:Int)))
def dRng1 (fa:DA):DI:=fun Γ=>(fa Γ).bind fun p=>match p.1 with
 | [.v (.a (.int j))]=>if (inR 4611686018427387903 j && EO j.toNat AC)=true then some ((rngT 0 j.toNat,[]),p.2) else none
 | _=>none
def dRng2 (fa:DA):DI:=fun Γ=>(fa Γ).bind fun p=>match p.1 with
 | [.v (.a (.int i)),.v (.a (.int j))]=>if (inR 4611686018427387903 i && inR 4611686018427387903 j && EO (j - i).toNat AC)=true then some ((rngT i (j - i).toNat,[]),p.2) else none
 | _=>none
section
variable {K:Fg}
theorem zFM(h:n<=AC):ItOk K w Γ σ (Itr lo n) H (rngT lo n) []:=by
 refine⟨by simp[rngT]; exact h,fun L' _ _ H2 _=>⟨fun i t e=>?_,by simp[rngT]; exact AK n⟩⟩
 unfold rngT at e
 rw[Af]at e
 obtain⟨j,e1,e⟩:=zAA e
 obtain⟨hi',e1⟩:=Ac.mp e1
 have hi:i < n:=by simpa using hi'
 have e1':i=j:=by simpa using e1
 subst e
 subst e1'
 refine⟨hi,fun x H3 y=>?_⟩
 obtain⟨a,b⟩:=y
 subst a b
 exact⟨fun _ _ z=>z,Im.atom⟩
theorem fit1(h:(inR 4611686018427387903 j && EO j.toNat AC)=true):-(2 ^ 62)<=j/\j < 2 ^ 62/\j.toNat<=AC:=by
 rw[An]at h
 exact⟨(inR62 h.1).1,(inR62 h.1).2,Ea h.2⟩
theorem fit2(h:(inR 4611686018427387903 i && inR 4611686018427387903 j && EO (j - i).toNat AC)=true):(-(2 ^ 62)<=i/\i < 2 ^ 62/\-(2 ^ 62)<=j/\j < 2 ^ 62)/\(j - i).toNat<=AC:=by
 rw[An,An]at h
 exact⟨⟨(inR62 h.1.1).1,(inR62 h.1.1).2,(inR62 h.1.2).1,(inR62 h.1.2).2⟩,Ea h.2⟩
theorem zJb(ha:SimA K ta fa):SimI K (iRng1 ta) (dRng1 fa):=by
 intro C w Γ σ H its src Γ' R Rp e k
 obtain⟨⟨as,G1⟩,e1,e⟩:=bind_some e
 dsimp only at e
 split at e
 ·split at e
  ·rename_i j hj0
   have hj:=fit1 hj0
   cases e
   refine ha C w Γ σ H _ _ _ Rp e1 fun vs H1 R1 ev1 o1 n1=>?_
   obtain⟨v,rfl,o2⟩:=soks1 o1
   exact⟨_,by rw[o2.inva],hj.1,hj.2.1,k _ H1 R1 ev1 (zFM hj.2.2)⟩
  ·cases e
 ·cases e
theorem zJI(ha:SimA K ta fa):SimI K (iRng2 ta) (dRng2 fa):=by
 intro C w Γ σ H its src Γ' R Rp e k
 obtain⟨⟨as,G1⟩,e1,e⟩:=bind_some e
 dsimp only at e
 split at e
 ·split at e
  ·rename_i j hj0
   have hj:=fit2 hj0
   cases e
   refine ha C w Γ σ H _ _ _ Rp e1 fun vs H1 R1 ev1 o1 n1=>?_
   obtain⟨v,u,rfl,o2,o3⟩:=soks2 o1
   exact⟨_,_,by rw[o2.inva,o3.inva],hj.1,k _ H1 R1 ev1 (zFM hj.2)⟩
  ·cases e
 ·cases e
noncomputable def srcS (Γ:En):S->List Nat
 | .s i=>match Γ[i]? with
  | some (some (.l _))=>[i]
  | _=>[]
 | _=>[]
def dSeqI (f:DE):DI:=fun Γ=>(f Γ).bind fun p=>(seqS p.2 p.1).bind fun xs=>gd xs.length ((xs,srcS p.2 p.1),p.2)
theorem zBZ(R:Rep K C w Γ σ H)(o:SOk K C w σ H x s)(e:sqlOf Γ s=some xs):∃ p vs,x=.ref p/\SqL K H p vs/\Ims K H vs xs /\
  ∀ L',(∀ q∈L',q∈w.L)->(∀ i∈srcS Γ s,∀ q,σ[i]?=some (some (.ref q))->(∃ zs,Γ[i]?=some (some (.l zs)))->q∉L')->∀ H2,Evo L' H H2->SqL K H2 p vs:=by
 cases s with
 | v t =>
  cases t with
  | l ys =>
   cases e
   obtain⟨p,vs,rfl,h1,h2⟩:=(show Im K H x (.l xs) from o).invl
   exact⟨p,vs,rfl,h1.sq,h2,fun L' hs _ H2 ev=>(h1.evo ev fun q hq=>R.lst q (hs q hq)).sq⟩
  | a _=>cases e
  | t _=>cases e
  | f _=>cases e
  | x _ _=>cases e
  | m _ _=>cases e
 | d _=>cases e
 | l ys =>
  cases e
  obtain⟨p,vs,rfl,n1,n2,n3,h1,h2⟩:=o
  exact⟨p,vs,rfl,SqL.of h1,h2,fun L' hs _ H2 ev=>SqL.of (ev _ _ h1 fun z=>n1 (hs p z))⟩
 | s i =>
  have o':σ[i]?=some (some x):=o
  unfold sqlOf at e
  dsimp only at e
  split at e
  ·rename_i ys h
   cases e
   obtain⟨v,e1,p,vs,rfl,_,h1,h2⟩:=R.val i _ h
   rw[o']at e1; cases e1
   refine⟨p,vs,rfl,SqL.of h1,h2,fun L' hs av H2 ev=>SqL.of (ev _ _ h1 (av i ?_ p o' ⟨_,h⟩))⟩
   simp[srcS,h]
  ·rename_i ys h
   cases e
   obtain⟨v,e1,p,vs,rfl,h1,h2,h3,_⟩:=R.val i _ h
   rw[o']at e1; cases e1
   exact⟨p,vs,rfl,SqL.of h2,h1,fun L' hs av H2 ev=>SqL.of (ev _ _ h2 fun z=>h3 (hs p z))⟩
  ·rename_i ys h
   cases e
   obtain⟨v,e1,p,vs,rfl,h1,h2⟩:=R.val i _ h
   rw[o']at e1; cases e1
   exact⟨p,vs,rfl,h2.sq,h1,fun L' hs av H2 ev=>(h2.evo ev fun q hq=>R.lst q (hs q hq)).sq⟩
  ·cases e
theorem zLZ(hl:SimE K tl f):SimI K (iSeq K tl) (dSeqI f):=by
 intro C w Γ σ H its src Γ' R Rp e k
 obtain⟨⟨a,G1⟩,e1,e⟩:=bind_some e
 obtain⟨xs,e2,e⟩:=bind_some e
 obtain⟨hz,e⟩:=zA8 e
 cases e
 refine hl C w Γ σ H a _ _ Rp e1 fun v H1 R1 ev1 o1 n1=>?_
 dsimp only at e2
 have go:∀ {vs:List V} {H2:Hp} {J:It} (mk:∀ i x,vs[i]?=some x->J.go i H2) (yl:∀ i x H3,J.yld i H2 x H3->H3=H2/\vs[i]?=some x),Ims K H2 vs its->∀ (i:Nat) t,its[i]?=some t->J.go i H2/\∀ x H3,J.yld i H2 x H3->(∀ b o,H2 b=some o->H3 b=some o)/\Im K H3 x t:=fun {vs H2 J} mk yl hi i t e=>by
  obtain⟨v,e3,hv⟩:=hi.get e
  refine⟨mk i v e3,fun x H3 y=>?_⟩
  obtain⟨rfl,e4⟩:=yl i x H3 y
  rw[e3]at e4; cases e4
  exact⟨fun _ _ z=>z,hv⟩
 unfold seqS at e2
 split at e2
 ·cases e2
  obtain⟨p,vs,rfl,h1,i1⟩:=o1.invt
  refine⟨p,rfl,.inr ⟨⟨vs,h1.sq⟩,k _ H1 R1 ev1 ⟨hz,fun L' hs av H2 ev=>?_⟩⟩⟩
  have hL:LL L' H1:=fun q hq=>R1.lst q (hs q hq)
  have h2:SqT K H2 p vs:=(zB7 ev hL h1).sq
  have i2:=i1.evo ev hL
  exact⟨go (vs:=vs) (J:=Itt K p) (fun i x e=>⟨vs,x,h2,e⟩) (fun i x H3 y=>⟨y.1,y.2 vs h2⟩) i2,⟨vs,h2,by rw[i2.len]; exact AK _⟩⟩
 ·obtain⟨p,vs,rfl,h1,i1,st⟩:=zBZ R1 o1 e2
  refine⟨p,rfl,.inl ⟨⟨vs,h1⟩,k _ H1 R1 ev1 ⟨hz,fun L' hs av H2 ev=>?_⟩⟩⟩
  have hL:LL L' H1:=fun q hq=>R1.lst q (hs q hq)
  have h2:=st L' hs av H2 ev
  have i2:=i1.evo ev hL
  exact⟨go (vs:=vs) (J:=Itl K p) (fun i x e=>⟨vs,x,h2,e⟩) (fun i x H3 y=>⟨y.1,y.2 vs h2⟩) i2,⟨vs,h2,by rw[i2.len]; exact AK _⟩⟩
noncomputable def zipT (xs ys:List T):List T:=(xs.zip ys).map fun p=>.t [p.1,p.2]
def dZip (fa:DA):DI:=fun Γ=>(fa Γ).bind fun p=>match p.1 with
 | [.v (.t xs),.v (.t ys)]=>gd xs.length ((zipT xs ys,[]),p.2)
 | [a,b]=>(sqlOf p.2 a).bind fun xs=>(sqlOf p.2 b).bind fun ys=>gd xs.length ((zipT xs ys,srcS p.2 a++srcS p.2 b),p.2)
 | _=>none
theorem zJg(h1:Sq b K H2 a1 vs)(h2:Sq b K H2 a2 us)(i1:Ims K H2 vs xs)(i2:Ims K H2 us ys) :
  (∀ (i:Nat) t,(zipT xs ys)[i]?=some t->(Itz b K a1 a2).go i H2/\∀ x H3,(Itz b K a1 a2).yld i H2 x H3->(∀ b o,H2 b=some o->H3 b=some o)/\Im K H3 x t)/\(Itz b K a1 a2).stop (zipT xs ys).length H2:=by
 refine⟨fun i t e=>?_,⟨vs,us,h1,h2,?_⟩⟩
 ·unfold zipT at e
  rw[Af]at e
  obtain⟨⟨t1,t2⟩,e1,e⟩:=zAA e
  subst e
  obtain⟨g1,g2⟩:=Dv.mp e1
  obtain⟨v,e3,hv⟩:=i1.get g1
  obtain⟨u,e4,hu⟩:=i2.get g2
  refine⟨⟨vs,us,v,u,h1,h2,e3,e4⟩,fun x H3 y=>?_⟩
  obtain⟨T',x',y',rfl,hT,rfl,k1,k2⟩:=y
  have q1:=k1 vs h1
  have q2:=k2 us h2
  rw[e3]at q1; cases q1
  rw[e4]at q2; cases q2
  have ev:Evo [] H2 (upd H2 T' (.tup [v,u])):=Evo.new hT
  have hL:LL [] H2:=fun q hq=>nomatch hq
  refine⟨fun b o e=>ev b o e nofun,Im.tup zAO (.cons (hv.evo ev hL) (.one (hu.evo ev hL)))⟩
 ·have l1:=i1.len
  have l2:=i2.len
  simp[zipT]
  lia
theorem zLs(ha:SimA K ta fa):SimI K (iZipU K ta) (dZip fa):=by
 intro C w Γ σ H its src Γ' R Rp e k
 obtain⟨⟨as,G1⟩,e1,e⟩:=bind_some e
 dsimp only at e
 have zl:∀ xs ys:List T,(zipT xs ys).length<=xs.length:=fun xs ys=>by simp[zipT]; lia
 split at e
 ·rename_i xs ys
  obtain⟨hz,e⟩:=zA8 e
  cases e
  refine ha C w Γ σ H _ _ _ Rp e1 fun vs H1 R1 ev1 o1 n1=>?_
  obtain⟨v,u,rfl,o2,o3⟩:=soks2 o1
  obtain⟨p,vs,rfl,h1,i1⟩:=o2.invt
  obtain⟨q,us,rfl,h2,i2⟩:=o3.invt
  refine⟨true,p,q,rfl,⟨vs,h1.sq⟩,⟨us,h2.sq⟩,k _ H1 R1 ev1 ⟨Al (zl _ _) hz,fun L' hs av H2 ev=>?_⟩⟩
  have hL:LL L' H1:=fun q hq=>R1.lst q (hs q hq)
  exact zJg (b:=true) (zB7 ev hL h1).sq (zB7 ev hL h2).sq (i1.evo ev hL) (i2.evo ev hL)
 ·obtain⟨xs,e2,e⟩:=bind_some e
  obtain⟨ys,e3,e⟩:=bind_some e
  obtain⟨hz,e⟩:=zA8 e
  cases e
  refine ha C w Γ σ H _ _ _ Rp e1 fun vs H1 R1 ev1 o1 n1=>?_
  obtain⟨v,u,rfl,o2,o3⟩:=soks2 o1
  obtain⟨p,vs,rfl,h1,i1,st1⟩:=zBZ R1 o2 e2
  obtain⟨q,us,rfl,h2,i2,st2⟩:=zBZ R1 o3 e3
  refine⟨false,p,q,rfl,⟨vs,h1⟩,⟨us,h2⟩,k _ H1 R1 ev1 ⟨Al (zl _ _) hz,fun L' hs av H2 ev=>?_⟩⟩
  have hL:LL L' H1:=fun q hq=>R1.lst q (hs q hq)
  exact zJg (b:=false) (st1 L' hs (fun i hi=>av i (DW _ hi)) H2 ev) (st2 L' hs (fun i hi=>av i (Ak _ hi)) H2 ev) (i1.evo ev hL) (i2.evo ev hL)
 ·cases e
theorem zFP(lo:Int)(n:Nat):Ims K H (rngV lo n) (rngT lo n):=by
 have:rngT lo n=(rngV lo n).map T.a:=by simp[rngT,rngV]
 rw[this]
 exact Ims.atoms _
def rngS (as:List S):Option (List T):=match as with
 | [.v (.a (.int j))]=>if (inR 4611686018427387903 j && EO j.toNat AC)=true then some (rngT 0 j.toNat) else none
 | [.v (.a (.int i)),.v (.a (.int j))]=>if (inR 4611686018427387903 i && inR 4611686018427387903 j && EO (j - i).toNat AC)=true then some (rngT i (j - i).toNat) else none
 | _=>none
def rRng:List V->Hp->VK->Prop:=fun xs H Q=>(∃ j:Int,xs=[.int j]/\∀ p,H p=none->Q (.ref p) (upd H p (.rng 0 j)))\/(∃ i j:Int,xs=[.int i,.int j]/\∀ p,H p=none->Q (.ref p) (upd H p (.rng i j)))
def rOfRngL:List V->Hp->VK->Prop:=fun xs H Q=>∃ p lo hi,xs=[.ref p]/\H p=some (.rng lo hi)/\(-(2 ^ 62)<=lo/\lo < 2 ^ 62/\-(2 ^ 62)<=hi/\hi < 2 ^ 62)/\(hi - lo).toNat<=2 ^ 24/\∀ l,H l=none->Q (.ref l) (upd H l (.lst (rngV lo (hi - lo).toNat)))
def rOfRngT:List V->Hp->VK->Prop:=fun xs H Q=>∃ p lo hi,xs=[.ref p]/\H p=some (.rng lo hi)/\(-(2 ^ 62)<=lo/\lo < 2 ^ 62/\-(2 ^ 62)<=hi/\hi < 2 ^ 62)/\(hi - lo).toNat<=2 ^ 24/\∀ l,H l=none->Q (.ref l) (upd H l (.tup (rngV lo (hi - lo).toNat)))
def dListRng (fa:DA):DE:=fun Γ=>(fa Γ).bind fun p=>(rngS p.1).map fun xs=>(.l xs,p.2)
def dTupRng (fa:DA):DE:=fun Γ=>(fa Γ).bind fun p=>(rngS p.1).map fun xs=>(.v (.t xs),p.2)
theorem zFK(R:Rep K C w Γ σ H)(o:SOks K C w σ H vs as)(e:rngS as=some xs)
  (k:∀ p lo hi,H p=none->(-(2 ^ 62)<=lo/\lo < 2 ^ 62/\-(2 ^ 62)<=hi/\hi < 2 ^ 62)->(hi - lo).toNat<=2 ^ 24->xs=rngT lo (hi - lo).toNat->Q (.ref p) (upd H p (.rng lo hi))):rRng vs H Q:=by
 have hs:AC=2 ^ 24:=by rw[Bz]
 unfold rngS at e
 split at e
 ·split at e
  ·rename_i j hj0
   have hj:=fit1 hj0
   cases e
   obtain⟨v,rfl,o2⟩:=soks1 o
   refine .inl ⟨_,by rw[o2.inva],fun p hp=>k p 0 _ hp ⟨by decide,by decide,hj.1,hj.2.1⟩ ?_ (by rw[Gq])⟩
   rw[Gq]; have:=hj.2.2; lia
  ·cases e
 ·split at e
  ·rename_i j hj0
   have hj:=fit2 hj0
   cases e
   obtain⟨v,u,rfl,o2,o3⟩:=soks2 o
   exact .inr ⟨_,_,by rw[o2.inva,o3.inva],fun p hp=>k p _ _ hp hj.1 (by have:=hj.2; lia) rfl⟩
  ·cases e
 ·cases e
theorem zGJ(ha:SimA K ta fa):SimE K (tCB rOfRngL (tCons (tCB rRng ta) tNil)) (dListRng fa):=by
 intro C w Γ σ H s Γ' Q R e k
 obtain⟨⟨as,G1⟩,e1,e⟩:=bind_some e
 obtain⟨xs,e2,e⟩:=zAA e
 cases e
 refine ha C w Γ σ H as G1 _ R e1 fun vs H1 R1 ev1 o1 n1=>?_
 refine zFK R1 o1 e2 fun p lo hi hp hb hz hx=>?_
 have R2:Rep K C w G1 σ (upd H1 p (.rng lo hi)):=R1.new hp
 have ev2:Evo w.L H (upd H1 p (.rng lo hi)):=ev1.trans (Evo.new hp)
 refine⟨p,lo,hi,rfl,zAO,hb,hz,fun l hl=>?_⟩
 subst hx
 exact k _ _ (R2.new hl) (ev2.trans (Evo.new hl)) (R2.newl hl (zFP _ _)) ⟨l,rfl,zAo ev2 R2.lst hl⟩
theorem zIF(ha:SimA K ta fa):SimE K (tCB rOfRngT (tCons (tCB rRng ta) tNil)) (dTupRng fa):=by
 intro C w Γ σ H s Γ' Q R e k
 obtain⟨⟨as,G1⟩,e1,e⟩:=bind_some e
 obtain⟨xs,e2,e⟩:=zAA e
 cases e
 refine ha C w Γ σ H as G1 _ R e1 fun vs H1 R1 ev1 o1 n1=>?_
 refine zFK R1 o1 e2 fun p lo hi hp hb hz hx=>?_
 have R2:Rep K C w G1 σ (upd H1 p (.rng lo hi)):=R1.new hp
 have ev2:Evo w.L H (upd H1 p (.rng lo hi)):=ev1.trans (Evo.new hp)
 refine⟨p,lo,hi,rfl,zAO,hb,hz,fun l hl=>?_⟩
 subst hx
 exact k _ _ (R2.new hl) (ev2.trans (Evo.new hl)) (R2.newt hl (zFP _ _)) trivial
theorem zKd(ha:SimA K ta fa)(hi:ip≠some i)(hj:ip≠some j):SimS K ip (tPar i j ta) (fun Γ=>(fa Γ).bind fun p=>match p.1 with
  | [.v a,.v b]=>some (.nx ((p.2.set i (some (.v a))).set j (some (.v b))))
  | _=>none):=by
 intro C w Γ σ H D o hp R e k
 obtain⟨⟨as,G1⟩,e1,e⟩:=bind_some e
 dsimp only at e
 split at e
 ·cases e
  refine ha C w Γ σ H _ G1 _ R e1 fun vs H1 R1 ev1 o1 n1=>?_
  obtain⟨v,u,rfl,o2,o3⟩:=soks2 o1
  exact⟨v,u,rfl,k w _ H1 ((R1.setv (g:=.v _) rfl o2 (zBT hp hi)).setv (g:=.v _) rfl o3 (zBT hp hj))⟩
 ·cases e
noncomputable def dPar2 (i j:Nat) (fa:DA):DS:=fun Γ=>(fa Γ).bind fun p=>match p.1 with
  | [.v a,.v b]=>some (.nx ((p.2.set i (some (.v a))).set j (some (.v b))))
  | _=>none
def dUnp (tg:En->T->Option En) (f:DE):DS:=fun Γ=>(f Γ).bind fun p=>p.1.tree.bind fun t=>(tg p.2 t).map .nx
theorem zK2(h:SimE K te f)(hg:SimG K ip g tg):SimS K ip (tAsg te g) (dUnp tg f):=by
 intro C w Γ σ H D o hp R e k
 obtain⟨⟨s,G1⟩,e1,e⟩:=bind_some e
 obtain⟨t,e2,e⟩:=bind_some e
 obtain⟨Γ2,e3,e⟩:=zAA e
 subst e
 cases s with
 | l _=>cases e2
 | s _=>cases e2
 | d _=>cases e2
 | v t' =>
  cases e2
  refine h C w Γ σ H _ G1 _ R e1 fun v H1 R1 ev1 o1 n1=>?_
  exact hg C w G1 σ H1 v t Γ2 _ hp R1 o1 e3 fun σ' R'=>k w σ' H1 R'
end
noncomputable def toDa:V->Option CH
 | .int i=>some (.int i)
 | .bl b=>some (.bool b)
 | .str x=>some (.str x)
 | .non=>some .none
 | _=>none
mutual
noncomputable def toD:T->Option CH
 | .a v=>toDa v
 | .t ts=>(toDs ts).map .tuple
 | .l ts=>(toDs ts).map .list
 | .f _=>none
 | .x _ _=>none
 | .m _ _=>none
noncomputable def toDs:List T->Option (List CH)
 | []=>some []
 | t::r=>(toD t).bind fun d=>(toDs r).map fun ds=>d::ds
end
mutual
theorem zDU(I:Inv X pins σ H s):∀ {v:V} {u:AD} {t:T} {d:CH},Im X.K H v t->RelV v u->toD t=some d->∃ as,Iu s.heap u d as
 | v,u,.a x,d,h,r,e=>by
  have hv:=h.inva
  subst hv
  unfold toD at e
  cases v with
  | int i=>cases e; obtain⟨t,rfl⟩:=(show ∃ t,u=Bb i t from r); exact⟨_,.int i t⟩
  | bl b=>cases e; cases (show u=Fs b from r); exact⟨_,.bool b⟩
  | str x=>cases e; obtain⟨t,rfl⟩:=(show ∃ t,u=FN x t from r); exact⟨_,.str x t⟩
  | non=>cases e; cases (show u=CU from r); exact⟨_,.none⟩
  | byt _=>cases e
  | flt _=>cases e
  | ref _=>cases e
  | ty _=>cases e
 | v,u,.t ts,d,h,r,e=>by
  obtain⟨p,vs,rfl,h1,h2⟩:=h.inv
  cases (show u=Bc p from r)
  unfold toD at e
  obtain⟨ds,e1,rfl⟩:=zAA e
  obtain⟨its,rv,⟨o,ho,hc,n,hd⟩,_⟩:=I.tuple h1.sq
  obtain⟨as,q⟩:=zA5 I h2 rv e1
  exact⟨as,.tuple ho hc hd (by simpa using q)⟩
 | v,u,.l ts,d,h,r,e=>by
  obtain⟨p,vs,rfl,h1,h2⟩:=h.invl
  cases (show u=Bc p from r)
  unfold toD at e
  obtain⟨ds,e1,rfl⟩:=zAA e
  obtain⟨its,rv,pl,_⟩:=I.list h1.sq
  obtain⟨o,ho,hc,n,hd⟩:=pl.isList
  obtain⟨as,q⟩:=zA5 I h2 rv e1
  exact⟨_,.list ho hc hd (by simpa using q)⟩
 | v,u,.f _,d,h,r,e=>by unfold toD at e; cases e
 | v,u,.x _ _,d,h,r,e=>by unfold toD at e; cases e
 | v,u,.m _ _,d,h,r,e=>by unfold toD at e; cases e
theorem zA5(I:Inv X pins σ H s):∀ {vs:List V} {us:List AD} {ts:List T} {ds:List CH},Ims X.K H vs ts->Vals vs us->toDs ts=some ds->∃ as,ReadsAll s.heap us ds as
 | vs,us,[],ds,h,r,e=>by
  have:=h.inv0
  subst this
  cases r
  unfold toDs at e
  cases e
  exact⟨_,.nil⟩
 | vs,us,t::ts,ds,h,r,e=>by
  obtain⟨v,r',rfl,h1,h2⟩:=h.inv
  unfold toDs at e
  obtain⟨d,e1,e⟩:=bind_some e
  obtain⟨ds',e2,rfl⟩:=zAA e
  cases r with
  | cons r1 r2 =>
   obtain⟨as,q1⟩:=zDU I h1 r1 e1
   obtain⟨bs,q2⟩:=zA5 I h2 r2 e2
   exact⟨_,ReadsAll.cons q1 q2⟩
end
def DatV (K:Fg) (H:Hp) (x:V) (d:CH):Prop:=(∃ t,Im K H x t/\toD t=some d)\/(∃ p vs ts ds,x=.ref p/\SqL K H p vs/\Ims K H vs ts/\toDs ts=some ds/\d=.list ds)
theorem zBf(I:Inv X pins σ H s)(r:RelV x u)(h:DatV X.K H x d):∃ as,Iu s.heap u d as:=by
 rcases h with ⟨t,h,e⟩ | ⟨p,vs,ts,ds,rfl,h1,h2,e,rfl⟩
 ·exact zDU I h r e
 ·cases (show u=Bc p from r)
  obtain⟨its,rv,pl,_⟩:=I.list h1
  obtain⟨o,ho,hc,n,hd⟩:=pl.isList
  obtain⟨as,q⟩:=zA5 I h2 rv e
  exact⟨_,.list ho hc hd (by simpa using q)⟩
noncomputable def rEqD (K:Fg):R2:=fun x y H Q=>∃ da db,DatV K H x da/\DatV K H y db/\da.canLay0=true/\db.canLay0=true/\min da.depth db.depth<=100/\Q (.bl (Az da db)) H
noncomputable def rNeD (K:Fg):R2:=fun x y H Q=>∃ da db,DatV K H x da/\DatV K H y db/\da.canLay0=true/\db.canLay0=true/\min da.depth db.depth<=100/\Q (.bl (!PyData.eqv da db)) H
theorem zOd(hr:Room k X.A):OpR X (BY .Eq) (rEqD X.K):=by
 intro pins s σ H x y v u Q I rx ry h
 obtain⟨da,db,h1,h2,c1,c2,hm,q⟩:=h
 obtain⟨_,r1⟩:=zBf I rx h1
 obtain⟨_,r2⟩:=zBf I ry h2
 exact SeqAt.compareEq_reads r1 r2 c1 c2 (by have:=hr.un; lia) ⟨.bl _,H,I,rfl,q⟩
theorem zPs(hr:Room k X.A):OpR X (BY .NotEq) (rNeD X.K):=by
 intro pins s σ H x y v u Q I rx ry h
 obtain⟨da,db,h1,h2,c1,c2,hm,q⟩:=h
 obtain⟨_,r1⟩:=zBf I rx h1
 obtain⟨_,r2⟩:=zBf I ry h2
 exact SeqAt.compareNe_reads r1 r2 c1 c2 (by have:=hr.un; lia) ⟨.bl _,H,I,rfl,q⟩
def datS (Γ:En):S->Option CH
 | .v t=>toD t
 | a=>(sqlOf Γ a).bind fun xs=>(toDs xs).map .list
theorem zDa(R:Rep K C w Γ σ H)(o:SOk K C w σ H x s)(e:datS Γ s=some d):DatV K H x d:=by
 have lst:∀ {s:S},SOk K C w σ H x s->(sqlOf Γ s).bind (fun xs=>(toDs xs).map PyData.list)=some d->DatV K H x d:=fun {s} o e=>by
  obtain⟨xs,e1,e⟩:=bind_some e
  obtain⟨ds,e2,rfl⟩:=zAA e
  obtain⟨p,vs,rfl,h1,h2⟩:=zA4 R o e1
  exact .inr ⟨p,vs,xs,ds,rfl,h1,h2,e2,rfl⟩
 cases s with
 | v t=>exact .inl ⟨t,o,e⟩
 | l xs=>exact lst o e
 | s i=>exact lst o e
 | d _=>cases e
def cmpD (f:CH->CH->Bool):En->S->S->Option S:=fun Γ a b=>(datS Γ a).bind fun da=>(datS Γ b).bind fun db=>if da.canLay0=true/\db.canLay0=true/\min da.depth db.depth<=100 then some (mkB (f da db)) else none
def eqA (f:V->V->Bool):En->S->S->Option S:=fun _ a b=>match a,b with
 | .v (.a x),.v (.a y)=>if scal x y=true then some (mkB (f x y)) else none
 | _,_=>none
theorem zJC:SimR2 K rEq (eqA fun x y=>decide (x=y)):=by
 intro C w Γ σ H x y a b s Q R ox oy e k
 unfold eqA at e
 split at e
 ·split at e
  ·rename_i h
   cases e
   rw[ox.inva,oy.inva]
   exact⟨h,k _ H R .refl SOk.atom trivial⟩
  ·cases e
 ·cases e
theorem zIq:SimR2 K rNe (eqA fun x y=>!decide (x=y)):=by
 intro C w Γ σ H x y a b s Q R ox oy e k
 unfold eqA at e
 split at e
 ·split at e
  ·rename_i h
   cases e
   rw[ox.inva,oy.inva]
   exact⟨h,k _ H R .refl SOk.atom trivial⟩
  ·cases e
 ·cases e
def eqS:En->S->S->Option S:=fun Γ a b=>(eqA (fun x y=>decide (x=y)) Γ a b).or (cmpD Az Γ a b)
def neS:En->S->S->Option S:=fun Γ a b=>(eqA (fun x y=>!decide (x=y)) Γ a b).or (cmpD (fun a b=>!PyData.eqv a b) Γ a b)
theorem zJl:SimR2 K (rEqD K) (cmpD Az):=by
 intro C w Γ σ H x y a b s Q R ox oy e k
 obtain⟨da,e1,e⟩:=bind_some e
 obtain⟨db,e2,e⟩:=bind_some e
 split at e
 ·rename_i h
  cases e
  exact⟨da,db,zDa R ox e1,zDa R oy e2,h.1,h.2.1,h.2.2,k _ H R .refl SOk.atom trivial⟩
 ·cases e
theorem zJH:SimR2 K (rNeD K) (cmpD fun a b=>!PyData.eqv a b):=by
 intro C w Γ σ H x y a b s Q R ox oy e k
 obtain⟨da,e1,e⟩:=bind_some e
 obtain⟨db,e2,e⟩:=bind_some e
 split at e
 ·rename_i h
  cases e
  exact⟨da,db,zDa R ox e1,zDa R oy e2,h.1,h.2.1,h.2.2,k _ H R .refl SOk.atom trivial⟩
 ·cases e
theorem zLj:SimR2 K (fun x y H Q=>rEq x y H Q\/rEqD K x y H Q) eqS:=zJC.or zJl
theorem zKX:SimR2 K (fun x y H Q=>rNe x y H Q\/rNeD K x y H Q) neS:=zIq.or zJH
theorem zOr(hr:Room k X.A):OpR X (BY .Eq) (fun x y H Q=>rEq x y H Q\/rEqD X.K x y H Q):=zRg.or (zOd hr)
theorem zPm(hr:Room k X.A):OpR X (BY .NotEq) (fun x y H Q=>rNe x y H Q\/rNeD X.K x y H Q):=zRT.or (zPs hr)
def inS (neg:Bool):En->S->S->Option S:=fun Γ a b=>match a with
 | .v (.a x)=>(seqS Γ b).bind fun xs=>(atomsOf xs).bind fun vs=>if flatV x=true/\vs.all flatV=true then some (mkB (if neg then !inV x vs else inV x vs)) else none
 | _=>none
theorem zLT:SimR2 K (rIn K neg) (inS neg):=by
 intro C w Γ σ H x y a b s Q R ox oy e k
 unfold inS at e
 split at e
 ·obtain⟨xs,e1,e⟩:=bind_some e
  obtain⟨vs,e2,e⟩:=bind_some e
  split at e
  ·rename_i h
   cases e
   obtain⟨p,us,rfl,h1,i1⟩:=zDm R oy e1
   have:=zDR i1 e2
   subst this
   rw[ox.inva]
   exact⟨p,us,rfl,h1,h.1,h.2,k _ H R .refl SOk.atom trivial⟩
  ·cases e
 ·cases e
def truS (Γ:En):S->Option Bool
 | .v (.a .non)=>some false
 | .v (.a (.bl b))=>some b
 | .v (.a (.int i))=>some (i != 0)
 | .v (.a (.str y))=>if y.length<=AC then some ((y.length:Int) != 0) else none
 | .v (.t xs)=>some (!xs.isEmpty)
 | .v _=>none
 | a=>(sqlOf Γ a).map fun xs=>!xs.isEmpty
def dTru (f:DE):DT:=fun Γ=>(f Γ).bind fun p=>(truS p.2 p.1).map fun b=>(b,p.2)
theorem Ims.isEmpty(h:Ims K H vs ts):vs.isEmpty=ts.isEmpty:=by
 have:=h.len
 cases vs <;> cases ts <;> simp at this ⊢
theorem zMy(h:SimE K te f):SimT K (fun σ H Q=>te σ H fun x H'=>∃ k,TruV K x H' k/\Q k H') (dTru f):=by
 intro C w Γ σ H b Γ' Q R e k
 obtain⟨⟨a,G1⟩,e1,e⟩:=bind_some e
 obtain⟨b',e2,e⟩:=zAA e
 cases e
 refine h C w Γ σ H a _ _ R e1 fun v H1 R1 ev1 o1 n1=>⟨b,?_,k H1 R1 ev1⟩
 dsimp only at e2
 unfold truS at e2
 split at e2
 ·cases e2; rw[o1.inva]; exact rfl
 ·cases e2; rw[o1.inva]; exact rfl
 ·cases e2; rw[o1.inva]; exact rfl
 ·split at e2
  ·rename_i hz
   cases e2; rw[o1.inva]; exact⟨hz,rfl⟩
  ·cases e2
 ·cases e2
  obtain⟨p,us,rfl,h1,i1⟩:=o1.invt
  exact .inr (.inl ⟨us,h1.sq,by rw[i1.isEmpty]⟩)
 ·cases e2
 ·obtain⟨xs,e3,e2⟩:=zAA e2
  subst e2
  obtain⟨p,us,rfl,h1,i1⟩:=zA4 R1 o1 e3
  exact .inl ⟨us,h1,by rw[i1.isEmpty]⟩
def rfS (Γ:En):S->Option Unit
 | .v (.x _ _)=>some ()
 | .v (.l _)=>some ()
 | .l _=>some ()
 | .s i=>(sqlOf Γ (.s i)).map fun _=>()
 | _=>none
theorem zQp(R:Rep K C w Γ σ H)(o:SOk K C w σ H x a)(e:rfS Γ a=some u):∃ p,x=.ref p:=by
 unfold rfS at e
 split at e
 ·obtain⟨p,rfl,_⟩:=(show Im K H x (.x _ _) from o).invx; exact⟨p,rfl⟩
 ·obtain⟨p,_,rfl,_⟩:=(show Im K H x (.l _) from o).invl; exact⟨p,rfl⟩
 ·obtain⟨p,_,rfl,_⟩:=o; exact⟨p,rfl⟩
 ·obtain⟨xs,e1,_⟩:=zAA e
  obtain⟨p,_,rfl,_⟩:=zA4 R o e1; exact⟨p,rfl⟩
 ·cases e
def isNoneS (neg:Bool):En->S->S->Option S:=fun Γ a b=>match b with
 | .v (.a .non)=>match a with
  | .v (.a x)=>some (mkB (if neg then !decide (x=V.non) else decide (x=V.non)))
  | .v (.t _)=>some (mkB neg)
  | a=>(rfS Γ a).map fun _=>mkB neg
 | _=>none
theorem zJi:SimR2 K (fun x y H Q=>y=.non/\Q (.bl (decide (x=.non))) H) (isNoneS false):=by
 intro C w Γ σ H x y a b s Q R ox oy e k
 unfold isNoneS at e
 split at e
 ·refine⟨oy.inva,?_⟩
  split at e
  ·cases e; rw[ox.inva]; exact k _ H R .refl SOk.atom trivial
  ·cases e
   obtain⟨p,us,rfl,h1,i1⟩:=ox.invt
   rw[decide_eq_false (by intro z; cases z)]
   exact k _ H R .refl SOk.atom trivial
  ·obtain⟨u,e1,e⟩:=zAA e
   cases e
   obtain⟨p,rfl⟩:=zQp R ox e1
   rw[decide_eq_false (by intro z; cases z)]
   exact k _ H R .refl SOk.atom trivial
 ·cases e
structure EX{ι:Type}(K:Fg)(X:ι->Cx)(e:Expr)(f:DE):Prop where o:∃ te,(∀ j,PE (X j) e te)/\SimE K te f
structure TX{ι:Type}(K:Fg)(X:ι->Cx)(e:Expr)(f:DT):Prop where o:∃ t,(∀ j,PT (X j) e t)/\SimT K t f
structure WX{ι:Type}(K:Fg)(X:ι->Cx)(e:Expr)(f:DT):Prop where o:∃ t,(∀ j,PW (X j) e t)/\SimT K t f
structure AX{ι:Type}(K:Fg)(X:ι->Cx)(es:List Expr)(f:DA):Prop where o:∃ t,(∀ j,PA (X j) es t)/\SimA K t f
structure OX{ι:Type}(K:Fg)(X:ι->Cx)(e:Option Expr)(f:DO):Prop where o:∃ t,(∀ j,PO (X j) e t)/\SimO K t f
structure IX{ι:Type}(K:Fg)(X:ι->Cx)(tg it:Expr)(f:DI):Prop where o:∃ t,(∀ j,PI (X j) tg it t)/\SimI K t f
structure GX{ι:Type}(K:Fg)(X:ι->Cx)(ip:Option Nat)(tg:Expr)(f:En->T->Option En):Prop where o:∃ t,(∀ j,PG (X j) tg t)/\SimG K ip t f
structure GXs{ι:Type}(K:Fg)(X:ι->Cx)(ip:Option Nat)(tg:List Expr)(f:En->List T->Option En):Prop where o:∃ t,(∀ j,PGs (X j) tg t)/\SimGs K ip t f
structure SX{ι:Type}(K:Fg)(X:ι->Cx)(ip:Option Nat)(s:Stmt)(f:DS):Prop where o:∃ t,(∀ j,PS (X j) s t)/\SimS K ip t f
structure BX{ι:Type}(K:Fg)(X:ι->Cx)(ip:Option Nat)(s:List Stmt)(f:DS):Prop where o:∃ t,(∀ j,PSs (X j) s t)/\SimS K ip t f
structure Fm{ι:Type}(K:Fg)(mg:Str->Option AD)(k:Nat)(X:ι->Cx):Prop where
 K:∀ j,(X j).K=K
 mg:∀ j,(X j).mg=mg
 calm:∀ j,(X j).calm=true
 room:∀ j,Room k (X j).A
section
variable {ι:Type}{K:Fg}{mg:Str->Option AD}{k:Nat}{X:ι->Cx}{ip:Option Nat}{a b c e:Expr}{es:List Expr}{pos:Pos}{fa fb fc:DE}{ta tb:DT}{da:DA}
theorem jZ(i:Nat)(hN:∀ j,(X j).N[i]?=some x:=by intro _; rfl)(hv:∀ j,Vis (X j).env.scope x:=by intro _; first | exact DY rfl | exact Cf (DY rfl) | exact Cf (Cf rfl))(hd:(x == ("__debug__":Str))=false:=by decide)
  (hcd:(x == ("__classdict__":Str))=false:=by decide):EX K X (.Name x pos) (jV i):=⟨tVar i,fun j=>zCk (hN j) (hv j) hd hcd,zMm⟩
theorem jJ{u}:EX K X (.Constant (.int i) u pos) (dC (.int i)):=⟨_,fun _=>zO8,zDv⟩
theorem zQI{u}:EX K X (.Constant (.bool v) u pos) (dC (.bl v)):=⟨_,fun _=>zRW,zDv⟩
theorem zQA{u}:EX K X (.Constant .none u pos) (dC .non):=⟨_,fun _=>zO9,zDv⟩
theorem zOc{u}:EX K X (.Constant (.str v) u pos) (dC (.str v)):=⟨_,fun _=>zIm,zDv⟩
theorem zE9(M:Fm K mg k X)(hm:mg x=none)(hv:B6 x=some (.type N))(hg:∀ j,Gl (X j) x:=by intro _; rfl)(hn:x≠"__name__":=by decide)(hd:(x == ("__debug__":Str))=false:=by decide):EX K X (.Name x pos) (dC (.ty N)) :=
 ⟨_,fun j=>zQJ (hg j) (by rw[M.mg]; exact hm) hv hn hd,zDv⟩
theorem zCz(ho:∀ j,OpR (X j) (CW op) r)(hs:SimR2 K r h)(ha:EX K X a fa)(hb:EX K X b fb):EX K X (.BinOp a op b pos) (dOp h fa fb) :=
 let ⟨_,p,s⟩:=ha; let ⟨_,q,u⟩:=hb; ⟨_,fun j=>zQt (ho j) (p j) (q j),zCi hs s u⟩
theorem zPu(M:Fm K mg k X)(ha:EX K X a fa)(hb:EX K X b fb):EX K X (.BinOp a .Add b pos) (dOp addS fa fb):=zCz (fun j=>by rw[← M.K j]; exact zN0) zJ0 ha hb
theorem zPg(ha:EX K X a fa)(hb:EX K X b fb):EX K X (.BinOp a .Sub b pos) (dOp subS fa fb):=zCz (fun j=>zOb) zBX ha hb
theorem zPI(ha:EX K X a fa)(hb:EX K X b fb):EX K X (.BinOp a .Mult b pos) (dOp mulS fa fb):=zCz (fun j=>zOJ) zJV ha hb
theorem zOn(ha:EX K X a fa)(hb:EX K X b fb):EX K X (.BinOp a .Mod b pos) (dOp modS fa fb):=zCz (fun j=>zPQ) zCJ ha hb
theorem zN9(ha:EX K X a fa)(hb:EX K X b fb):EX K X (.BinOp a .FloorDiv b pos) (dOp fdivS fa fb):=zCz (fun j=>zND) zCJ ha hb
theorem zPW(ha:EX K X a fa)(hb:EX K X b fb):EX K X (.BinOp a .Pow b pos) (dOp powS fa fb):=zCz (fun j=>zP7) zCJ ha hb
theorem zPq(ha:EX K X a fa):EX K X (.UnaryOp .USub a pos) (dUn negS fa):=let ⟨_,p,s⟩:=ha; ⟨_,fun j=>zQc zO2 (p j),zOi zIx s⟩
theorem zOs(ho:∀ j,OpR (X j) (BY op) r)(hs:SimR2 K r h)(hm:Cj op b=false)(ha:EX K X a fa)(hb:EX K X b fb):EX K X (.Compare a [op] [b] pos) (dOp h fa fb) :=
 let ⟨_,p,s⟩:=ha; let ⟨_,q,u⟩:=hb; ⟨_,fun j=>zM9 (ho j) (p j) (q j) hm,zCi hs s u⟩
theorem zPC(ho:∀ j,OpR (X j) (BY op) r)(hs:SimR2 K r h)(hm:Cj op b=false)(ha:EX K X a fa)(hb:EX K X b fb):TX K X (.Compare a [op] [b] pos) (dTest (dOp h fa fb)) :=
 let ⟨_,p,s⟩:=ha; let ⟨_,q,u⟩:=hb; ⟨_,fun j=>zN5 (ho j) (p j) (q j) hm,zCK (zCi hs s u)⟩
structure CmpR{ι:Type}(K:Fg)(X:ι->Cx)(op:Hv)(h:En->S->S->Option S):Prop where
 ex:∃ r,(∀ j,OpR (X j) (BY op) r)/\SimR2 K r h
theorem zRC:CmpR K X .Lt ltS:=⟨_,fun _=>zRZ,zBX⟩
theorem zQX:CmpR K X .Gt gtS:=⟨_,fun _=>zQP,zBX⟩
theorem zQV:CmpR K X .GtE geS:=⟨_,fun _=>zRN,zBX⟩
theorem zML(M:Fm K mg k X):CmpR K X .Eq eqS:=⟨_,fun j=>by have:=zOr (M.room j); rw[M.K j]at this; exact this,zLj⟩
theorem zQj(M:Fm K mg k X):CmpR K X .NotEq neS:=⟨_,fun j=>by have:=zPm (M.room j); rw[M.K j]at this; exact this,zKX⟩
theorem zQq(M:Fm K mg k X):CmpR K X .In (inS false):=⟨_,fun j=>by have:=zKT (X:=X j); rw[M.K j]at this; exact this,zLT⟩
theorem zQh:CmpR K X .Is (isNoneS false):=⟨_,fun _=>zOX,zJi⟩
theorem ex_c(hc:CmpR K X op h)(ha:EX K X a fa)(hb:EX K X b fb)(hm:Cj op b=false:=by first | exact nomark _ | with_unfolding_all rfl):EX K X (.Compare a [op] [b] pos) (dOp h fa fb) :=
 let ⟨_,p,q⟩:=hc.ex; zOs p q hm ha hb
theorem tx_c(hc:CmpR K X op h)(ha:EX K X a fa)(hb:EX K X b fb)(hm:Cj op b=false:=by first | exact nomark _ | with_unfolding_all rfl):TX K X (.Compare a [op] [b] pos) (dTest (dOp h fa fb)) :=
 let ⟨_,p,q⟩:=hc.ex; zPC p q hm ha hb
theorem tx_v(M:Fm K mg k X)(ha:EX K X a fa)(he:∀ j whole,HU a (X j).env whole=(do let v ← whole; Ij a.pos; holding [v] (truthy v)):=by intro _ _; rfl):TX K X a (dTru fa) :=
 let ⟨te,p,s⟩:=ha; ⟨(fun σ H Q=>te σ H fun x H'=>∃ k,TruV K x H' k/\Q k H'),fun j=>by have:=zLV (p j) (he j); rw[M.K j]at this; exact this,zMy s⟩
theorem zPG(ha:TX K X a ta):TX K X (.UnaryOp .Not a pos) (dNot ta):=let ⟨_,p,s⟩:=ha; ⟨_,fun j=>zPx (p j),zNq s⟩
theorem zON(ha:TX K X a ta):WX K X (.BoolOp .And [a] pos) ta:=let ⟨_,p,s⟩:=ha; ⟨_,fun j=>zNr (p j),s⟩
theorem zOk(ha:TX K X a ta):WX K X (.BoolOp .Or [a] pos) ta:=let ⟨_,p,s⟩:=ha; ⟨_,fun j=>zOj (p j),s⟩
theorem zPS(ha:TX K X a ta)(hb:WX K X (.BoolOp .And (b::es) pos) tb):WX K X (.BoolOp .And (a::b::es) pos) (dAnd ta tb):=let ⟨_,p,s⟩:=ha; let ⟨_,q,u⟩:=hb; ⟨_,fun j=>zO3 (p j) (q j),zNi s u⟩
theorem zQo(ha:TX K X a ta)(hb:WX K X (.BoolOp .Or (b::es) pos) tb):WX K X (.BoolOp .Or (a::b::es) pos) (dOr ta tb):=let ⟨_,p,s⟩:=ha; let ⟨_,q,u⟩:=hb; ⟨_,fun j=>zRU (p j) (q j),zPl s u⟩
theorem tx_w(ha:WX K X a ta):TX K X a ta:=let ⟨_,p,s⟩:=ha; ⟨_,fun j=>(p j).pt,s⟩
theorem zIj{op}(ha:EX K X a fa):EX K X (.BoolOp op [a] pos) fa:=let ⟨_,p,s⟩:=ha; ⟨_,fun j=>zPH (p j),s⟩
theorem zCj(ha:EX K X a fa)(hb:EX K X (.BoolOp .And (b::es) pos) fb):EX K X (.BoolOp .And (a::b::es) pos) (dAndV fa fb):=let ⟨_,p,s⟩:=ha; let ⟨_,q,u⟩:=hb; ⟨_,fun j=>zPc (p j) (q j),zLp s u⟩
theorem zQ8(ha:EX K X a fa)(hb:EX K X (.BoolOp .Or (b::es) pos) fb):EX K X (.BoolOp .Or (a::b::es) pos) (dOrV fa fb):=let ⟨_,p,s⟩:=ha; let ⟨_,q,u⟩:=hb; ⟨_,fun j=>zRR (p j) (q j),zOO s u⟩
theorem zO1(ha:EX K X a fa):EX K X (.UnaryOp .Not a pos) (dNotV fa):=let ⟨_,p,s⟩:=ha; ⟨_,fun j=>zPd (p j),zKv s⟩
theorem zQY(hc:TX K X c ta)(ha:EX K X a fa)(hb:EX K X b fb):EX K X (.IfExp c a b pos) (dIfE ta fa fb):=let ⟨_,p,s⟩:=hc; let ⟨_,q,u⟩:=ha; let ⟨_,q',u'⟩:=hb; ⟨_,fun j=>zLn (p j) (q j) (q' j),zOV s u u'⟩
theorem jY:AX K X [] qQ:=⟨_,fun _=>zDd,zGs⟩
theorem jQ(ha:EX K X e fa)(hr:AX K X es fr)(hs:∀ j,AU (e::es) (X j).env=(false,eval e (X j).env)::AU es (X j).env:=by intro _; rfl):AX K X (e::es) (jW fa fr) :=
 let ⟨_,p,s⟩:=ha; let ⟨_,q,u⟩:=hr; ⟨_,fun j=>zB4 (p j) (q j) (hs j),zLL s u⟩
theorem zOf{x1}(h:AX K X es da):EX K X (.Tuple es x1 pos) (dTup da):=let ⟨_,p,s⟩:=h; ⟨_,fun j=>zPV (p j),zOK s⟩
theorem zPD(h:AX K X es da):EX K X (.List es pos) (dLst da):=let ⟨_,p,s⟩:=h; ⟨_,fun j=>zPT (p j),zOQ s⟩
theorem zQl(M:Fm K mg k X)(ha:EX K X a fa)(hb:EX K X b fb)(hs:PlainIx b:=by exact fun _ _=>rfl):EX K X (.Subscript a b pos) (dOp ixS fa fb) :=
 let ⟨_,p,s⟩:=ha; let ⟨_,q,u⟩:=hb; ⟨_,fun j=>zQk (by have:=zOm (X:=X j); rw[M.K j]at this; exact this) (p j) (q j) hs,zCi zKk s u⟩
theorem zN2:OX K X none dNoPart:=⟨_,fun _=>zNp,zHA⟩
theorem zNe(ha:EX K X a fa):OX K X (some a) (dPart fa):=let ⟨_,p,s⟩:=ha; ⟨_,fun j=>zOM (p j),zK6 s⟩
theorem zQN(M:Fm K mg k X)(ha:EX K X a fa)(hl:OX K X lo dl)(hh:OX K X hi dh):EX K X (.Subscript a (.Slice lo hi none p2) pos) (dSl fa dl dh) :=
 let ⟨_,p,s⟩:=ha; let ⟨_,q,u⟩:=hl; let ⟨_,q',u'⟩:=hh; ⟨_,fun j=>zK5 (by have:=sl_S (X:=X j); rw[M.K j]at this; exact this) (p j) (q j) (q' j),zP4 s u u'⟩
structure CalR{ι:Type}(K:Fg)(X:ι->Cx)(f:AD)(h:En->List S->Option S):Prop where
 ex:∃ r,(∀ j,CallR (X j) f r)/\SimRs K r h
theorem zBs{x:Str}{p:Pos}{id:String}{h:En->List S->Option S}(M:Fm K mg k X)(hc:CalR K X (.builtin id) h)(hm:mg x=none)(hv:B6 x=some (.builtin id))(ha:AX K X (e::es) da)(hg:∀ j,Gl (X j) x:=by intro _; rfl)(hn:x≠"__name__":=by decide)(hdb:(x == ("__debug__":Str))=false:=by decide)
  (he:∀ j,AU (e::es) (X j).env=(false,eval e (X j).env)::AU es (X j).env:=by intro _; rfl) (hpl:∀ j,(Bw pos (AU es (X j).env)).any (·.1)=false:=by intro _; rfl):EX K X (.Call (.Name x p) (e::es) [] pos) (dCB h da) :=
 let ⟨_,p,s⟩:=hc.ex; let ⟨_,q,u⟩:=ha; ⟨_,fun j=>zLd (p j) (hg j) (by rw[M.mg]; exact hm) hv (q j) hn hdb (he j) (hpl j),zJL s u⟩
theorem zBv(M:Fm K mg k X)(hc:CalR K X (.type N) h)(hm:mg x=none)(hv:B6 x=some (.type N))(ha:AX K X (e::es) da)(hg:∀ j,Gl (X j) x:=by intro _; rfl)(hn:x≠"__name__":=by decide)(hdb:(x == ("__debug__":Str))=false:=by decide)
  (he:∀ j,AU (e::es) (X j).env=(false,eval e (X j).env)::AU es (X j).env:=by intro _; rfl) (hpl:∀ j,(Bw pos (AU es (X j).env)).any (·.1)=false:=by intro _; rfl):EX K X (.Call (.Name x p) (e::es) [] pos) (dCB h da) :=
 let ⟨_,p,s⟩:=hc.ex; let ⟨_,q,u⟩:=ha; ⟨_,fun j=>zBc (p j) (hg j) (by rw[M.mg]; exact hm) hv (q j) hn hdb (he j) (hpl j),zJL s u⟩
theorem zPJ(M:Fm K mg k X):CalR K X (.builtin "len") lenS:=⟨_,fun j=>by have:=zIn (X:=X j); rw[M.K j]at this; exact this,zJk⟩
theorem zFl(M:Fm K mg k X):CalR K X (.builtin "all") allS:=⟨_,fun j=>by have:=zKm (M.calm j); rw[M.K j]at this; exact this,zIl⟩
theorem zP6(M:Fm K mg k X):CalR K X (.builtin "isinstance") isiS:=⟨_,fun j=>by have:=zJd (X:=X j); rw[M.K j]at this; exact this,zJQ⟩
theorem zNK(M:Fm K mg k X):CalR K X (.builtin "max") max2S:=⟨_,fun j=>zI8 (M.calm j),zHV⟩
theorem zPY:CalR K X (.type "int") intS:=⟨_,fun j=>zKD,zI0⟩
theorem zBI(M:Fm K mg k X):CalR K X (.type "tuple") tupleS:=⟨_,fun j=>by have:=zE7 (X:=X j); rw[M.K j]at this; exact this,zGA⟩
theorem zER{X:Cx}:CallR X (.type "range") rRng:=zIy.or zI6
theorem zHI(M:Fm K mg k X)(hl:mg "list"=none)(hr:mg "range"=none)(ha:AX K X (e::es) da)(hg:∀ j,Gl (X j) "list":=by intro _; rfl)(hg2:∀ j,Gl (X j) "range":=by intro _; rfl)
  (he:∀ j,AU (e::es) (X j).env=(false,eval e (X j).env)::AU es (X j).env:=by intro _; rfl) (hpl:∀ j,(Bw pos2 (AU es (X j).env)).any (·.1)=false:=by intro _; rfl) :
  EX K X (.Call (.Name "list" p) [.Call (.Name "range" p2) (e::es) [] pos2] [] pos) (dListRng da) :=
 let ⟨_,q,u⟩:=ha; ⟨_,fun j=>zBc (zF1 (M.calm j)) (hg j) (by rw[M.mg]; exact hl) FY (zB4 (zBc zER (hg2 j) (by rw[M.mg]; exact hr) FR (q j) (by decide) (by decide) (he j) (hpl j)) zDd),zGJ u⟩
theorem zJt(M:Fm K mg k X)(hl:mg "tuple"=none)(hr:mg "range"=none)(ha:AX K X (e::es) da)(hg:∀ j,Gl (X j) "tuple":=by intro _; rfl)(hg2:∀ j,Gl (X j) "range":=by intro _; rfl)
  (he:∀ j,AU (e::es) (X j).env=(false,eval e (X j).env)::AU es (X j).env:=by intro _; rfl) (hpl:∀ j,(Bw pos2 (AU es (X j).env)).any (·.1)=false:=by intro _; rfl) :
  EX K X (.Call (.Name "tuple" p) [.Call (.Name "range" p2) (e::es) [] pos2] [] pos) (dTupRng da) :=
 let ⟨_,q,u⟩:=ha; ⟨_,fun j=>zBc (zE5 (M.calm j)) (hg j) (by rw[M.mg]; exact hl) Jk (zB4 (zBc zER (hg2 j) (by rw[M.mg]; exact hr) FR (q j) (by decide) (by decide) (he j) (hpl j)) zDd),zIF u⟩
end
structure Fb{ι:Type}(P:Ai)(wd:Ax)(base:Heap)(X:ι->Cx):Prop where
 P:∀ j,(X j).prog=P
 w:∀ j,(X j).w=wd
 b:∀ j,(X j).base=base
structure FD(P:Ai)(wd:Ax)(K:Fg)(mg:Str->Option AD)(base:Heap)(k:Nat)(x:Str)(ip:Option Nat)(n:Nat)(F:DF):Prop where
 ex:∃ (f:Addr) (fd:Ab) (ps:List Str),FnOk P wd K mg base CX0 k f fd ps (spD K ip n F)/\mg x=some (.ref f)/\BN K (.ref f)=true/\Binds K fd ps []
 len:∀ gs r,F gs=some r->gs.length=n
theorem zC0:∀ gs r,fnD ip np nN g gs=some r->gs.length=np:=fun gs r e=>by
 unfold fnD at e
 split at e
 ·assumption
 ·cases e
section
variable {ι:Type}{P:Ai}{wd:Ax}{base:Heap}{K:Fg}{mg:Str->Option AD}{k k' n:Nat}{X:ι->Cx}{ip:Option Nat}{a b c e:Expr}{es:List Expr}{pos p:Pos}{fa fb fc:DE}{ta tb:DT}{da:DA}{F:DF}{x:Str}
theorem zGo(M:Fm K mg k X)(B:Fb P wd base X)(D0:FD P wd K mg base k' x ip n F)(ha:AX K X (e::es) da)(hk:k'<=k:=by first | exact AK _ | decide | lia)(hg:∀ j,Gl (X j) x:=by intro _; rfl)(hdb:(x == ("__debug__":Str))=false:=by decide)
  (he:∀ j,AU (e::es) (X j).env=(false,eval e (X j).env)::AU es (X j).env:=by intro _; rfl) (hpl:∀ j,(Bw pos (AU es (X j).env)).any (·.1)=false:=by intro _; rfl) :
  EX K X (.Call (.Name x p) (e::es) [] pos) (dCall ip F [] da):=by
 obtain⟨f,fd,ps,h1,h2,h3,h4⟩:=D0.ex
 obtain⟨t,q,u⟩:=ha
 refine⟨tCall (spD K ip n F) [] E0 t,fun j=>?_,zDT D0.len u⟩
 have hF:FnOk (X j).prog (X j).w (X j).K (X j).mg (X j).base CX0 k' f fd ps (spD K ip n F):=by rw[B.P,B.w,M.K,M.mg,B.b]; exact h1
 exact zGw hF ((M.room j).mono hk) (hg j) (by rw[M.mg]; exact h2) (by rw[M.K]; exact h3) (by rw[M.K]; exact h4) .nil pass0 (q j) hdb (he j) (hpl j)
theorem zNZ(M:Fm K mg k X)(hl:EX K X l fa):IX K X tg l (dSeqI fa):=let ⟨t,p,s⟩:=hl; ⟨iSeq K t,fun j=>by have:=zNP (tg:=tg) (p j); rw[M.K j]at this; exact this,zLZ s⟩
theorem zM3(M:Fm K mg k X)(hm:mg "range"=none)(ha:AX K X [a] da)(hg:∀ j,Gl (X j) "range":=by intro _; rfl)(hs:∀ j,AU [a] (X j).env=[(false,eval a (X j).env)]:=by intro _; rfl):IX K X tg (.Call (.Name "range" p) [a] [] pos) (dRng1 da) :=
 let ⟨_,q,u⟩:=ha; ⟨_,fun j=>zJ9 (hg j) (by rw[M.mg]; exact hm) (q j) (hs j),zJb u⟩
theorem zSl(M:Fm K mg k X)(hm:mg "range"=none)(ha:AX K X [a,b] da)(hg:∀ j,Gl (X j) "range":=by intro _; rfl)(hs:∀ j,AU [a,b] (X j).env=[(false,eval a (X j).env),(false,eval b (X j).env)]:=by intro _; rfl)
  (hs2:∀ j,AU [b] (X j).env=[(false,eval b (X j).env)]:=by intro _; rfl):IX K X tg (.Call (.Name "range" p) [a,b] [] pos) (dRng2 da) :=
 let ⟨_,q,u⟩:=ha; ⟨_,fun j=>zI7 (hg j) (by rw[M.mg]; exact hm) (q j) (hs j) (hs2 j),zJI u⟩
theorem zOv(M:Fm K mg k X)(hm:mg "zip"=none)(ha:AX K X [a,b] da)(hg:∀ j,Gl (X j) "zip":=by intro _; rfl)(hs:∀ j,AU [a,b] (X j).env=[(false,eval a (X j).env),(false,eval b (X j).env)]:=by intro _; rfl)
  (hs2:∀ j,AU [b] (X j).env=[(false,eval b (X j).env)]:=by intro _; rfl):IX K X (.Tuple elts x1 tp) (.Call (.Name "zip" p) [a,b] [] pos) (dZip da) :=
 let ⟨t,q,u⟩:=ha; ⟨iZipU K t,fun j=>by have:=zNc (elts:=elts) (x1:=x1) (tp:=tp) (p:=p) (pos:=pos) (hg j) (by rw[M.mg]; exact hm) (q j) (hs j) (hs2 j); rw[M.K j]at this; exact this,zLs u⟩
theorem zGc(i:Nat)(hi:ip≠some i:=by decide)(hN:∀ j,(X j).N.Nodup:=by intro _; show (Ez _); decide +kernel)(hx':∀ j,(X j).N[i]?=some x:=by intro _; rfl)(hx:∀ j,Loc (X j).env.scope x:=by intro _; first | exact DY rfl | exact Cf rfl)
  (hf:∀ j,(X j).fn x=true\/(X j).env.scope.names.lookup x=some .local:=by intro _; first | exact .inl rfl | exact .inr rfl):GX K X ip (.Name x pos) (gdName i):=⟨_,fun j=>zGy (hN j) (hx' j) (hx j) (hf j),zI1 hi⟩
theorem zNO:GXs K X ip [] gdNil:=⟨_,fun _=>zMx,zKF⟩
theorem zLt(h1:GX K X ip e f)(h2:GXs K X ip es g)(hst:∀ j,(B3 (e::es) (X j).env).map (·.2)=assign e (X j).env::(B3 es (X j).env).map (·.2):=by intro _; rfl):GXs K X ip (e::es) (gdCons f g) :=
 let ⟨_,p,s⟩:=h1; let ⟨_,q,u⟩:=h2; ⟨_,fun j=>zKw (p j) (q j) (hst j),zH3 s u⟩
theorem zPE(n:Nat)(M:Fm K mg k X)(h:GXs K X ip es g)(hn:∀ j,(B3 es (X j).env).length=n:=by intro _; rfl)(hst:∀ j,(B3 es (X j).env).findIdx? (·.1)=none:=by intro _; rfl):GX K X ip (.Tuple es kk pos) (gdTup n g) :=
 let ⟨_,p,s⟩:=h; ⟨_,fun j=>zNX K (M.K j) (M.calm j) (p j) (hn j) (hst j),zLh s⟩
def QX {ι:Type} (K:Fg) (X:ι->Cx) (ifs:List Expr) (f:DT):Prop:=∃ t,(∀ j,PTs (X j) ifs t)/\SimT K t f
noncomputable def dYes:DT:=fun Γ=>some (true,Γ)
theorem zAn:QX K X [] dYes:=⟨_,fun _=>zN6,fun C w Γ σ H b Γ' Q R e k=>by cases e; exact k H R .refl⟩
theorem zPp(h:TX K X c ta):QX K X [c] ta:=let ⟨_,p,s⟩:=h; ⟨_,fun j=>zM7 (p j),s⟩
noncomputable abbrev CI (ι:Type):=ι×Addr×List (Str×Addr)×AG×Hp×List Addr
abbrev cxF {ι:Type} (X:ι->Cx) (N':List Str) (sc:Df):CI ι->Cx:=fun q=>cxC (X q.1) N' sc q.2.1 q.2.2.1 q.2.2.2.1 q.2.2.2.2.1 q.2.2.2.2.2
theorem Fm.comp(M:Fm K mg k X):Fm K mg k (cxF X N' sc):=⟨fun j=>M.K j.1,fun j=>M.mg j.1,fun j=>M.calm j.1,fun j=>M.room j.1⟩
theorem Fb.comp(B:Fb P wd base X):Fb P wd base (cxF X N' sc):=⟨fun j=>B.P j.1,fun j=>B.w j.1,fun j=>B.b j.1⟩
theorem zAq(mu:Option (Nat×Nat))(M:Fm K mg k X)(S:∀ j,CompOk (X j) N' ix sc)(hi:IX K X tg iter di)
  (hg:GX K (cxF X N' sc) (mu.map (·.1)) tg g) (ht:QX K (cxF X N' sc) ifs dc) (he:EX K (cxF X N' sc) elt de)
  (hmu:∀ j i,mu=some (j,i)->ix[j]?=some (some i):=by intro _ _ e; first | (cases e; rfl) | cases e) (hix:∀ (j j' i:Nat),mu.map (·.2)=some i->ix[j]?=some (some i)->ix[j']?=some (some i)->j=j')
  (hs:∀ j x,CP iter (X j).env x=pure x:=by intro _ _; rfl):EX K X (.ListComp elt [⟨tg,iter,ifs,0⟩] sc pos) (dComp mu ix di g dc de) :=
 let ⟨_,p1,s1⟩:=hi; let ⟨_,p2,s2⟩:=hg; let ⟨_,p3,s3⟩:=ht; let ⟨_,p4,s4⟩:=he
 ⟨_,fun j=>zOB (S j) (M.calm j) (p1 j) (fun C cs s H ex=>p2 (j,C,cs,s,H,ex)) (fun C cs s H ex=>p3 (j,C,cs,s,H,ex)) (fun C cs s H ex=>p4 (j,C,cs,s,H,ex)) (hs j),zFG s1 s2 s3 s4 hmu hix⟩
theorem hix0{ix:List (Option Nat)}:∀ (j j' i:Nat),(none:Option (Nat×Nat)).map (·.2)=some i->ix[j]?=some (some i)->ix[j']?=some (some i)->j=j':=fun _ _ _ e=>by cases e
noncomputable def onceIx (ix:List (Option Nat)) (j i:Nat):Bool:=(AF ix.length).all fun m=>decide (ix[m]?=some (some i)->m=j)
theorem hix1(h:onceIx ix j0 i0=true):∀ (j j' i:Nat),(some (j0,i0)).map (·.2)=some i->ix[j]?=some (some i)->ix[j']?=some (some i)->j=j':=by
 intro j j' i e h1 h2
 cases e
 have key:∀ m:Nat,ix[m]?=some (some i0)->m=j0:=fun m hm=>by
  have hl:=(Ac.mp hm).1
  have:=Aw.mp h m (by simpa using hl)
  exact (of_decide_eq_true this) hm
 rw[key j h1,key j' h2]
theorem zFb{i:Nat}{name:Str}{apos cpos:Pos}{id:String}{r:V->List V->Hp->VK->Prop}{h:En->List T->List S->Option (T×List T)}{y:Str}{yp:Pos}(M:Fm K mg k X)(slot:Slot "list" name id)(hty:HZ (.builtin id)=pure (.type "method_descriptor"))(hm:∀ j,MtM (X j) id r)(hr:SimMut K r h)
  (ho:∀ j,PE (X j) (.Name y yp) (tVar i)) (ha:AX K X (e::es) da)
  (hbase:∀ j,C7 (.Name y yp) name (X j).env (eval (.Name y yp) (X j).env)=eval (.Name y yp) (X j).env:=by intro _; rfl)
  (hfew:∀ j,((Bw cpos (AU (e::es) (X j).env)).all (fun x=>!x.1) && (Gk cpos (E6 [] (X j).env)).all (fun x=>x.1.isSome) && decide ((e::es).length+([]:List EF).length+(if ([]:List EF).isEmpty then 0 else 1) < 30))=true:=by intro _; rfl)
  (hline:(apos.endLine == cpos.line)=true:=by rfl) (hs:∀ j,AU (e::es) (X j).env=(false,eval e (X j).env)::AU es (X j).env:=by intro _; rfl) (hplain:∀ j,(Bw cpos (AU es (X j).env)).any (·.1)=false:=by intro _; rfl) :
  EX K X (.Call (.Attribute (.Name y yp) name apos) (e::es) [] cpos) (dMut i h da) :=
 let ⟨t,q,u⟩:=ha; ⟨tBM K "list" r (tVar i) t,fun j=>by have:=zMe Dy slot hty (hm j) (ho j) (q j) (hbase j) (hfew j) hline (hs j) (hplain j); rw[M.K j]at this; exact this,zGh hr u⟩
theorem zM0{i:Nat}{name:Str}{apos cpos:Pos}{id:String}{r:V->List V->Hp->VK->Prop}{h:En->List T->List S->Option (T×List T)}{y:Str}{yp:Pos}(M:Fm K mg k X)(slot:Slot "list" name id)(hty:HZ (.builtin id)=pure (.type "method_descriptor"))(hm:∀ j,MtM (X j) id r)(hr:SimMut K r h)
  (ho:∀ j,PE (X j) (.Name y yp) (tVar i)) (hbase:∀ j,C7 (.Name y yp) name (X j).env (eval (.Name y yp) (X j).env)=eval (.Name y yp) (X j).env:=by intro _; rfl) (hline:(apos.endLine == cpos.line)=true:=by rfl) :
  EX K X (.Call (.Attribute (.Name y yp) name apos) [] [] cpos) (dMut i h qQ) :=
 ⟨tBM0 K "list" r (tVar i),fun j=>by have:=zPN Dy slot hty (hm j) (ho j) (hbase j) hline; rw[M.K j]at this; exact this,zLF hr⟩
theorem zK7(M:Fm K mg k X)(ho:EX K X o fa)(ha:AX K X (e::es) da)
  (hbase:∀ j,C7 o "index" (X j).env (eval o (X j).env)=eval o (X j).env:=by intro _; rfl)
  (hfew:∀ j,((Bw cpos (AU (e::es) (X j).env)).all (fun x=>!x.1) && (Gk cpos (E6 [] (X j).env)).all (fun x=>x.1.isSome) && decide ((e::es).length+([]:List EF).length+(if ([]:List EF).isEmpty then 0 else 1) < 30))=true:=by intro _; rfl)
  (hline:(apos.endLine == cpos.line)=true:=by rfl) (hs:∀ j,AU (e::es) (X j).env=(false,eval e (X j).env)::AU es (X j).env:=by intro _; rfl) (hplain:∀ j,(Bw cpos (AU es (X j).env)).any (·.1)=false:=by intro _; rfl) :
  EX K X (.Call (.Attribute o "index" apos) (e::es) [] cpos) (dIndex fa da) :=
 have hm:∀ j,MtM (X j) "tuple.index" (rTupIndex K):=fun j=>by have:=zF9 (X:=X j); rw[M.K j]at this; exact this
 let ⟨t0,q0,u0⟩:=ho; let ⟨t,q,u⟩:=ha; ⟨tBMS K (rTupIndex K) t0 t,fun j=>by have:=zOY PySem.F.slot_tuple_index PySem.F.type_tuple_index (hm j) (q0 j) (q j) (hbase j) (hfew j) hline (hs j) (hplain j); rw[M.K j]at this; exact this,zJZ u0 u⟩
theorem pv'(i:Nat)(hN:∀ j,(X j).N[i]?=some x:=by intro _; rfl)(hv:∀ j,Vis (X j).env.scope x:=by intro _; first | exact DY rfl | exact Cf (DY rfl) | exact Cf (Cf rfl))(hd:(x == ("__debug__":Str))=false:=by decide)
  (hcd:(x == ("__classdict__":Str))=false:=by decide):∀ j,PE (X j) (.Name x pos) (tVar i):=fun j=>zCk (hN j) (hv j) hd hcd
variable {st:Stmt}{sts sts':List Stmt}{f g:DS}
theorem zFo:BX K X ip [] dNext:=⟨_,fun _=>zNJ,zKH⟩
theorem zAz(h:SX K X ip st f):BX K X ip [st] f:=let ⟨_,p,s⟩:=h; ⟨_,fun j=>zOC (p j),s⟩
theorem zAU(h:SX K X ip st f)(h2:BX K X ip sts g):BX K X ip (st::sts) (dSeq f g):=let ⟨_,p,s⟩:=h; let ⟨_,q,u⟩:=h2; ⟨_,fun j=>zLo (p j) (q j),zLl s u⟩
theorem zKZ:SX K X ip st dNever:=⟨_,fun _=>zKr,zIK (ts:=dNever)⟩
theorem zNb(h:EX K X e fa)(hs:∀ j,EY e none pos.line (X j).env=pure false:=by intro _; rfl):SX K X ip (.Expr e pos) (dDrop fa):=let ⟨_,p,s⟩:=h; ⟨_,fun j=>zNW (p j) (hs j),zJU s⟩
theorem zAy(h:EX K X e fa):SX K X ip (.Return (some e) pos) (dRet fa):=let ⟨_,p,s⟩:=h; ⟨_,fun j=>zO0 (p j),zK4 s⟩
theorem zIM(hc:TX K X c ta)(h1:BX K X ip sts f)(h2:BX K X ip sts' g):SX K X ip (.If c sts sts' pos) (dIf ta f g):=let ⟨_,p,s⟩:=hc; let ⟨_,q,u⟩:=h1; let ⟨_,q',u'⟩:=h2; ⟨_,fun j=>zQ7 (p j) (q j) (q' j),zMn s u u'⟩
theorem zJu(i:Nat)(h:EX K X e fa)(hi:ip≠some i:=by decide)(hN:∀ j,(X j).N.Nodup:=by intro _; show (Ez _); decide +kernel)(hx':∀ j,(X j).N[i]?=some x:=by intro _; rfl)(hx:∀ j,Loc (X j).env.scope x:=by intro _; first | exact DY rfl | exact Cf rfl)
  (hs:∀ j,EY e (some (.Name x pos')) pos.line (X j).env=pure false:=by intro _; rfl) (hf:∀ j,(X j).fn x=true\/(X j).env.scope.names.lookup x=some .local:=by intro _; first | exact .inl rfl | exact .inr rfl):SX K X ip (.Assign [.Name x pos'] e pos) (dSet i fa) :=
 let ⟨_,p,s⟩:=h; ⟨_,fun j=>zJ5 (hN j) (hx' j) (hx j) (p j) (hs j) (hf j),zFW s hi⟩
theorem zBp(i:Nat)(mu:Option (Nat×Nat))(M:Fm K mg k X)(S:∀ j,CompOk (X j) N' ix sc)(h1:IX K X tg iter di)
  (hg:GX K (cxF X N' sc) (mu.map (·.1)) tg gg) (ht:QX K (cxF X N' sc) ifs dc) (he:EX K (cxF X N' sc) elt de)
  (hix:∀ (j j' i:Nat),mu.map (·.2)=some i->ix[j]?=some (some i)->ix[j']?=some (some i)->j=j') (hi:ip≠some i:=by decide) (hmu:∀ j i,mu=some (j,i)->ix[j]?=some (some i):=by intro _ _ e; first | (cases e; rfl) | cases e)
  (hN:∀ j,(X j).N.Nodup:=by intro _; show (Ez _); decide +kernel) (hx':∀ j,(X j).N[i]?=some x:=by intro _; rfl) (hx:∀ j,Loc (X j).env.scope x:=by intro _; first | exact DY rfl | exact Cf rfl)
  (hsw:∀ j,EY (.ListComp elt [⟨tg,iter,ifs,0⟩] sc pos) (some (.Name x pos')) spos.line (X j).env=pure true:=by intro _; rfl)
  (hf:∀ j,(X j).fn x=true\/(X j).env.scope.names.lookup x=some .local:=by intro _; first | exact .inl rfl | exact .inr rfl)
  (hs:∀ j x,CP iter (X j).env x=pure x:=by intro _ _; rfl):SX K X ip (.Assign [.Name x pos'] (.ListComp elt [⟨tg,iter,ifs,0⟩] sc pos) spos) (dSet i (dComp mu ix di gg dc de)) :=
 let ⟨_,p1,s1⟩:=h1; let ⟨_,p2,s2⟩:=hg; let ⟨_,p3,s3⟩:=ht; let ⟨_,p4,s4⟩:=he
 ⟨_,fun j=>zMo (hN j) (hx' j) (hx j) (S j) (M.calm j) (p1 j) (fun C cs s H ex=>p2 (j,C,cs,s,H,ex)) (fun C cs s H ex=>p3 (j,C,cs,s,H,ex)) (fun C cs s H ex=>p4 (j,C,cs,s,H,ex)) (hsw j) (hf j) (hs j),zFW (zFG s1 s2 s3 s4 hmu hix) hi⟩
theorem zLB(i:Nat)(he:EX K X e fa)(ho:∀ j,PE (X j) (.Name y yp) (tVar i))(hb:EX K X b fb)(hs:∀ j,EI [.Subscript (.Name y yp) b p2] e pos.line (X j).env=pure false:=by intro _; rfl)(hw:∀ j,EJ [.Subscript (.Name y yp) b p2] e (X j).env=pure none:=by intro _; rfl)
  (hA:∀ j v,assign (.Subscript (.Name y yp) b p2) (X j).env v=(do let ov ← holding [v] (eval (.Name y yp) (X j).env); let iv ← holding [v,ov] (eval b (X j).env); Ij p2; holding [v,ov,iv] (Kl ov iv v); release [v,ov,iv] []):=by intro _ _; rfl) (h1:∀ j,(B3 [.Subscript (.Name y yp) b p2] (X j).env).map (·.2)=[assign (.Subscript (.Name y yp) b p2) (X j).env]:=by intro _; rfl) :
  SX K X ip (.Assign [.Subscript (.Name y yp) b p2] e pos) (dSetIx i fa fb) :=
 let ⟨_,p,s⟩:=he; let ⟨_,q,u⟩:=hb; ⟨_,fun j=>zJT (p j) (zPf (ho j) (q j) zLH (hA j)) (hs j) (hw j) (h1 j),zHJ s u⟩
theorem zPR(he:EX K X e fa)(hg:GX K X ip tg gg)(hs:∀ j,EI [tg] e pos.line (X j).env=pure false:=by intro _; rfl)(hw:∀ j,EJ [tg] e (X j).env=pure none:=by intro _; rfl)(h1:∀ j,(B3 [tg] (X j).env).map (·.2)=[assign tg (X j).env]:=by intro _; rfl):SX K X ip (.Assign [tg] e pos) (dUnp gg fa) :=
 let ⟨_,p,s⟩:=he; let ⟨_,q,u⟩:=hg; ⟨_,fun j=>zJT (p j) (q j) (hs j) (hw j) (h1 j),zK2 s u⟩
theorem zOa(i1 i2:Nat){kt k2 pt2}(M:Fm K mg k X)(ha:AX K X [a,b] da)(h12:i1≠i2:=by decide)(hi1:ip≠some i1:=by decide)(hi2:ip≠some i2:=by decide)(hN:∀ j,(X j).N.Nodup:=by intro _; show (Ez _); decide +kernel)
  (e1:∀ j,(X j).N[i1]?=some x1:=by intro _; rfl) (e2:∀ j,(X j).N[i2]?=some x2:=by intro _; rfl) (l1:∀ j,(X j).env.scope.names.lookup x1=some .local:=by intro _; rfl) (l2:∀ j,(X j).env.scope.names.lookup x2=some .local:=by intro _; rfl)
  (hw:∀ j,EJ [.Tuple [.Name x1 px,.Name x2 py] kt pt] (.Tuple [a,b] k2 pt2) (X j).env=pure (some [x1,x2]):=by intro _; rfl)
  (hs:∀ j,EI [.Tuple [.Name x1 px,.Name x2 py] kt pt] (.Tuple [a,b] k2 pt2) pos.line (X j).env=pure false:=by intro _; rfl) :
  SX K X ip (.Assign [.Tuple [.Name x1 px,.Name x2 py] kt pt] (.Tuple [a,b] k2 pt2) pos) (dPar2 i1 i2 da) :=
 let ⟨_,q,u⟩:=ha; ⟨_,fun j=>zOo (M.calm j) (hN j) (e1 j) (e2 j) h12 (l1 j) (l2 j) (q j) (hw j) (hs j),zKd u hi1 hi2⟩
theorem zKi(nn:Nat)(hp:∀ j,HI (model (X j).prog (X j).w) (X j).A (X j).env (X j).xe)(hc:TX K X c ta)(hb:BX K X ip sts f):SX K X ip (.While c sts [] pos) (dWhile ta f nn) :=
 let ⟨_,p,s⟩:=hc; let ⟨_,q,u⟩:=hb; ⟨_,fun j=>zK0 (hp j) (p j) (q j),zHC nn s u⟩
theorem zI2(M:Fm K mg k X)(hp:∀ j,HI (model (X j).prog (X j).w) (X j).A (X j).env (X j).xe)(hi:IX K X tg iter di)(hg:GX K X ip tg gg)(hb:BX K X ip sts f)
  (hs:∀ j x,CP iter (X j).env x=pure x:=by intro _ _; rfl):SX K X ip (.For tg iter sts [] pos) (dFor ip di gg f) :=
 let ⟨_,p1,s1⟩:=hi; let ⟨_,p2,s2⟩:=hg; let ⟨_,p3,s3⟩:=hb; ⟨_,fun j=>zOw (hp j) (M.calm j) (p1 j) (p2 j) (p3 j) (hs j),zLa s1 s2 s3⟩
end
section
variable {P:Ai}{wd:Ax}{base:Heap}{K:Fg}{mg:Str->Option AD}{k:Nat}
abbrev cx1 (P:Ai) (wd:Ax) (K:Fg) (mg:Str->Option AD) (base:Heap) (N:List Str) (qual:Str) (sc:Df) (f:Addr) (cdv:AD) (A:BE) (outer:List Env) (s:AG) (H:Hp) (E:XK):Unit->Cx:=fun _=>(cxOf CX0 P wd K mg base N qual sc f cdv A outer s H E).nox
theorem zAD(F:Fun K x x st f fd)(S:FnScope N ps (defScope st))(hm:mg x=some (.ref f))(hb:Binds K fd ps [])
  (body:∀ (cdv:AD) (A:BE) (outer:List Env) (s:AG) (H:Hp) (E:XK),Fm K mg k (cx1 P wd K mg base N x (defScope st) f cdv A outer s H E)->Fb P wd base (cx1 P wd K mg base N x (defScope st) f cdv A outer s H E)->BX K (cx1 P wd K mg base N x (defScope st) f cdv A outer s H E) ip (defBody st) g) :
  FD P wd K mg base (k+1) x ip ps.length (fnD ip ps.length N.length g):=by
 refine⟨⟨f,fd,ps,?_,hm,F.kp,hb⟩,zC0⟩
 refine F.ok S (fun vs H Q E h=>h.1) fun cdv A outer s H vs Q E hr h=>?_
 obtain⟨t,p,u⟩:=body cdv A outer s H E ⟨fun _=>rfl,fun _=>rfl,fun _=>rfl,fun _=>hr⟩ ⟨fun _=>rfl,fun _=>rfl,fun _=>rfl⟩
 exact⟨t,p (),zC3 u h⟩
end
section
variable {P:Ai}{wd:Ax}{base:Heap}{K:Fg}{mg:Str->Option AD}{k:Nat}
theorem zQS(F:Fun K x x st f fd)(S:FnScope N ps (defScope st))
  (body:∀ (cdv:AD) (A:BE) (outer:List Env) (s:AG) (H:Hp) (E:XK),Fm K mg k (cx1 P wd K mg base N x (defScope st) f cdv A outer s H E)->Fb P wd base (cx1 P wd K mg base N x (defScope st) f cdv A outer s H E)->BX K (cx1 P wd K mg base N x (defScope st) f cdv A outer s H E) ip (defBody st) g) :
  FnOk P wd K mg base CX0 (k+1) f fd ps (spD K ip ps.length (fnD ip ps.length N.length g)):=by
 refine F.ok S (fun vs H Q E h=>h.1) fun cdv A outer s H vs Q E hr h=>?_
 obtain⟨t,p,u⟩:=body cdv A outer s H E ⟨fun _=>rfl,fun _=>rfl,fun _=>rfl,fun _=>hr⟩ ⟨fun _=>rfl,fun _=>rfl,fun _=>rfl⟩
 exact⟨t,p (),zC3 u h⟩
theorem zCy(F:Fun K x x st f fd)(hm:mg x=some (.ref f))(hb:Binds K fd ps [])(hn:ps.length=n):FD P wd K mg base k x ip n (fun _=>none):=by
 refine⟨⟨f,fd,ps,⟨fun vs H Q E h=>h.1.trans hn.symm,fun A outer s H args us vs Q E _ _ _ _ h=>?_⟩,hm,F.kp,hb⟩,fun gs r e=>nomatch e⟩
 obtain⟨_,w,gs,r,ys,e,_⟩:=h
 cases e
theorem len1(h:us.length=1):∃ a,us=[a]:=List.length_eq_one_iff.mp h
theorem lenSc(h:us.length=n+1):∃ a r,us=a::r/\r.length=n:=by
 cases us with
 | nil=>cases h
 | cons a r=>exact⟨a,r,rfl,Nat.succ.inj h⟩
theorem len2(h:us.length=2):∃ a b,us=[a,b]:=by
 obtain⟨a,r,rfl,h'⟩:=lenSc h
 obtain⟨b,rfl⟩:=len1 h'
 exact⟨a,b,rfl⟩
theorem len3(h:us.length=3):∃ a b c,us=[a,b,c]:=by
 obtain⟨a,r,rfl,h'⟩:=lenSc h
 obtain⟨b,c,rfl⟩:=len2 h'
 exact⟨a,b,c,rfl⟩
theorem len4(h:us.length=4):∃ a b c d,us=[a,b,c,d]:=by
 obtain⟨a,r,rfl,h'⟩:=lenSc h
 obtain⟨b,c,d,rfl⟩:=len3 h'
 exact⟨a,b,c,d,rfl⟩
theorem len5(h:us.length=5):∃ a b c d e,us=[a,b,c,d,e]:=by
 obtain⟨a,r,rfl,h'⟩:=lenSc h
 obtain⟨b,c,d,e,rfl⟩:=len4 h'
 exact⟨a,b,c,d,e,rfl⟩
noncomputable def intsT (ns:List Int):List T:=ns.map fun i=>.a (.int i)
end
noncomputable def setM (i:Nat) (s:S) (Γ:En):Option En:=match s with
 | .v t=>some (Γ.set i (some (.v t)))
 | .l xs=>some (Γ.set i (some (.l xs)))
 | .d _=>none
 | .s j=>match Γ[j]? with
  | some (some (.r xs))=>some (Γ.set i (some (.r xs)))
  | some (some (.l xs))=>some ((Γ.set j none).set i (some (.l xs)))
  | _=>none
def dMv (i j:Nat):DS:=fun Γ=>(jV j Γ).bind fun p=>(setM i p.1 p.2).map .nx
theorem Rep.forget(r:Rep K C w Γ σ H)(hn:∀ q∈C.pins,q.1≠j):Rep K C w (Γ.set j none) σ H where
 len:=by simpa using r.len
 val:=fun i g h=>by
  by_cases e:i=j
  ·subst e
   rw[Hd]at h
   split at h
   ·split at h <;> simp at h
   ·exact absurd rfl ‹_›
  ·rw[AW (A6 e)]at h
   exact r.val i g h
 apart:=fun a b p ga gb ma mb h1 h2 h3 h4=>by
  have back:∀ (m:Nat) (zs:G),(Γ.set j none)[m]?=some (some zs)->Γ[m]?=some (some zs):=fun m zs h=>by
   by_cases e:m=j
   ·subst e
    rw[Hd]at h
    split at h
    ·split at h <;> simp at h
    ·exact absurd rfl ‹_›
   ·rw[AW (A6 e)]at h; exact h
  exact r.apart a b p ga gb ma mb (back _ _ h1) (back _ _ h2) h3 h4
 lst:=r.lst
 own:=r.own
 ra:=r.ra
 rl:=r.rl
 frame:=r.frame
 tab:=r.tab
 pin:=fun q hq=>by
  obtain⟨a,xs,b⟩:=r.pin q hq
  exact⟨a,xs,by rw[AW (A6 (hn q hq))]; exact b⟩
theorem Rep.move(r:Rep K C w Γ σ H)(hj:Γ[j]?=some (some (.l xs)))(hv:σ[j]?=some (some v))(hni:∀ q∈C.pins,q.1≠i)(hnj:∀ q∈C.pins,q.1≠j) :
  Rep K C w ((Γ.set j none).set i (some (.l xs))) (σ.set i (some v)) H:=by
 have r':=r.forget (j:=j) hnj
 obtain⟨v',e1,e2⟩:=r.val j _ hj
 rw[hv]at e1; cases e1
 obtain⟨p,vs,rfl,hp,h1,h2⟩:=e2
 have hjl:j < Γ.length:=(Ac.mp hj).1
 refine⟨by simpa using r.len,fun m g h=>?_,fun a b c ga gb ma mb g1 g2 g3 g4=>?_,r.lst,r.own,r.ra,r.rl,r.frame,r.tab,fun q hq=>?_⟩
 ·by_cases e:m=i
  ·subst e
   have hml:m < (Γ.set j none).length:=by
    rcases CY m (Γ.set j none).length with z | z
    ·exact z
    ·rw[BH (by simpa using z)]at h; cases h
   rw[Aq hml]at h
   cases h
   exact⟨_,by rw[Aq (by rw[r'.len]; exact hml)],p,vs,rfl,hp,h1,h2⟩
  ·rw[AW (A6 e)]at h
   rw[AW (A6 e)]
   exact r'.val m g h
 ·have old:∀ (m:Nat) (gc:G),isMut gc=true->m≠i->((Γ.set j none).set i (some (.l xs)))[m]?=some (some gc)->(σ.set i (some (.ref p)))[m]?=some (some (.ref c))->m≠j/\Γ[m]?=some (some gc)/\σ[m]?=some (some (.ref c))/\c≠p:=fun m gc mc e h h'=>by
   rw[AW (A6 e)]at h
   rw[AW (A6 e)]at h'
   have hmj:m≠j:=fun z=>by subst z; rw[Aq hjl]at h; cases h
   rw[AW (A6 hmj)]at h
   exact⟨hmj,h,h',fun z=>hmj (r.apart m j c _ _ mc rfl h hj h' (z ▸ hv))⟩
  have at_i:∀ (h:(σ.set i (some (.ref p)))[i]?=some (some (V.ref c))),c=p:=fun h=>by
   have hil:i < (σ.set i (some (V.ref p))).length:=(Ac.mp h).1
   rw[Aq (by simpa using hil)]at h
   cases h; rfl
  by_cases ea:a=i
  ·by_cases eb:b=i
   ·rw[ea,eb]
   ·exact absurd (at_i (ea ▸ g3)) (old b gb mb eb g2 g4).2.2.2
  ·by_cases eb:b=i
   ·exact absurd (at_i (eb ▸ g4)) (old a ga ma ea g1 g3).2.2.2
   ·exact r.apart a b c ga gb ma mb (old a ga ma ea g1 g3).2.1 (old b gb mb eb g2 g4).2.1 (old a ga ma ea g1 g3).2.2.1 (old b gb mb eb g2 g4).2.2.1
 ·obtain⟨a,ys,b⟩:=r'.pin q hq
  exact⟨by rw[AW (A6 (hni q hq))]; exact a,ys,by rw[AW (A6 (hni q hq))]; exact b⟩
theorem zMw(R:Rep K C w Γ σ H)(o:SOk K C w σ H v s)(e:setM i s Γ=some Γ')(hs:∀ m,s=.s m->m=j)(hn:∀ q∈C.pins,q.1≠i)(hm:∀ q∈C.pins,q.1≠j):∃ w',Rep K C w' Γ' (σ.set i (some v)) H:=by
 cases s with
 | v t=>cases e; exact⟨w,R.setv rfl o hn⟩
 | d _=>cases e
 | l xs =>
  cases e
  obtain⟨p,vs,rfl,n1,n2,ow,h1,h2⟩:=o
  exact⟨_,R.setl n1 n2 ow h1 h2 hn⟩
 | s m =>
  cases hs m rfl
  unfold setM at e
  dsimp only at e
  have o':σ[j]?=some (some v):=o
  split at e
  ·rename_i xs he
   cases e
   obtain⟨v',e1,e2⟩:=R.val j _ he
   rw[o']at e1; cases e1
   exact⟨w,R.setv rfl e2 hn⟩
  ·rename_i xs he
   cases e
   exact⟨w,R.move he o' hn hm⟩
  ·cases e
theorem zPo(e:jV j Γ=some p):∀ m,p.1=.s m->m=j:=by
 intro m hm
 unfold jV at e
 split at e <;> first | cases e | (cases e; cases hm) | (cases e; cases hm; rfl)
 all_goals first | (cases hm; done) | (cases hm; rfl)
theorem zNU(h:SimE K te (jV j))(hi:ip≠some i)(hj:ip≠some j):SimS K ip (tAsg te (gName i)) (dMv i j):=by
 intro C w Γ σ H D o hp R e k
 obtain⟨p,e1,e⟩:=bind_some e
 obtain⟨Γ1,e2,e⟩:=zAA e
 subst e
 refine h C w Γ σ H p.1 p.2 _ R e1 fun v H1 R1 _ o1 _=>?_
 obtain⟨w',R'⟩:=zMw (j:=j) R1 o1 e2 (zPo e1) (zBT hp hi) (zBT hp hj)
 exact k w' _ H1 R'
section
variable {ι:Type}{K:Fg}{X:ι->Cx}{ip:Option Nat}{e:Expr}{x:Str}{pos:Pos}
theorem zRK(i j:Nat)(h:EX K X e (jV j))(hi:ip≠some i:=by decide)(hj:ip≠some j:=by decide)(hN:∀ j,(X j).N.Nodup:=by intro _; show (Ez _); decide +kernel)(hx':∀ j,(X j).N[i]?=some x:=by intro _; rfl)(hx:∀ j,Loc (X j).env.scope x:=by intro _; first | exact DY rfl | exact Cf rfl)
  (hs:∀ j,EY e (some (.Name x pos')) pos.line (X j).env=pure false:=by intro _; rfl) (hf:∀ j,(X j).fn x=true\/(X j).env.scope.names.lookup x=some .local:=by intro _; first | exact .inl rfl | exact .inr rfl):SX K X ip (.Assign [.Name x pos'] e pos) (dMv i j) :=
 let ⟨_,p,s⟩:=h; ⟨_,fun j=>zJ5 (hN j) (hx' j) (hx j) (p j) (hs j) (hf j),zNU s hi hj⟩
end
end D
namespace L2
open PySem PySem.Spec PyProof.Rows
section
variable {prog:Ai}{w:Ax}{A:BE}{E:AD->AG->Prop}{s:AG}
variable {e it l:Addr}{S1:Nat->Heap->Prop}{xs:Array AD}{k:Nat}
theorem zHm{x old:AD}{Q:AD->AG->Prop}(hne:e≠it)(hle:l≠e)(D:Drawer prog w it l xs S1)(he:Gr s.heap e it k old)(st:S1 k s.heap)(hx:xs[k]?=some x)
  (hQ:∀ h',JS h' e it ((k:Int)+1) x s.heap.objs.size->S1 (k+1) h'->Ce h' s.heap.objs.size (.int k s.toks) x ->
   (∀ c o,c≠e->c≠it->s.heap.get? c=some o->h'.get? c=some o)->Q (.ref s.heap.objs.size) { s with heap:=h',toks:=s.toks+1 }) :
  AV (model prog w) A (Builtin.«enumerate.__next__» ⟨[.ref e],[]⟩) (fun fin s'=>∃ v,fin=.done (.ret v)/\Q v s') E s:=by
 obtain⟨hp,g,d,tk,os⟩:=s
 have hlt:e < hp.objs.size:=AJ he
 show AV _ _ (field (.ref e) 2 >>= _) _ _ _
 refine AB (Ar he rfl (x:=.ref it) rfl (AB (D.item _ k _ x _ _ st hx fun h1 t1 b1=>?_)))
 replace b1:BU it hp h1:=b1
 have e1:Gr h1 e it k old:=(b1.2 e hne).trans he
 show AV _ _ (field (.ref e) 3 >>= _) _ _ ⟨h1,g,d,tk,os⟩
 refine AB (Ar e1 rfl (x:=CV k) rfl ?_)
 show AV _ _ (field (.ref e) 4 >>= _) _ _ ⟨h1,g,d,tk,os⟩
 refine AB (Ar e1 rfl (x:=.none) rfl ?_)
 show AV _ _ (mkInt k >>= _) _ _ ⟨h1,g,d,tk,os⟩
 refine AB (GQ ?_)
 show AV _ _ (Gs (.ref e) 3 (CV ((k:Int)+1)) >>= _) _ _ ⟨h1,g,d,tk+1,os⟩
 refine AB (A5 e1 (by simp) fun h2 e2 b2=>?_)
 replace b2:BU e h1 h2:=b2
 replace e2:Gr h2 e it ((k:Int)+1) old:=e2
 show AV _ _ (Gs (.ref e) 4 .none >>= _) _ _ ⟨h2,g,d,tk+1,os⟩
 refine AB (A5 e2 (by simp) fun h3 e3 b3=>?_)
 replace b3:BU e h2 h3:=b3
 replace e3:Gr h3 e it ((k:Int)+1) old:=e3
 show AV _ _ (KA [.int k tk,x] >>= _) _ _ ⟨h3,g,d,tk+1,os⟩
 refine AB (Gn ?_)
 have hsz:h3.objs.size=hp.objs.size:=by rw[b3.1,b2.1,b1.1]
 obtain⟨h4,rfl⟩:∃ h4,h4=h3.push { cls:=.type "tuple",data:=.seq #[.int k tk,x] }:=⟨_,rfl⟩
 have e4:Gr (h3.push { cls:=.type "tuple",data:=.seq #[.int k tk,x] }) e it ((k:Int)+1) old:=AE _ e3
 have p4:Ce (h3.push { cls:=.type "tuple",data:=.seq #[.int k tk,x] }) hp.objs.size (.int k tk) x:=by rw[← hsz]; exact AQ _ rfl
 have k4:∀ c o,c≠e->h1.get? c=some o->(h3.push { cls:=.type "tuple",data:=.seq #[.int k tk,x] }).get? c=some o:=fun c o hc q=>AE _ (b3.extBut c o hc (b2.extBut c o hc q))
 rw[hsz]
 generalize h3.push { cls:=.type "tuple",data:=.seq #[.int k tk,x] }=h4 at e4 p4 k4
 show AV _ _ (Am (.ref e) >>= _) _ _ ⟨h4,g,d,tk+1,os⟩
 refine AB ?_
 unfold Am
 refine AB (Ar e4 rfl (x:=.none) rfl (AH ?_))
 simp only[if_true]
 refine AB (Cw (AB (Ar e4 rfl (x:=old) rfl (AB (A5 e4 (by simp) fun h5 e5 b5=>?_)))))
 replace b5:BU e h4 h5:=b5
 replace e5:Gr h5 e it ((k:Int)+1) x:=e5
 show AV _ _ (Bs (.ref e) (.ref hp.objs.size) >>= _) _ _ ⟨h5,g,d,tk+1,os⟩
 refine AB ?_
 unfold Bs
 refine AB (A5 e5 (by simp) fun h6 e6 b6=>?_)
 replace b6:BU e h5 h6:=b6
 replace e6:JS h6 e it ((k:Int)+1) x hp.objs.size:=e6
 refine A5 e6 (by simp) fun h7 e7 b7=>?_
 replace b7:BU e h6 h7:=b7
 replace e7:JS h7 e it ((k:Int)+1) x hp.objs.size:=e7
 have up:∀ c o,c≠e->h4.get? c=some o->h7.get? c=some o:=fun c o hc q=>b7.extBut c o hc (b6.extBut c o hc (b5.extBut c o hc q))
 refine AB (FB (AH ⟨_,rfl,hQ h7 e7 ?_ (up _ _ (BZ hlt) p4) fun c o c1 c2 q=>up c o c1 (k4 c o c1 (b1.extBut c o c2 q))⟩))
 exact D.keep _ _ _ t1 (fun o q=>up _ o hne.symm (k4 _ o hne.symm q)) fun o q=>up _ o hle (k4 _ o hle q)
end
def Ite (b:Bool) (K:AM) (a1:Addr):It :=
 ⟨fun i H=>∃ xs x,Sq b K H a1 xs/\xs[i]?=some x,
  fun i H v H'=>∃ T x,v=.ref T/\H T=none/\H'=upd H T (.tup [.int i,x])/\(∀ xs,Sq b K H a1 xs->xs[i]?=some x),
  fun i H=>∃ xs,Sq b K H a1 xs/\xs.length<=i⟩
structure ETn(b:Bool)(e it a1:Addr)(k:Nat)(h:Heap):Prop where
 z:∃ old,Gr h e it k old
 s1:SIt b it a1 k h
theorem zI5{P:Ai}{w:Ax}{K:AM}{elts:List Expr}{x1:Nat}{tp:Pos}(b:Bool){e it a1:Addr}(hne:e≠it)(hle:a1≠e)(hli:a1≠it) :
  Turn P w K (.Tuple elts x1 tp) (Ite b K a1) [e,it] e (ETn b e it a1) where
 mem:=by simp
 obj:=fun i h st c hc=>by
  simp only[AL,Ao,or_false]at hc
  rcases hc with q | q
  ·obtain⟨old,z⟩:=st.z; exact⟨_,q ▸ z,fun v z=>by cases z⟩
  ·obtain⟨o,r,d⟩:=st.s1.live; exact⟨o,q ▸ r,d⟩
 keep:=fun i h h' st k=>⟨(let ⟨old,z⟩:=st.z; ⟨old,k e (by simp) _ z⟩),st.s1.keep fun o q=>k it (by simp) o q⟩
 item:=by
  intro X hP hw hK hc i pins s σ H E I hf st hg
  subst hP hw hK
  obtain⟨xs,x,h1,hx⟩:=hg
  obtain⟨its1,v1,o1,z1⟩:=I.sq h1
  obtain⟨u1,e1,r1⟩:=v1.get hx
  obtain⟨old,hz⟩:=st.z
  have hT:s.TypeIs (.ref e) "enumerate":=⟨_,hz,rfl⟩
  have nH:∀ c∈[e,it],H c=none:=fun c hc=>(hf c hc).1
  unfold DC
  refine AB (B8 (Ay (name:=Ba "__next__") hT DZ (A9 DZ hT HB
   (zHm hne hle (zBL b it a1 its1.toArray hli) hz ⟨st.s1,o1⟩ (by simpa using e1) fun h' ho st' hp hk=>AH ?_) (G0 _))))
  refine⟨_,rfl,?_⟩
  have fT:H s.heap.objs.size=none:=I.hok.fresh (AK _)
  have hk':∀ c o,c∉[e,it]->s.heap.get? c=some o->h'.get? c=some o:=fun c o hc q=>by
   simp only[AL,Ao,or_false,not_or]at hc
   exact hk c o hc.1 hc.2 q
  have trk:∀ c u,H c=some u->c∉[e,it]:=fun c u q hc=>by rw[nH c hc]at q; cases q
  have nT:∀ c o,s.heap.get? c=some o->c≠s.heap.objs.size:=fun c o q=>Ag (AJ q)
  have hok1:HOk X.prog X.w H h':=fun c u q=>(I.hok c u q).stay (fun d v hd r=>hk' d v (by
   rcases hd with rfl | hd
   ·exact trk d u q
   ·exact trk d _ hd) r) (fun _ r=>r) fun _ _ r=>r
  have I1:Inv X pins σ (upd H s.heap.objs.size (.tup [.int i,x])) { s with heap:=h',toks:=s.toks+1 }:=by
   refine I.step (g':=s.gens) (d':=s.drawn) (t':=s.toks+1) (ch:=[e,it]) (fun c hc=>?_) (fun c o _ _ hc q _=>hk' c o hc q) (fun c o _ _ hc q _=>⟨o.slots,hk' c o hc q⟩)
    (fun c o _ q n=>by rw[zAB (nT c o q)]; exact n) (fun c o hc q=>⟨o,hk' c o hc q⟩) (fun c xs q=>by rw[zAB (zAE q fT)]; exact q) (fun c o u q=>by rw[zAB (zAE q fT)]; exact q)
    (fun c ps q=>⟨#[],by rw[zAB (zAE q fT),q]; simp⟩) (fun m hm=>?_) (hok1.adopt fT ⟨by show 2<=AC; decide,[.int i s.toks,u1],.cons ⟨_,rfl⟩ (.cons r1 .nil),_,hp,rfl,⟨0,rfl⟩,rfl⟩) I.bare
   ·obtain⟨_,f1,f2,f3,f4,f5⟩:=hf c hc; exact⟨f3,f1,f4,f5⟩
   ·obtain⟨o,es,ep,ho,r⟩:=hm
    exact⟨o,es,ep,hk' _ o (fun hc=>(hf _ hc).2.1 rfl) ho,r⟩
  refine wpAny_letOwnedTupleGo_enum ho fun h9 hz2 hs2=>?_
  obtain⟨_,f1,f2,f3,f4,f5⟩:=hf e (by simp)
  have nz:upd H s.heap.objs.size (.tup [.int i,x]) e=none:=by rw[zAB (nT e _ hz)]; exact nH e (by simp)
  have I2:Inv X pins σ (upd H s.heap.objs.size (.tup [.int i,x])) { s with heap:=h9,toks:=s.toks+1 }:=by
   have q:=I1.turned (h':=h9) (t':=s.toks+1) (it:=e) (fun c o hc q=>(hs2.2 c hc).trans q) nz f1 f3 f4 f5
   exact q
  refine⟨.ref s.heap.objs.size,_,I2,rfl,⟨s.heap.objs.size,x,rfl,fT,rfl,fun xs' q=>by rw[I.sq_inj q h1]; exact hx⟩,?_,fun c hc=>?_⟩
  ·have up:∀ c o,c≠e->h'.get? c=some o->h9.get? c=some o:=fun c o hc q=>(hs2.2 c hc).trans q
   exact⟨⟨_,by simpa using hz2⟩,st'.1.keep fun o q=>up _ o hne.symm q⟩
  ·obtain⟨o,q,_⟩:∃ o,s.heap.get? c=some o/\True:=by
    simp only[AL,Ao,or_false]at hc
    rcases hc with q | q
    ·exact⟨_,q ▸ hz,trivial⟩
    ·obtain⟨o,r,d⟩:=st.s1.live; exact⟨o,q ▸ r,trivial⟩
   rw[zAB (nT c o q)]; exact nH c hc
 done:=by
  intro X hP hw hK hc i pins s σ H E I hf st hg
  subst hP hw hK
  obtain⟨xs,h1,hl⟩:=hg
  obtain⟨its1,v1,o1,z1⟩:=I.sq h1
  have l1:=v1.length
  obtain⟨old,hz⟩:=st.z
  have hT:s.TypeIs (.ref e) "enumerate":=⟨_,hz,rfl⟩
  unfold DC
  refine AB (B8 (Ay (name:=Ba "__next__") hT DZ (A9 DZ hT HB ?_ (G0 _))))
  show AV _ _ (field (.ref e) 2 >>= _) _ _ _
  refine AB (Ar hz rfl (x:=.ref it) rfl (AB ((zBL b it a1 its1.toArray hli).fini _ i _ _ _ (I.ok.hd hc) ⟨st.s1,o1⟩ (by simp; lia) fun h' x hk hx'=>?_)))
  obtain⟨o,ho,hcl⟩:=hx'
  refine AB (CB (T:="StopIteration") (b:=true) ⟨o,ho,hcl⟩ D6 (AH ⟨rfl,?_⟩))
  have hk':∀ c o,c∉[it]->s.heap.get? c=some o->h'.get? c=some o:=fun c o hc q=>hk c o (fun z=>hc (by simp[z])) q
  have sub:∀ c∈[it],c∈[e,it]:=fun c hc=>by simp only[AL,Ao,or_false]at hc ⊢; exact .inr hc
  have trk:∀ c u,H c=some u->c∉[it]:=fun c u q hc=>by rw[(hf c (sub c hc)).1]at q; cases q
  refine I.step (g':=s.gens) (d':=s.drawn) (t':=s.toks) (ch:=[it]) (fun c hc=>?_) (fun c o _ _ hc q _=>hk' c o hc q) (fun c o _ _ hc q _=>⟨o.slots,hk' c o hc q⟩)
   (fun c o _ q n=>n) (fun c o hc q=>⟨o,hk' c o hc q⟩) (fun c xs q=>q) (fun c o u q=>q) (fun c ps q=>⟨#[],by rw[q]; simp⟩) (fun m hm=>?_) (fun c u q=>(I.hok c u q).stay (fun d v hd r=>hk' d v (by
    rcases hd with rfl | hd
    ·exact trk d u q
    ·exact trk d _ hd) r) (fun _ r=>r) fun _ _ r=>r) I.bare
  ·obtain⟨_,f1,f2,f3,f4,f5⟩:=hf c (sub c hc); exact⟨f3,f1,f4,f5⟩
  ·obtain⟨o,es,ep,ho,r⟩:=hm
   exact⟨o,es,ep,hk' _ o (fun hc=>(hf _ (sub _ hc)).2.1 rfl) ho,r⟩
 self:=fun _ _ _ _ _ st h=>let ⟨_,z⟩:=st.z; Iv z h
section
variable {prog:Ai}{w:Ax}{A:BE}{E:AD->AG->Prop}{s:AG}
theorem zGB(l:Addr)(xs:Array AD) :
  Ir (Builtin.«enumerate.__new__» ⟨[.type "enumerate",.ref l],[]⟩) (fun _ R s=>s.heap.IsTuple l xs /\
   R (.ok (.ret (.ref (s.heap.push { cls:=.type "tuple_iterator",data:=.fields #[.ref l,.int 0 0] }).objs.size)))
    { s with heap:=(s.heap.push { cls:=.type "tuple_iterator",data:=.fields #[.ref l,.int 0 0] }).push { cls:=.type "enumerate",data:=.fields #[.none,.bool false,.ref s.heap.objs.size,CV 0,.none,.none] } }) :=
 .of_wp fun prog w A R s h=>by
  obtain⟨hp,g,d,tk,os⟩:=s; obtain⟨hl,h⟩:=h
  have hsub:=sub_enumerate
  have T1:Ge (Gf ⟨hp,g,d,tk,os⟩) l xs:=hl
  wp_walk
  refine wpAny_stack_any fun st=>AH ?_
  split
  ·rename_i c _ _ _ _ _
   cases (c == Cz "enumerate")
   ·wp_walk using CF T1
    exact⟨_,rfl,h⟩
   ·wp_walk using CF T1
    exact⟨_,rfl,h⟩
  ·wp_walk using CF T1
   exact⟨_,rfl,h⟩
theorem zHX(hl:s.heap.IsTuple l xs)
  (h:∀ h',ETn true (s.heap.objs.size+1) s.heap.objs.size l 0 h'->(∀ c o,s.heap.get? c=some o->h'.get? c=some o)->Q (.ref (s.heap.objs.size+1)) { s with heap:=h' }) :
  AV (model prog w) A (call (.type "enumerate") [.ref l]) Q E s:=by
 refine Ek F.called_enumerate (by decide) (F.typeCall_enumerate_1 _) (F.newCall_enumerate_1 _) (fun obj=>Dl obj _) F.entry_enumerate_new (zGB l xs) ⟨hl,?_⟩
 have z1:(s.heap.push { cls:=.type "tuple_iterator",data:=.fields #[.ref l,.int 0 0] }).objs.size=s.heap.objs.size+1:=BS ..
 have g2:=AQ (s.heap.push { cls:=.type "tuple_iterator",data:=.fields #[.ref l,.int 0 0] }) (o:={ cls:=.type "enumerate",data:=.fields #[.none,.bool false,.ref s.heap.objs.size,CV 0,.none,.none] }) rfl
 rw[z1]at g2
 show _/\_
 rw[z1]
 exact⟨⟨_,g2,rfl⟩,h _ ⟨⟨.none,g2⟩,⟨_,AE _ (AQ _ rfl),rfl,rfl⟩⟩ fun c o x=>AE _ (AE _ x)⟩
end
section
variable {X:Cx}{elts:List Expr}{x1:Nat}{tp:Pos}
def iEnumU (K:AM) (ta:TA):TI:=fun σ H R=>ta σ H fun vs H1=>∃ (b:Bool) (a1:Addr),vs=[.ref a1]/\(∃ xs,Sq b K H1 a1 xs)/\R (Ite b K a1) H1
theorem zLG(hg:Gl X "enumerate")(hm:X.mg "enumerate"=none)(ha:PA X [e1] ta)(hs:AU [e1] X.env=[(false,eval e1 X.env)]:=by rfl) :
  PI X (.Tuple elts x1 tp) (.Call (.Name "enumerate" p) [e1] [] pos) (iEnumU X.K ta):=by
 intro pins s σ H R I h
 refine GN (zAx I hg hm boot_enumerate (Av (thn (ha pos pins s σ H _ I h) fun us s1 ⟨vs,H1,I1,r1,q1⟩=>?_) (by rw[hs]; rfl) (by rfl)))
 obtain⟨b,a1,e,⟨xs,h1⟩,q⟩:=q1
 subst e
 obtain⟨u1,e,r⟩:=r1.one
 subst e
 cases r
 obtain⟨its1,v1,o1,z1⟩:=I1.sq h1
 have lt1:a1 < s1.heap.objs.size:=by cases b with
  | false=>obtain⟨o,e,_⟩:=(show s1.heap.IsList a1 its1.toArray from o1); exact AJ e
  | true=>obtain⟨o,e,_⟩:=(show s1.heap.IsTuple a1 its1.toArray from o1); exact AJ e
 have fin:∀ h',ETn b (s1.heap.objs.size+1) s1.heap.objs.size a1 0 h'->(∀ c o,s1.heap.get? c=some o->h'.get? c=some o) ->
   AV (model X.prog X.w) X.A (GE (.ref (s1.heap.objs.size+1))) (PIE X pins σ (.Tuple elts x1 tp) R) X.xe { s1 with heap:=h' }:=fun h' st hk=>by
  obtain⟨old,z⟩:=st.z
  refine Iv z ?_
  refine⟨_,_,_,_,H1,rfl,I1.kept (t':=s1.toks) hk,zI5 b (BZ (CT _)) (Ag (Aa lt1 (BV _ 1))) (Ag lt1),st,fun c hc=>?_,q⟩
  have hc':s1.heap.objs.size<=c:=by
   simp only[AL,Ao,or_false]at hc
   rcases hc with e | e <;> (rw[e]) <;> first | exact AK _ | exact BV _ _
  exact I1.fpOk hc' (I1.hok.fresh hc')
 cases b with
 | false=>exact call_enumerate_list o1 fun h' hz hit _ hk=>fin h' ⟨⟨_,hz⟩,hit⟩ hk
 | true=>exact zHX o1 fin
end
end L2
namespace D
open PySem L2
noncomputable def enumT (xs:List T):List T:=xs.zipIdx.map fun p=>.t [.a (.int (p.2:Int)),p.1]
def dEnum (fa:DA):DI:=fun Γ=>(fa Γ).bind fun p=>match p.1 with
 | [.v (.t xs)]=>gd xs.length ((enumT xs,[]),p.2)
 | [a]=>(sqlOf p.2 a).bind fun xs=>gd xs.length ((enumT xs,srcS p.2 a),p.2)
 | _=>none
section
variable {K:Fg}
theorem zGp(h1:Sq b K H2 a1 vs)(i1:Ims K H2 vs xs) :
  (∀ (i:Nat) t,(enumT xs)[i]?=some t->(Ite b K a1).go i H2/\∀ x H3,(Ite b K a1).yld i H2 x H3->(∀ b o,H2 b=some o->H3 b=some o)/\Im K H3 x t)/\(Ite b K a1).stop (enumT xs).length H2:=by
 refine⟨fun i t e=>?_,⟨vs,h1,?_⟩⟩
 ·unfold enumT at e
  rw[Af]at e
  obtain⟨⟨t1,j⟩,e1,e⟩:=zAA e
  subst e
  have e1':xs[i]?=some t1/\j=i:=by
   rw[List.getElem?_zipIdx]at e1
   obtain⟨y,q,e1⟩:=zAA e1
   cases e1
   exact⟨q,by simp⟩
  obtain⟨g1,rfl⟩:=e1'
  obtain⟨v,e3,hv⟩:=i1.get g1
  refine⟨⟨vs,v,h1,e3⟩,fun x H3 y=>?_⟩
  obtain⟨T',x',rfl,hT,rfl,k1⟩:=y
  have q1:=k1 vs h1
  rw[e3]at q1; cases q1
  have ev:Evo [] H2 (upd H2 T' (.tup [.int j,v])):=Evo.new hT
  have hL:LL [] H2:=fun q hq=>nomatch hq
  refine⟨fun b o e=>ev b o e nofun,Im.tup zAO (.cons Im.atom (.one (hv.evo ev hL)))⟩
 ·have l1:=i1.len
  simp[enumT]
  lia
theorem zJy(ha:SimA K ta fa):SimI K (iEnumU K ta) (dEnum fa):=by
 intro C w Γ σ H its src Γ' R Rp e k
 obtain⟨⟨as,G1⟩,e1,e⟩:=bind_some e
 dsimp only at e
 have zl:∀ xs:List T,(enumT xs).length<=xs.length:=fun xs=>by simp[enumT]
 split at e
 ·rename_i xs
  obtain⟨hz,e⟩:=zA8 e
  cases e
  refine ha C w Γ σ H _ _ _ Rp e1 fun vs H1 R1 ev1 o1 n1=>?_
  obtain⟨v,rfl,o2⟩:=soks1 o1
  obtain⟨p,vs,rfl,h1,i1⟩:=o2.invt
  refine⟨true,p,rfl,⟨vs,h1.sq⟩,k _ H1 R1 ev1 ⟨Al (zl _) hz,fun L' hs av H2 ev=>?_⟩⟩
  have hL:LL L' H1:=fun q hq=>R1.lst q (hs q hq)
  exact zGp (b:=true) (zB7 ev hL h1).sq (i1.evo ev hL)
 ·obtain⟨xs,e2,e⟩:=bind_some e
  obtain⟨hz,e⟩:=zA8 e
  cases e
  refine ha C w Γ σ H _ _ _ Rp e1 fun vs H1 R1 ev1 o1 n1=>?_
  obtain⟨v,rfl,o2⟩:=soks1 o1
  obtain⟨p,vs,rfl,h1,i1,st1⟩:=zBZ R1 o2 e2
  refine⟨false,p,rfl,⟨vs,h1⟩,k _ H1 R1 ev1 ⟨Al (zl _) hz,fun L' hs av H2 ev=>?_⟩⟩
  have hL:LL L' H1:=fun q hq=>R1.lst q (hs q hq)
  exact zGp (b:=false) (st1 L' hs av H2 ev) (i1.evo ev hL)
 ·cases e
end
section
variable {ι:Type}{K:Fg}{X:ι->Cx}{mg:Str->Option AD}{k:Nat}{a:Expr}{da:DA}{p pos:Pos}
theorem zOA(M:Fm K mg k X)(hm:mg "enumerate"=none)(ha:AX K X [a] da)(hg:∀ j,Gl (X j) "enumerate":=by intro _; rfl)(hs:∀ j,AU [a] (X j).env=[(false,eval a (X j).env)]:=by intro _; rfl) :
  IX K X (.Tuple elts x1 tp) (.Call (.Name "enumerate" p) [a] [] pos) (dEnum da) :=
 let ⟨t,q,u⟩:=ha; ⟨iEnumU K t,fun j=>by have:=zLG (elts:=elts) (x1:=x1) (tp:=tp) (p:=p) (pos:=pos) (hg j) (by rw[M.mg]; exact hm) (q j) (hs j); rw[M.K j]at this; exact this,zJy u⟩
end
end D
namespace L2
open PySem PySem.Spec PyProof.Rows
theorem zNB:Slot "reversed" "__init__" "object.__init__" :=
 .of (owner:="object") (n:="__init__") (by rw[Bh,BC]; kernel_rfl) (by decide +kernel) (by decide +kernel) (by decide +kernel)
  (by first | exact .inl (by decide +kernel) | exact .inr (by decide +kernel)) (by rw[CZ]; kernel_rfl)
theorem zEj:TypeCalled "reversed" "reversed.__new__" "object.__init__" :=
 ⟨by decide +kernel,by decide +kernel,⟨_,_,F.mro_reversed⟩,F.made_reversed,by decide +kernel,by rw[CZ]; kernel_rfl,zNB⟩
theorem zDL:Manifest.owners.lookup (String.ofList ['d','e','s','r','e','v','e','r'].reverse)=some Manifest.sig_reversed:=by kernel_rfl
theorem zB0:Slot "reversed" "__next__" "reversed.__next__" :=
 .of (owner:="reversed") (n:="__next__") (by rw[Bh,BC]; kernel_rfl) (by decide +kernel) (by decide +kernel) (by decide +kernel)
  (by first | exact .inl (by decide +kernel) | exact .inr (by decide +kernel)) (by rw[CZ]; kernel_rfl)
theorem zCY:Gu table "reversed.__next__"=some Builtin.«reversed.__next__»:=GK (by kernel_rfl)
theorem zGa:Slot "reversed" "__iter__" "reversed.__iter__" :=
 .of (owner:="reversed") (n:="__iter__") (by rw[Bh,BC]; kernel_rfl) (by decide +kernel) (by decide +kernel) (by decide +kernel)
  (by first | exact .inl (by decide +kernel) | exact .inr (by decide +kernel)) (by rw[CZ]; kernel_rfl)
theorem zOF:Ff (.type "tuple") "__reversed__"=pure none:=by rw[Bh,BC]; kernel_rfl
theorem zOE:isSubtype (.type "tuple") (.type "dict")=pure false:=by rw[CZ]; kernel_rfl
theorem zCs(a:AD):He "reversed.__next__" ⟨[a],[]⟩:=by
 unfold He; rw[HD (id:="reversed.__next__") (n:=['_','_','t','x','e','n','_','_']) (o:=['d','e','s','r','e','v','e','r']) (by kernel_rfl) zDL]; kernel_rfl
theorem zFY(a:AD):He "reversed.__iter__" ⟨[a],[]⟩:=by
 unfold He; rw[HD (id:="reversed.__iter__") (n:=['_','_','r','e','t','i','_','_']) (o:=['d','e','s','r','e','v','e','r']) (by kernel_rfl) zDL]; kernel_rfl
theorem zEz:Gu table "reversed.__iter__"=some Builtin.«dict_keyiterator.__iter__» :=
 KC (id':="dict_keyiterator.__iter__") (by kernel_rfl) (by first | rfl | decide +kernel | (unfold String.splitOn; simp +decide [String.splitOnAux])) (by decide +kernel) (by kernel_rfl)
abbrev IsRv (h:Heap) (e l:Addr) (i:Int):Prop:=h.get? e=some { cls:=.type "reversed",dict:=none,data:=.fields #[.ref l,CV i],slots:=#[] }
section
variable {prog:Ai}{w:Ax}{A:BE}{E:AD->AG->Prop}{s:AG}
theorem zMz(hl:s.heap.IsTuple l xs)(hQ:Q true s):AV (model prog w) A (do
  if ← isInstance (.ref l) (.type "dict") then return false
  match ← specialOf (.ref l) "__getitem__" with
  | none=>return false
  | some (.builtin id) =>
   if ["tuple.__getitem__","str.__getitem__","bytes.__getitem__","bytearray.__getitem__","memoryview.__getitem__","numpy.ndarray.__getitem__","sqlite3.Row.__getitem__"].contains id then return true
   if id == "sqlite3.Blob.__getitem__" then return false
   unsupported "reversed.__new__:is-it-a-sequence"
  | some _=>return true) Q E s:=by
 refine AB (CB hl.typeIs zOE ?_)
 refine AB (CN hl.typeIs Hf.lookup ?_)
 exact AH hQ
theorem zEe(l:Addr)(xs:Array AD)(hz:xs.size<=AC) :
  Ir (Builtin.«reversed.__new__» ⟨[.type "reversed",.ref l],[]⟩) (fun _ R s=>s.heap.IsTuple l xs /\
   R (.ok (.ret (.ref s.heap.objs.size))) { s with heap:=s.heap.push { cls:=.type "reversed",data:=.fields #[.ref l,CV ((xs.size:Int) - 1)] },toks:=s.toks+1+1 }) :=
 .of_wp fun prog w A R s h=>by
  obtain⟨hl,h⟩:=h
  unfold Builtin.«reversed.__new__»
  refine AB (B7 (newClass_reversed _) ?_)
  try dsimp only
  refine AB (B7 (a:=()) (by first | rfl | kernel_rfl) ?_)
  refine AB (B7 (a:=()) (by first | rfl | kernel_rfl) ?_)
  try dsimp only
  refine AB (CN hl.typeIs zOF ?_)
  try dsimp only
  refine AB (zMz hl ?_)
  rw[if_neg (by decide)]
  refine AB (JL hl (by have:=hz; rw[Bz]at this; lia) ?_)
  refine AB (B7 (a:=some (xs.size:Int)) (by first | rfl | kernel_rfl) ?_)
  try dsimp only
  refine AB (m:=EG _ _) ?_
  unfold EG
  refine BF ?_ (by size_fits)
  exact AH ⟨_,rfl,h⟩
theorem zLb(hl:s.heap.IsTuple l xs)(hz:xs.size<=AC)
  (h:∀ h' tk,IsRv h' s.heap.objs.size l ((xs.size:Int) - 1)->(∀ c o,s.heap.get? c=some o->h'.get? c=some o)->Q (.ref s.heap.objs.size) { s with heap:=h',toks:=tk }) :
  AV (model prog w) A (call (.type "reversed") [.ref l]) Q E s:=by
 refine Ek zEj (by decide) (HR _) (Hg _) (fun obj=>Dl obj _) Hh (zEe l xs hz) ⟨hl,?_⟩
 have g:=AQ s.heap (o:={ cls:=.type "reversed",data:=.fields #[.ref l,CV ((xs.size:Int) - 1)] }) rfl
 exact⟨⟨_,g,rfl⟩,h _ _ g fun c o x=>AE _ x⟩
theorem zBw(he:IsRv s.heap e l i)(h:Q (.ref e) s):AV (model prog w) A (GE (.ref e)) Q E s:=by
 have hT:s.TypeIs (.ref e) "reversed":=⟨_,he,rfl⟩
 refine wpAny_pyIter_slot hT zGa (A9 zGa hT zEz ?_ (zFY _))
 show AV _ _ (ret (.ref e)) _ _ s
 exact AH ⟨_,rfl,"reversed",_,hT,zB0.lookup,h⟩
theorem zGS{e l:Addr}{i:Nat}{xs:Array AD}{x:AD}{Q:Option AD->AG->Prop}(he:IsRv s.heap e l (i:Int))(hl:s.heap.IsTuple l xs)(hz:xs.size<=AC)(hx:xs[i]?=some x)
  (hQ:∀ h' tk,IsRv h' e l ((i:Int) - 1)->BU e s.heap h'->Q (some x) { s with heap:=h',toks:=tk }):AV (model prog w) A (DC (.ref e)) Q E s:=by
 have hT:s.TypeIs (.ref e) "reversed":=⟨_,he,rfl⟩
 have hi:i < xs.size:=(Array.getElem?_eq_some_iff.mp hx).1
 rw[Bz]at hz
 obtain⟨hp,g,d,tk,os⟩:=s
 unfold DC
 refine AB (B8 (Ay (name:=Ba "__next__") hT zB0 (A9 zB0 hT zCY ?_ (zCs _))))
 unfold Builtin.«reversed.__next__»
 refine AB (B7 (a:=(Bc e,[])) rfl ?_)
 try dsimp only
 refine AB (Ar he rfl (x:=.ref l) rfl ?_)
 refine AB (Ar he rfl (x:=CV (i:Int)) rfl ?_)
 show AV _ _ (if (i:Int) < 0 then _ else _) _ _ _
 rw[if_neg (by lia)]
 refine AB (CN hl.typeIs Hf.lookup ?_)
 try dsimp only
 rw[if_neg (by decide)]
 refine AB (GQ ?_)
 refine AB (B8 (Jl (j:=i) hl (by lia) (by lia) (by rw[GO (by lia) (by lia),Bm]) hx ?_))
 show AV _ _ (field (.ref e) 1 >>= _) _ _ _
 refine AB (Ar he rfl (x:=CV (i:Int)) rfl ?_)
 show AV _ _ (Gs (.ref e) 1 (CV ((i:Int) - 1)) >>= _) _ _ _
 refine AB (A5 he (by simp) fun h1 e1 b1=>?_)
 exact AH ⟨x,rfl,AH (hQ h1 _ e1 b1)⟩
theorem zIr(hh:A.handled=none)(he:IsRv s.heap e l (-1))(hQ:∀ h',Fh e s.heap h'->Q none { s with heap:=h' }):AV (model prog w) A (DC (.ref e)) Q E s:=by
 have hT:s.TypeIs (.ref e) "reversed":=⟨_,he,rfl⟩
 obtain⟨hp,g,d,tk,os⟩:=s
 unfold DC
 refine AB (B8 (Ay (name:=Ba "__next__") hT zB0 (A9 zB0 hT zCY ?_ (zCs _))))
 unfold Builtin.«reversed.__next__»
 refine AB (B7 (a:=(Bc e,[])) rfl ?_)
 try dsimp only
 refine AB (Ar he rfl (x:=.ref l) rfl ?_)
 refine AB (Ar he rfl (x:=CV (-1)) rfl ?_)
 show AV _ _ (if (-1:Int) < 0 then _ else _) _ _ _
 rw[if_pos (by decide)]
 refine AB (Cw ?_)
 refine AB ?_
 show AV _ _ (Gs (.ref e) 1 (CV (-1)) >>= fun _=>Gs (.ref e) 0 .none) _ _ _
 refine AB (A5 he (by simp) fun h1 e1 b1=>?_)
 replace e1:IsRv h1 e l (-1):=e1
 refine A5 e1 (by simp) fun h2 e2 b2=>?_
 replace b1:BU e hp h1:=b1
 replace b2:BU e h1 h2:=b2
 have x2:Fh e hp h2:=fun c o hc q=>b2.extBut c o hc (b1.extBut c o hc q)
 refine AB ?_
 show AV _ _ (J9 (.type "StopIteration") [] >>= _) _ _ _
 refine AB ?_
 simp only[J9,KA]
 refine AB (BF ?_ (by size_fits))
 refine AB (m:=E8 _ _) (B7 (a:=CU) (by first | rfl | (simp only[E8]; rfl)) ?_)
 refine BF ?_ (by size_fits)
 simp only[raiseNew]
 refine AB (Ki ?_)
 first | rw[show A.in1.handled=none from hh] | rw[hh]
 refine AB (AH (wpAny_throw ?_))
 refine AB (CB (T:="StopIteration") (b:=true) ⟨_,AQ _ rfl,rfl⟩ D6 ?_)
 exact AH (hQ _ ((x2.push _).push _))
end
def Itv (K:AM) (a1:Addr) (n:Nat):It :=
 ⟨fun i H=>∃ xs x,SqT K H a1 xs/\xs.length=n/\i < n/\xs[n - 1 - i]?=some x,
  fun i H v H'=>H'=H/\∀ xs,SqT K H a1 xs->xs[n - 1 - i]?=some v,
  fun i H=>i=n⟩
theorem zNV{P:Ai}{w:Ax}{K:AM}{tg:Expr}{e a1:Addr}(n:Nat)(hle:a1≠e) :
  Turn P w K tg (Itv K a1 n) [e] e (fun i h=>IsRv h e a1 ((n:Int) - 1 - (i:Int))) where
 mem:=by simp
 obj:=fun i h st c hc=>by
  have q:c=e:=by simpa using hc
  exact⟨_,q ▸ st,fun v z=>by cases z⟩
 keep:=fun i h h' st k=>k e (by simp) _ st
 item:=by
  intro X hP hw hK hc i pins s σ H E I hf st hg
  subst hP hw hK
  obtain⟨xs,x,h1,hn,hi,hx⟩:=hg
  obtain⟨its1,v1,o1,z1⟩:=I.tuple h1
  obtain⟨u1,e1,r1⟩:=v1.get hx
  have l1:=v1.length
  have ei:(n:Int) - 1 - (i:Int)=((n - 1 - i:Nat):Int):=by lia
  have st':IsRv s.heap e a1 ((n - 1 - i:Nat):Int):=by rw[← ei]; exact st
  obtain⟨f0,f1,f2,f3,f4,f5⟩:=hf e (by simp)
  refine zGS (xs:=its1.toArray) st' (show s.heap.IsTuple a1 its1.toArray from o1) (by rw[AO]; lia) (by simpa using e1) fun h' tk he sb=>?_
  have I1:Inv X pins σ H { s with heap:=h',toks:=tk }:=I.turned (t':=tk) (fun b o hb q=>(sb.2 b hb).trans q) f0 f1 f3 f4 f5
  have he':IsRv h' e a1 ((n:Int) - 1 - ((i+1:Nat):Int)):=by
   have:(n:Int) - 1 - ((i+1:Nat):Int)=((n - 1 - i:Nat):Int) - 1:=by lia
   rw[this]; exact he
  exact⟨u1,rfl,zDg (s:={ s with heap:=h',toks:=tk }) he' rfl rfl (by decide) ⟨x,H,I1,r1,⟨rfl,fun ys hy=>by rw[I.tuple_inj hy h1]; exact hx⟩,he',fun b hb=>(hf b hb).1⟩⟩
 done:=by
  intro X hP hw hK hc i pins s σ H E I hf st hg
  subst hP hw hK
  have hg:i=n:=hg
  subst hg
  obtain⟨f0,f1,f2,f3,f4,f5⟩:=hf e (by simp)
  have st':IsRv s.heap e a1 (-1):=by
   have:(i:Int) - 1 - (i:Int)=-1:=by lia
   rw[← this]; exact st
  exact zIr (I.ok.hd hc) st' fun h' eb=>⟨rfl,I.turned (t':=s.toks) (fun b o hb q=>eb b o hb q) f0 f1 f3 f4 f5⟩
 self:=fun _ _ _ _ _ st h=>zBw st h
section
variable {X:Cx}{tg:Expr}
def iRevU (K:AM) (ta:TA):TI:=fun σ H R=>ta σ H fun vs H1=>∃ (a1:Addr) (xs:List V),vs=[.ref a1]/\SqT K H1 a1 xs/\R (Itv K a1 xs.length) H1
theorem zM1{e1:Expr}{ta:TA}{p pos:Pos}(hg:Gl X "reversed")(hm:X.mg "reversed"=none)(ha:PA X [e1] ta)(hs:AU [e1] X.env=[(false,eval e1 X.env)]:=by rfl) :
  PI X tg (.Call (.Name "reversed" p) [e1] [] pos) (iRevU X.K ta):=by
 intro pins s σ H R I h
 refine GN (zAx I hg hm HE (Av (thn (ha pos pins s σ H _ I h) fun us s1 ⟨vs,H1,I1,r1,q1⟩=>?_) (by rw[hs]; rfl) (by rfl)))
 obtain⟨a1,xs,e,h1,q⟩:=q1
 subst e
 obtain⟨u1,e,r⟩:=r1.one
 subst e
 cases r
 obtain⟨its1,v1,o1,z1⟩:=I1.tuple h1
 have l1:=v1.length
 have lt1:a1 < s1.heap.objs.size:=by obtain⟨o,e,_⟩:=(show s1.heap.IsTuple a1 its1.toArray from o1); exact AJ e
 refine zLb (show s1.heap.IsTuple a1 its1.toArray from o1) (by rw[AO]; lia) fun h' tk st hk=>?_
 have st':IsRv h' s1.heap.objs.size a1 ((xs.length:Int) - 1 - ((0:Nat):Int)):=by
  have:((xs.length:Int) - 1 - ((0:Nat):Int))=(its1.toArray.size:Int) - 1:=by rw[AO]; lia
  rw[this]; exact st
 refine zBw st' ?_
 refine⟨_,_,_,_,H1,rfl,I1.kept (t':=tk) hk,zNV xs.length (Ag lt1),st',fun c hc=>?_,q⟩
 have e:c=s1.heap.objs.size:=by simpa using hc
 subst e
 exact I1.fpOk (AK _) (I1.hok.fresh (AK _))
end
end L2
namespace D
open PySem L2
def dRev (fa:DA):DI:=fun Γ=>(fa Γ).bind fun p=>match p.1 with
 | [.v (.t xs)]=>gd xs.length ((xs.reverse,[]),p.2)
 | _=>none
section
variable {K:Fg}
theorem zKe(ha:SimA K ta fa):SimI K (iRevU K ta) (dRev fa):=by
 intro C w Γ σ H its src Γ' R Rp e k
 obtain⟨⟨as,G1⟩,e1,e⟩:=bind_some e
 dsimp only at e
 split at e
 ·rename_i xs
  obtain⟨hz,e⟩:=zA8 e
  cases e
  refine ha C w Γ σ H _ _ _ Rp e1 fun vs H1 R1 ev1 o1 n1=>?_
  obtain⟨v,rfl,o2⟩:=soks1 o1
  obtain⟨p,vs,rfl,h1,i1⟩:=o2.invt
  refine⟨p,vs,rfl,h1.sq,k _ H1 R1 ev1 ⟨by simpa using hz,fun L' hs av H2 ev=>?_⟩⟩
  have hL:LL L' H1:=fun q hq=>R1.lst q (hs q hq)
  have h2:=(zB7 ev hL h1).sq
  have i2:=i1.evo ev hL
  have l2:=i2.len
  refine⟨fun i t e=>?_,by show _=_; simp[l2]⟩
  have hi:i < xs.length:=by simpa using (Ac.mp e).1
  rw[EU hi]at e
  obtain⟨v,e3,hv⟩:=i2.get e
  refine⟨⟨vs,v,h2,rfl,by lia,by rw[l2]; exact e3⟩,fun x H3 y=>?_⟩
  obtain⟨rfl,k1⟩:=y
  have q1:=k1 vs h2
  rw[l2,e3]at q1; cases q1
  exact⟨fun b o e=>e,hv⟩
 ·cases e
end
section
variable {ι:Type}{K:Fg}{X:ι->Cx}{mg:Str->Option AD}{k:Nat}{a:Expr}{da:DA}{p pos:Pos}
theorem zOx(M:Fm K mg k X)(hm:mg "reversed"=none)(ha:AX K X [a] da)(hg:∀ j,Gl (X j) "reversed":=by intro _; rfl)(hs:∀ j,AU [a] (X j).env=[(false,eval a (X j).env)]:=by intro _; rfl) :
  IX K X tg (.Call (.Name "reversed" p) [a] [] pos) (dRev da) :=
 let ⟨t,q,u⟩:=ha; ⟨iRevU K t,fun j=>by have:=zM1 (tg:=tg) (p:=p) (pos:=pos) (hg j) (by rw[M.mg]; exact hm) (q j) (hs j); rw[M.K j]at this; exact this,zKe u⟩
end
noncomputable def insI (x:Int):List Int->List Int
 | []=>[x]
 | y::r=>if x<=y then x::y::r else y::insI x r
def sortI:List Int->List Int
 | []=>[]
 | x::r=>insI x (sortI r)
theorem zCl(x:Int):∀ l,(insI x l).Perm (x::l)
 | []=>.refl _
 | y::r=>by
  unfold insI
  split
  ·exact .refl _
  ·exact ((zCl x r).cons y).trans (Kt x y r)
theorem zDw:∀ l,(sortI l).Perm l
 | []=>.refl _
 | x::r=>(zCl x _).trans ((zDw r).cons x)
theorem zDK(x:Int):∀ l:List Int,l.Pairwise (·<=·)->(insI x l).Pairwise (·<=·)
 | [],_=>by simp[insI]
 | y::r,h=>by
  unfold insI
  have h':=C3.mp h
  split
  ·rename_i hx
   exact C3.mpr ⟨fun z hz=>by
    rcases AL.mp hz with e | e
    ·lia
    ·have:=h'.1 z e; lia,h⟩
  ·rename_i hx
   exact C3.mpr ⟨fun z hz=>by
    have:=(zCl x r).subset hz
    rcases AL.mp this with e | e
    ·lia
    ·exact h'.1 z e,zDK x r h'.2⟩
theorem zCr:∀ l,(sortI l).Pairwise (·<=·)
 | []=>.nil
 | x::r=>zDK x _ (zCr r)
theorem zDn:∀ {a b:List Int},a.Perm b->a.Pairwise (·<=·)->b.Pairwise (·<=·)->a=b
 | [],b,p,_,_=>(List.nil_perm.mp p).symm
 | x::r,[],p,_,_=>by have:=p.length_eq; simp at this
 | x::r,y::s,p,ha,hb=>by
  have ha':=C3.mp ha
  have hb':=C3.mp hb
  have e:x=y:=by
   have h1:x∈y::s:=p.subset AY
   have h2:y∈x::r:=p.symm.subset AY
   rcases AL.mp h1 with e | e
   ·exact e
   ·rcases AL.mp h2 with f | f
    ·exact f.symm
    ·have:=ha'.1 y f; have:=hb'.1 x e; lia
  subst e
  rw[zDn ((List.perm_cons x).mp p) ha'.2 hb'.2]
noncomputable def intsOf:List T->Option (List Int)
 | []=>some []
 | .a (.int n)::r=>(intsOf r).map fun ns=>n::ns
 | _::_=>none
theorem zCg:∀ {xs:List T} {ns:List Int},intsOf xs=some ns->xs=(ns.map V.int).map T.a
 | [],ns,e=>by cases e; rfl
 | x::r,ns,e=>by
  unfold intsOf at e
  split at e
  ·rename_i h; cases h
  ·rename_i n r' h
   cases h
   obtain⟨ms,e1,e⟩:=zAA e
   subst e
   rw[zCg e1]; rfl
  ·cases e
def sortedS:En->List S->Option S:=fun Γ as=>match as with
 | [a]=>(seqS Γ a).bind fun xs=>(intsOf xs).bind fun ns=>if ns.length < 64 then some (.l ((sortI ns).map fun n=>.a (.int n))) else none
 | _=>none
theorem zFa:SimRs K (fun xs H Q=>∃ (p:Addr) (ns:List Int),xs=[.ref p]/\(SqL K H p (ns.map V.int)\/SqT K H p (ns.map V.int))/\ns.length < 64/\∀ (l:Addr) (ns':List Int),H l=none->ns'.Perm ns->ns'.Pairwise (·<=·)->Q (.ref l) (upd H l (.lst (ns'.map V.int)))) sortedS:=by
 intro C w Γ σ H vs as s Q R o e k
 unfold sortedS at e
 split at e
 ·obtain⟨xs,e1,e⟩:=bind_some e
  obtain⟨ns,e2,e⟩:=bind_some e
  split at e
  ·rename_i hl
   cases e
   obtain⟨v,rfl,o1⟩:=soks1 o
   obtain⟨p,us,rfl,h1,i1⟩:=zDm R o1 e1
   have hu:us=ns.map V.int:=by rw[zCg e2]at i1; exact i1.of_atoms
   subst hu
   refine⟨p,ns,rfl,h1,hl,fun l ns' hl' hp hs=>?_⟩
   have:ns'=sortI ns:=zDn (hp.trans (zDw ns).symm) hs (zCr ns)
   subst this
   have hi:Ims K H ((sortI ns).map V.int) ((sortI ns).map fun n=>T.a (.int n)):=by
    have:=Ims.atoms (K:=K) (H:=H) ((sortI ns).map V.int)
    rwa [Gg]at this
   exact k _ _ (R.new hl') (Evo.new hl') (R.newl hl' hi) ⟨l,rfl,hl'⟩
  ·cases e
 ·cases e
section
variable {ι:Type}{K:Fg}{X:ι->Cx}{mg:Str->Option AD}{k:Nat}
theorem zJh(M:Fm K mg k X):CalR K X (.builtin "sorted") sortedS:=⟨_,fun j=>by have:=zF8 (X:=X j); rw[M.K j]at this; exact this,zFa⟩
end
end D
namespace L2
open PySem
section
variable {X:Cx}
theorem zOZ:OpR X (BY .Is) (fun x y H Q=>∃ a b:Bool,x=.bl a/\y=.bl b/\Q (.bl (decide (a=b))) H):=by
 intro pins s σ H x y v u Q I rx ry h
 obtain⟨a,b,rfl,rfl,q⟩:=h
 cases rx; cases ry
 exact wpAny_is_plain rfl (zAI I q (by cases a <;> cases b <;> rfl))
theorem zMp:OpR X (BY .IsNot) (fun x y H Q=>∃ a b:Bool,x=.bl a/\y=.bl b/\Q (.bl (!decide (a=b))) H):=by
 intro pins s σ H x y v u Q I rx ry h
 obtain⟨a,b,rfl,rfl,q⟩:=h
 cases rx; cases ry
 exact wpAny_isNot_plain rfl (zAI I q (by cases a <;> cases b <;> rfl))
end
end L2
namespace D
open PySem L2
def isBS (neg:Bool):En->S->S->Option S:=fun _ a b=>match a,b with
 | .v (.a (.bl x)),.v (.a (.bl y))=>some (mkB (if neg then !decide (x=y) else decide (x=y)))
 | _,_=>none
theorem zKE:SimR2 K (fun x y H Q=>∃ a b:Bool,x=.bl a/\y=.bl b/\Q (.bl (decide (a=b))) H) (isBS false):=by
 intro C w Γ σ H x y a b s Q R ox oy e k
 unfold isBS at e
 split at e
 ·cases e; exact⟨_,_,ox.inva,oy.inva,k _ H R .refl SOk.atom trivial⟩
 ·cases e
theorem zHj:SimR2 K (fun x y H Q=>∃ a b:Bool,x=.bl a/\y=.bl b/\Q (.bl (!decide (a=b))) H) (isBS true):=by
 intro C w Γ σ H x y a b s Q R ox oy e k
 unfold isBS at e
 split at e
 ·cases e; exact⟨_,_,ox.inva,oy.inva,k _ H R .refl SOk.atom trivial⟩
 ·cases e
section
variable {ι:Type}{K:Fg}{X:ι->Cx}
theorem zOz:CmpR K X .Is (isBS false):=⟨_,fun _=>zOZ,zKE⟩
theorem zJ1:CmpR K X .IsNot (isBS true):=⟨_,fun _=>zMp,zHj⟩
end
noncomputable def ixL {α:Type} (l:List α) (i:Nat):Option α:=l[i]?
@[simp,simp ↓] theorem zTy{α:Type}{x:α}{r:List α}:ixL (x::r) 0=some x:=rfl
@[simp,simp ↓] theorem zUD{α:Type}{x:α}{r:List α}:ixL (x::r) (n+1)=ixL r n:=rfl
@[simp high,simp ↓ high] theorem gd_1{α:Type}{x:α}:gd 1 x=some x:=rfl
@[simp high,simp ↓ high] theorem gd_2{α:Type}{x:α}:gd 2 x=some x:=rfl
@[simp high,simp ↓ high] theorem gd_3{α:Type}{x:α}:gd 3 x=some x:=rfl
@[simp high,simp ↓ high] theorem gd_4{α:Type}{x:α}:gd 4 x=some x:=rfl
class Kf (α β:Type) where
 k:α->Option β
class Kg (α β:Type) where
 k:α->β
noncomputable def bnd {α β:Type} (x:Option α) [f:Kf α β]:Option β:=x.bind f.k
@[simp,simp ↓] theorem zTr{α β:Type}{a:α}{f:α->Option β}:bnd (some a) (f:=⟨f⟩)=f a:=rfl
noncomputable def omp {α β:Type} (x:Option α) [f:Kg α β]:Option β:=x.map f.k
@[simp,simp ↓] theorem zT7{α β:Type}{a:α}{f:α->β}:omp (some a) (f:=⟨f⟩)=some (f a):=rfl
class Ka (α:Type) where
 v:α
noncomputable def ifB {α:Type} (b:Bool) [x:Ka α] [y:Ka α]:α:=if b=true then x.v else y.v
@[simp high,simp ↓ high] theorem zTv{α:Type}{x:α}{y:Ka α}:ifB true (x:=⟨x⟩) (y:=y)=x:=rfl
@[simp high,simp ↓ high] theorem zTx{α:Type}{x:Ka α}{y:α}:ifB false (x:=x) (y:=⟨y⟩)=y:=rfl
noncomputable def ifO {α:Type} (p:Option Nat) (k:Nat) (x y:α):α:=if p=some k then x else y
@[simp high,simp ↓ high] theorem zTt{α:Type}{x y:α}:ifO none k x y=y:=rfl
noncomputable def ifN {α:Type} (m n:Nat) (x y:α):α:=if m=n then x else y
noncomputable def ifM {α:Type} (i:Nat) (l:List Nat) (x y:α):α:=if i∈l then x else y
@[simp high,simp ↓ high] theorem zUI{α:Type}{x y:α}:ifM i [] x y=y:=rfl
noncomputable def apE {α:Type} (l:List α):List α:=l++[]
@[simp,simp ↓] theorem zUG{α:Type}:apE ([]:List α)=[]:=rfl
@[simp,simp ↓] theorem zTo{α:Type}{x:α}{r:List α}:apE (x::r)=x::apE r:=rfl
@[simp high,simp ↓ high] theorem zTQ{α:Type}{x y:α}:ifO (some 0) 0 x y=x:=rfl
@[simp high,simp ↓ high] theorem zUA{α:Type}{x y:α}:ifN 2 2 x y=x:=rfl
@[simp high,simp ↓ high] theorem zTw{α:Type}{x y:α}:ifN 3 3 x y=x:=rfl
section
variable {f g:DS}{fa fb fc fi:DE}{da fr:DA}{ta tb:DT}{Γ:En}{i j k:Nat}{h h':En->S->S->Option S}
@[simp,simp ↓] theorem zNH:dSeq f g Γ=bnd (f Γ) (f:=⟨fun o=>match o with | .nx Γ'=>g Γ' | o=>some o⟩):=rfl
@[simp,simp ↓] theorem zRr:dNext Γ=some (.nx Γ):=rfl
@[simp,simp ↓] theorem zSM:dRet fa Γ=omp (fa Γ) (f:=⟨fun p=>.rt p.1 p.2⟩):=rfl
@[simp,simp ↓] theorem zR6:dDrop fa Γ=omp (fa Γ) (f:=⟨fun p=>.nx p.2⟩):=rfl
@[simp,simp ↓] theorem zTp:dIf ta f g Γ=bnd (ta Γ) (f:=⟨fun p=>ifB p.1 (x:=⟨(f p.2)⟩) (y:=⟨(g p.2)⟩)⟩):=rfl
@[simp,simp ↓] theorem zSK:dSet i fa Γ=bnd (fa Γ) (f:=⟨fun p=>omp (setS i p.1 p.2) (f:=⟨.nx⟩)⟩):=rfl
@[simp,simp ↓] theorem zTL:setS i (.v t) Γ=some (Γ.set i (some (.v t))):=rfl
@[simp,simp ↓] theorem zTf:setS i (.l t) Γ=some (Γ.set i (some (.l t))):=rfl
@[simp,simp ↓] theorem zSZ:jV i Γ=match ixL Γ i with
 | some (some (.v t))=>some (.v t,Γ)
 | some (some (.l _))=>some (.s i,Γ)
 | some (some (.r _))=>some (.s i,Γ)
 | some (some (.k _))=>some (.s i,Γ)
 | some (some (.d _))=>some (.s i,Γ)
 | some (some (.e _))=>some (.s i,Γ)
 | _=>none:=rfl
@[simp,simp ↓] theorem zTs:dC v Γ=some (.v (.a v),Γ):=rfl
@[simp,simp ↓] theorem zTW:dOp h fa fb Γ=bnd (fa Γ) (f:=⟨fun p=>bnd (fb p.2) (f:=⟨fun q=>omp (h q.2 p.1 q.1) (f:=⟨fun s=>(s,q.2)⟩)⟩)⟩):=rfl
@[simp,simp ↓] theorem zTS{h:En->S->Option S}:dUn h fa Γ=bnd (fa Γ) (f:=⟨fun p=>omp (h p.2 p.1) (f:=⟨fun s=>(s,p.2)⟩)⟩):=rfl
@[simp,simp ↓] theorem zTl{h:En->List S->Option S}:dCB h da Γ=bnd (da Γ) (f:=⟨fun p=>omp (h p.2 p.1) (f:=⟨fun s=>(s,p.2)⟩)⟩):=rfl
@[simp,simp ↓] theorem zSO:qQ Γ=some ([],Γ):=rfl
@[simp,simp ↓] theorem zR0:jW fa fr Γ=bnd (fa Γ) (f:=⟨fun p=>bnd (fr p.2) (f:=⟨fun q=>some (p.1::q.1,q.2)⟩)⟩):=rfl
@[simp,simp ↓] theorem zPy:S.tree (.v t)=some t:=rfl
@[simp,simp ↓] theorem zRk:trees []=some []:=rfl
@[simp,simp ↓] theorem zRb:trees (.v t::r)=omp (trees r) (f:=⟨fun ts=>t::ts⟩):=rfl
theorem zD7:AC=16777216:=Bz
@[simp,simp ↓] theorem zSc:dTup da Γ=bnd (da Γ) (f:=⟨fun p=>bnd (trees p.1) (f:=⟨fun ts=>gd ts.length (.v (.t ts),p.2)⟩)⟩):=rfl
@[simp,simp ↓] theorem zSQ:dLst da Γ=bnd (da Γ) (f:=⟨fun p=>bnd (trees p.1) (f:=⟨fun ts=>gd ts.length (.l ts,p.2)⟩)⟩):=rfl
@[simp,simp ↓] theorem zRt:dTest fa Γ=bnd (fa Γ) (f:=⟨fun p=>match p.1 with | .v (.a (.bl b))=>some (b,p.2) | _=>none⟩):=rfl
@[simp,simp ↓] theorem zSy:dAnd ta tb Γ=bnd (ta Γ) (f:=⟨fun p=>ifB p.1 (x:=⟨(tb p.2)⟩) (y:=⟨(some (false,p.2))⟩)⟩):=rfl
@[simp,simp ↓] theorem zUB:dOr ta tb Γ=bnd (ta Γ) (f:=⟨fun p=>ifB p.1 (x:=⟨(some (true,p.2))⟩) (y:=⟨(tb p.2)⟩)⟩):=rfl
@[simp,simp ↓] theorem zSm:dNot ta Γ=bnd (ta Γ) (f:=⟨fun p=>some (!p.1,p.2)⟩):=rfl
@[simp,simp ↓] theorem zSo:dAndV fa fb Γ=bnd (dTest fa Γ) (f:=⟨fun p=>ifB p.1 (x:=⟨(fb p.2)⟩) (y:=⟨(some (.v (.a (.bl false)),p.2))⟩)⟩):=rfl
@[simp,simp ↓] theorem zTG:dOrV fa fb Γ=bnd (dTest fa Γ) (f:=⟨fun p=>ifB p.1 (x:=⟨(some (.v (.a (.bl true)),p.2))⟩) (y:=⟨(fb p.2)⟩)⟩):=rfl
@[simp,simp ↓] theorem zR8:dNotV fa Γ=bnd (dTest fa Γ) (f:=⟨fun p=>some (.v (.a (.bl !p.1)),p.2)⟩):=rfl
@[simp,simp ↓] theorem zTm:dIfE ta fa fb Γ=bnd (ta Γ) (f:=⟨fun p=>ifB p.1 (x:=⟨(fa p.2)⟩) (y:=⟨(fb p.2)⟩)⟩):=rfl
@[simp,simp ↓] theorem zTR{h:En->List T->List S->Option (T×List T)}:dMut i h da Γ=ifB (isLs Γ i) (x:=⟨(bnd (da Γ) (f:=⟨fun p=>match ixL p.2 i with
 | some (some (.l xs))=>bnd (gd xs.length ()) (f:=⟨fun _=>omp (h p.2 xs p.1) (f:=⟨fun q=>(.v q.1,p.2.set i (some (.l q.2)))⟩)⟩)
 | _=>none⟩))⟩) (y:=⟨none⟩):=rfl
@[simp,simp ↓] theorem zSL:isLs Γ i=match ixL Γ i with | some (some (.l _))=>true | _=>false:=rfl
@[simp,simp ↓] theorem zRz:dSetIx i fa fi Γ=bnd (fa Γ) (f:=⟨fun p=>bnd p.1.tree (f:=⟨fun t=>ifB (isLs p.2 i) (x:=⟨(bnd (fi p.2) (f:=⟨fun q=>bnd (iS q.1) (f:=⟨fun k=>match ixL q.2 i with
  | some (some (.l xs))=>omp (ixN xs.length k) (f:=⟨fun j=>.nx (q.2.set i (some (.l (xs.set j t))))⟩)
  | _=>none⟩)⟩))⟩) (y:=⟨none⟩)⟩)⟩):=rfl
@[simp,simp ↓] theorem zQr:iS (.v (.a (.int n)))=some n:=rfl
@[simp] theorem zLc{c:Int->Int->Prop} [∀ i j,Decidable (c i j)] {g:Int->Int->V} {xs:List T} {b:S}:opIIc c g Γ (.l xs) b=none:=(rfl)
@[simp,simp ↓] theorem zSX:addS Γ (.v (.a (.int m))) (.v (.a (.int n)))=some (.v (.a (.int (m+n)))):=rfl
@[simp] theorem zSb:addS Γ (.v (.t xs)) (.v (.t ys))=gd (xs.length+ys.length) (.v (.t (xs++ys))):=by
 show ((none:Option S).or ((addTup Γ (.v (.t xs)) (.v (.t ys))).or ((none:Option S).or none)))=_
 simp[addTup]
@[simp] theorem zTd:addS Γ (.s m) b=addLst Γ (.s m) b:=by
 show ((none:Option S).or ((none:Option S).or ((addLst Γ (.s m) b).or none)))=_
 simp
@[simp] theorem zS6:addS Γ (.l xs) b=addLst Γ (.l xs) b:=by
 show ((none:Option S).or ((none:Option S).or ((addLst Γ (.l xs) b).or none)))=_
 simp
@[simp,simp ↓] theorem zRp:addLst Γ a b=bnd (lsOf Γ a) (f:=⟨fun xs=>bnd (lsOf Γ b) (f:=⟨fun ys=>gd (xs.length+ys.length) (.l (xs++ys))⟩)⟩):=rfl
@[simp,simp ↓] theorem zSW:subS Γ (.v (.a (.int m))) (.v (.a (.int n)))=some (.v (.a (.int (m - n)))):=rfl
@[simp] theorem zSh:mulS Γ (.v (.a (.int m))) (.v (.a (.int n)))=if CMul m n then some (.v (.a (.int (m * n)))) else none:=by
 show ((if CMul m n then some _ else none).or (none:Option S))=_
 simp
theorem zK9{l n:Nat}(h:l * n<=100000)(h2:n<=100000):fitM l (n:Int)=true:=by
 unfold fitM
 rw[zCC (by lia),Bm,Ey]
 exact Eb (Al h (by decide))
theorem zLm(xs:List T)(n:Nat)(h:xs.length * n<=100000)(h2:n<=100000):mulS Γ (.l xs) (.v (.a (.int (n:Int))))=some (.l (Ah n xs).flatten):=by
 have e:mulS Γ (.l xs) (.v (.a (.int (n:Int))))=mulLst Γ (.l xs) (.v (.a (.int (n:Int)))):=by unfold mulS; rw[zLc,Cg]
 rw[e]
 unfold mulLst
 have e1:lsOf Γ (.l xs)=some xs:=rfl
 rw[e1,Ae,zQr,Ae,if_pos (zK9 h h2),Bm]
@[simp] theorem zSg:modS Γ (.v (.a (.int m))) (.v (.a (.int n)))=if 0 < n then some (.v (.a (.int (m % n)))) else none:=(rfl)
@[simp] theorem zR5:fdivS Γ (.v (.a (.int m))) (.v (.a (.int n)))=if CDiv m n then some (.v (.a (.int (m / n)))) else none:=(rfl)
@[simp] theorem zSY:powS Γ (.v (.a (.int m))) (.v (.a (.int n)))=if CPow m n then some (.v (.a (.int (m ^ n.toNat)))) else none:=(rfl)
@[simp,simp ↓] theorem zS1:ltS Γ (.v (.a (.int m))) (.v (.a (.int n)))=some (.v (.a (.bl (decide (m < n))))):=rfl
@[simp,simp ↓] theorem zTI:gtS Γ (.v (.a (.int m))) (.v (.a (.int n)))=some (.v (.a (.bl (decide (n < m))))):=rfl
@[simp,simp ↓] theorem zSq:geS Γ (.v (.a (.int m))) (.v (.a (.int n)))=some (.v (.a (.bl (decide (n<=m))))):=rfl
@[simp,simp ↓] theorem zSw:negS Γ (.v (.a (.int m)))=some (.v (.a (.int (-m)))):=rfl
@[simp,simp ↓] theorem zUH:ixS Γ (.v (.t xs)) (.v (.a (.int n)))=omp (atI xs n) (f:=⟨.v⟩):=rfl
@[simp,simp ↓] theorem zUJ:ixS Γ (.l xs) (.v (.a (.int n)))=omp (atI xs n) (f:=⟨.v⟩):=rfl
@[simp,simp ↓] theorem zUC:ixS Γ (.s m) (.v (.a (.int n)))=bnd (sqlOf Γ (.s m)) (f:=⟨fun xs=>omp (atI xs n) (f:=⟨.v⟩)⟩):=rfl
@[simp,simp ↓] theorem zSP:sqlOf Γ (.s m)=match ixL Γ m with
  | some (some (.l xs))=>some xs
  | some (some (.r xs))=>some xs
  | some (some (.k xs))=>some xs
  | _=>none:=rfl
@[simp,simp ↓] theorem zNt:sqlOf Γ (.l xs)=some xs:=rfl
@[simp,simp ↓] theorem zS9:lsOf Γ (.l xs)=some xs:=rfl
@[simp,simp ↓] theorem zTB:lsOf Γ (.s m)=match ixL Γ m with
  | some (some (.l xs))=>some xs
  | some (some (.r xs))=>some xs
  | _=>none:=rfl
@[simp,simp ↓] theorem zTJ:lenS Γ [.v (.t xs)]=some (.v (.a (.int xs.length))):=rfl
@[simp,simp ↓] theorem zSz:lenS Γ [.l xs]=some (.v (.a (.int xs.length))):=rfl
@[simp,simp ↓] theorem zTC:lenS Γ [.s m]=omp (sqlOf Γ (.s m)) (f:=⟨fun xs=>.v (.a (.int xs.length))⟩):=rfl
@[simp,simp ↓] theorem zSI:tupleS Γ [.l xs]=some (.v (.t xs)):=rfl
@[simp,simp ↓] theorem zR2:tupleS Γ [.s m]=omp (sqlOf Γ (.s m)) (f:=⟨fun xs=>.v (.t xs)⟩):=rfl
@[simp,simp ↓] theorem zRQ:dNoPart Γ=some (none,Γ):=rfl
@[simp,simp ↓] theorem zSF:dPart fa Γ=bnd (fa Γ) (f:=⟨fun p=>omp (iS p.1) (f:=⟨fun i=>(some i,p.2)⟩)⟩):=rfl
@[simp,simp ↓] theorem zSx:dSl fa lo hi Γ=bnd (fa Γ) (f:=⟨fun p=>bnd (lo p.2) (f:=⟨fun l=>bnd (hi l.2) (f:=⟨fun h=>omp (slS h.2 l.1 h.1 p.1) (f:=⟨fun s=>(s,h.2)⟩)⟩)⟩)⟩):=rfl
@[simp,simp ↓] theorem zT6:slS Γ lo hi (.v (.t xs))=some (.v (.t (cutT xs lo hi))):=rfl
@[simp,simp ↓] theorem zT9:slS Γ lo hi (.s m)=omp (sqlOf Γ (.s m)) (f:=⟨fun xs=>.l (cutT xs lo hi)⟩):=rfl
@[simp,simp ↓] theorem zRn:hAppend Γ xs [.v t]=if xs.length < AC then some (.a .non,xs++[t]) else none:=rfl
@[simp,simp ↓] theorem zTP:hPop Γ xs []=omp (xs[xs.length - 1]?) (f:=⟨fun t=>(t,xs.dropLast)⟩):=rfl
@[simp] theorem zSB:hPopAt Γ xs [.v (.a (.int n))]=if inR 9223372036854775807 n=true then bnd (FI n xs.length) (f:=⟨fun k=>omp (xs[k]?) (f:=⟨fun t=>(t,xs.eraseIdx k)⟩)⟩) else none:=rfl
@[simp,simp ↓] theorem zTF:intS Γ [.v (.a (.bl b))]=some (.v (.a (.int (if b then 1 else 0)))):=rfl
@[simp,simp ↓] theorem zSE:max2S Γ [.v (.a (.int m)),.v (.a (.int n))]=some (.v (.a (.int (if n > m then n else m)))):=rfl
@[simp] theorem zRl:dIndex fo da Γ=bnd (fo Γ) (f:=⟨fun p=>bnd (da p.2) (f:=⟨fun q=>match p.1,q.1 with
 | .v (.t xs),[.v (.a y)]=>bnd (atomsOf xs) (f:=⟨fun vs=>if flatV y=true/\vs.all flatV=true then omp (vs.findIdx? fun z=>eqV z y) (f:=⟨fun j=>(mkI (j:Nat),q.2)⟩) else none⟩)
 | _,_=>none⟩)⟩):=rfl
@[simp,simp ↓] theorem zTe:mkI n=.v (.a (.int n)):=rfl
@[simp,simp ↓] theorem zTZ:mkB b=.v (.a (.bl b)):=rfl
@[simp] theorem zQC:dListRng da Γ=bnd (da Γ) (f:=⟨fun p=>omp (rngS p.1) (f:=⟨fun xs=>(.l xs,p.2)⟩)⟩):=rfl
@[simp] theorem zQv:dTupRng da Γ=bnd (da Γ) (f:=⟨fun p=>omp (rngS p.1) (f:=⟨fun xs=>(.v (.t xs),p.2)⟩)⟩):=rfl
theorem zA9(n:Nat)(h:n<=100000):rngS [.v (.a (.int (n:Int)))]=some (rngT 0 n):=by
 unfold rngS
 dsimp only
 rw[zCC (by lia),Bm,Ey,Eb (Al h (by decide)),if_pos rfl]
theorem zJA(m n:Nat)(h1:m<=100000)(h:n<=100000):rngS [.v (.a (.int (m:Int))),.v (.a (.int (n:Int)))]=some (rngT m (n - m)):=by
 unfold rngS
 dsimp only
 have e:((n:Int) - (m:Int)).toNat=n - m:=by lia
 rw[zCC (by lia),zCC (by lia),e,Ey,Ey,Eb (Al (show n - m<=100000 by lia) (by decide)),if_pos rfl]
@[simp] theorem zSJ:dRng1 da Γ=(da Γ).bind fun p=>if p.1.length=1 then (rngS p.1).map fun xs=>((xs,[]),p.2) else none:=by
 unfold dRng1
 congr 1
 funext p
 obtain⟨as,G⟩:=p
 match as with
 | []=>rfl
 | [a] =>
  match a with
  | .v (.a (.int j))=>simp only[rngS,ES,if_true]; split <;> rfl
  | .v (.a .non)=>rfl
  | .v (.a (.bl _))=>rfl
  | .v (.a (.str _))=>rfl
  | .v (.a (.byt _))=>rfl
  | .v (.a (.flt _))=>rfl
  | .v (.a (.ref _))=>rfl
  | .v (.a (.ty _))=>rfl
  | .v (.t _)=>rfl
  | .v (.l _)=>rfl
  | .v (.f _)=>rfl
  | .v (.x _ _)=>rfl
  | .v (.m _ _)=>rfl
  | .l _=>rfl
  | .s _=>rfl
  | .d _=>rfl
 | a::b::r =>
  have:¬ (a::b::r).length=1:=by simp
  rw[if_neg this]
  dsimp only
  split
  ·rename_i h; simp at h
  ·rfl
@[simp,simp ↓] theorem zRx:dSeqI fa Γ=bnd (fa Γ) (f:=⟨fun p=>bnd (seqS p.2 p.1) (f:=⟨fun xs=>gd xs.length ((xs,srcS p.2 p.1),p.2)⟩)⟩):=rfl
@[simp,simp ↓] theorem zTA:seqS Γ (.v (.t xs))=some xs:=rfl
@[simp,simp ↓] theorem zTN:seqS Γ (.l xs)=some xs:=rfl
@[simp,simp ↓] theorem zTM:seqS Γ (.s m)=sqlOf Γ (.s m):=rfl
@[simp,simp ↓] theorem zTk:srcS Γ (.v t)=[]:=rfl
@[simp,simp ↓] theorem zTV:srcS Γ (.l t)=[]:=rfl
@[simp,simp ↓] theorem zTb:srcS Γ (.s m)=match ixL Γ m with | some (some (.l _))=>[m] | _=>[]:=rfl
@[simp,simp ↓] theorem zN7:dYes Γ=some (true,Γ):=rfl
@[simp,simp ↓] theorem zSe:dTru fa Γ=bnd (fa Γ) (f:=⟨fun p=>omp (truS p.2 p.1) (f:=⟨fun b=>(b,p.2)⟩)⟩):=rfl
@[simp,simp ↓] theorem zTh:truS Γ (.v (.a (.bl b)))=some b:=rfl
@[simp,simp ↓] theorem zS5:truS Γ (.s m)=omp (sqlOf Γ (.s m)) (f:=⟨fun xs=>!xs.isEmpty⟩):=rfl
@[simp] theorem zRu:dPar2 i j da Γ=bnd (da Γ) (f:=⟨fun p=>match p.1 with
  | [.v a,.v b]=>some (.nx ((p.2.set i (some (.v a))).set j (some (.v b))))
  | _=>none⟩):=rfl
@[simp,simp ↓] theorem zSV:dUnp tg fa Γ=bnd (fa Γ) (f:=⟨fun p=>bnd p.1.tree (f:=⟨fun t=>omp (tg p.2 t) (f:=⟨.nx⟩)⟩)⟩):=rfl
@[simp,simp ↓] theorem zBy:gdName i Γ t=some (Γ.set i (some (.v t))):=rfl
@[simp,simp ↓] theorem zR3:gdNil Γ []=some Γ:=rfl
@[simp,simp ↓] theorem zRi:gdCons p q Γ (t::r)=bnd (p Γ t) (f:=⟨fun Γ1=>q Γ1 r⟩):=rfl
@[simp,simp ↓] theorem zSf:gdTup i q Γ (.t ts)=ifN ts.length i (q Γ ts) none:=rfl
@[simp,simp ↓] theorem zST:dCall ip F [] da Γ=bnd (da Γ) (f:=⟨fun p=>ifB (onceS ip p.1) (x:=⟨(bnd (argsG ip p.2 0 (apE p.1)) (f:=⟨fun gs=>omp (F gs) (f:=⟨fun q=>(toS q.1,backS ip p.2 p.1 q.2)⟩)⟩))⟩) (y:=⟨none⟩)⟩):=rfl
@[simp,simp ↓] theorem zRo:argsG ip Γ k []=some []:=rfl
@[simp high,simp ↓ high] theorem zR7:argsG ip Γ 0 (s::r)=bnd (argG ip Γ 0 s) (f:=⟨fun g=>omp (argsG ip Γ 1 r) (f:=⟨fun gs=>g::gs⟩)⟩):=rfl
@[simp high,simp ↓ high] theorem zSD:argsG ip Γ 1 (s::r)=bnd (argG ip Γ 1 s) (f:=⟨fun g=>omp (argsG ip Γ 2 r) (f:=⟨fun gs=>g::gs⟩)⟩):=rfl
@[simp high,simp ↓ high] theorem zR1:argsG ip Γ 2 (s::r)=bnd (argG ip Γ 2 s) (f:=⟨fun g=>omp (argsG ip Γ 3 r) (f:=⟨fun gs=>g::gs⟩)⟩):=rfl
@[simp high,simp ↓ high] theorem zSH:argsG ip Γ 3 (s::r)=bnd (argG ip Γ 3 s) (f:=⟨fun g=>omp (argsG ip Γ 4 r) (f:=⟨fun gs=>g::gs⟩)⟩):=rfl
@[simp high,simp ↓ high] theorem zSC:argsG ip Γ 4 (s::r)=bnd (argG ip Γ 4 s) (f:=⟨fun g=>omp (argsG ip Γ 5 r) (f:=⟨fun gs=>g::gs⟩)⟩):=rfl
@[simp,simp ↓] theorem zTY:argG ip Γ k (.v t)=some (.v t):=rfl
@[simp,simp ↓] theorem zSj:argG ip Γ k (.l xs)=some (ifO ip k (.l xs) (.r xs)):=rfl
@[simp,simp ↓] theorem zTH:argG ip Γ k (.s m)=match ixL Γ m with
  | some (some (.l xs))=>some (ifO ip k (.l xs) (.r xs))
  | some (some (.r xs))=>ifO ip k none (some (.r xs))
  | some (some (.k xs))=>ifO ip k none (some (.k xs))
  | some (some (.d xs))=>ifO ip k none (some (.e xs))
  | some (some (.e xs))=>ifO ip k none (some (.e xs))
  | _=>none:=rfl
@[simp,simp ↓] theorem zS0:argG ip Γ k (.d xs)=if ip=some k then none else some (.e xs):=rfl
@[simp,simp ↓] theorem zSS:onceS none ss=true:=rfl
@[simp high,simp ↓ high] theorem zTu:(Kj ([]:List S) fun s=>!isSl i s)=true:=rfl
@[simp high,simp ↓ high] theorem zT0:(Kj (.v t::r) fun s=>!isSl i s)=r.all fun s=>!isSl i s:=rfl
@[simp,simp ↓] theorem zSU:onceS (some k) ss=match ixL ss k with
  | some (.s i)=>(ss.eraseIdx k).all fun s=>!isSl i s
  | some (.l _)=>(ss.eraseIdx k).all fun s=>!isTmp s
  | _=>false:=rfl
@[simp,simp ↓] theorem zSa:backS none Γ ss ys=Γ:=rfl
@[simp,simp ↓] theorem zSn:backS (some k) Γ ss ys=match ixL ss k with | some (.s i)=>Γ.set i (some (.l ys)) | _=>Γ:=rfl
@[simp,simp ↓] theorem zTn:toS (.v t)=.v t:=rfl
@[simp,simp ↓] theorem zUF:toS (.l t)=.l t:=rfl
@[simp,simp ↓] theorem zTj:outl none Γ=[]:=rfl
@[simp,simp ↓] theorem zSr:outl (some k) Γ=match ixL Γ k with | some (some (.l xs))=>xs | _=>[]:=rfl
@[simp,simp ↓] theorem zTU:resG ip Γ (.v t)=some (.v t):=rfl
@[simp,simp ↓] theorem zSt:resG ip Γ (.l t)=some (.l t):=rfl
@[simp,simp ↓] theorem zTD:resG ip Γ (.s i)=if ip=some i then none else match ixL Γ i with | some (some (.l xs))=>some (.l xs) | some (some (.d xs))=>some (.d xs) | _=>none:=rfl
@[simp,simp ↓] theorem zTX:allS Γ [.l xs]=omp (boolsOf xs) (f:=⟨fun bs=>.v (.a (.bl (bs.all id)))⟩):=rfl
end
theorem zAf{α:Type}{xs:List α}{n:Nat}:atI xs (n:Int)=xs[n]?:=by
 unfold atI ixN
 rw[if_pos (Int.natCast_nonneg n)]
 by_cases h:n < xs.length
 ·rw[if_pos (by lia)]; simp
 ·rw[if_neg (by lia),BH (by lia)]; rfl
@[simp] theorem zQ1{α:Type}{xs:List α}:atI xs 0=xs[0]?:=zAf (n:=0)
@[simp] theorem zTz{α:Type}{xs:List α}:atI xs 1=xs[1]?:=zAf (n:=1)
@[simp] theorem zT8{α:Type}{xs:List α}:atI xs 2=xs[2]?:=zAf (n:=2)
@[simp] theorem zUE{α:Type}{xs:List α}:atI xs 3=xs[3]?:=zAf (n:=3)
theorem zKC{α:Type}{xs:List α}(h:xs≠[]):atI xs (-1)=xs[xs.length - 1]?:=by
 have:0 < xs.length:=Cv.mpr h
 unfold atI ixN
 rw[if_neg (by lia),if_pos (by lia)]
 show xs[(-1+(xs.length:Int)).toNat]?=_
 congr 1
 lia
theorem zGW(h:j < n):ixN n (j:Int)=some j:=by
 unfold ixN; rw[if_pos (by lia),if_pos (by lia)]; simp
theorem zAC(h:n<=100000):n<=AC:=Al h (by decide)
theorem zGx(h:n<=100000):n < AC:=Ds h (by decide)
@[simp] noncomputable abbrev iT (n:Int):T:=.a (.int n)
@[simp] noncomputable abbrev bT (b:Bool):T:=.a (.bl b)
theorem zFv(ns:List Int){i:Int}(h0:0<=i)(h1:i < ns.length):∃ z,atI (intsT ns) i=some (iT z):=by
 obtain⟨j,rfl⟩:∃ j:Nat,i=j:=⟨i.toNat,by lia⟩
 exact⟨ns[j]'(by lia),by rw[zAf,intsT,Af,BP (by lia)]; rfl⟩
theorem zAd:dWhile c b (n+1) Γ=(c Γ).bind fun p=>if p.1=true then (b p.2).bind fun o=>match o with
   | .nx Γ'=>dWhile c b n Γ'
   | .ct Γ'=>dWhile c b n Γ'
   | .bk Γ'=>some (.nx Γ')
   | .rt s Γ'=>some (.rt s Γ')
  else some (.nx p.2):=(rfl)
theorem zBr:forD tg b [] Γ=some (.nx Γ):=(rfl)
theorem zBu:forD tg b (t::r) Γ=(tg Γ t).bind fun Γ1=>(b Γ1).bind fun o=>match o with
  | .nx Γ'=>forD tg b r Γ'
  | .ct Γ'=>forD tg b r Γ'
  | .bk Γ'=>some (.nx Γ')
  | .rt s Γ'=>some (.rt s Γ'):=(rfl)
theorem zAR:compD tg dc de [] Γ=some ([],Γ):=(rfl)
theorem zAL:compD tg dc de (t::r) Γ=(tg Γ t).bind fun Γ1=>(dc Γ1).bind fun p=>if p.1=true then (de p.2).bind fun q=>q.1.tree.bind fun t'=>(compD tg dc de r q.2).map fun z=>(t'::z.1,z.2) else compD tg dc de r p.2:=(rfl)
@[simp,simp ↓] theorem zSR:dComp none ix di tg dc de Γ=bnd (di Γ) (f:=⟨fun p=>omp (compD tg dc de p.1.1 (pick none ix p.2)) (f:=⟨fun z=>(.l z.1,p.2)⟩)⟩):=rfl
@[simp,simp ↓] theorem zSA:dComp (some (j,i)) ix di tg dc de Γ=bnd (di Γ) (f:=⟨fun p=>ifM i p.1.2 none (match ixL p.2 i with
  | some (some (.l _))=>omp (compD tg dc de p.1.1 (pick (some i) ix p.2)) (f:=⟨fun z=>(.l z.1,cback (some (j,i)) p.2 z.2)⟩)
  | _=>none)⟩):=rfl
@[simp,simp ↓] theorem zTK:dFor ip di tg b Γ=bnd (di Γ) (f:=⟨fun p=>ifB (p.1.2.all fun i=>decide (ip≠some i)) (x:=⟨(forD tg b p.1.1 (frz p.2 p.1.2))⟩) (y:=⟨none⟩)⟩):=rfl
@[simp,simp ↓] theorem zSd:frz Γ []=Γ:=rfl
@[simp,simp ↓] theorem zRv:frz Γ (i::r)=frz (frz1 Γ i) r:=rfl
@[simp,simp ↓] theorem zSG:pick mu [] Γ=[]:=rfl
@[simp,simp ↓] theorem zSu:pick mu (none::ix) Γ=none::pick mu ix Γ:=rfl
@[simp,simp ↓] theorem zTa:pick mu (some k::ix) Γ=pick1 mu k (ixL Γ k).join::pick mu ix Γ:=rfl
@[simp,simp ↓] theorem zSi:pick1 mu k (some (.v t))=some (.v t):=rfl
@[simp,simp ↓] theorem zRs:pick1 mu k (some (.l t))=ifO mu k (some (.l t)) (some (.r t)):=rfl
@[simp,simp ↓] theorem zSN:cback (some (j,i)) Γ Γo=match ixL Γo j with | some (some (.l xs))=>Γ.set i (some (.l xs)) | _=>Γ:=rfl
theorem zBV{α:Type}(f g:α->T):∀ (is:List α),(∀ i∈is,de (some (.v (f i))::R)=some (.v (g i),some (.v (f i))::R))->∀ o,∃ o',compD (gdName 0) dYes de (is.map f) (o::R)=some (is.map g,o'::R)
 | [],_,o=>⟨o,rfl⟩
 | i::r,h,o=>by
  obtain⟨o',e⟩:=zBV f g r (fun j hj=>h j (AR _ hj)) (some (.v (f i)))
  refine⟨o',?_⟩
  rw[AN,zAL]
  simp[h i AY,e]
theorem zEc{α:Type}(f1 f2 g:α->T):∀ (is:List α),(∀ i∈is,de (some (.v (f1 i))::some (.v (f2 i))::R)=some (.v (g i),some (.v (f1 i))::some (.v (f2 i))::R))->∀ o1 o2,∃ o1' o2',compD (gdTup 2 (gdCons (gdName 0) (gdCons (gdName 1) gdNil))) dYes de (is.map fun i=>.t [f1 i,f2 i]) (o1::o2::R)=some (is.map g,o1'::o2'::R)
 | [],_,o1,o2=>⟨o1,o2,rfl⟩
 | i::r,h,o1,o2=>by
  obtain⟨o1',o2',e⟩:=zEc f1 f2 g r (fun j hj=>h j (AR _ hj)) (some (.v (f1 i))) (some (.v (f2 i)))
  refine⟨o1',o2',?_⟩
  rw[AN,zAL]
  simp[h i AY,e]
@[simp] theorem zQD:boolsOf (Ah n (.a (.bl b)))=some (Ah n b):=by
 induction n with
 | zero=>rfl
 | succ n ih=>rw[BW,BW]; simp only[boolsOf]; rw[ih]; rfl
theorem zFh{n m:Nat}(h:n < m):FI (n:Int) m=some n:=(zEO (zGW h)).1
@[simp] theorem zTO:eqS Γ (.v (.a (.int m))) (.v (.a (.int n)))=some (.v (.a (.bl (decide (m=n))))):=by
 show ((some (mkB (decide (V.int m=V.int n)))).or _)=_
 simp
@[simp] theorem zS4:neS Γ (.v (.a (.int m))) (.v (.a (.int n)))=some (.v (.a (.bl (!decide (m=n))))):=by
 show ((some (mkB (!decide (V.int m=V.int n)))).or _)=_
 simp
@[simp] theorem zS3:eqS Γ (.v (.a (.str m))) (.v (.a (.str n)))=some (.v (.a (.bl (decide (m=n))))):=by
 show ((some (mkB (decide (V.str m=V.str n)))).or _)=_
 simp
@[simp] theorem zTi:neS Γ (.v (.a (.str m))) (.v (.a (.str n)))=some (.v (.a (.bl (!decide (m=n))))):=by
 show ((some (mkB (!decide (V.str m=V.str n)))).or _)=_
 simp
@[simp] theorem zTg:eqS Γ (.v (.a (.bl m))) (.v (.a (.bl n)))=some (.v (.a (.bl (decide (m=n))))):=by
 show ((some (mkB (decide (V.bl m=V.bl n)))).or _)=_
 simp
@[simp] theorem zSs:neS Γ (.v (.a (.bl m))) (.v (.a (.bl n)))=some (.v (.a (.bl (!decide (m=n))))):=by
 show ((some (mkB (!decide (V.bl m=V.bl n)))).or _)=_
 simp
@[simp] abbrev tvT (t:List Nat):List T:=t.map fun (k:Nat)=>iT (k:Int)
@[simp] abbrev tuT (t:List Nat):T:=.t (tvT t)
structure IsT(n:Nat)(t:List Nat):Prop where
 len:t.length=n
 lt:∀ k∈t,k < n
 nd:t.Nodup
theorem IsT.get(h:IsT n t)(hi:i < n):∃ k,t[i]?=some k/\k < n:=by
 have hl:=h.len
 refine⟨t[i]'(by lia),by simp,h.lt _ (EA _)⟩
theorem zJ4:∀ (n:Nat) (t:List Nat),t.length=n->(∀ k∈t,k < n)->t.Nodup->∀ i,i < n->i∈t:=by
 intro n
 induction n with
 | zero=>intro t _ _ _ i hi; lia
 | succ n ih =>
  intro t hl hlt hnd i hi
  by_cases hn:n∈t
  ·have h1:(t.erase n).length=n:=by rw[List.length_erase_of_mem hn]; lia
   have h2:∀ k∈t.erase n,k < n:=fun k hk=>by
    have:=hlt k (Gv hk)
    have hne:k≠n:=fun e=>by subst e; exact (Kk hnd) hk
    lia
   have h3:(t.erase n).Nodup:=hnd.erase n
   by_cases e:i=n
   ·subst e; exact hn
   ·exact Gv (ih (t.erase n) h1 h2 h3 i (by lia))
  ·exfalso
   have h2:∀ k∈t,k < n:=fun k hk=>by
    have:=hlt k hk
    have hne:k≠n:=fun e=>by subst e; exact hn hk
    lia
   cases t with
   | nil=>simp at hl
   | cons x r =>
    have hx:=h2 x AY
    have hr:=ih r (by simpa using hl) (fun k hk=>h2 k (AR _ hk)) (Bq.mp hnd).2 x hx
    exact (Bq.mp hnd).1 hr
theorem IsT.mem(h:IsT n t)(hi:i < n):i∈t:=zJ4 n t h.len h.lt h.nd i hi
theorem zCp{α β:Type}{f:α->β}{l:List α}(h:∀ x∈l,∀ y∈l,f x=f y->x=y)(nd:l.Nodup):(l.map f).Nodup:=by
 induction l with
 | nil=>exact IJ
 | cons a r ih =>
  obtain⟨h1,h2⟩:=Bq.mp nd
  refine Bq.mpr ⟨fun hm=>?_,ih (fun x hx y hy=>h x (AR _ hx) y (AR _ hy)) h2⟩
  obtain⟨y,hy,e⟩:=BQ.mp hm
  have:=h y (AR _ hy) a AY e
  subst this
  exact h1 hy
noncomputable def thenL (a b:List Nat):List Nat:=a.map fun k=>b.getD k 0
noncomputable def backL (t:List Nat):List Nat:=(AF t.length).map fun i=>t.idxOf i
theorem zBY(h:IsT n t)(e:t[i]?=some k):t.idxOf k=i:=by
 obtain⟨hi,e'⟩:=Ac.mp e
 rw[← e']
 exact h.nd.idxOf_getElem i hi
theorem zBA{a b:List Nat}{i k m:Nat}(h1:a[i]?=some k)(h2:b[k]?=some m):(thenL a b)[i]?=some m:=by simp[thenL,h1,h2]
theorem zCW(h:i < t.length):(backL t)[i]?=some (t.idxOf i):=by simp[backL,h]
theorem zAM(ha:IsT n a)(hb:IsT n b):IsT n (thenL a b):=by
 refine⟨by simp[thenL,ha.len],fun k hk=>?_,?_⟩
 ·obtain⟨x,hx,rfl⟩:=BQ.mp hk
  obtain⟨m,hm,hmn⟩:=hb.get (ha.lt x hx)
  simpa [hm] using hmn
 ·unfold thenL
  refine zCp ?_ ha.nd
  intro x hx y hy e
  obtain⟨m,hm,_⟩:=hb.get (ha.lt x hx)
  obtain⟨m',hm',_⟩:=hb.get (ha.lt y hy)
  simp[hm,hm']at e
  subst e
  exact (zBY hb hm).symm.trans (zBY hb hm')
theorem zAb(h:IsT n t):IsT n (backL t):=by
 refine⟨by simp[backL,h.len],fun k hk=>?_,?_⟩
 ·obtain⟨x,hx,rfl⟩:=BQ.mp hk
  have hx':x < n:=by rw[← h.len]; simpa using hx
  have:=CL.mpr (h.mem hx')
  rw[h.len]at this; exact this
 ·unfold backL
  refine zCp ?_ FZ
  intro x hx y hy e
  have hx':x∈t:=h.mem (by rw[← h.len]; simpa using hx)
  have hy':y∈t:=h.mem (by rw[← h.len]; simpa using hy)
  have e1:=HS (CL.mpr hx')
  have e2:=HS (CL.mpr hy')
  rw[← e1,← e2]
  congr 1
theorem zDH(h:t.Perm (AF n)):IsT n t :=
 ⟨by rw[h.length_eq]; simp,fun k hk=>by simpa using h.mem_iff.mp hk,h.nodup_iff.mpr FZ⟩
theorem zAX(n:Nat):IsT n (AF n):=⟨by simp,fun k hk=>by simpa using hk,FZ⟩
theorem zD1(n:Nat):rngT 0 n=tvT (AF n):=by simp[rngT]
theorem zHh(hk:ls[k]?=some z):((fs++[z])++ls.eraseIdx k).Perm (fs++ls):=by
 rw[Bx]
 refine Ku fs ?_
 obtain⟨hk1,hk2⟩:=Ac.mp hk
 rw[DJ]
 have e:ls=ls.take k++z::ls.drop (k+1):=by
  rw[← hk2,List.getElem_cons_drop,List.take_append_drop]
 conv=>rhs; rw[e]
 show (z::(ls.take k++ls.drop (k+1))).Perm _
 exact List.perm_middle.symm
theorem zI9{α β:Type}(f:α->β)(t:List α)(k:Nat):(t.map f).eraseIdx k=(t.eraseIdx k).map f:=by
 rw[DJ,DJ]; simp
theorem zDV:∀ t:List Nat,atomsOf (tvT t)=some (t.map fun (k:Nat)=>V.int (k:Int))
 | []=>rfl
 | k::r=>by simp only[tvT,AN,atomsOf]; rw[show atomsOf (r.map fun (k:Nat)=>iT (k:Int))=_ from zDV r]; rfl
theorem zGe(t:List Nat):(t.map fun (k:Nat)=>V.int (k:Int)).all flatV=true:=by simp[flatV]
theorem zFm{t:List Nat}{i:Nat}(h:i∈t):((t.map fun (k:Nat)=>V.int (k:Int)).findIdx? fun z=>eqV z (V.int (i:Int)))=some (t.idxOf i):=by
 have hlt:t.idxOf i < t.length:=CL.mpr h
 refine FC.mpr ⟨by simpa using hlt,?_,fun j hj=>?_⟩
 ·simp[eqV]
 ·have hne:t[j]'(by lia)≠i:=fun e=>by
   have:=List.not_of_lt_findIdx (p:=(· == i)) (xs:=t) (show j < t.findIdx (· == i) from hj)
   simp[e]at this
  simp only[List.getElem_map,eqV]
  simpa using fun e=>hne (by exact_mod_cast e)
theorem zFi(xs:List T)(n:Nat):cutT xs none (some (n:Int))=xs.take n:=by
 unfold cutT
 rw[HT.sIx_none,HT.sIx_nat,II,JR]
 by_cases h:n<=xs.length
 ·rw[EV h]
 ·rw[EC (by lia),Bl (AK _),Bl (by lia)]
theorem zFw(xs:List T)(n:Nat):cutT xs (some (n:Int)) none=xs.drop n:=by
 unfold cutT
 rw[HT.sIx_none,HT.sIx_nat]
 by_cases h:n<=xs.length
 ·rw[EV h,Bl (by simp)]
 ·rw[EC (by lia),Nat.sub_self,List.take_zero,EH (by lia)]
theorem zDP(xs:List T)(m n:Nat):cutT xs (some (m:Int)) (some (n:Int))=(xs.drop m).take (n - m):=by
 unfold cutT
 rw[HT.sIx_nat,HT.sIx_nat]
 by_cases h:m<=xs.length
 ·rw[EV h]
  by_cases h2:n<=xs.length
  ·rw[EV h2]
  ·rw[EC (by lia),Bl (by simp),Bl (by simp; lia)]
 ·rw[show min m xs.length=xs.length from EC (by lia),EH (AK _),EH (show xs.length<=m by lia)]; simp
theorem zCh{t:List Nat}{i k:Nat}(h:t[i]?=some k):atI (tvT t) (i:Int)=some (iT (k:Int)):=by
 rw[zAf]; simp[h]
abbrev Stp:=Nat×List Nat×List Nat
@[simp] abbrev stT (s:Stp):T:=.t [iT (s.1:Int),tuT s.2.1,tuT s.2.2]
def StOk (n qs:Nat) (st:List Stp):Prop:=∀ s∈st,s.1 < qs/\IsT n s.2.1/\IsT n s.2.2
structure AnsOk(qs:Nat)(as:List Nat):Prop where
 len:as.length=qs
 lt:∀ x∈as,x < 2
noncomputable def pickT (as:List Nat) (s:Stp):List Nat:=if as.getD s.1 0=1 then s.2.1 else s.2.2
theorem zBC(h:s.1 < qs/\IsT n s.2.1/\IsT n s.2.2):IsT n (pickT as s):=by
 unfold pickT; split
 ·exact h.2.1
 ·exact h.2.2
def scanL (as:List Nat):List Nat->List Stp->List (List Nat)
 | _,[]=>[]
 | c,s::r=>thenL c (pickT as s)::scanL as (thenL c (pickT as s)) r
theorem zEQ(as:List Nat):∀ (c:List Nat) (st:List Stp),(scanL as c st).length=st.length
 | _,[]=>rfl
 | c,s::r=>by simp[scanL,zEQ]
def doneL (as:List Nat):List Nat->List Stp->List Nat
 | c,[]=>c
 | c,s::r=>doneL as (thenL c (pickT as s)) r
theorem zA2:∀ {c:List Nat} {st:List Stp},IsT n c->StOk n qs st->IsT n (doneL as c st)
 | _,[],hc,_=>hc
 | c,s::r,hc,hs=>zA2 (c:=thenL c (pickT as s)) (st:=r) (zAM hc (zBC (as:=as) (hs s AY))) fun x hx=>hs x (AR _ hx)
theorem zEX(as:List Nat):∀ (c:List Nat) (st:List Stp),(c::scanL as c st)[(c::scanL as c st).length - 1]?=some (doneL as c st)
 | c,[]=>rfl
 | c,s::r=>by
  have:=zEX as (thenL c (pickT as s)) r
  simp only[scanL,doneL,Bf,Nat.add_sub_cancel]at this ⊢
  rw[List.getElem?_cons_succ]
  exact this
theorem zEE(h:AnsOk qs as)(hq:q < qs):as[q]?=some (as.getD q 0):=by
 have:=h.len
 rw[Cm,BP (by lia)]; rfl
@[simp] noncomputable abbrev prT (p:T×T):T:=.t [p.1,p.2]
noncomputable def intsD (t:List Nat):List CH:=t.map fun (k:Nat)=>PyData.int (k:Int)
theorem zC7:∀ t:List Nat,toDs (tvT t)=some (intsD t)
 | []=>by simp[toDs,intsD]
 | k::r=>by
  have:=zC7 r
  simp only[tvT,iT,AN]at this ⊢
  rw[toDs,this]
  simp[toD,toDa,intsD]
theorem zDG:∀ t:List Nat,B0 (intsD t) (intsD t)=true
 | []=>by simp[intsD,B0]
 | k::r=>by
  have:=zDG r
  simp only[intsD,AN]at this ⊢
  simp[B0,Az,this]
theorem zAv:∀ t:List Nat,BD (intsD t)=true
 | []=>by simp[intsD,BD]
 | k::r=>by
  have:=zAv r
  simp only[intsD,AN]at this ⊢
  simp[BD,B4,this]
theorem zBF:∀ t:List Nat,Da (intsD t)=0
 | []=>by simp[intsD,Da]
 | k::r=>by
  have:=zBF r
  simp only[intsD,AN]at this ⊢
  simp[Da,Cn,this]
theorem zFJ(Γ:En)(t:List Nat):eqS Γ (.v (tuT t)) (.v (tuT t))=some (.v (.a (.bl true))):=by
 have e0:datS Γ (.v (tuT t))=some (.tuple (intsD t)):=by
  have:=zC7 t
  simp only[tvT,iT]at this
  simp[datS,toD,this]
 have e1:cmpD Az Γ (.v (tuT t)) (.v (tuT t))=some (.v (.a (.bl true))):=by
  unfold cmpD
  rw[e0]
  simp only[Ae,B4,zAv,Cn,zBF,Az,zDG]
  rfl
 show ((none:Option S).or (cmpD Az Γ (.v (tuT t)) (.v (tuT t))))=_
 rw[Cg,e1]
end D
namespace L2
open PySem PySem.Spec PyProof.Rows
section
variable {X:Cx}{pins:List (Addr×Obj)}{s:AG}{σ:St}{H:Hp}{p:Addr}{vs:List V}
theorem zFq(hc:X.calm=true)(I:Inv X pins σ H s)(hq:SqL X.K H p vs\/SqT X.K H p vs)
  (h:∀ (its:List AD) (o:Obj) (St:Nat->Heap->Prop),Vals vs its->Walks X.prog X.w X.A.in1 s.heap.objs.size [s.heap.objs.size,p] [s.heap.objs.size] its.length (fun i v=>its[i]?=some v) St ->
   St 0 (s.heap.push o)->p < s.heap.objs.size->Q (.ref s.heap.objs.size) { s with heap:=s.heap.push o }):AV (model X.prog X.w) X.A.in1 (GE (.ref p)) Q E s:=by
 rcases hq with hq | hq
 ·obtain⟨its,rv,pl,hz⟩:=I.list hq
  have hl:=pl.isList
  have hlt:p < s.heap.objs.size:=by obtain⟨_,e,_⟩:=hl; exact AJ e
  refine Fw hl ?_
  have W:=JP (prog:=X.prog) (w:=X.w) (A:=X.A.in1) (I.ok.hd hc) s.heap.objs.size p (Ag hlt) its.toArray
  have W':Walks X.prog X.w X.A.in1 s.heap.objs.size [s.heap.objs.size,p] [s.heap.objs.size] its.length (fun i v=>its[i]?=some v) (fun i h=>h.IsListIter s.heap.objs.size p i/\h.IsList p its.toArray):=by simpa using W
  exact h its _ _ rv W' ⟨⟨_,AQ _ rfl,rfl,rfl⟩,hl.push _⟩ hlt
 ·obtain⟨its,rv,hl,hz⟩:=I.tuple hq
  have hlt:p < s.heap.objs.size:=by obtain⟨_,e,_⟩:=hl; exact AJ e
  have hl':s.heap.IsTuple p its.toArray:=by obtain⟨o,e,c,n,d⟩:=hl; exact⟨o,e,c,n,d⟩
  refine CF hl' ?_
  have W:=Walks.tuple (prog:=X.prog) (w:=X.w) (A:=X.A.in1) (I.ok.hd hc) s.heap.objs.size p (Ag hlt) its.toArray
  have W':Walks X.prog X.w X.A.in1 s.heap.objs.size [s.heap.objs.size,p] [s.heap.objs.size] its.length (fun i v=>its[i]?=some v) (fun i h=>h.IsTupleIter s.heap.objs.size p i/\h.IsTuple p its.toArray):=by simpa using W
  exact h its _ _ rv W' ⟨⟨_,AQ _ rfl,rfl,rfl⟩,hl'.push _⟩ hlt
theorem zEI{ns:List Int}:∀ {its:List AD},Vals (ns.map V.int) its->∀ (i:Nat) v,its[i]?=some v->∃ t,v=.int (ns.getD i 0) t:=by
 induction ns with
 | nil=>intro its h; cases h; intro i v e; simp at e
 | cons n r ih =>
  intro its h
  cases h with
  | cons h1 h2 =>
   intro i v e
   obtain⟨t,rfl⟩:=h1
   cases i with
   | zero=>simp at e; exact⟨t,e.symm⟩
   | succ i=>simpa using ih h2 i v (by simpa using e)
theorem zRq(hc:X.calm=true):CallR X (.builtin "sum") (fun xs H Q=>∃ (p:Addr) (ns:List Int),xs=[.ref p]/\(SqL X.K H p (ns.map V.int)\/SqT X.K H p (ns.map V.int))/\Q (.int ns.sum) H):=by
 intro pins s σ H xs us Q I r h
 obtain⟨p,ns,rfl,hq,q⟩:=h
 obtain⟨u,rfl,rx⟩:=vals1 r
 cases rx
 refine call_sum_walkG (zFq hc I hq fun its o St rv W st0 hlt=>?_)
 refine⟨_,_,_,_,_,_,fun i=>ns.getD i 0,rfl,W,st0,fun b hb=>?_,zEI rv,fun h' tk t' hk=>?_⟩
 ·rw[BS]
  simp only[AL,Ao,or_false]at hb
  rcases hb with rfl | rfl
  ·exact CT _
  ·exact DG hlt
 ·have hl:=rv.length
  rw[preSum_getD,Bl (by rw[← hl]; simp)]
  exact⟨.int ns.sum,H,I.kept (GY hk),⟨_,rfl⟩,q⟩
noncomputable def minI:List Int->Int
 | []=>0
 | x::r=>r.foldl (fun a b=>if b < a then b else a) x
theorem zEP:∀ (r:List Int) (x:Int),(r.foldl (fun a b=>if b < a then b else a) x∈x::r)/\∀ y∈x::r,r.foldl (fun a b=>if b < a then b else a) x<=y
 | [],x=>by simp
 | z::r,x=>by
  obtain⟨h1,h2⟩:=zEP r (if z < x then z else x)
  rw[Hy]
  refine⟨?_,fun y hy=>?_⟩
  ·rcases AL.mp h1 with e | e
   ·rw[e]; split <;> simp
   ·simp[e]
  ·have h0:=h2 _ AY
   rcases AL.mp hy with e | e
   ·subst e; split at h0 <;> (split <;> lia)
   ·rcases AL.mp e with e | e
    ·subst e; split at h0 <;> (split <;> lia)
    ·exact h2 y (AR _ e)
theorem zFV(val:Nat->Int):∀ k,Hi (fun i j=>decide (val i < val j)) k<=k/\∀ j,j<=k->val (Hi (fun i j=>decide (val i < val j)) k)<=val j
 | 0=>⟨AK _,fun j hj=>by rw[Nat.le_zero.mp hj]; exact Jm _⟩
 | k+1=>by
  obtain⟨h1,h2⟩:=zFV val k
  unfold Hi
  split
  ·rename_i h; simp at h
   refine⟨AK _,fun j hj=>?_⟩
   by_cases e:j=k+1
   ·rw[e]; exact Jm _
   ·have:=h2 j (by lia); lia
  ·rename_i h; simp at h
   refine⟨by lia,fun j hj=>?_⟩
   by_cases e:j=k+1
   ·rw[e]; exact h
   ·exact h2 j (by lia)
theorem zJv{ns:List Int}{i:Nat}(h:i < ns.length):ns.getD i 0∈ns:=by
 rw[Cm,BP h]; exact EA h
theorem zJw{ns:List Int}{a:Int}(h:a∈ns):∃ i,i < ns.length/\ns.getD i 0=a:=by
 obtain⟨i,hi,e⟩:=HF h
 exact⟨i,hi,by rw[Cm,BP hi,e]; rfl⟩
theorem zJD(hc:X.calm=true):CallR X (.builtin "min") (fun xs H Q=>∃ (p:Addr) (ns:List Int),xs=[.ref p]/\(SqL X.K H p (ns.map V.int)\/SqT X.K H p (ns.map V.int))/\0 < ns.length/\Q (.int (minI ns)) H):=by
 intro pins s σ H xs us Q I r h
 obtain⟨p,ns,rfl,hq,h0,q⟩:=h
 obtain⟨u,rfl,rx⟩:=vals1 r
 cases rx
 refine call_min_walk (zFq hc I hq fun its o St rv W st0 hlt=>?_)
 have hl:=rv.length
 rw[A7]at hl
 refine⟨_,_,_,_,_,_,_,rfl,W,st0,fun b hb=>?_,by lia,CmpOf.ints_lt (fun i=>ns.getD i 0) (zEI rv),fun v h' tk hv hk=>?_⟩
 ·rw[BS]
  simp only[AL,Ao,or_false]at hb
  rcases hb with rfl | rfl
  ·exact CT _
  ·exact DG hlt
 ·obtain⟨t,rfl⟩:=zEI rv _ _ hv
  obtain⟨b1,b2⟩:=zFV (fun i=>ns.getD i 0) (its.length - 1)
  refine⟨.int (minI ns),H,I.kept (GY hk),?_,q⟩
  have e:ns.getD (Hi (fun i j=>decide (ns.getD i 0 < ns.getD j 0)) (its.length - 1)) 0=minI ns:=by
   cases ns with
   | nil=>simp at h0
   | cons x r =>
    obtain⟨m1,m2⟩:=zEP r x
    have a1:=m2 _ (zJv (ns:=x::r) (i:=Hi (fun i j=>decide ((x::r).getD i 0 < (x::r).getD j 0)) (its.length - 1)) (by lia))
    obtain⟨j,hj,ej⟩:=zJw m1
    have a2:=b2 j (by lia)
    show _=r.foldl (fun a b=>if b < a then b else a) x
    rw[ej]at a2
    exact Int.le_antisymm a2 a1
  exact⟨t,by rw[e]⟩
end
end L2
namespace D
open PySem L2
def sumS:En->List S->Option S:=fun Γ as=>match as with
 | [a]=>(seqS Γ a).bind fun xs=>(intsOf xs).map fun ns=>.v (.a (.int ns.sum))
 | _=>none
def min1S:En->List S->Option S:=fun Γ as=>match as with
 | [a]=>(seqS Γ a).bind fun xs=>(intsOf xs).bind fun ns=>if 0 < ns.length then some (.v (.a (.int (minI ns)))) else none
 | _=>none
theorem zKU(R:Rep K C w Γ σ H)(o:SOk K C w σ H x s)(e:seqS Γ s=some xs)(e2:intsOf xs=some ns) :
  ∃ p,x=.ref p/\(SqL K H p (ns.map V.int)\/SqT K H p (ns.map V.int)):=by
 obtain⟨p,us,rfl,h1,i1⟩:=zDm R o e
 have hu:us=ns.map V.int:=by rw[zCg e2]at i1; exact i1.of_atoms
 subst hu
 exact⟨p,rfl,h1⟩
theorem zII:SimRs K (fun xs H Q=>∃ (p:Addr) (ns:List Int),xs=[.ref p]/\(SqL K H p (ns.map V.int)\/SqT K H p (ns.map V.int))/\0 < ns.length/\Q (.int (minI ns)) H) min1S:=by
 intro C w Γ σ H vs as s Q R o e k
 unfold min1S at e
 split at e
 ·obtain⟨xs,e1,e⟩:=bind_some e
  obtain⟨ns,e2,e⟩:=bind_some e
  split at e
  ·cases e
   obtain⟨v,rfl,o1⟩:=soks1 o
   obtain⟨p,rfl,h⟩:=zKU R o1 e1 e2
   exact⟨p,ns,rfl,h,by assumption,k _ H R .refl SOk.atom trivial⟩
  ·cases e
 ·cases e
section
variable {ι:Type}{K:Fg}{X:ι->Cx}{mg:Str->Option AD}{k:Nat}
theorem zN4(M:Fm K mg k X):CalR K X (.builtin "min") min1S:=⟨_,fun j=>by have:=zJD (M.calm j); rw[M.K j]at this; exact this,zII⟩
end
noncomputable def dK (t:T):DE:=fun Γ=>some (.v t,Γ)
def KV (K:Fg) (mg:Str->Option AD) (x:Str) (t:T):Prop:=∃ v u,mg x=some u/\RelV v u/\∀ H:Hp,Im K H v t
section
variable {ι:Type}{K:Fg}{X:ι->Cx}{mg:Str->Option AD}{k:Nat}{pos:Pos}{x:Str}{t:T}
theorem zRa(h:∀ H:Hp,Im K H v t):SimE K (tC v) (dK t):=by
 intro C w Γ σ H s Γ' Q R e k
 cases e
 exact k v H R .refl (h H) trivial
theorem ex_k(t:T)(M:Fm K mg k X)(c:KV K mg x t)(hg:∀ j,Gl (X j) x:=by intro _; rfl)(hd:(x == ("__debug__":Str))=false:=by decide):EX K X (.Name x pos) (dK t) :=
 let ⟨v,u,h1,h2,h3⟩:=c
 ⟨tC v,fun j=>zGz (hg j) (by rw[M.mg]; exact h1) h2 hd,zRa h3⟩
end
theorem zGr(ns:List Int)(h1:mg x=some (.ref p))(h2:K.lookup p=some ⟨.type "tuple",none,.seq its.toArray n,sl⟩)(h3:Vals (ns.map V.int) its)(h4:its.length<=AC)(h5:cOk (ns.map V.int)=true:=by rfl):KV K mg x (.t ((ns.map V.int).map T.a)) :=
 ⟨.ref p,.ref p,h1,rfl,fun H=>by unfold Im; exact⟨p,ns.map V.int,rfl,.inr ⟨_,its.toArray,n,h2,rfl,rfl,rfl,by simpa using h4,by simpa using h3,h5⟩,Ims.atoms _⟩⟩
end D
namespace D
open PySem L2
open PySem.SeqAt
theorem zGD:∀ {vs:List AD} {ds:List CH} {as:List Addr},ReadsAll h vs ds as->∀ (i:Nat) (v:AD),vs[i]?=some v->∃ d as',ds[i]?=some d/\Iu h v d as':=by
 intro vs ds as r
 induction ds generalizing vs as with
 | nil =>
  intro i v e
  cases r
  simp at e
 | cons d ds ih =>
  intro i v e
  cases r with
  | cons r1 r2 =>
   cases i with
   | zero=>simp at e; subst e; exact⟨d,_,rfl,r1⟩
   | succ i=>simpa using ih r2 i v (by simpa using e)
theorem zET:∀ {ds:List CH},BD ds=true->∀ (i:Nat) (d:CH),ds[i]?=some d->d.canLay0=true
 | [],_,i,d,e=>by simp at e
 | x::r,h,i,d,e=>by
  simp only[BD,An]at h
  cases i with
  | zero=>simp at e; subst e; exact h.1
  | succ i=>exact zET h.2 i d (by simpa using e)
noncomputable def eqOf (h:Heap) (dx:CH) (y:AD):Bool:=@decide (∃ d as,Iu h y d as/\d.canLay0=true/\Az d dx=true) (Dt _)
theorem zGt(r:Iu h y d as)(c:d.canLay0=true):eqOf h dx y=Az d dx:=by
 unfold eqOf
 cases e:Az d dx with
 | true=>exact @decide_eq_true _ (Dt _) ⟨d,as,r,c,e⟩
 | false =>
  refine @decide_eq_false _ (Dt _) ?_
  rintro ⟨d',as',r',c',e'⟩
  have:=Reads.unique d d' y as as' c r r'
  subst this
  rw[e]at e'; cases e'
def rLFind (K:Fg) (g:List CH->CH->Option Int):V->List V->Hp->VK->Prop:=fun x vs H Q=>∃ p us y ts t ds d j,x=.ref p/\vs=[y]/\SqL K H p us/\Ims K H us ts/\toDs ts=some ds/\Im K H y t/\toD t=some d/\BD ds=true/\d.canLay0=true/\d.depth<=100/\g ds d=some j/\Q (.int j) H
noncomputable def gCount (ds:List CH) (d:CH):Option Int:=some ((ds.countP fun z=>Az z d:Nat):Int)
section
variable {X:Cx}{k:Nat}
theorem zNm(hr:Room k X.A)(I:Inv X pins σ H s)(rv:Vals us its)(hi:Ims X.K H us ts)(e1:toDs ts=some ds)(ry:RelV y v)(hy:Im X.K H y t)(e2:toD t=some d)(c1:BD ds=true)(c2:d.canLay0=true)(dp:d.depth<=100) :
  (∀ u,u∈its.toArray->EqAt X.A.in1 s u v (eqOf s.heap d u))/\∀ (i:Nat) u,its[i]?=some u->∃ z,ds[i]?=some z/\eqOf s.heap d u=Az z d:=by
 obtain⟨as1,ra⟩:=zA5 I hi rv e1
 obtain⟨as2,rx⟩:=zDU I hy ry e2
 have each:∀ (i:Nat) u,its[i]?=some u->∃ z as,ds[i]?=some z/\Iu s.heap u z as/\z.canLay0=true:=fun i u e=>by
  obtain⟨z,as,e3,r3⟩:=zGD ra i u e
  exact⟨z,as,e3,r3,zET c1 i z e3⟩
 refine⟨fun u hu=>?_,fun i u e=>?_⟩
 ·obtain⟨i,hi',rfl⟩:=HF (List.mem_toArray.mp hu)
  obtain⟨z,as,e3,r3,c3⟩:=each i its[i] (by simp[hi'])
  rw[zGt r3 c3]
  exact eqAt_reads z d X.A.in1 s _ v as as2 r3 rx c3 c2 (by have:=hr.un; show X.A.units+1+min z.depth d.depth < J2; lia)
 ·obtain⟨z,as,e3,r3,c3⟩:=each i u e
  exact⟨z,e3,zGt r3 c3⟩
theorem zKL(hr:Room k X.A):MtM X "list.count" (rLFind X.K gCount):=by
 intro pins s σ H x vs v us Q I rx rv h
 obtain⟨p,ws,y,ts,t,ds,d,j,rfl,rfl,hq,hi,e1,hy,e2,c1,c2,dp,eg,q⟩:=h
 cases rx
 obtain⟨u,rfl,ru⟩:=rv.one
 obtain⟨its,rw',⟨⟨cls,dd,data,sl⟩,n,ho,hc,hdd,hd⟩,hz⟩:=I.list hq
 simp only at hc hd hdd
 subst hc hd
 cases eg
 obtain⟨E1,E2⟩:=zNm hr I rw' hi e1 ru hy e2 c1 c2 dp
 obtain⟨as3,ra3⟩:=zA5 I hi rw' e1
 have hl3:=ReadsAll.length ds its as3 ra3
 have cnt:∀ (a:List AD) (b:List CH),a.length=b.length->(∀ (i:Nat) u,a[i]?=some u->∃ z,b[i]?=some z/\eqOf s.heap d u=Az z d)->a.countP (eqOf s.heap d)=b.countP fun z=>Az z d:=by
  intro a
  induction a with
  | nil=>intro b hb _; rw[GZ.mp hb.symm]; rfl
  | cons x r ih =>
   intro b hb hh
   cases b with
   | nil=>cases hb
   | cons z b =>
    obtain⟨z',ez,e⟩:=hh 0 x rfl
    cases ez
    rw[Fc,Fc,e,ih b (by simpa using hb) fun i u hu=>by simpa using hh (i+1) u (by simpa using hu)]
 refine DD GA ⟨_,ho,rfl⟩ PySem.F.entry_list_count (PySem.F.args_list_count_2 _ _) (list_countAt p its.toArray n dd sl u (eqOf s.heap d)) ⟨ho,E1,?_⟩
 rw[show its.toArray.toList=its from rfl,cnt its ds hl3 E2]
 exact⟨.int _,H,I.tok _,⟨_,rfl⟩,q⟩
end
def dLFind (g:List CH->CH->Option Int) (fo:DE) (fa:DA):DE:=fun Γ=>(fo Γ).bind fun p=>if (sqlOf p.2 p.1).isSome=true then (fa p.2).bind fun q=>match q.1 with
 | [.v t]=>(sqlOf q.2 p.1).bind fun ts=>(toDs ts).bind fun ds=>(toD t).bind fun d=>if BD ds=true/\d.canLay0=true/\d.depth<=100 then (g ds d).map fun j=>(mkI j,q.2) else none
 | _=>none
 else none
theorem zIt(ho:SimE K to fo)(ha:SimA K ta fa):SimE K (tBM K "list" (rLFind K g) to ta) (dLFind g fo fa):=by
 intro C w Γ σ H s Γ' Q R e k
 obtain⟨⟨a,G1⟩,e1,e⟩:=bind_some e
 dsimp only at e
 split at e
 rotate_left
 ·cases e
 rename_i hs0
 obtain⟨ts0,hs0⟩:=Cu.mp hs0
 obtain⟨⟨as,G2⟩,e2,e⟩:=bind_some e
 dsimp only at e
 split at e
 rotate_left
 ·cases e
 rename_i t
 obtain⟨ts,e3,e⟩:=bind_some e
 obtain⟨ds,e4,e⟩:=bind_some e
 obtain⟨d,e5,e⟩:=bind_some e
 split at e
 rotate_left
 ·cases e
 rename_i hh
 obtain⟨j,e6,e⟩:=zAA e
 cases e
 refine ho C w Γ σ H a G1 _ R e1 fun v H1 R1 ev1 o1 n1=>?_
 obtain⟨p0,vs0,rfl,q0,_⟩:=zA4 R1 o1 hs0
 refine⟨.inl ⟨rfl,vs0,q0⟩,?_⟩
 refine ha C w G1 σ H1 [.v t] _ _ R1 e2 fun us H2 R2 ev2 o2 n2=>?_
 obtain⟨y,rfl,oy⟩:=soks1 o2
 obtain⟨p1,vs1,ep,q1,i1⟩:=zA4 R2 (o1.evo ev2 R1.lst) e3
 cases ep
 exact⟨p0,vs1,y,ts,t,ds,d,j,rfl,rfl,q1,i1,e4,oy,e5,hh.1,hh.2.1,hh.2.2,e6,k _ H2 R2 (ev1.trans ev2) SOk.atom trivial⟩
section
variable {ι:Type}{K:Fg}{mg:Str->Option AD}{k:Nat}{X:ι->Cx}{o e:Expr}{es:List Expr}{fa:DE}{da:DA}
theorem zKg{g:List CH->CH->Option Int}{name:Str}{id:String}{apos cpos:Pos}(M:Fm K mg k X)(slot:Slot "list" name id)(hty:HZ (.builtin id)=pure (.type "method_descriptor"))(hm:∀ j,MtM (X j) id (rLFind (X j).K g))(ho:EX K X o fa)(ha:AX K X (e::es) da)
  (hbase:∀ j,C7 o name (X j).env (eval o (X j).env)=eval o (X j).env:=by intro _; rfl)
  (hfew:∀ j,((Bw cpos (AU (e::es) (X j).env)).all (fun x=>!x.1) && (Gk cpos (E6 [] (X j).env)).all (fun x=>x.1.isSome) && decide ((e::es).length+([]:List EF).length+(if ([]:List EF).isEmpty then 0 else 1) < 30))=true:=by intro _; rfl)
  (hline:(apos.endLine == cpos.line)=true:=by rfl) (hs:∀ j,AU (e::es) (X j).env=(false,eval e (X j).env)::AU es (X j).env:=by intro _; rfl) (hplain:∀ j,(Bw cpos (AU es (X j).env)).any (·.1)=false:=by intro _; rfl) :
  EX K X (.Call (.Attribute o name apos) (e::es) [] cpos) (dLFind g fa da) :=
 let ⟨t0,q0,u0⟩:=ho; let ⟨t,q,u⟩:=ha
 ⟨tBM K "list" (rLFind K g) t0 t,fun j=>by have:=zMe Dy slot hty (hm j) (q0 j) (q j) (hbase j) (hfew j) hline (hs j) (hplain j); rw[M.K j]at this; exact this,zIt u0 u⟩
@[simp] theorem zRm{g:List CH->CH->Option Int}{fo:DE}{fa:DA}{Γ:En}:dLFind g fo fa Γ=(fo Γ).bind fun p=>if (sqlOf p.2 p.1).isSome=true then (fa p.2).bind fun q=>match q.1 with
 | [.v t]=>(sqlOf q.2 p.1).bind fun ts=>(toDs ts).bind fun ds=>(toD t).bind fun d=>if BD ds=true/\d.canLay0=true/\d.depth<=100 then (g ds d).map fun j=>(mkI j,q.2) else none
 | _=>none
 else none:=(rfl)
end
end D
namespace L2
open PySem PySem.Spec PyProof.Rows
section
variable {κ:Type} [DecidableEq κ]
noncomputable def valV (kvs:List (κ×V)) (k:κ):Option V:=(kvs.find? fun kv=>decide (kv.1=k)).map (·.2)
noncomputable def putK (kvs:List (κ×V)) (k:κ) (v:V):List (κ×V) :=
 if (kvs.any fun kv=>decide (kv.1=k))=true then kvs.map (fun kv=>if kv.1=k then (kv.1,v) else kv) else kvs++[(k,v)]
theorem zCH{p:κ×V}{r:List (κ×V)}{k:κ}(e:p.1=k):valV (p::r) k=some p.2:=by simp[valV,CJ,e]
theorem zCM{p:κ×V}{r:List (κ×V)}{k:κ}(e:¬ p.1=k):valV (p::r) k=valV r k:=by simp[valV,CJ,e]
theorem zFc(k:κ):∀ kvs:List (κ×V),(kvs.any fun kv=>decide (kv.1=k))=(valV kvs k).isSome
 | []=>rfl
 | p::r=>by
  rw[Cy]
  by_cases e:p.1=k
  ·simp only[zCH e,decide_eq_true e,Bool.true_or,Gz]
  ·rw[zCM e,decide_eq_false e,Bool.false_or]; exact zFc k r
theorem zGC(kvs:List (κ×V))(k:κ)(v:V):(putK kvs k v).length<=kvs.length+1:=by
 unfold putK
 split
 ·rw[A7]; lia
 ·rw[A4,Bf,Dh]; lia
theorem zFR{kvs:List (κ×V)}{k:κ}(v:V)(h:valV kvs k=none):putK kvs k v=kvs++[(k,v)]:=by
 unfold putK
 rw[zFc,h]
 exact if_neg (by decide)
theorem KV.val{kvs:List (κ×V)}{vs:List (κ×AD)}(r:KV kvs vs)(k:κ):RelO (valV kvs k) (Fx vs k):=by
 unfold KV at r
 induction r with
 | nil=>exact DP
 | @cons p q ps qs h t ih =>
  obtain⟨h1,h2⟩:=h
  by_cases e:p.1=k
  ·have e':q.1=k:=h1.symm.trans e
   have b:Fx (q::qs) k=some q.2:=by simp[Fx,CJ,e']
   rw[zCH e,b]; exact h2
  ·have e':¬ q.1=k:=fun z=>e (h1.trans z)
   have b:Fx (q::qs) k=Fx qs k:=by simp[Fx,CJ,e']
   rw[zCM e,b]; exact ih
theorem KV.any{kvs:List (κ×V)}{vs:List (κ×AD)}(r:KV kvs vs)(k:κ):(kvs.any fun kv=>decide (kv.1=k))=vs.any fun kv=>decide (kv.1=k):=by
 unfold KV at r
 induction r with
 | nil=>rfl
 | cons h t ih=>rw[Cy,Cy,ih,h.1]
theorem KV.repl{kvs:List (κ×V)}{vs:List (κ×AD)}(r:KV kvs vs)(k:κ)(ry:RelV y u) :
  KV (kvs.map fun kv=>if kv.1=k then (kv.1,y) else kv) (vs.map fun kv=>if kv.1=k then (kv.1,u) else kv):=by
 unfold KV at r ⊢
 induction r with
 | nil=>exact .nil
 | @cons p q ps qs h t ih =>
  rw[AN,AN]
  refine .cons ?_ ih
  obtain⟨h1,h2⟩:=h
  by_cases e:p.1=k
  ·rw[if_pos e,if_pos (h1.symm.trans e)]; exact⟨h1,ry⟩
  ·rw[if_neg e,if_neg (fun z=>e (h1.trans z))]; exact⟨h1,h2⟩
theorem KV.put{kvs:List (κ×V)}{vs:List (κ×AD)}(r:KV kvs vs)(k:κ)(ry:RelV y u):KV (putK kvs k y) (stored vs k u):=by
 unfold putK stored
 rw[r.any k]
 by_cases e:(vs.any fun kv=>decide (kv.1=k))=true
 ·rw[if_pos e,if_pos e]; exact r.repl k ry
 ·rw[if_neg e,if_neg e]; exact Paired.snoc r ⟨rfl,ry⟩
end
theorem zFB(r:RelV (kV k) u):(mixKind P w).is k u=true:=by
 cases k with
 | inl i=>obtain⟨t,e⟩:=(show ∃ t,u=Bb i t from r); subst e; exact zGI P w i t
 | inr x=>obtain⟨t,e⟩:=(show ∃ t,u=FN x t from r); subst e; exact zGK P w x t
theorem zEd:∀ {ks:List Key} {us:List AD},Vals (ks.map kV) us->ItemsAre (mixKind P w) ks us
 | [],_,r=>by rw[Aj]at r; cases r; exact .nil
 | k::ks,_,r=>by
  rw[AN]at r
  cases r with
  | cons h t=>exact .cons (zFB h) (zEd t)
abbrev KT (H:Hp):List (List Key×V)->List (List Key×Addr×AD)->Prop:=Ee fun p q=>p.1=q.1/\H q.2.1=some (.tup (p.1.map kV))/\RelV p.2 q.2.2
theorem KT.val(r:KT H kvs xs)(k:List Key):RelO (valV kvs k) ((H9 xs k).map (·.2)):=by
 induction r with
 | nil=>exact DP
 | @cons p q ps qs h t ih =>
  obtain⟨h1,_,h2⟩:=h
  by_cases e:p.1=k
  ·have e':q.1=k:=h1.symm.trans e
   have b:H9 (q::qs) k=some q.2:=by simp[H9,CJ,e']
   rw[zCH e,b]; exact h2
  ·have e':¬ q.1=k:=fun z=>e (h1.trans z)
   have b:H9 (q::qs) k=H9 qs k:=by simp[H9,CJ,e']
   rw[zCM e,b]; exact ih
section
variable {P:Ai}{w:Ax}{H:Hp}{h:Heap}{a:Addr}
theorem zMg(ok:HOk P w H h)(e:Rd H a u):ObjOk P w H h a u:=e.ok ok
theorem zHp(ok:HOk P w H h)(e:Rd H a (.dK kvs)):kvs.length<=AC/\(a == C9)=false/\∃ vs,KV kvs vs/\h.DictOf (mixKind P w) a vs :=
 show ObjOk P w H h a (.dK kvs) from zMg ok e
theorem zQO(ok:HOk P w H h)(e:H a=some (.dK kvs)):kvs.length<=AC/\(a == C9)=false/\∃ vs,KV kvs vs/\h.DictOf (mixKind P w) a vs:=zHp ok (.inl e)
theorem zJX(ok:HOk P w H h)(e:H a=some (.tup (ks.map kV))):(HH (mixKind P w)).is h ks a:=by
 obtain⟨_,its,r,o,h1,h2,⟨n,h3⟩,_⟩:=(show ObjOk P w H h a (.tup (ks.map kV)) from ok a _ e)
 exact⟨o,its.toArray,n,h1,h2,h3,by simpa using zEd r⟩
theorem zMG(ok:HOk P w H h)(e:Rd H a (.dT kvs)):kvs.length<=AC/\(a == C9)=false /\
  ∃ xs,KT H kvs xs/\h.DictOfH (HH (mixKind P w)) a xs:=by
 obtain⟨z,y,xs,r,o,es,ep,h1,h2,h3,h4,h5⟩:=(show ObjOk P w H h a (.dT kvs) from zMg ok e)
 refine⟨z,y,xs,r,o,es,ep,h1,h2,h3,h4,fun x hx=>?_,h5⟩
 have all:∀ {l:List (List Key×V)} {m:List (List Key×Addr×AD)},KT H l m->∀ x∈m,(HH (mixKind P w)).is h x.1 x.2.1:=by
  intro l m q
  induction q with
  | nil=>intro x hx; exact nomatch hx
  | @cons p q ps qs hq t ih =>
   intro x hx
   rcases AL.mp hx with e | hx
   ·subst e
    exact zJX ok (by rw[← hq.1]; exact hq.2.1)
   ·exact ih x hx
 exact all r x hx
end
def DGet (H:Hp) (a:Addr) (y:V) (r:Option V):Prop :=
 (∃ kvs k,Rd H a (.dK kvs)/\y=kV k/\r=valV kvs k)\/∃ kvs k b,Rd H a (.dT kvs)/\y=.ref b/\H b=some (.tup (k.map kV))/\r=valV kvs k
theorem DGet.k{H:Hp}{a:Addr}{kvs:List (Key×V)}{k:Key}(e:H a=some (.dK kvs)):DGet H a (kV k) (valV kvs k):=.inl ⟨kvs,k,.inl e,rfl,rfl⟩
section
variable {X:Cx}{pins:List (Addr×Obj)}{σ:St}{H:Hp}{s:AG}{a:Addr}{y v:V}{u r:AD}{o:Option V}{A:BE}{E:AD->AG->Prop}
theorem Inv.big(I:Inv X pins σ H s):C9 < s.heap.objs.size:=by
 have h:Ad < s.heap.objs.size:=(I.mod.glob.keeps I.bk).lt
 exact JO (by decide) h
theorem zJo(hu:A.units+1 < J2)(I:Inv X pins σ H s)(g:DGet H a y (some v))(ry:RelV y u)(h:∀ w' s',Inv X pins σ H s'->RelV v w'->Q w' s') :
  AV (model X.prog X.w) A (ED (.ref a) u) Q E s:=by
 rcases g with ⟨kvs,k,e,ey,l⟩ | ⟨kvs,k,b,e,ey,eb,l⟩
 ·subst ey
  obtain⟨z,hd,vs,rel,dd⟩:=zHp I.hok e
  obtain⟨w',hw,rw'⟩:=RelO.some_of (v:=v) (o:=Fx vs k) (by rw[l]; exact rel.val k)
  exact wpAny_getItem_of (zFB ry) dd.mapOf hw (h w' _ (I.tok _) rw')
 ·subst ey
  cases (show u=Bc b from ry)
  obtain⟨z,hd,xs,rel,dd⟩:=zMG I.hok e
  obtain⟨w',hw,rw'⟩:=RelO.some_of (v:=v) (o:=(H9 xs k).map (·.2)) (by rw[l]; exact rel.val k)
  obtain⟨p,hp,hp2⟩:=Option.map_eq_some_iff.mp hw
  refine wpAny_getItem_heap (tupleKind_room_in1 hu) (zJX I.hok eb) dd hp ?_
  rw[hp2]
  exact h w' _ (I.tok _) rw'
theorem zNR(I:Inv X pins σ H s)(mu:Mut (H a))(hs:BU a s.heap h')(he:∃ q,h'.get? a=some q)(new:ObjOk X.prog X.w (upd H a ob) h' a ob) :
  Inv X pins σ (upd H a ob) { s with heap:=h',toks:=t' } :=
 I.write (x:=a) (e:=a) mu (.inl rfl) (fun b q hb z=>(hs.2 b hb).trans z) he new
theorem zI4(z:kvs.length<=AC)(hd:(a == C9)=false)(rel:KV kvs vs)(dd:h'.DictOf (mixKind P w) a vs) :
  ObjOk P w H' h' a (.dK kvs):=⟨z,hd,vs,rel,dd⟩
end
def NoSl (i:Expr):Prop:=∀ ov iv,subscripted i false ov iv=operate [ov,iv] (ED ov iv)
theorem zNC{prog:Ai}{w:Ax}{A:BE}{E:AD->AG->Prop}{s:AG}{env:Env}{value slice:Expr}{pos:Pos}{T id:String}{Q:AD->AG->Prop}
  (hl:Ff (.type T) "__getitem__"=pure (some (.builtin id))) (hs:NoSl slice)
  (h:AV (model prog w) A (eval value env) (fun o s₁=>AV (model prog w) A (eval slice env) (fun i s₂=>s₂.TypeIs o T/\AV (model prog w) A (ED o i) Q E s₂) E s₁) E s) :
  AV (model prog w) A (eval (.Subscript value slice pos) env) Q E s:=by
 refine IT (Bj h (fun o s₁ h₁=>Bj h₁ (fun i s₂ h₂=>?_) fun _ _ x=>x) fun _ _ x=>x)
 obtain⟨hT,h₂⟩:=h₂
 unfold G7
 refine AB ?_
 rw[getitemInPython_of_ne hT.not_modules]
 refine AB (CN hT hl ?_)
 have fin:AV (model prog w) A (subscripted slice false o i) (fun r s₃=>AV (model prog w) A (letTemporaryGo value o r >>= fun _=>pure r) Q E s₃) E s₂:=by
  rw[hs o i]
  exact wpAny_operating (Bj h₂ (fun r s₃ h₃=>AB (wpAny_letTemporaryGo (AH h₃))) fun _ _ x=>x)
 first
  | exact AH (AB fin)
  | exact AB (AH (AB fin))
  | exact AB fin
theorem zGP(I:Inv X pins σ H s)(g:DGet H a y o):s.TypeIs (.ref a) "dict":=by
 rcases g with ⟨kvs,k,e,_,_⟩ | ⟨kvs,k,b,e,_,_,_⟩
 ·obtain⟨_,_,vs,_,dd⟩:=zHp I.hok e
  exact dd.typeIs
 ·obtain⟨_,_,xs,_,dd⟩:=zMG I.hok e
  exact dd.typeIs
def tDGet (td ty:TE):TE:=fun σ H Q=>td σ H fun x H1=>ty σ H1 fun y H2=>∃ a v,x=.ref a/\DGet H2 a y (some v)/\Q v H2
section
variable {X:Cx}{o i e value:Expr}{pos pos' tpos:Pos}{td ty tv:TE}
theorem zOL(hu:X.A.units+1 < J2)(ho:PE X o td)(hi:PE X i ty)(hs:NoSl i):PE X (.Subscript o i pos) (tDGet td ty):=by
 intro pins s σ H Q I h
 refine zNC PySem.F.slot_dict_getitem.lookup hs (thn (ho pins s σ H _ I h) fun u s1 ⟨x,H1,I1,rx,q1⟩=>thn (hi pins s1 σ H1 _ I1 q1) fun iv s2 ⟨y,H2,I2,ry,a,v,ex,g,q2⟩=>?_)
 subst ex
 obtain rfl:u=Bc a:=rx
 exact⟨zGP I2 g,zJo hu I2 g ry fun w' s3 I3 rw'=>⟨v,H2,I3,rw',q2⟩⟩
end
theorem zLX(h:Heap)(hb:C9 < h.objs.size):ObjOk P w H (h.push { cls:=.type "dict",data:=.dict #[] }) h.objs.size (.dK []) :=
 ⟨Cp _,beq_eq_false_iff_ne.mpr (A6 (Ag hb)),[],.nil,Gh h⟩
noncomputable def tPairs:List (TE×TE)->St->Hp->(List (V×V)->Hp->Prop)->Prop
 | [],_,H,Q=>Q [] H
 | (tk,tv)::r,σ,H,Q=>tk σ H fun x H1=>tv σ H1 fun y H2=>tPairs r σ H2 fun ps H3=>Q ((x,y)::ps) H3
abbrev VV:List (V×V)->List (AD×AD)->Prop:=Ee fun p q=>RelV p.1 q.1/\RelV p.2 q.2
def PPs (X:Cx) (pos:Pos) (keys:List (Option Expr)) (values:List Expr) (trs:List (TE×TE)):Prop :=
 ∀ (pins:List (Addr×Obj)) (s:AG) (σ:St) (H:Hp) (Q:List (V×V)->Hp->Prop),Inv X pins σ H s->tPairs trs σ H Q ->
  AV (model X.prog X.w) X.A (evalPairs (pairTrees keys values X.env pos)) (fun vs s'=>∃ ps H',Inv X pins σ H' s'/\VV ps vs/\Q ps H') X.xe s
theorem zNN:PPs X pos [] [] []:=fun pins s σ H Q I h=>pairTrees_nil_walk ⟨[],H,I,.nil,h⟩
theorem zLP(hk:PE X k tk)(hv:PE X v tv)(hr:PPs X pos ks vs trs) :
  PPs X pos (some k::ks) (v::vs) ((tk,tv)::trs):=fun pins s σ H Q I h =>
 pairTrees_cons_walk (thn (hk pins s σ H _ I h) fun u s1 ⟨x,H1,I1,rx,q1⟩=>thn (hv pins s1 σ H1 _ I1 q1) fun w2 s2 ⟨y,H2,I2,ry,q2⟩ =>
  thn (hr pins s2 σ H2 _ I2 q2) fun ws s3 ⟨ps,H3,I3,rel,q3⟩=>⟨(x,y)::ps,H3,I3,.cons ⟨rx,ry⟩ rel,q3⟩)
def mergeK (kvs more:List (Key×V)):List (Key×V):=more.foldl (fun acc kv=>putK acc kv.1 kv.2) kvs
theorem KV.merge:∀ {more:List (Key×V)} {rs:List (Key×AD)} {kvs:List (Key×V)} {vs:List (Key×AD)},KV more rs->KV kvs vs->KV (mergeK kvs more) (merged vs rs):=by
 intro more rs kvs vs r
 unfold KV at r
 induction r generalizing kvs vs with
 | nil=>intro q; exact q
 | @cons p q ps qs h t ih =>
  intro r0
  have e:KV (putK kvs p.1 p.2) (stored vs q.1 q.2):=by
   have:=r0.put p.1 h.2
   rw[← h.1]; exact this
  exact ih e
theorem zBd:∀ (more kvs:List (Key×V)),(mergeK kvs more).length<=kvs.length+more.length
 | [],kvs=>by show kvs.length<=kvs.length+0; lia
 | p::r,kvs=>by
  have h1:=zBd r (putK kvs p.1 p.2)
  have h2:=zGC kvs p.1 p.2
  show (mergeK (putK kvs p.1 p.2) r).length<=_
  rw[Bf]; lia
theorem zDe:∀ {kvs:List (Key×V)} {ws:List (AD×AD)},VV (kvs.map fun kv=>(kV kv.1,kv.2)) ws->∃ rs,Carries (mixKind P w) ws rs/\KV kvs rs
 | [],_,r=>by rw[Aj]at r; cases r; exact⟨[],DP,.nil⟩
 | p::kvs,_,r=>by
  rw[AN]at r
  cases r with
  | @cons a b as bs h t =>
   obtain⟨rs,c,q⟩:=zDe (P:=P) (w:=w) t
   obtain⟨b1,b2⟩:=b
   exact⟨(p.1,b2)::rs,⟨zFB h.1,rfl,c⟩,.cons ⟨rfl,h.2⟩ q⟩
def tDisp (trs:List (TE×TE)):TE:=fun σ H Q=>∀ p,H p=none->tPairs trs σ (upd H p (.dK [])) fun ps H2=>H2 p=some (.dK [])/\∃ kvs:List (Key×V),ps=kvs.map (fun kv=>(kV kv.1,kv.2))/\kvs.length<=15/\Q (.ref p) (upd H2 p (.dK (mergeK [] kvs)))
theorem zN8(h:PPs X pos keys values trs)(hall:keys.all (·.isSome)=true)(hl:keys.length=values.length)(h0:keys≠[])
  (h15:keys.length<=15):PE X (.Dict keys values pos) (tDisp trs):=by
 intro pins s σ H Q I q
 have hn:=I.hok.fresh (AK s.heap.objs.size)
 have I1:=I.laid (a:=s.heap.objs.size) (o:=.dK []) (h':=s.heap.push { cls:=.type "dict",data:=.dict #[] }) (t':=s.toks) (fun _ _ q=>AE _ q) (AK _) (zLX s.heap I.big)
 refine wpAny_Dict_walk (knd:=mixKind X.prog X.w) hall hl h0 h15 (thn (h pins _ σ _ _ I1 (q _ hn)) fun ws s2 ⟨ps,H2,I2,rel,e,kvs,ep,lk,q2⟩=>?_)
 subst ep
 obtain⟨rs,c,rk⟩:=zDe (P:=X.prog) (w:=X.w) rel
 obtain⟨z,hd,vs0,r0,dd⟩:=zQO I2.hok e
 cases r0
 refine⟨rs,c,dd,fun h' dd' hs=>⟨.ref s.heap.objs.size,_,?_,rfl,q2⟩⟩
 have hz:(mergeK [] kvs).length<=AC:=by
  have h1:=zBd kvs []
  rw[Dh]at h1
  rw[Bz]; lia
 have he:∃ q,h'.get? s.heap.objs.size=some q:=let ⟨q,_,_,hq,_⟩:=dd'; ⟨q,hq⟩
 exact zNR I2 (by rw[e]; exact DP) hs he (zI4 hz hd (rk.merge .nil) dd')
end L2
namespace D
open PySem L2
noncomputable def keyT:T->Option Key
 | .a (.int n)=>some (.inl n)
 | .a (.str x)=>some (.inr x)
 | _=>none
def keyTs:List T->Option (List Key)
 | []=>some []
 | t::r=>(keyT t).bind fun k=>(keyTs r).map fun ks=>k::ks
theorem zGQ(h:Im K H y t)(e:keyT t=some k):y=kV k:=by
 unfold keyT at e
 split at e
 ·cases e; exact h.inva
 ·cases e; exact h.inva
 ·cases e
theorem zFH:∀ {vs:List V} {ts:List T} {ks:List Key},Ims K H vs ts->keyTs ts=some ks->vs=ks.map kV
 | _,[],_,h,e=>by cases e; exact h.inv0
 | _,t::r,_,h,e=>by
  obtain⟨v,vs,rfl,h1,h2⟩:=h.inv
  obtain⟨k,e1,e⟩:=bind_some e
  obtain⟨ks,e2,e⟩:=zAA e
  subst e
  rw[zGQ h1 e1,zFH h2 e2]; rfl
section
variable {κ:Type} [DecidableEq κ]
noncomputable def valT (kvs:List (κ×T)) (k:κ):Option T:=(kvs.find? fun kv=>decide (kv.1=k)).map (·.2)
noncomputable def putT (kvs:List (κ×T)) (k:κ) (t:T):List (κ×T) :=
 if (kvs.any fun kv=>decide (kv.1=k))=true then kvs.map (fun kv=>if kv.1=k then (kv.1,t) else kv) else kvs++[(k,t)]
def PR (K:Fg) (H:Hp) (l:List (κ×V)) (kvs:List (κ×T)):Prop:=Ee (fun a b=>a.1=b.1/\Im K H a.2 b.2) l kvs
variable {K:Fg}{H:Hp}
theorem PR.val{l:List (κ×V)}{kvs:List (κ×T)}(h:PR K H l kvs)(k:κ):(valV l k=none/\valT kvs k=none)\/∃ v t,valV l k=some v/\valT kvs k=some t/\Im K H v t:=by
 induction h with
 | nil=>exact .inl ⟨rfl,rfl⟩
 | @cons a b l kvs hab _ ih =>
  by_cases e:a.1=k
  ·refine .inr ⟨a.2,b.2,zCH e,?_,hab.2⟩
   simp[valT,CJ,← hab.1,e]
  ·rw[zCM e]
   have:valT (b::kvs) k=valT kvs k:=by simp[valT,CJ,← hab.1,e]
   rw[this]; exact ih
theorem PR.any{l:List (κ×V)}{kvs:List (κ×T)}(h:PR K H l kvs)(k:κ):(l.any fun kv=>decide (kv.1=k))=kvs.any fun kv=>decide (kv.1=k):=by
 induction h with
 | nil=>rfl
 | @cons a b l kvs hab _ ih=>rw[Cy,Cy,ih,hab.1]
theorem PR.app{l m:List (κ×V)}{kvs mvs:List (κ×T)}(h:PR K H l kvs)(h':PR K H m mvs):PR K H (l++m) (kvs++mvs):=by
 induction h with
 | nil=>exact h'
 | @cons a b l kvs hab _ ih=>exact .cons hab ih
theorem PR.put{l:List (κ×V)}{kvs:List (κ×T)}(h:PR K H l kvs)(k:κ)(hv:Im K H v t):PR K H (putK l k v) (putT kvs k t):=by
 unfold putK putT
 rw[h.any k]
 split
 ·rename_i hx; clear hx
  induction h with
  | nil=>exact .nil
  | @cons a b l kvs hab _ ih =>
   rw[AN,AN]
   refine .cons ?_ ih
   by_cases e:a.1=k
   ·rw[if_pos e,if_pos (hab.1 ▸ e)]; exact⟨hab.1,hv⟩
   ·rw[if_neg e,if_neg (hab.1 ▸ e)]; exact hab
 ·exact h.app (.cons ⟨rfl,hv⟩ .nil)
end
noncomputable def dictOf (Γ:En):S->Option Dk
 | .d d=>some d
 | .s i=>match Γ[i]? with
  | some (some (.d d))=>some d
  | some (some (.e d))=>some d
  | _=>none
 | _=>none
section
variable {K:Fg}{C:Fr}{w:W}{Γ:En}{σ:St}{H:Hp}{cs:List (List Key)}
theorem zOI(R:Rep K C w Γ σ H)(o:SOk K C w σ H x s)(e:dictOf Γ s=some d):∃ p ob,x=.ref p/\H p=some ob/\DOk K H ob d:=by
 cases s with
 | v t=>cases e
 | l _=>cases e
 | d d' =>
  cases e
  obtain⟨p,ob,rfl,_,_,_,h1,h2⟩:=o
  exact⟨p,ob,rfl,h1,h2⟩
 | s i =>
  unfold dictOf at e
  have o':σ[i]?=some (some x):=o
  dsimp only at e
  split at e
  ·rename_i d' hi
   cases e
   obtain⟨v,e1,p,ob,rfl,_,h1,h2⟩:=R.val i _ hi
   rw[o']at e1; cases e1
   exact⟨p,ob,rfl,h1,h2⟩
  ·rename_i d' hi
   cases e
   obtain⟨v,e1,p,ob,rfl,h2,h1,_⟩:=R.val i _ hi
   rw[o']at e1; cases e1
   exact⟨p,ob,rfl,h1,h2⟩
  ·cases e
theorem DOk.invK(h:DOk K H ob (.inl kvs)):∃ l,ob=.dK l/\PR K H l kvs:=by
 cases ob with
 | dK l=>exact⟨l,rfl,h⟩
 | _=>exact h.elim
end
def rDGet:R2:=fun x y H Q=>∃ a v,x=.ref a/\DGet H a y (some v)/\Q v H
section
variable {ι:Type}{K:Fg}{mg:Str->Option AD}{k:Nat}{X:ι->Cx}{cs:List (List Key)}{o i e f:Expr}{fo fk fx:DE}{pos apos cpos:Pos}{ip:Option Nat}
theorem un1(M:Fm K mg k X)(j:ι):(X j).A.units+1 < J2:=by have:=(M.room j).un; lia
end
section
variable {Γ:En}{cs:List (List Key)}{fo fk fx:DE}{i:Nat}
@[simp] theorem zRw:dictOf Γ (.d d)=some d:=(rfl)
end
section
variable {K:Fg}{C:Fr}{w:W}{Γ:En}{σ:St}{H:Hp}
theorem Rep.tmp(r:Rep K C w Γ σ H)(n1:p∉w.L)(n2:¬ w.R p)(ow:Ow C p)(hp:H p=some ob)(m:Mu ob):Rep K C w Γ σ (upd H p ob'):=by
 have ev:Evo (p::w.L) H (upd H p ob'):=fun c o e n=>by rw[zAB (fun z:c=p=>n (by rw[z]; exact AY))]; exact e
 have hL:LL (p::w.L) H:=fun q hq=>by
  rcases AL.mp hq with z | z
  ·subst z; exact⟨ob,hp,m⟩
  ·exact r.lst q z
 have nl:∀ {q:Addr},q∈w.L->q≠p:=fun hq z=>n1 (z ▸ hq)
 have nr:∀ {q:Addr},w.R q->q≠p:=fun hq z=>n2 (z ▸ hq)
 refine⟨r.len,fun i g h=>?_,r.apart,fun q hq=>?_,r.own,fun q hq=>?_,r.rl,fun b o hb n=>?_,r.tab.evo ev hL,r.pin⟩
 ·obtain⟨v,e1,e2⟩:=r.val i g h
  refine⟨v,e1,?_⟩
  cases g with
  | v t=>exact Im.evo ev hL e2
  | l xs=>obtain⟨q,vs,rfl,hq,hv,hi⟩:=e2; exact⟨q,vs,rfl,hq,by rw[zAB (nl hq)]; exact hv,hi.evo ev hL⟩
  | r xs=>obtain⟨q,vs,rfl,hi,hv,a,b⟩:=e2; exact⟨q,vs,rfl,hi.evo ev hL,by rw[zAB (nr b)]; exact hv,a,b⟩
  | k xs=>obtain⟨q,vs,rfl,hi,hk⟩:=e2; exact⟨q,vs,rfl,hi.evo ev hL,hk.evo ev hL⟩
  | d xs=>obtain⟨q,o,rfl,hq,hv,hi⟩:=e2; exact⟨q,o,rfl,hq,by rw[zAB (nl hq)]; exact hv,hi.evo ev hL⟩
  | e xs=>obtain⟨q,o,rfl,hi,hv,a,b⟩:=e2; exact⟨q,o,rfl,hi.evo ev hL,by rw[zAB (nr b)]; exact hv,a,b⟩
 ·obtain⟨o,e,m⟩:=r.lst q hq
  exact⟨o,by rw[zAB (nl hq)]; exact e,m⟩
 ·obtain⟨o,e⟩:=r.ra q hq
  exact⟨o,by rw[zAB (nr hq)]; exact e⟩
 ·have hb':=r.frame b o hb n
  have:b≠p:=fun z=>by
   subst z
   rcases ow with ow | ow
   ·exact n ow
   ·rw[ow]at hb; cases hb
  rw[zAB this]; exact hb'
end
end D
namespace L2
open PySem PySem.Spec PyProof.Rows
theorem zDM:Ff (.type "zip") "__getattr__"=pure none:=by rw[Bh,BC]; kernel_rfl
theorem zEw:Ff (.type "zip") "keys"=pure none:=by rw[Bh,BC]; kernel_rfl
theorem zBz:Gu table "zip.__getattribute__"=some Builtin.«object.__getattribute__» :=
 KC (id':="object.__getattribute__") (by kernel_rfl) (by decide +kernel) (by decide +kernel) (by kernel_rfl)
theorem zD4(a:Addr)(fs:Array AD)(sl:Array (Option AD))(u:Tok) :
  Ir (Builtin.«object.__getattribute__» ⟨[.ref a,.str "keys" u],[]⟩) (fun A R s=>s.heap.get? a=some { cls:=.type "zip",dict:=none,data:=.fields fs,slots:=sl }/\raisesAttr (.ref a) "keys" A R s) :=
 Meets.of_wp fun prog w A R s hs=>by
  obtain⟨hp,g,d,tk,os⟩:=s
  obtain⟨hx,hs⟩:=hs
  have hT:(⟨hp,g,d,tk,os⟩:AG).TypeIs (.ref a) "zip":=⟨_,hx,rfl⟩
  have hname:(["__module__","__name__","__qualname__","__doc__","__annotations__"]:List Str).contains "keys"=false:=by decide +kernel
  have hmiss:=zEw
  unfold Builtin.«object.__getattribute__»
  repeat (any_goals (first | assumption | wp_step))
  repeat (any_goals (first | assumption | wp_step))
  exact wpAny_raiseAttrError hs.1 hs.2 (attrMsg_fits (by decide +kernel) (by decide +kernel))
theorem getAttr?_miss_zip
  (hx:s.heap.get? a=some { cls:=.type "zip",data:=.fields fs }) (hA:A.handled=none)
  (h:∀ h' tk e,Heap.NewExcOf s.heap h' e "AttributeError"->Q none { s with heap:=h',toks:=tk }) :
  AV (model prog w) A (getAttr? (.ref a) "keys") Q E s:=by
 obtain⟨hp,g,d,tk,os⟩:=s
 have hT:∀ tk',(⟨hp,g,d,tk',os⟩:AG).TypeIs (.ref a) "zip":=fun _=>⟨_,hx,rfl⟩
 have f1:=sub_AttributeError
 have f3:=ER.lookup
 have f4:=ER.bind (.ref a)
 have f5:=zDM
 unfold getAttr? getAttrBy? getAttrBy
 repeat (any_goals (first | assumption | exact hT _ | ((with_reducible show AV _ _ (call (Value.builtin "zip.__getattribute__") _ _) _ _ _); refine DD ER (hT _) zBz (F.args_zip_getattribute_2 _ _) (zD4 a fs #[] _) ⟨hx,hA,fun h' tk' e hx'=>?_⟩) | wp_step))
 obtain⟨t',u',he⟩:=hx'.there
 show AV _ _ (Ia _ _ _ _ _ _ _) _ _ _
 unfold Ia
 repeat (any_goals (first | assumption | wp_step))
 exact h _ _ _ hx'.of
noncomputable abbrev IsZO (h:Heap) (z TI TO T:Addr) (f:Bool):Prop :=
 h.get? z=some { cls:=.type "zip",dict:=none,data:=.fields #[CV T,.bool f,.bool false,.ref TI,.ref TO],slots:=#[] }
section
variable {prog:Ai}{w:Ax}{A:BE}{E:AD->AG->Prop}{s:AG}
theorem zLR(ho:s.heap.get? a=some o)(h:Q (some o) s):AV (model prog w) A (loadIfAlive a) Q E s:=by
 exact PySem.W.kdx_alive ho h
variable {z TI TO i1 i2 l1 l2 T:Addr}{S1 S2:Nat->Heap->Prop}{xs ys:Array AD}{k:Nat}{f:Bool}{oT:Obj}
theorem zEh(hz:IsZO s.heap z TI TO T f)(hT:s.heap.get? T=some oT)
  (h:∀ h1,IsZO h1 z TI TO T true->BU z s.heap h1->Q false { s with heap:=h1 }):AV (model prog w) A (Am (.ref z)) Q E s:=by
 unfold Am
 refine AB (Ar hz rfl (x:=CV T) rfl ?_)
 show AV _ _ (loadIfAlive (T:Int).toNat >>= _) _ _ _
 rw[Bm]
 refine AB (zLR hT ?_)
 simp only[Option.isNone_some,C2,if_false]
 refine AB (Ar hz rfl (x:=.bool f) rfl ?_)
 cases f with
 | true=>exact AH (h _ hz (Jn _ _))
 | false =>
  refine AB (A5 hz (by simp) fun h1 z1 b1=>?_)
  exact AH (h h1 z1 b1)
theorem zJW{x y:AD}{Q:AD->AG->Prop}(D:ZAp z TI TO i1 i2 l1 l2)(D1:Drawer prog w i1 l1 xs S1)(D2:Drawer prog w i2 l2 ys S2)(hz:IsZO s.heap z TI TO T f)(hT:s.heap.get? T=some oT)(hTI:Ce s.heap TI (.ref i1) (.ref i2))(st1:S1 k s.heap)(st2:S2 k s.heap)(hx:xs[k]?=some x)(hy:ys[k]?=some y)
  (hQ:∀ h',IsZO h' z TI TO T true->S1 (k+1) h'->S2 (k+1) h'->Ce h' s.heap.objs.size x y ->
   (∀ c o,c≠z->c≠i1->c≠i2->s.heap.get? c=some o->h'.get? c=some o)->Q (.ref s.heap.objs.size) { s with heap:=h' }) :
  AV (model prog w) A (Builtin.«zip.__next__» ⟨[.ref z],[]⟩) (fun fin s'=>∃ v,fin=.done (.ret v)/\Q v s') E s:=by
 obtain⟨⟨TIz,TOz,i1z,i2z,TITO,TIi1,TIi2,TOi1,TOi2,i12,l1z,l1TO,l1i1,l1i2,l2z,l2TO,l2i1,l2i2⟩,_,_⟩:=D
 show AV _ _ (field (.ref z) 2 >>= _) _ _ _; refine AB (Ar hz rfl (x:=.bool false) rfl ?_)
 show AV _ _ (field (.ref z) 3 >>= _) _ _ _; refine AB (Ar hz rfl (x:=.ref TI) rfl (AB (Bd hTI rfl ?_)))
 show AV _ _ (Am (.ref z) >>= _) _ _ _
 refine AB (zEh hz hT fun h1 z1 b1=>?_)
 simp only[C2,if_false]
 refine AB ?_
 rw[← HG]
 simp only[Dg,Do]
 refine AB (AB (Br ?_)); show AV _ _ (As (.ref i1) >>= _) _ _ _
 refine AB (D1.item _ k _ x _ _ (D1.keep _ _ _ st1 (fun o e=>b1.extBut _ _ i1z e) fun o e=>b1.extBut _ _ l1z e) hx fun h2 t1 b2=>AH ?_)
 refine AH (AB (AB (Br ?_))); show AV _ _ (As (.ref i2) >>= _) _ _ _
 have s2':S2 k h2:=D2.keep _ _ _ st2 (fun o e=>b2.extBut _ _ i12.symm (b1.extBut _ _ i2z e)) fun o e=>b2.extBut _ _ l2i1 (b1.extBut _ _ l2z e)
 refine AB (D2.item _ k _ y _ _ s2' hy fun h4 t2 b4=>AH ?_)
 refine AH (AH ?_)
 refine AB (Gn ?_ (by show 2<=AC; decide))
 have hsz:h4.objs.size=s.heap.objs.size:=by rw[b4.1,b2.1,b1.1]
 have z4:IsZO h4 z TI TO T true:=b4.extBut _ _ i2z.symm (b2.extBut _ _ i1z.symm z1)
 have k4:∀ c o,c≠z->c≠i1->c≠i2->s.heap.get? c=some o->h4.get? c=some o:=fun c o c1 c3 c4 e=>b4.extBut _ _ c4 (b2.extBut _ _ c3 (b1.extBut _ _ c1 e))
 have t1':S1 (k+1) h4:=D1.keep _ _ _ t1 (fun o e=>b4.extBut _ _ i12 e) fun o e=>b4.extBut _ _ l1i2 e
 refine AH ⟨_,rfl,?_⟩
 show Q (.ref h4.objs.size) _
 rw[hsz]
 have up:∀ c o,h4.get? c=some o->(h4.push { cls:=.type "tuple",data:=.seq #[x,y] }).get? c=some o:=fun c o e=>AE _ e
 refine hQ _ (up _ _ z4) (D1.keep _ _ _ t1' (fun o e=>up _ o e) fun o e=>up _ o e) (D2.keep _ _ _ t2 (fun o e=>up _ o e) fun o e=>up _ o e) ?_ fun c o c1 c2 c3 e=>up _ _ (k4 c o c1 c2 c3 e)
 rw[← hsz]
 exact AQ _ rfl
theorem zKt(hh:A.handled=none)(D:ZAp z TI TO i1 i2 l1 l2)(D1:Drawer prog w i1 l1 xs S1)(hz:IsZO s.heap z TI TO T f)(hT:s.heap.get? T=some oT)(hTI:Ce s.heap TI (.ref i1) (.ref i2))(st1:S1 k s.heap)(hx:xs[k]?=none)
  (hE:∀ h' e,(∀ c o,c≠z->c≠i1->s.heap.get? c=some o->h'.get? c=some o)->(∃ o,h'.get? e=some o/\o.cls=.type "StopIteration")->E (.ref e) { s with heap:=h' }) :
  AV (model prog w) A (Builtin.«zip.__next__» ⟨[.ref z],[]⟩) Q E s:=by
 obtain⟨⟨TIz,TOz,i1z,i2z,TITO,TIi1,TIi2,TOi1,TOi2,i12,l1z,l1TO,l1i1,l1i2,l2z,l2TO,l2i1,l2i2⟩,_,_⟩:=D
 show AV _ _ (field (.ref z) 2 >>= _) _ _ _; refine AB (Ar hz rfl (x:=.bool false) rfl ?_)
 show AV _ _ (field (.ref z) 3 >>= _) _ _ _; refine AB (Ar hz rfl (x:=.ref TI) rfl (AB (Bd hTI rfl ?_)))
 show AV _ _ (Am (.ref z) >>= _) _ _ _
 refine AB (zEh hz hT fun h1 z1 b1=>?_)
 simp only[C2,if_false]
 refine AB ?_
 rw[← HG]
 simp only[Dg,Do]
 refine AB (AB (Br ?_)); show AV _ _ (As (.ref i1) >>= _) _ _ _
 refine AB (D1.fini _ k _ _ _ hh (D1.keep _ _ _ st1 (fun o e=>b1.extBut _ _ i1z e) fun o e=>b1.extBut _ _ l1z e) hx fun h2 e b2 he=>?_)
 exact hE h2 e (fun c o c1 c2 q=>b2 _ _ c2 (b1.extBut _ _ c1 q)) he
end
theorem zBe:Gu table "dict.update.loop"=some Builtin.«dict.update.loop»:=GK (by kernel_rfl)
theorem zAw:plainId "dict.update.loop"=true:=by decide +kernel
structure ZL(z TI TO i1 i2 a1 a2 d:Addr)(xs ys:Array AD)(k:Nat)(h:Heap):Prop where
 zz:(FV h z TI TO .none/\∃ a b,Ce h TO a b)\/∃ T oT f,IsZO h z TI TO T f/\h.get? T=some oT/\T≠z/\T≠i1/\T≠i2/\T≠d
 ti:Ce h TI (.ref i1) (.ref i2)
 s1:h.IsTupleIter i1 a1 k/\h.IsTuple a1 xs
 s2:h.IsTupleIter i2 a2 k/\h.IsTuple a2 ys
section
variable {prog:Ai}{w:Ax}{A:BE}{E:AD->AG->Prop}{s:AG}{z TI TO i1 i2 a1 a2 d:Addr}{xs ys:Array AD}{k:Nat}
theorem ZL.type(st:ZL z TI TO i1 i2 a1 a2 d xs ys k h):∃ o,h.get? z=some o/\o.cls=.type "zip":=by
 rcases st.zz with ⟨q,_⟩ | ⟨T,oT,f,q,_⟩
 ·exact⟨_,q,rfl⟩
 ·exact⟨_,q,rfl⟩
theorem ZL.keep(st:ZL z TI TO i1 i2 a1 a2 d xs ys k h)(n1:z≠d)(n2:TI≠d)(n3:TO≠d)(n4:i1≠d)(n5:i2≠d)(n6:a1≠d)(n7:a2≠d)(kp:∀ c o,c≠d->h.get? c=some o->h'.get? c=some o):ZL z TI TO i1 i2 a1 a2 d xs ys k h' where
 zz:=by
  rcases st.zz with ⟨q,a,b,q2⟩ | ⟨T,oT,f,q,q2,q3,q4,q5,q6⟩
  ·exact .inl ⟨kp _ _ n1 q,a,b,kp _ _ n3 q2⟩
  ·exact .inr ⟨T,oT,f,kp _ _ n1 q,kp _ _ q6 q2,q3,q4,q5,q6⟩
 ti:=kp _ _ n2 st.ti
 s1:=⟨(let ⟨o,e,r⟩:=st.s1.1; ⟨o,kp _ _ n4 e,r⟩),(let ⟨o,e,r⟩:=st.s1.2; ⟨o,kp _ _ n6 e,r⟩)⟩
 s2:=⟨(let ⟨o,e,r⟩:=st.s2.1; ⟨o,kp _ _ n5 e,r⟩),(let ⟨o,e,r⟩:=st.s2.2; ⟨o,kp _ _ n7 e,r⟩)⟩
theorem zNQ(D:ZAp z TI TO i1 i2 a1 a2)(hd:d < s.heap.objs.size)(st:ZL z TI TO i1 i2 a1 a2 d xs ys k s.heap)(hx:xs[k]?=some x)(hy:ys[k]?=some y)
  (hQ:∀ h',ZL z TI TO i1 i2 a1 a2 d xs ys (k+1) h'->Ce h' s.heap.objs.size x y->(∀ c o,c≠z->c≠TO->c≠i1->c≠i2->s.heap.get? c=some o->h'.get? c=some o)->Q (some (.ref s.heap.objs.size)) { s with heap:=h' }) :
  AV (model prog w) A (DC (.ref z)) Q E s:=by
 have hT:s.TypeIs (.ref z) "zip":=st.type
 have lz:z < s.heap.objs.size:=by obtain⟨o,e,_⟩:=st.type; exact AJ e
 have l1:i1 < s.heap.objs.size:=by obtain⟨o,e,_⟩:=st.s1.1; exact AJ e
 have l2:i2 < s.heap.objs.size:=by obtain⟨o,e,_⟩:=st.s2.1; exact AJ e
 have lT:TI < s.heap.objs.size:=AJ st.ti
 unfold DC
 refine AB (B8 (Ay (name:=Ba "__next__") hT CK (A9 CK hT EM ?_ (D9 _))))
 rcases st.zz with ⟨q,a,b,q2⟩ | ⟨T,oT,f,q,q2,q3,q4,q5,q6⟩
 ·refine zDY D (zAs i1 a1 xs D.a.l1i1) (zAs i2 a2 ys D.a.l2i2) ⟨q,st.ti,⟨a,b,q2⟩,st.s1,st.s2⟩ hx hy fun h' st' hp hk=>AH ?_
  exact hQ h' ⟨.inr ⟨_,_,false,st'.z,hp,BZ lz,BZ l1,BZ l2,BZ hd⟩,st'.ti,st'.s1,st'.s2⟩ hp hk
 ·refine zJW D (zAs i1 a1 xs D.a.l1i1) (zAs i2 a2 ys D.a.l2i2) q q2 st.ti st.s1 st.s2 hx hy fun h' z' t1 t2 hp hk=>AH ?_
  exact hQ h' ⟨.inr ⟨T,oT,true,z',hk _ _ q3 q4 q5 q2,q3,q4,q5,q6⟩,hk _ _ D.a.TIz D.a.TIi1 D.a.TIi2 st.ti,t1,t2⟩ hp fun c o c1 _ c3 c4 e=>hk c o c1 c3 c4 e
theorem zP9(hh:A.handled=none)(D:ZAp z TI TO i1 i2 a1 a2)(st:ZL z TI TO i1 i2 a1 a2 d xs ys k s.heap)(hx:xs[k]?=none)
  (hQ:∀ h',(∀ c o,c≠z->c≠TO->c≠i1->c≠i2->s.heap.get? c=some o->h'.get? c=some o)->Q none { s with heap:=h' }) :
  AV (model prog w) A (DC (.ref z)) Q E s:=by
 have hT:s.TypeIs (.ref z) "zip":=st.type
 unfold DC
 refine AB (B8 (Ay (name:=Ba "__next__") hT CK (A9 CK hT EM ?_ (D9 _))))
 rcases st.zz with ⟨q,a,b,q2⟩ | ⟨T,oT,f,q,q2,q3,q4,q5,q6⟩
 ·refine zEa hh D (zAs i1 a1 xs D.a.l1i1) (zAs i2 a2 ys D.a.l2i2) ⟨q,st.ti,⟨a,b,q2⟩,st.s1,st.s2⟩ (.inl hx) fun h' e hk he=>?_
  obtain⟨o,ho,hcl⟩:=he
  exact AB (CB (T:="StopIteration") (b:=true) ⟨o,ho,hcl⟩ D6 (AH (hQ h' hk)))
 ·refine zKt hh D (zAs i1 a1 xs D.a.l1i1) q q2 st.ti st.s1 hx fun h' e hk he=>?_
  obtain⟨o,ho,hcl⟩:=he
  exact AB (CB (T:="StopIteration") (b:=true) ⟨o,ho,hcl⟩ D6 (AH (hQ h' fun c o c1 _ c3 _ e=>hk c o c1 c3 e)))
theorem zLU{knd:GD prog w Key}{R:Result->AG->Prop}(hh:A.handled=none)(D:ZAp z TI TO i1 i2 a1 a2)(n1:z≠d)(n2:TI≠d)(n3:TO≠d)(n4:i1≠d)(n5:i2≠d)(n6:a1≠d)(n7:a2≠d)
  (rs:List (Key×AD)) (hx:∀ (j:Nat) p,rs[j]?=some p->∃ key,xs[j]?=some key/\knd.is p.1 key=true/\ys[j]?=some p.2) (hxe:xs[rs.length]?=none) (hsz:rs.length<=100000) {s0:AG}
  (hR:∀ h' tk,h'.DictOf knd d (merged [] rs)->(∀ c o,c≠z->c≠TO->c≠i1->c≠i2->c≠d->s0.heap.get? c=some o->h'.get? c=some o)->R (.ok (.ret .none)) { s0 with heap:=h',toks:=tk }) :
  ∀ (m k:Nat) (h:Heap) (tk:Nat) (t:Tok),rs.length - k=m->k<=rs.length->ZL z TI TO i1 i2 a1 a2 d xs ys k h->h.DictOf knd d (merged [] (rs.take k))->(∀ c o,c≠z->c≠TO->c≠i1->c≠i2->c≠d->s0.heap.get? c=some o->h.get? c=some o) ->
   DR (model prog w) A (.builtin "dict.update.loop" ⟨[.ref d,.ref z,.int (k:Int) t,.none],[]⟩) R { s0 with heap:=h,toks:=tk }:=by
 intro m
 induction m with
 | zero =>
  intro k h tk t hm hk st hD hkp
  have hkn:k=rs.length:=by lia
  subst hkn
  refine Es zBe ?_
  rw[DM zAw _]
  show AV _ A.in1 (DC (.ref z) >>= _) _ _ _
  refine AB (zP9 (s:={ s0 with heap:=h,toks:=tk }) (A:=A.in1) hh D st hxe fun h' hk'=>?_)
  show AV _ _ (Jo d [] >>= _) _ _ _
  refine AB (AH (AH ?_))
  rw[List.take_length]at hD
  refine hR h' tk (hD.at fun o e=>hk' d o n1.symm n3.symm n4.symm n5.symm e) fun c o c1 c2 c3 c4 c5 e=>hk' c o c1 c2 c3 c4 (hkp c o c1 c2 c3 c4 c5 e)
 | succ m ih =>
  intro k h tk t hm hk st hD hkp
  have hlt:k < rs.length:=by lia
  obtain⟨key,e1,e2,e3⟩:=hx k rs[k] (by simp[hlt])
  refine Es zBe ?_
  rw[DM zAw _]
  show AV _ A.in1 (DC (.ref z) >>= _) _ _ _
  have hdl:d < h.objs.size:=by obtain⟨o,_,_,e,_⟩:=hD; exact AJ e
  refine AB (zNQ (s:={ s0 with heap:=h,toks:=tk }) (A:=A.in1) D hdl st e1 e3 fun h' st' hp hk'=>?_)
  refine AB (Br ?_)
  refine AB (wpAny_tryCatch ?_)
  unfold Jp
  refine AB (DV (show IA _ (.ref h.objs.size) "tuple" from ⟨_,hp,rfl⟩) ?_)
  show AV _ _ (HQ (.ref h.objs.size) >>= _) _ _ _
  refine AB (Bd hp rfl (AH ?_))
  show AV _ _ (holding [key,(rs[k]).2] (dictSet d key (rs[k]).2)) _ _ _
  have hD':h'.DictOf knd d (merged [] (rs.take k)):=hD.at fun o e=>hk' d o n1.symm n3.symm n4.symm n5.symm e
  have hlm:(merged [] (rs.take k)).length<=AC:=by
   have:=merged_length_le ([]:List (Key×AD)) (rs.take k)
   have e:(rs.take k).length<=100000:=by rw[CS]; lia
   rw[Dh]at this
   exact Al (by lia) (show 100000<=AC by decide)
  refine Br (wpAny_dictSet_pairs (hsz:=hlm) e2 hD' fun h2 hD2 hs=>?_)
  rw[← merged_take_succ [] rs k rs[k] (by simp[hlt])]at hD2
  refine AH ⟨EN zAw _,?_⟩
  refine ih (k+1) h2 (tk+1) 0 (by lia) (by lia) (st'.keep n1 n2 n3 n4 n5 n6 n7 fun c o hc e=>(hs.2 c hc).trans e) hD2 fun c o c1 c2 c3 c4 c5 e=>(hs.2 c c5).trans (hk' c o c1 c2 c3 c4 (hkp c o c1 c2 c3 c4 c5 e))
end
section
variable {prog:Ai}{w:Ax}{A:BE}{E:AD->AG->Prop}{s:AG}{z TI TO i1 i2 a1 a2:Addr}{xs ys:Array AD}
theorem zE4{knd:GD prog w Key}{Q:AD->AG->Prop}(hh:A.handled=none)(D:ZAp z TI TO i1 i2 a1 a2)(hz:FV s.heap z TI TO .none)(hTO:∃ a b,Ce s.heap TO a b)(hTI:Ce s.heap TI (.ref i1) (.ref i2))
  (h1:s.heap.IsTupleIter i1 a1 0/\s.heap.IsTuple a1 xs) (h2:s.heap.IsTupleIter i2 a2 0/\s.heap.IsTuple a2 ys)
  (rs:List (Key×AD)) (hx:∀ (j:Nat) p,rs[j]?=some p->∃ key,xs[j]?=some key/\knd.is p.1 key=true/\ys[j]?=some p.2) (hxe:xs[rs.length]?=none) (hsz:rs.length<=100000)
  (h:∀ h' tk,h'.DictOf knd s.heap.objs.size (merged [] rs)->(∀ c o,c≠z->c≠TO->c≠i1->c≠i2->s.heap.get? c=some o->h'.get? c=some o)->Q (.ref s.heap.objs.size) { s with heap:=h',toks:=tk }) :
  AV (model prog w) A (call (.type "dict") [.ref z]) Q E s:=by
 refine KD (Q₁:=fun obj s₁=>obj=.ref s.heap.objs.size/\s₁={ s with heap:=s.heap.push { cls:=.type "dict",data:=.dict #[] } }) PySem.F.kt_called_dict (PySem.F.kt_typeCall_dict_1 _) PySem.F.entry_dict_init (kt_code_dict_new _ ⟨rfl,rfl⟩) ?_
 rintro obj s₁ ⟨rfl,rfl⟩
 have hnew:(s.heap.push { cls:=.type "dict",data:=.dict #[] }).DictOf knd s.heap.objs.size []:=Gh s.heap
 have up:∀ c o,s.heap.get? c=some o->(s.heap.push { cls:=.type "dict",data:=.dict #[] }).get? c=some o:=fun c o e=>AE _ e
 have hz':=up _ _ hz
 refine⟨hnew.typeIs,PySem.F.args_dict_init_2 _ _,?_⟩
 unfold Builtin.«dict.__init__»
 refine AB ?_
 unfold Jq
 refine AB (wpAny_notOrdered_dict hnew.typeIs ?_)
 show AV _ _ (pure (s.heap.objs.size,[Bc z])) _ _ _
 refine AH ?_
 show AV _ _ (FS "dict.__init__" s.heap.objs.size (.ref z) [] .none) _ _ _
 unfold FS
 refine AB (DV (show IA _ (.ref z) "zip" from ⟨_,hz',rfl⟩) ?_)
 rw[if_pos (by decide)]
 refine AB (getAttr?_miss_zip hz' hh fun h3 tk3 e3 x3=>?_)
 rw[if_pos (by rfl)]
 refine AB (Cw (AB ?_))
 have up3:∀ c o,s.heap.get? c=some o->h3.get? c=some o:=fun c o e=>x3.1 c o (up c o e)
 refine GI (up3 _ _ hz) ?_
 have ne:∀ {c:Addr} {o:Obj},s.heap.get? c=some o->c≠s.heap.objs.size:=fun e=>Ag (AJ e)
 obtain⟨pa,pb,hTO⟩:=hTO
 have g1:=h1; have g2:=h2
 obtain⟨⟨o1,q1,r1⟩,⟨o2,q2,r2⟩⟩:=h1
 obtain⟨⟨o3,q3,r3⟩,⟨o4,q4,r4⟩⟩:=h2
 refine AH ⟨EN zAw _,?_⟩
 refine zLU (knd:=knd) (d:=s.heap.objs.size) (A:=A.in1) (s0:={ s with heap:=h3,toks:=tk3 }) hh D (ne hz) (ne hTI) (ne hTO) (ne q1) (ne q3) (ne q2) (ne q4) rs hx hxe hsz (fun h' tk hd hk=>⟨rfl,h h' tk hd fun c o c1 c2 c3 c4 e=>hk c o c1 c2 c3 c4 (ne e) (up3 c o e)⟩) rs.length 0 h3 tk3 0 (by lia) (Cp _) ⟨.inl ⟨up3 _ _ hz,pa,pb,up3 _ _ hTO⟩,up3 _ _ hTI,⟨⟨o1,up3 _ _ q1,r1⟩,⟨o2,up3 _ _ q2,r2⟩⟩,⟨⟨o3,up3 _ _ q3,r3⟩,⟨o4,up3 _ _ q4,r4⟩⟩⟩ (hnew.at fun o e=>x3.1 _ o e) fun c o _ _ _ _ _ e=>e
end
def tDZip (K:AM) (ta:TA):TE:=fun σ H Q=>ta σ H fun vs H1=>∃ (a1 a2:Addr) (ks:List Key) (us:List V),vs=[.ref a1,.ref a2]/\SqT K H1 a1 (ks.map kV)/\SqT K H1 a2 us/\us.length=ks.length/\ks.length<=100000/\∀ p,H1 p=none->Q (.ref p) (upd H1 p (.dK (mergeK [] (ks.zip us))))
theorem zNf{X:Cx}{e1 e2:Expr}{ta:TA}{p p0 pos pos0:Pos}(hr:X.A.handled=none)(hg:Gl X "zip")(hm:X.mg "zip"=none)(hg0:Gl X "dict")(hm0:X.mg "dict"=none)(ha:PA X [e1,e2] ta)(hs:AU [e1,e2] X.env=[(false,eval e1 X.env),(false,eval e2 X.env)]:=by rfl)(hs2:AU [e2] X.env=[(false,eval e2 X.env)]:=by rfl)
  (hs3:AU [.Call (.Name "zip" p) [e1,e2] [] pos] X.env=[(false,eval (.Call (.Name "zip" p) [e1,e2] [] pos) X.env)]:=by rfl) :
  PE X (.Call (.Name "dict" p0) [.Call (.Name "zip" p) [e1,e2] [] pos] [] pos0) (tDZip X.K ta):=by
 intro pins s σ H Q I h
 refine GN (zAx I hg0 hm0 Jr (Av ?_ hs3 rfl))
 rw[hs3]
 refine Eu ?_
 refine GN (zAx I hg hm boot_zip (Av (thn (ha pos pins s σ H _ I h) fun us s1 ⟨vs,H1,I1,r1,q1⟩=>?_) (by rw[hs,hs2]) (by rw[hs2]; rfl)))
 obtain⟨a1,a2,ks,ws,e,h1,h2,hlen,hsz,q⟩:=q1
 subst e
 obtain⟨u1,u2,e,r,r'⟩:=vals2 r1
 subst e
 cases r; cases r'
 obtain⟨its1,v1,o1,z1⟩:=I1.tuple h1
 obtain⟨its2,v2,o2,z2⟩:=I1.tuple h2
 have lt1:a1 < s1.heap.objs.size:=by obtain⟨o,e,_⟩:=(show s1.heap.IsTuple a1 its1.toArray from o1); exact AJ e
 have lt2:a2 < s1.heap.objs.size:=by obtain⟨o,e,_⟩:=(show s1.heap.IsTuple a2 its2.toArray from o2); exact AJ e
 have D:ZAp (s1.heap.objs.size+4) (s1.heap.objs.size+2) (s1.heap.objs.size+3) s1.heap.objs.size (s1.heap.objs.size+1) a1 a2 :=
  ⟨Ks lt1 lt2,Ag (Aa lt1 (BV _ 2)),Ag (Aa lt2 (BV _ 2))⟩
 refine zEm o1 o2 fun h' st hk=>Du ?_
 have hl1:=v1.length
 have hl2:=v2.length
 rw[A7]at hl1
 have lrs:(ks.zip its2).length=ks.length:=by rw[Fl]; lia
 obtain⟨t1o,t1e,t1r⟩:=(show s1.heap.IsTuple a1 its1.toArray from o1)
 obtain⟨t2o,t2e,t2r⟩:=(show s1.heap.IsTuple a2 its2.toArray from o2)
 refine zE4 (knd:=mixKind X.prog X.w) (s:={ s1 with heap:=h' }) (xs:=its1.toArray) (ys:=its2.toArray) hr D st.z st.to st.ti ⟨st.s1,⟨t1o,hk _ _ t1e,t1r⟩⟩ ⟨st.s2,⟨t2o,hk _ _ t2e,t2r⟩⟩ (ks.zip its2) (fun j pr hj=>?_) (by rw[lrs]; simp; lia) (by rw[lrs]; exact hsz) fun h4 tk hd hk4=>?_
 ·obtain⟨g1,g2⟩:=Dv.mp hj
  obtain⟨key,e1,r1⟩:=v1.get (i:=j) (x:=kV pr.1) (by rw[Af,g1]; rfl)
  exact⟨key,by simpa using e1,zFB r1,by simpa using g2⟩
 ·have old:∀ c o,s1.heap.get? c=some o->h4.get? c=some o:=fun c o e=>by
   have hc:=AJ e
   exact hk4 c o (Ag (Aa hc (BV _ 4))) (Ag (Aa hc (BV _ 3))) (Ag hc) (Ag (Aa hc (BV _ 1))) (hk c o e)
  have hb:s1.heap.objs.size<=h'.objs.size:=DB (Ds (BV _ 4) (AJ st.z))
  have rel:KV (ks.zip ws) (ks.zip its2):=by
   have gen:∀ (ks:List Key) (ws:List V) (its2:List AD),Vals ws its2->ws.length=ks.length->KV (ks.zip ws) (ks.zip its2):=by
    intro ks
    induction ks with
    | nil=>intro ws its2 v2 hlen; simp; exact .nil
    | cons k r ih =>
     intro ws its2 v2 hlen
     cases v2 with
     | nil=>cases hlen
     | cons a b=>exact .cons ⟨rfl,a⟩ (ih _ _ b (by simpa using hlen))
   exact gen ks ws its2 v2 hlen
  refine⟨.ref h'.objs.size,_,I1.laid (a:=h'.objs.size) (o:=.dK (mergeK [] (ks.zip ws))) (t':=tk) old hb (zI4 ?_ ?_ (rel.merge .nil) hd),rfl,q _ (I1.hok.fresh hb)⟩
  ·have e1:=zBd (ks.zip ws) []
   have e2:(ks.zip ws).length<=ks.length:=by rw[Fl]; lia
   rw[Dh]at e1
   exact Al (by lia) (show 100000<=AC by decide)
  ·exact beq_eq_false_iff_ne.mpr (BZ (Aa I1.big hb))
end L2
namespace D
open PySem L2
def dDZip (fa:DA):DE:=fun Γ=>(fa Γ).bind fun p=>match p.1 with
 | [.v (.t xs),.v (.t ys)]=>(keyTs xs).bind fun ks=>if ys.length=ks.length/\ks.length<=100000 then some (.d (.inl ((ks.zip ys).foldl (fun acc kv=>putT acc kv.1 kv.2) [])),p.2) else none
 | _=>none
theorem zJJ:∀ (ks:List Key) {us:List V} {ys:List T},Ims K H us ys->PR K H (ks.zip us) (ks.zip ys)
 | [],_,_,_=>by simp; exact .nil
 | k::r,us,[],h=>by rw[h.inv0]; exact .nil
 | k::r,us,y::ys,h=>by obtain⟨v,vs,rfl,h1,h2⟩:=h.inv; exact .cons ⟨rfl,h1⟩ (zJJ r h2)
theorem zLI{K:Fg}{H:Hp}{more:List (Key×V)}{mt:List (Key×T)}(h:PR K H more mt):∀ {l:List (Key×V)} {kvs:List (Key×T)},PR K H l kvs->PR K H (mergeK l more) (mt.foldl (fun acc kv=>putT acc kv.1 kv.2) kvs):=by
 induction h with
 | nil=>intro l kvs q; exact q
 | @cons a b more mt hab _ ih =>
  intro l kvs q
  have:=q.put a.1 hab.2
  rw[hab.1]at this
  show PR K H (mergeK (putK l a.1 a.2) more) _
  rw[hab.1]
  exact ih this
theorem zLQ(ha:SimA K ta fa):SimE K (tDZip K ta) (dDZip fa):=by
 intro C w Γ σ H s Γ' Q R e k
 obtain⟨⟨as,G1⟩,e1,e⟩:=bind_some e
 dsimp only at e
 split at e
 ·rename_i xs ys
  obtain⟨ks,e2,e⟩:=bind_some e
  split at e
  ·rename_i hl
   cases e
   refine ha C w Γ σ H _ _ _ R e1 fun vs H1 R1 ev1 o1 n1=>?_
   obtain⟨v,u,rfl,o2,o3⟩:=soks2 o1
   obtain⟨p,vs,rfl,h1,i1⟩:=o2.invt
   obtain⟨q,us,rfl,h2,i2⟩:=o3.invt
   have hv:=zFH i1 e2
   subst hv
   refine⟨p,q,ks,us,rfl,h1.sq,h2.sq,by rw[i2.len]; exact hl.1,hl.2,fun c hc=>?_⟩
   exact k _ _ (R1.new hc) (ev1.trans (Evo.new hc)) (R1.newd (kvs:=.inl _) hc (zLI (zJJ ks i2) (show PR K H1 [] [] from .nil))) ⟨c,rfl,by
    cases hz:H c with
    | none=>rfl
    | some o =>
     by_cases hL:c∈w.L
     ·exact absurd hL (R1.fresh hc).1
     ·rw[ev1 c o hz hL]at hc; cases hc⟩
  ·cases e
 ·cases e
def getKS:En->S->S->Option S:=fun Γ a b=>(dictOf Γ a).bind fun d=>match d,b with
 | .inl kvs,.v t=>(keyT t).bind fun k=>(valT kvs k).map .v
 | _,_=>none
theorem zGG:SimR2 K rDGet getKS:=by
 intro C w Γ σ H x y a b s Q R ox oy e k
 obtain⟨d,e1,e⟩:=bind_some e
 split at e
 ·rename_i kvs t
  obtain⟨ky,e2,e⟩:=bind_some e
  obtain⟨p,ob,rfl,hp,hd⟩:=zOI R ox e1
  obtain⟨l,rfl,h1⟩:=hd.invK
  rcases h1.val ky with ⟨_,q⟩ | ⟨v,t',q1,q2,q3⟩
  ·rw[q]at e; cases e
  ·rw[q2]at e; cases e
   have hy:=zGQ oy e2
   subst hy
   exact⟨p,v,rfl,by rw[← q1]; exact DGet.k hp,k _ H R .refl q3 trivial⟩
 ·cases e
section
variable {ι:Type}{K:Fg}{mg:Str->Option AD}{k:Nat}{X:ι->Cx}{o i:Expr}{fo fk:DE}{pos:Pos}{Γ:En}
theorem zLf(M:Fm K mg k X)(ho:EX K X o fo)(hk:EX K X i fk)(hs:NoSl i:=by intro _ _; rfl):EX K X (.Subscript o i pos) (dOp getKS fo fk) :=
 let ⟨_,p,s⟩:=ho; let ⟨_,q,u⟩:=hk; ⟨_,fun j=>zOL (un1 M j) (p j) (q j) hs,zCi zGG s u⟩
@[simp] theorem zR4:getKS Γ a b=(dictOf Γ a).bind fun d=>match d,b with
 | .inl kvs,.v t=>(keyT t).bind fun k=>(valT kvs k).map .v
 | _,_=>none:=(rfl)
end
section
variable {ι:Type}{K:Fg}{mg:Str->Option AD}{k:Nat}{X:ι->Cx}{a b:Expr}{da:DA}{p p0 pos pos0:Pos}{Γ:En}
theorem zNa(M:Fm K mg k X)(hm:mg "zip"=none)(hm0:mg "dict"=none)(ha:AX K X [a,b] da)(hg:∀ j,Gl (X j) "zip":=by intro _; rfl)(hg0:∀ j,Gl (X j) "dict":=by intro _; rfl)(hs:∀ j,AU [a,b] (X j).env=[(false,eval a (X j).env),(false,eval b (X j).env)]:=by intro _; rfl)
  (hs2:∀ j,AU [b] (X j).env=[(false,eval b (X j).env)]:=by intro _; rfl) (hs3:∀ j,AU [.Call (.Name "zip" p) [a,b] [] pos] (X j).env=[(false,eval (.Call (.Name "zip" p) [a,b] [] pos) (X j).env)]:=by intro _; rfl):EX K X (.Call (.Name "dict" p0) [.Call (.Name "zip" p) [a,b] [] pos] [] pos0) (dDZip da) :=
 let ⟨t,q,u⟩:=ha; ⟨tDZip K t,fun j=>by have:=zNf (p:=p) (p0:=p0) (pos:=pos) (pos0:=pos0) (M.room j).hd (hg j) (by rw[M.mg]; exact hm) (hg0 j) (by rw[M.mg]; exact hm0) (q j) (hs j) (hs2 j) (hs3 j); rw[M.K j]at this; exact this,zLQ u⟩
end
end D
namespace L2
open PySem PySem.W PyProof.Rows
section
variable {n:Nat}(h0:0 < n)
include h0
end
end L2
namespace D
open PySem L2
end D
namespace D
open PySem L2
example (P:Ai) (w:Ax):(mixKind P w).hash (.inl 1)=1/\(mixKind P w).hash (.inl 2)=2:=⟨by rfl,by rfl⟩
end D
namespace L2
open PySem PySem.Spec PyProof.Rows PySem.W
structure Kds(prog:Ai)(w:Ax)(T:String)(r d:Addr)(n:Nat)(P:Nat->AD->Prop)(St:Nat->Heap->Prop):Prop where
 type:∀ s:AG,St 0 s.heap->s.TypeIs (.ref r) T
 there:∀ h:Heap,St 0 h->r < h.objs.size/\d < h.objs.size
 notList:(Cz T == Cz "list")=false
 notTuple:(Cz T == Cz "tuple")=false
 hint:∀ (A:BE) (E:AD->AG->Prop) (s:AG) (Q:Bool->AG->Prop),St 0 s.heap->(∀ b tk,Q b { s with toks:=tk })->AV (model prog w) A (Bv (.ref r)) Q E s
 iter:∀ (A:BE) (E:AD->AG->Prop) (s:AG) (Q:AD->AG->Prop),St 0 s.heap->Q (.ref r) s->AV (model prog w) A (GE (.ref r)) Q E s
 walks:∀ (A:BE),A.handled=none->Walks prog w A r [r,d] [r] n P St
section
variable {prog:Ai}{w:Ax}{A:BE}{E:AD->AG->Prop}{s:AG}{T:String}{r d:Addr}{n:Nat}{P:Nat->AD->Prop}{St:Nat->Heap->Prop}
theorem zH2(K:Kds prog w T r d n P St)(hh:A.handled=none)(hok:St 0 s.heap)(S:Addr)(hSr:S≠r)(hSd:S≠d)(res:AD)(c₀:Nat)(hS:s.heap.get? S=some { cls:=.type "list",data:=.seq #[] c₀ })
  (hR:∀ h' tk acc' c',(∀ b o,b≠S->b≠r->s.heap.get? b=some o->h'.get? b=some o)->h'.get? S=some { cls:=.type "list",dict:=none,data:=.seq acc' c',slots:=#[] }->El P acc' n->R (.ok (.ret res)) { s with heap:=h',toks:=tk }) (hn:n<=AC) :
  AV (model prog w) A.in1 (Bu (.ref S) (.ref r) res)
   (fun fin s'=>match fin with | .done f=>R (.ok f) s' | .again c'=>c'.quiet=true/\DR (model prog w) A c' R s') (fun e s'=>R (.error e) s') s:=by
 have hSf:S∉[r,d]:=by simp only[AL,Ao,or_false,not_or]; exact⟨hSr,hSd⟩
 have W:=K.walks A.in1 hh
 have key:∀ (h:Heap) (c₁ tk:Nat),St 0 h->(∀ b o,b≠S->b≠r->s.heap.get? b=some o->h.get? b=some o) ->
   h.get? S=some { cls:=.type "list",data:=.seq #[] c₁ }->DR (model prog w) A (.builtin "list.extend.loop" ⟨[.ref S,.ref r,res],[]⟩) R { s with heap:=h,toks:=tk }:=by
  intro h c₁ tk hst hk hS₁
  refine codeAny_extend_loopS W.toS hn S hSf res n 0 _ #[] c₁ rfl (Cp _) hst hS₁ (ItemsOf.nil _) fun s' acc' c' hm hS' hacc=>?_
  rw[Moved.eq_with hm]
  refine hR s'.heap s'.toks acc' c' (fun b o hb hb2 e=>hm.heap b o (fun hmem=>?_) (hk b o hb hb2 e)) hS' hacc
  rcases AL.mp hmem with e' | hmem
  ·exact hb e'
  ·exact hb2 (AI.mp hmem)
 unfold Bu
 refine AB (DV (T:=T) (K.type s hok) ?_)
 have h1:FK (.ref S) (.ref r)=false:=by simp[FK,hSr]
 simp only[h1,K.notList,K.notTuple,IU,C2,if_false]
 refine AB (K.iter _ _ _ _ hok ?_)
 refine AB (Br (K.hint _ _ _ _ hok fun b tk=>?_))
 refine CO (fun _=>?_) (fun _=>AH ⟨EN Fo _,key _ c₀ _ hok (fun b o _ _ e=>e) hS⟩)
 refine AB (Cw ?_)
 refine AB ?_
 show AV _ _ (JT S (·.push .none) >>= fun _=>JT S (·.pop)) _ _ _
 refine AB (Ga hS rfl ?_)
 have hS₂:=Cb (C5 (·.push CU)) hS rfl
 refine Ga (hz:=by seq_fits) hS₂ rfl ?_
 have hS₃:=Cb (C5 (·.pop)) hS₂ rfl
 refine AH ⟨EN Fo _,key _ _ _ ?_ (fun b o hb _ e=>?_) hS₃⟩
 ·refine W.frame 0 _ _ hok fun b hb o e=>?_
  have hbS:b≠S:=fun h=>hSf (h ▸ hb)
  exact (Bk _ _ (A6 hbS)).trans ((Bk _ _ (A6 hbS)).trans e)
 ·exact (Bk _ _ (A6 hb)).trans ((Bk _ _ (A6 hb)).trans e)
theorem zLk(K:Kds prog w T r d n P St)(hh:A.handled=none)(hok:St 0 s.heap)(S:Addr)(hSr:S≠r)(hSd:S≠d)(hS:s.heap.get? S=some { cls:=.type "list",data:=.seq #[] })
  (hR:∀ h' tk acc' c',(∀ b o,b≠S->b≠r->s.heap.get? b=some o->h'.get? b=some o)->h'.get? S=some { cls:=.type "list",dict:=none,data:=.seq acc' c',slots:=#[] }->El P acc' n->R (.ok (.ret .none)) { s with heap:=h',toks:=tk }) (hn:n<=AC) :
  AV (model prog w) A.in1 (Builtin.«list.__init__» ⟨[.ref S,.ref r],[]⟩)
   (fun fin s'=>match fin with | .done f=>R (.ok f) s' | .again c'=>c'.quiet=true/\DR (model prog w) A c' R s') (fun e s'=>R (.error e) s') s:=by
 show AV _ _ (do let old ← Fd (.ref S); Js (.ref S) (fun _=>#[]); letGo old.toList.reverse; Bu (.ref S) (.ref r) .none) _ _ s
 refine AB ?_
 unfold Fd
 refine AB (Bd hS rfl (AH ?_))
 show AV _ _ (JT S (fun _=>#[]) >>= fun _=>letGo (#[]:Array AD).toList.reverse >>= fun _=>Bu (.ref S) (.ref r) .none) _ _ s
 refine AB (Ga hS rfl ?_)
 have hS₂:=Cb (C5 (fun _=>(#[]:Array AD))) hS rfl
 have oth:∀ b o,b≠S->s.heap.get? b=some o->(s.heap.update S (C5 (fun _=>(#[]:Array AD)))).get? b=some o :=
  fun b o hb e=>(Bk _ _ (A6 hb)).trans e
 refine AB (FB ?_)
 refine zH2 K hh ((K.walks A hh).frame 0 _ _ hok fun b hb o e=>oth b o (fun z=>by
  subst z
  simp only[AL,Ao,or_false]at hb
  rcases hb with q | q
  ·exact hSr q
  ·exact hSd q) e) S hSr hSd .none _ hS₂ (fun h' tk acc' c' hk hS' hacc=>?_) hn
 exact hR h' tk acc' c' (fun b o hb hb2 e=>hk b o hb hb2 (oth b o hb e)) hS' hacc
theorem zFx(K:Kds prog w T r d n P St)(hh:A.handled=none)(hok:St 0 s.heap)(hn:n<=AC)
  (hQ:∀ h' tk acc' c',(∀ b o,b≠r->s.heap.get? b=some o->h'.get? b=some o)->h'.get? s.heap.objs.size=some { cls:=.type "list",dict:=none,data:=.seq acc' c',slots:=#[] }->El P acc' n->Q (.ref s.heap.objs.size) { s with heap:=h',toks:=tk }) :
  AV (model prog w) A (call (.type "list") [.ref r]) Q E s:=by
 refine KD (Q₁:=fun obj s₁=>obj=.ref s.heap.objs.size/\s₁={ s with heap:=s.heap.push { cls:=.type "list",data:=.seq #[] } }) PySem.F.called_list (PySem.F.typeCall_list_1 _) PySem.F.entry_list_init
  (code_list_new _ ⟨rfl,rfl⟩) fun obj s₁ h₁=>?_
 obtain⟨rfl,rfl⟩:=h₁
 have hS:(s.heap.push { cls:=.type "list",data:=.seq #[] }).get? s.heap.objs.size=some { cls:=.type "list",data:=.seq #[] }:=AQ _ rfl
 have hlt:=K.there _ hok
 refine⟨⟨_,hS,rfl⟩,PySem.F.args_list_init_2 _ _,zLk (A:=A.in1) K hh ((K.walks A hh).frame 0 _ _ hok fun b _ o e=>AE _ e) _ (BZ hlt.1) (BZ hlt.2) hS (fun h' tk acc' c' hk hS' hacc=>?_) hn⟩
 exact⟨rfl,hQ h' tk acc' c' (fun b o hb e=>hk b o (Ag (AJ e)) hb (AE _ e)) hS' hacc⟩
end
section
variable {prog:Ai}{w:Ax}{A:BE}{E:AD->AG->Prop}{s:AG}
theorem zLg(hT:s.TypeIs (.ref r) "list_reverseiterator")(h:Q false s):AV (model prog w) A (Bv (.ref r)) Q E s:=by
 unfold Bv
 refine AB (CN (r:=none) hT (by rw[Bh,BC]; kernel_rfl) ?_)
 wp_delta
 refine AB (CN (r:=some (.builtin "list_reverseiterator.__length_hint__")) hT (by rw[Bh,BC]; kernel_rfl) ?_)
 generalize hid:("list_reverseiterator.__length_hint__":String)=id0
 wp_delta
 rw[show splitId id0=some ("list_reverseiterator","__length_hint__") from by subst hid; decide +kernel]
 subst hid
 refine AB (CB (T:="list_reverseiterator") (b:=true) hT (by rw[CZ]; kernel_rfl) ?_)
 refine CO (fun hab=>absurd hab (by decide)) (fun _=>?_)
 refine CO (fun _=>?_) (fun hab=>absurd (by decide +kernel) hab)
 refine CO (fun hab=>absurd hab (by decide +kernel)) (fun _=>?_)
 exact AH h
theorem zG2:Slot "reversed" "__length_hint__" "reversed.__length_hint__" :=
 .of (owner:="reversed") (n:="__length_hint__") (by rw[Bh,BC]; kernel_rfl) (by decide +kernel) (by decide +kernel) (by decide +kernel)
  (by first | exact .inl (by decide +kernel) | exact .inr (by decide +kernel)) (by rw[CZ]; kernel_rfl)
theorem zE0:Gu table "reversed.__length_hint__"=some Builtin.«reversed.__length_hint__»:=GK (by kernel_rfl)
theorem zFE(a:AD):He "reversed.__length_hint__" ⟨[a],[]⟩:=by
 unfold He; rw[HD (id:="reversed.__length_hint__") (n:=['_','_','t','n','i','h','_','h','t','g','n','e','l','_','_']) (o:=['d','e','s','r','e','v','e','r']) (by kernel_rfl) zDL]; kernel_rfl
theorem zMt{r l:Addr}{i:Nat}{xs:Array AD}{Q:Bool->AG->Prop}(he:IsRv s.heap r l ((i:Int) - 1))(hl:s.heap.IsTuple l xs)(hz:xs.size<=AC)(hi:i<=xs.size)(h:∀ b tk,Q b { s with toks:=tk }):AV (model prog w) A (Bv (.ref r)) Q E s:=by
 have hT:s.TypeIs (.ref r) "reversed":=⟨_,he,rfl⟩
 unfold Bv
 refine AB (CN (r:=none) hT (by rw[Bh,BC]; kernel_rfl) ?_)
 wp_delta
 refine AB (CN (r:=some (.builtin "reversed.__length_hint__")) hT (by rw[Bh,BC]; kernel_rfl) ?_)
 generalize hid:("reversed.__length_hint__":String)=id0
 wp_delta
 rw[show splitId id0=some ("reversed","__length_hint__") from by subst hid; decide +kernel]
 subst hid
 refine AB (CB (T:="reversed") (b:=true) hT (by rw[CZ]; kernel_rfl) ?_)
 refine CO (fun hab=>absurd hab (by decide)) (fun _=>?_)
 refine CO (fun hab=>absurd hab (by decide +kernel)) (fun _=>?_)
 refine AB (Cw ?_)
 refine AB (B7 (zG2.bind _) ?_)
 try dsimp only
 refine AB (B8 (A9 zG2 hT zE0 ?_ (zFE _)))
 unfold Builtin.«reversed.__length_hint__»
 refine AB (B7 (a:=Bc r) rfl ?_)
 try dsimp only
 refine AB (Ar he rfl (x:=.ref l) rfl ?_)
 have h62:(AC:Int) < 2 ^ 62:=by decide
 refine CO (fun hab=>absurd (show false=true from hab) (by decide)) (fun _=>?_)
 refine AB (JL hl (by have:=hz; rw[Bz]at this; lia) ?_)
 refine AB (B7 (a:=some (xs.size:Int)) (by first | rfl | kernel_rfl) ?_)
 try dsimp only
 refine AB (Ar he rfl (x:=CV ((i:Int) - 1)) rfl ?_)
 try dsimp only[CV]
 refine CO (fun hab=>?_) (fun _=>?_)
 ·exact absurd hab (by lia)
 ·unfold retInt
  refine AB (GQ ?_)
  refine AH ⟨_,rfl,?_⟩
  refine AB (B7 (a:=some ((i:Int) - 1+1)) (by first | rfl | kernel_rfl) ?_)
  try dsimp only
  have e1:(i:Int) - 1+1=i:=by lia
  rw[e1]
  have e2:E3 (i:Int)=true:=by
   unfold E3
   rw[An]
   exact⟨decide_eq_true (by lia),decide_eq_true (by lia)⟩
  have e3:Bo (i:Int).toNat=false:=by
   unfold Bo
   exact decide_eq_false (by rw[Bm]; lia)
  rw[if_neg (by rw[e2]; decide),if_neg (by lia),if_neg (by rw[e3]; decide)]
  exact AH (h _ _)
end
section
variable {prog:Ai}{w:Ax}{r l:Addr}
theorem zLE(hne:l≠r)(items:Array AD):Kds prog w "list_reverseiterator" r l items.size (fun i v=>items[items.size - 1 - i]?=some v) (fun i h=>i<=items.size/\h.IsRevIter r l ((items.size:Int) - 1 - (i:Int))/\h.IsList l items) where
 type:=fun s st=>st.2.1.typeIs
 there:=fun h st=>by
  obtain⟨_,⟨o,e,_⟩,⟨o2,e2,_⟩⟩:=st
  exact⟨AJ e,AJ e2⟩
 notList:=by decide
 notTuple:=by decide
 hint:=fun A E s Q st h=>zLg st.2.1.typeIs (h false s.toks)
 iter:=fun A E s Q st h=>FE st.2.1 h
 walks:=fun A hh=>Walks.listRev hh r l hne items
theorem zNL(hne:l≠r)(items:Array AD)(hz:items.size<=AC):Kds prog w "reversed" r l items.size (fun i v=>items[items.size - 1 - i]?=some v) (fun i h=>i<=items.size/\IsRv h r l ((items.size:Int) - 1 - (i:Int))/\h.IsTuple l items) where
 type:=fun s st=>⟨_,st.2.1,rfl⟩
 there:=fun h st=>by
  obtain⟨_,e,⟨o2,e2,_⟩⟩:=st
  exact⟨AJ e,AJ e2⟩
 notList:=by decide
 notTuple:=by decide
 hint:=fun A E s Q st h=>by
  have:=st.2.1
  simp only[Int.natCast_zero,Gq]at this
  exact zMt this st.2.2 hz (AK _) h
 iter:=fun A E s Q st h=>zBw st.2.1 h
 walks:=fun A hh=>{
  sub:=fun b hb=>by simp at hb; simp[hb]
  frame:=fun i h h' x hk=>⟨x.1,hk r (by simp) _ x.2.1,by
   obtain⟨o,e,q⟩:=x.2.2
   exact⟨o,hk l (by simp) _ e,q⟩⟩
  item:=fun i s Q E hi x hQ=>by
   have e:(items.size:Int) - 1 - (i:Int)=((items.size - 1 - i:Nat):Int):=by lia
   have hit:=x.2.1
   rw[e]at hit
   have hx:items[items.size - 1 - i]?=some (items[items.size - 1 - i]'(by lia)):=Array.getElem?_eq_getElem (by lia)
   refine zGS hit x.2.2 hz hx fun h' tk hit' hs'=>?_
   have e2:((items.size - 1 - i:Nat):Int) - 1=(items.size:Int) - 1 - ((i+1:Nat):Int):=by lia
   rw[e2]at hit'
   refine hQ _ h' tk hx ⟨hi,hit',?_⟩ fun b o hb eo=>hs'.extBut b o (fun h=>hb (by simp[h])) eo
   obtain⟨o,eo,q⟩:=x.2.2
   exact⟨o,(hs'.2 l hne).trans eo,q⟩
  done:=fun s Q E x hQ=>by
   have e:(items.size:Int) - 1 - (items.size:Int)=-1:=by lia
   have hit:=x.2.1
   rw[e]at hit
   exact zIr hh hit fun h' he'=>hQ h' s.toks fun b o hb eo=>he' b o (fun h=>hb (by simp[h])) eo
  self:=fun _ _ _ _ x hQ=>zBw x.2.1 hQ }
end
theorem zEZ{items:List AD}{acc:Array AD}(h:El (fun i v=>items.toArray[items.toArray.size - 1 - i]?=some v) acc items.toArray.size):acc.toList=items.reverse:=by
 have h1:acc.size=items.length:=by have:=h.1; simpa using this
 refine Hj fun i=>?_
 rcases CY i items.length with hi | hi
 ·have hi':i < acc.size:=by lia
  have:=h.2 i acc[i] (by simp[hi'])
  rw[EU hi]
  simp only[AO,List.getElem?_toArray]at this
  rw[this]
  simp[hi']
 ·rw[BH (by simpa using by lia),BH (by simpa using hi)]
theorem Vals.rev:∀ {xs:List V} {us:List AD},Vals xs us->Vals xs.reverse us.reverse
 | _,_,.nil=>.nil
 | _,_,.cons r t=>by
  simp only[C8]
  exact (Vals.rev t).append (.cons r .nil)
section
variable {X:Cx}
def tLRev (K:AM) (ta:TA):TE:=fun σ H Q=>ta σ H fun vs H1=>∃ (a:Addr) (xs:List V),vs=[.ref a]/\(SqL K H1 a xs\/SqT K H1 a xs)/\∀ l,H1 l=none->Q (.ref l) (upd H1 l (.lst xs.reverse))
theorem zNF(hr:X.A.handled=none)(hg0:Gl X "list")(hm0:X.mg "list"=none)(hg1:Gl X "reversed")(hm1:X.mg "reversed"=none)(ha:PA X [e1] ta)
  (hs:AU [e1] X.env=[(false,eval e1 X.env)]:=by rfl)
  (hs3:AU [.Call (.Name "reversed" p1) [e1] [] pos1] X.env=[(false,eval (.Call (.Name "reversed" p1) [e1] [] pos1) X.env)]:=by rfl) :
  PE X (.Call (.Name "list" p0) [.Call (.Name "reversed" p1) [e1] [] pos1] [] pos0) (tLRev X.K ta):=by
 intro pins s σ H Q I h
 refine GN (zAx I hg0 hm0 FY (Av ?_ hs3 rfl))
 rw[hs3]
 refine Eu ?_
 refine GN (zAx I hg1 hm1 HE (Av (thn (ha pos1 pins s σ H _ I h) fun us s1 ⟨vs,H1,I1,r1,q1⟩=>?_) (by rw[hs]; rfl) (by rfl)))
 obtain⟨a,xs,e,hq,q⟩:=q1
 subst e
 obtain⟨u1,e,r⟩:=r1.one
 subst e
 cases r
 have fin:∀ (s2:AG) (its:List AD) (h':Heap) (tk:Nat) (acc:Array AD) (c:Nat),s2.heap.objs.size=s1.heap.objs.size+1->s2={ s1 with heap:=s2.heap,toks:=s2.toks }->(∀ b o,s1.heap.get? b=some o->s2.heap.get? b=some o)->Vals xs its->xs.length<=AC ->
   (∀ b o,b≠s1.heap.objs.size->s2.heap.get? b=some o->h'.get? b=some o)->h'.get? s2.heap.objs.size=some { cls:=.type "list",dict:=none,data:=.seq acc c,slots:=#[] }->acc.toList=its.reverse ->
   EP X pins σ Q (.ref s2.heap.objs.size) { s2 with heap:=h',toks:=tk }:=fun s2 its h' tk acc c hz he k12 rv hl kp hS ea=>by
  have kk:∀ b o,s1.heap.get? b=some o->h'.get? b=some o:=fun b o e=>kp b o (Ag (AJ e)) (k12 b o e)
  have hf:H1 s2.heap.objs.size=none:=I1.hok.fresh (by lia)
  refine⟨.ref s2.heap.objs.size,upd H1 s2.heap.objs.size (.lst xs.reverse),?_,rfl,q _ hf⟩
  rw[he]
  refine I1.laid (t':=tk) kk (by show s1.heap.objs.size<=s2.heap.objs.size; lia) ⟨by simpa using hl,its.reverse,c,rv.rev,?_⟩
  rw[← ea,Gp]
  exact hS
 rcases hq with h1 | h1
 ·obtain⟨its,rv,pl,z⟩:=I1.list h1
  have l1:=rv.length
  have hlist:s1.heap.IsList a its.toArray:=pl.isList
  have lt1:a < s1.heap.objs.size:=by obtain⟨o,e,_⟩:=hlist; exact AJ e
  refine Ib hlist (Du ?_)
  refine zFx (s:={ s1 with heap:=s1.heap.push (KE a ((its.toArray.size:Int) - 1)) }) (zLE (Ag lt1) its.toArray) hr ⟨Cp _,⟨_,AQ _ rfl,rfl,by simp[KE]⟩,hlist.at fun o e=>AE _ e⟩ (by rw[AO]; lia) fun h' tk acc c kp hS hacc=>?_
  exact fin { s1 with heap:=s1.heap.push (KE a ((its.toArray.size:Int) - 1)) } its h' tk acc c (BS _ _) rfl (fun b o e=>AE _ e) rv (by lia) kp hS (zEZ hacc)
 ·obtain⟨its,rv,pl,z⟩:=I1.tuple h1
  have l1:=rv.length
  have htup:s1.heap.IsTuple a its.toArray:=pl
  have lt1:a < s1.heap.objs.size:=by obtain⟨o,e,_⟩:=htup; exact AJ e
  refine Ek zEj (by decide) (HR _) (Hg _) (fun obj=>Dl obj _) Hh (zEe a its.toArray (by rw[AO]; lia)) ⟨htup,?_⟩
  have g:=AQ s1.heap (o:={ cls:=.type "reversed",data:=.fields #[.ref a,CV ((its.toArray.size:Int) - 1)] }) rfl
  refine⟨⟨_,g,rfl⟩,Du ?_⟩
  refine zFx (zNL (Ag lt1) its.toArray (by rw[AO]; lia)) hr ⟨Cp _,by simpa using g,by
   obtain⟨o,e,q⟩:=htup
   exact⟨o,AE _ e,q⟩⟩ (by rw[AO]; lia) fun h' tk acc c kp hS hacc=>?_
  exact fin _ its h' tk acc c (BS _ _) rfl (fun b o e=>AE _ e) rv (by lia) kp hS (zEZ hacc)
end
end L2
namespace D
open PySem L2
def dLRev (fa:DA):DE:=fun Γ=>(fa Γ).bind fun p=>match p.1 with
 | [a]=>(seqS p.2 a).map fun xs=>(.l xs.reverse,p.2)
 | _=>none
theorem zLN(ha:SimA K ta fa):SimE K (tLRev K ta) (dLRev fa):=by
 intro C w Γ σ H s Γ' Q R e k
 obtain⟨⟨as,G1⟩,e1,e⟩:=bind_some e
 dsimp only at e
 split at e
 ·obtain⟨xs,e2,e⟩:=zAA e
  cases e
  refine ha C w Γ σ H _ _ _ R e1 fun vs H1 R1 ev1 o1 n1=>?_
  obtain⟨v,rfl,o2⟩:=soks1 o1
  obtain⟨p,us,rfl,h1,i1⟩:=zDm R1 o2 e2
  exact⟨p,us,rfl,h1,fun l hl=>k _ _ (R1.new hl) (ev1.trans (Evo.new hl)) (R1.newl hl i1.rev) ⟨l,rfl,zAo ev1 R1.lst hl⟩⟩
 ·cases e
section
variable {ι:Type}{K:Fg}{X:ι->Cx}{mg:Str->Option AD}{k:Nat}{a:Expr}{da:DA}{Γ:En}
theorem zNv(M:Fm K mg k X)(hm0:mg "list"=none)(hm1:mg "reversed"=none)(ha:AX K X [a] da)(hg0:∀ j,Gl (X j) "list":=by intro _; rfl)(hg1:∀ j,Gl (X j) "reversed":=by intro _; rfl)
  (hs:∀ j,AU [a] (X j).env=[(false,eval a (X j).env)]:=by intro _; rfl)
  (hs3:∀ j,AU [.Call (.Name "reversed" p1) [a] [] pos1] (X j).env=[(false,eval (.Call (.Name "reversed" p1) [a] [] pos1) (X j).env)]:=by intro _; rfl) :
  EX K X (.Call (.Name "list" p0) [.Call (.Name "reversed" p1) [a] [] pos1] [] pos0) (dLRev da) :=
 let ⟨t,q,u⟩:=ha; ⟨tLRev K t,fun j=>by have:=zNF (p0:=p0) (p1:=p1) (pos0:=pos0) (pos1:=pos1) (M.room j).hd (hg0 j) (by rw[M.mg]; exact hm0) (hg1 j) (by rw[M.mg]; exact hm1) (q j) (hs j) (hs3 j); rw[M.K j]at this; exact this,zLN u⟩
@[simp] theorem zR9:dLRev da Γ=(da Γ).bind fun p=>match p.1 with
 | [a]=>(seqS p.2 a).map fun xs=>(.l xs.reverse,p.2)
 | _=>none:=(rfl)
end
end D
namespace L2
open PySem PySem.Spec PyProof.Rows
def Itw (K:AM) (a1:Addr) (n:Nat):It :=
 ⟨fun i H=>∃ xs x,SqL K H a1 xs/\xs.length=n/\i < n/\xs[n - 1 - i]?=some x,
  fun i H v H'=>H'=H/\∀ xs,SqL K H a1 xs->xs[n - 1 - i]?=some v,
  fun i H=>i=n⟩
theorem zKY{P:Ai}{w:Ax}{K:AM}{tg:Expr}{e a1:Addr}(n:Nat)(hle:a1≠e) :
  Turn P w K tg (Itw K a1 n) [e] e (fun i h=>h.IsRevIter e a1 ((n:Int) - 1 - (i:Int))) where
 mem:=by simp
 obj:=fun i h st b hb=>by
  have q:b=e:=by simpa using hb
  subst q
  obtain⟨o,e,c,d⟩:=st
  exact⟨o,e,fun v z=>by rw[d]at z; cases z⟩
 keep:=fun i h h' st k=>st.at fun o q=>k e (by simp) o q
 item:=by
  intro X hP hw hK hc i pins s σ H E I hf st hg
  subst hP hw hK
  obtain⟨xs,x,h1,hn,hi,hx⟩:=hg
  obtain⟨its1,v1,o1,z1⟩:=I.list h1
  obtain⟨u1,e1,r1⟩:=v1.get hx
  have l1:=v1.length
  have ei:(n:Int) - 1 - (i:Int)=((n - 1 - i:Nat):Int):=by lia
  have st':s.heap.IsRevIter e a1 ((n - 1 - i:Nat):Int):=by rw[← ei]; exact st
  obtain⟨f0,f1,f2,f3,f4,f5⟩:=hf e (by simp)
  refine wpAny_pyNext_rev_item (items:=its1.toArray) st' o1.isList (x:=u1) (by simpa using e1) fun h' he sb=>?_
  have I1:Inv X pins σ H { s with heap:=h' }:=I.turned (t':=s.toks) (fun b o hb q=>(sb.2 b hb).trans q) f0 f1 f3 f4 f5
  have he':h'.IsRevIter e a1 ((n:Int) - 1 - ((i+1:Nat):Int)):=by
   have:(n:Int) - 1 - ((i+1:Nat):Int)=((n - 1 - i:Nat):Int) - 1:=by lia
   rw[this]; exact he
  obtain⟨o,q1,q2,q3⟩:=id he'
  exact⟨u1,rfl,zDg (s:={ s with heap:=h' }) q1 q2 q3 (by decide) ⟨x,H,I1,r1,⟨rfl,fun ys hy=>by rw[I.list_inj hy h1]; exact hx⟩,he',fun b hb=>(hf b hb).1⟩⟩
 done:=by
  intro X hP hw hK hc i pins s σ H E I hf st hg
  subst hP hw hK
  have hg:i=n:=hg
  subst hg
  obtain⟨f0,f1,f2,f3,f4,f5⟩:=hf e (by simp)
  have st':s.heap.IsRevIter e a1 (-1):=by
   have:(i:Int) - 1 - (i:Int)=-1:=by lia
   rw[← this]; exact st
  exact wpAny_pyNext_rev_end (I.ok.hd hc) st' fun h' eb=>⟨rfl,I.turned (t':=s.toks) (fun b o hb q=>eb b o hb q) f0 f1 f3 f4 f5⟩
 self:=fun _ _ _ _ _ st h=>FE st h
section
variable {X:Cx}{tg:Expr}
def iRevL (K:AM) (ta:TA):TI:=fun σ H R=>ta σ H fun vs H1=>∃ (a1:Addr) (xs:List V),vs=[.ref a1]/\SqL K H1 a1 xs/\R (Itw K a1 xs.length) H1
theorem zNu{e1:Expr}{ta:TA}{p pos:Pos}(hg:Gl X "reversed")(hm:X.mg "reversed"=none)(ha:PA X [e1] ta)(hs:AU [e1] X.env=[(false,eval e1 X.env)]:=by rfl) :
  PI X tg (.Call (.Name "reversed" p) [e1] [] pos) (iRevL X.K ta):=by
 intro pins s σ H R I h
 refine GN (zAx I hg hm HE (Av (thn (ha pos pins s σ H _ I h) fun us s1 ⟨vs,H1,I1,r1,q1⟩=>?_) (by rw[hs]; rfl) (by rfl)))
 obtain⟨a1,xs,e,h1,q⟩:=q1
 subst e
 obtain⟨u1,e,r⟩:=r1.one
 subst e
 cases r
 obtain⟨its1,v1,o1,z1⟩:=I1.list h1
 have l1:=v1.length
 have hlist:s1.heap.IsList a1 its1.toArray:=o1.isList
 have lt1:a1 < s1.heap.objs.size:=by obtain⟨o,e,_⟩:=hlist; exact AJ e
 refine Ib hlist ?_
 have st':(s1.heap.push (KE a1 ((its1.toArray.size:Int) - 1))).IsRevIter s1.heap.objs.size a1 ((xs.length:Int) - 1 - ((0:Nat):Int)):=by
  have:((xs.length:Int) - 1 - ((0:Nat):Int))=(its1.toArray.size:Int) - 1:=by rw[AO]; lia
  rw[this]
  exact⟨_,AQ _ rfl,rfl,rfl⟩
 refine FE st' ?_
 refine⟨_,_,_,_,H1,rfl,I1.kept (t':=s1.toks) fun b o e=>AE _ e,zKY xs.length (Ag lt1),st',fun c hc=>?_,q⟩
 have e:c=s1.heap.objs.size:=by simpa using hc
 subst e
 exact I1.fpOk (AK _) (I1.hok.fresh (AK _))
end
end L2
namespace D
open PySem L2
def dRevL (fa:DA):DI:=fun Γ=>(fa Γ).bind fun p=>match p.1 with
 | [a]=>(sqlOf p.2 a).bind fun xs=>gd xs.length ((xs.reverse,srcS p.2 a),p.2)
 | _=>none
section
variable {K:Fg}
theorem zJq(ha:SimA K ta fa):SimI K (iRevL K ta) (dRevL fa):=by
 intro C w Γ σ H its src Γ' R Rp e k
 obtain⟨⟨as,G1⟩,e1,e⟩:=bind_some e
 dsimp only at e
 split at e
 ·obtain⟨xs,e2,e⟩:=bind_some e
  obtain⟨hz,e⟩:=zA8 e
  cases e
  refine ha C w Γ σ H _ _ _ Rp e1 fun vs H1 R1 ev1 o1 n1=>?_
  obtain⟨v,rfl,o2⟩:=soks1 o1
  obtain⟨p,us,rfl,h1,i1,st⟩:=zBZ R1 o2 e2
  refine⟨p,us,rfl,h1,k _ H1 R1 ev1 ⟨by simpa using hz,fun L' hs av H2 ev=>?_⟩⟩
  have hL:LL L' H1:=fun q hq=>R1.lst q (hs q hq)
  have h2:=st L' hs av H2 ev
  have i2:=i1.evo ev hL
  have l2:=i2.len
  refine⟨fun i t e=>?_,by show _=_; simp[l2]⟩
  have hi:i < xs.length:=by simpa using (Ac.mp e).1
  rw[EU hi]at e
  obtain⟨v,e3,hv⟩:=i2.get e
  refine⟨⟨us,v,h2,rfl,by lia,by rw[l2]; exact e3⟩,fun x H3 y=>?_⟩
  obtain⟨rfl,k1⟩:=y
  have q1:=k1 us h2
  rw[l2,e3]at q1; cases q1
  exact⟨fun b o e=>e,hv⟩
 ·cases e
end
section
variable {ι:Type}{K:Fg}{X:ι->Cx}{mg:Str->Option AD}{k:Nat}{a:Expr}{da:DA}{p pos:Pos}{Γ:En}
theorem zOT(M:Fm K mg k X)(hm:mg "reversed"=none)(ha:AX K X [a] da)(hg:∀ j,Gl (X j) "reversed":=by intro _; rfl)(hs:∀ j,AU [a] (X j).env=[(false,eval a (X j).env)]:=by intro _; rfl) :
  IX K X tg (.Call (.Name "reversed" p) [a] [] pos) (dRevL da) :=
 let ⟨t,q,u⟩:=ha; ⟨iRevL K t,fun j=>by have:=zNu (tg:=tg) (p:=p) (pos:=pos) (hg j) (by rw[M.mg]; exact hm) (q j) (hs j); rw[M.K j]at this; exact this,zJq u⟩
@[simp] theorem zRy:dRevL da Γ=(da Γ).bind fun p=>match p.1 with
 | [a]=>(sqlOf p.2 a).bind fun xs=>gd xs.length ((xs.reverse,srcS p.2 a),p.2)
 | _=>none:=(rfl)
end
@[simp high,simp ↓ high] theorem zTT{α:Type}{x y:α}:ifO (some 3) 3 x y=x:=rfl
end D
namespace L2
open PySem PySem.Spec PyProof.Rows
section
variable {X:Cx}{x:Str}{p pos:Pos}{e:Expr}{es:List Expr}{t:TA}{k:Nat}
def tCallV (i:Nat) (C:Addr->Sp->Prop) (t:TA):TE:=fun σ H Q=>∃ f sp,σ[i]?=some (some (.ref f))/\C f sp/\t σ H fun vs H1=>sp (vs++[]) H1 Q E0
theorem zFT(hC:Mod X.K X.mg X.base->∀ f sp,C f sp->∃ fd ps,FnOk X.prog X.w X.K X.mg X.base CX0 k f fd ps sp/\BN X.K (.ref f)=true/\Binds X.K fd ps [])
  (hr:Room k X.A) (hN:X.N[i]?=some x) (hv:Vis X.env.scope x) (ha:PA X (e::es) t) (hd:(x == ("__debug__":Str))=false:=by decide) (hcd:(x == ("__classdict__":Str))=false:=by decide)
  (he:AU (e::es) X.env=(false,eval e X.env)::AU es X.env:=by rfl) (hpl:(Bw pos (AU es X.env)).any (·.1)=false:=by rfl) :
  PE X (.Call (.Name x p) (e::es) [] pos) (tCallV i C t):=by
 intro pins s σ H Q I h
 obtain⟨f,sp,e1,c,h⟩:=h
 obtain⟨fd,ps,F,hk,hb⟩:=hC I.mod f sp c
 refine Cc ?_
 refine thn (zCk (X:=X) (i:=i) (x:=x) (pos:=p) hN hv hd hcd pins s σ H (fun v H'=>v=.ref f/\H'=H) I ⟨.ref f,e1,rfl,rfl⟩) fun u s1 ⟨v,H1,I1,r1,q1⟩=>?_
 obtain⟨rfl,rfl⟩:=q1
 obtain rfl:u=Bc f:=r1
 refine Eh (h₀:=X.base) I1.ok.mod.kin hk (thn (ha pos pins s1 σ _ _ I1 h) fun us s2 ⟨vs,H2,I2,r,q⟩=>⟨I2.kIn,?_⟩) he hpl
 exact zKG F hr hb .nil pass0 I2 r q
end
end L2
namespace D
open PySem L2
abbrev Tb:=List (Str×Nat×DF)
def TbOk (P:Ai) (wd:Ax) (K:Fg) (mg:Str->Option AD) (base:Heap) (k:Nat) (tb:Tb):Prop:=∀ q∈tb,FD P wd K mg base k q.1 none q.2.1 q.2.2
section
variable {P:Ai}{wd:Ax}{K:Fg}{mg:Str->Option AD}{base:Heap}{k:Nat}
theorem FD.mono(D0:FD P wd K mg base k' x ip n F)(h:k'<=k):FD P wd K mg base k x ip n F:=by
 obtain⟨f,fd,ps,h1,h2⟩:=D0.ex
 exact⟨⟨f,fd,ps,h1.mono h,h2⟩,D0.len⟩
theorem zKS:TbOk P wd K mg base k []:=fun _ h=>nomatch h
theorem zBm(D0:FD P wd K mg base k' x none n F)(r:TbOk P wd K mg base k tb)(h:k'<=k:=by first | exact AK _ | decide | lia):TbOk P wd K mg base k ((x,n,F)::tb):=fun q hq=>by
 rcases AL.mp hq with rfl | hq
 ·exact D0.mono h
 ·exact r q hq
end
noncomputable def dFn (n:Str):DE:=fun Γ=>some (.v (.f n),Γ)
def dCallV (i:Nat) (tb:Tb) (fa:DA):DE:=fun Γ=>match Γ[i]? with
 | some (some (.v (.f n)))=>match tb.find? fun q=>decide (q.1=n) with
  | some q=>dCall none q.2.2 [] fa Γ
  | none=>none
 | _=>none
def NK (K:Fg) (mg:Str->Option AD) (n:Str):Prop:=∃ f,D8 K Ad n=some (some (.ref f))/\mg n=some (.ref f)
theorem zQB(h:D8 K Ad n=some (some (.ref f))):SimE K (tC (.ref f)) (dFn n):=by
 intro C w Γ σ H s Γ' Q R e k
 cases e
 exact k _ H R .refl (show Im K H _ (.f n) from Im.fn ⟨f,rfl,h⟩) trivial
def CallC (K:Fg) (tb:Tb) (f:Addr) (sp:Sp):Prop:=∃ q∈tb,D8 K Ad q.1=some (some (.ref f))/\sp=spD K none q.2.1 q.2.2
theorem zEW(hl:∀ q∈tb,∀ gs r,q.2.2 gs=some r->gs.length=q.2.1)(ha:SimA K t fa):SimE K (tCallV i (CallC K tb) t) (dCallV i tb fa):=by
 intro C w Γ σ H s Γ' Q R e k
 unfold dCallV at e
 split at e
 ·rename_i n hn
  split at e
  ·rename_i q hq
   obtain⟨v,e1,hv⟩:=R.val i _ hn
   obtain⟨f,rfl,hf⟩:=(show Im K H v (.f n) from hv).invf
   have hm:=List.mem_of_find?_eq_some hq
   have hqn:q.1=n:=by simpa using List.find?_some hq
   exact⟨f,spD K none q.2.1 q.2.2,e1,⟨q,hm,by rw[hqn]; exact hf,rfl⟩,zDT (hl q hm) ha C w Γ σ H s Γ' Q R e k⟩
  ·cases e
 ·cases e
section
variable {ι:Type}{P:Ai}{wd:Ax}{base:Heap}{K:Fg}{mg:Str->Option AD}{k k' n:Nat}{X:ι->Cx}{e:Expr}{es:List Expr}{pos p:Pos}{da:DA}{x:Str}{tb:Tb}{Γ:En}
theorem zRe(M:Fm K mg k X)(h:NK K mg x)(hg:∀ j,Gl (X j) x:=by intro _; rfl)(hd:(x == ("__debug__":Str))=false:=by decide):EX K X (.Name x pos) (dFn x):=by
 obtain⟨f,h1,h2⟩:=h
 exact⟨_,fun j=>zGz (v:=.ref f) (hg j) (by rw[M.mg]; exact h2) rfl hd,zQB h1⟩
theorem zKn(i:Nat)(M:Fm K mg k X)(B:Fb P wd base X)(T0:TbOk P wd K mg base k' tb)(ha:AX K X (e::es) da)(hk:k'<=k:=by first | exact AK _ | decide | lia)
  (hN:∀ j,(X j).N[i]?=some x:=by intro _; rfl) (hv:∀ j,Vis (X j).env.scope x:=by intro _; first | exact DY rfl | exact Cf (DY rfl) | exact Cf (Cf rfl)) (hd:(x == ("__debug__":Str))=false:=by decide) (hcd:(x == ("__classdict__":Str))=false:=by decide)
  (he:∀ j,AU (e::es) (X j).env=(false,eval e (X j).env)::AU es (X j).env:=by intro _; rfl) (hpl:∀ j,(Bw pos (AU es (X j).env)).any (·.1)=false:=by intro _; rfl) :
  EX K X (.Call (.Name x p) (e::es) [] pos) (dCallV i tb da):=by
 obtain⟨t,q,u⟩:=ha
 refine⟨tCallV i (CallC K tb) t,fun j=>?_,zEW (fun q hq=>(T0 q hq).len) u⟩
 refine zFT (k:=k') (fun hm f sp hc=>?_) ((M.room j).mono hk) (hN j) (hv j) (q j) hd hcd (he j) (hpl j)
 obtain⟨q,hq,h1,rfl⟩:=hc
 obtain⟨f',fd,ps,g1,g2,g3,g4⟩:=(T0 q hq).ex
 have hm':Mod K mg base:=by rw[← M.K j,← M.mg j,← B.b j]; exact hm
 have e:=Hr hm'.kin hm'.glob h1
 rw[g2]at e
 cases e
 exact⟨fd,ps,by rw[B.P,B.w,M.K,M.mg,B.b]; exact g1,by rw[M.K]; exact g3,by rw[M.K]; exact g4⟩
@[simp,simp ↓] theorem zSp{n:Str}:dFn n Γ=some (.v (.f n),Γ):=rfl
end
noncomputable def fuelX:Nat:=100000
theorem zDO:fuelX=100000:=rfl
inductive Rs where
 | mk (e v:T) (ks:List Rs)
noncomputable def Rs.e:Rs->T | .mk e _ _=>e
noncomputable def Rs.v:Rs->T | .mk _ v _=>v
mutual
noncomputable def Rs.pre:Rs->List Rs
 | .mk e v ks=>.mk e v ks::pres ks
noncomputable def pres:List Rs->List Rs
 | []=>[]
 | r::rs=>r.pre++pres rs
end
theorem zAK:pres []=[]:=by unfold pres; rfl
theorem zAN(r:Rs)(rs:List Rs):pres (r::rs)=r.pre++pres rs:=by rw[pres]
theorem zAV(e v:T)(ks:List Rs):(Rs.mk e v ks).pre=.mk e v ks::pres ks:=by rw[Rs.pre]
theorem zDN:∀ (a b:List Rs),pres (a++b)=pres a++pres b
 | [],b=>by rw[zAK]; rfl
 | r::a,b=>by rw[DQ,zAN,zAN,zDN a b,Bx]
mutual
noncomputable def Rs.In (ins:DF):Rs->Prop
 | .mk e _ ks=>(ins [.v e]=some (.v (.t (ks.map Rs.e)),[])\/ins [.v e]=some (.l (ks.map Rs.e),[]))/\Ins ins ks
noncomputable def Ins (ins:DF):List Rs->Prop
 | []=>True
 | r::rs=>r.In ins/\Ins ins rs
end
theorem zAH:Ins ins (r::rs) ↔ r.In ins/\Ins ins rs:=by rw[Ins]
theorem zAm:(Rs.mk e v ks).In ins ↔ (ins [.v e]=some (.v (.t (ks.map Rs.e)),[])\/ins [.v e]=some (.l (ks.map Rs.e),[]))/\Ins ins ks:=by rw[Rs.In]
theorem zAa:Ins ins []:=by unfold Ins; trivial
theorem zGb:∀ {a b:List Rs},Ins ins a->Ins ins b->Ins ins (a++b)
 | [],_,_,h=>h
 | _::_,_,h,h'=>zAH.mpr ⟨(zAH.mp h).1,zGb (zAH.mp h).2 h'⟩
theorem zEp(h:Γ[i]?=some (some (.v (.f n))))(hf:tb.find? (fun q=>decide (q.1=n))=some (n,a,F)):dCallV i tb fa Γ=dCall none F [] fa Γ:=by
 unfold dCallV
 rw[h]
 dsimp only
 rw[hf]
def awC:DT:=dTru (jV 3)
def awB (tb:Tb):DS:=dSeq (dSet 4 (dMut 3 hPop qQ)) (dSeq (dDrop (dMut 2 hAppend (jW (jV 4) qQ))) (dDrop (dMut 3 hExtend (jW (dLRev (jW (dCallV 1 tb (jW (jV 4) qQ)) qQ)) qQ))))
def awD (tb:Tb):DS:=dSeq (dSet 2 (dLst qQ)) (dSeq (dSet 3 (dLst (jW (jV 0) qQ))) (dSeq (dWhile awC (awB tb) fuelX) (dRet (jV 2))))
@[simp] theorem zKB(h:xs.length+ys.length<=AC):hExtend Γ xs [.l ys]=some (.a .non,xs++ys):=by
 unfold hExtend
 dsimp only
 simp[zNt,gd,h]
section
variable {tb:Tb}{n:Str}{ka:Nat}{ins:DF}
theorem zM2(hf:tb.find? (fun q=>decide (q.1=n))=some (n,ka,ins)):∀ (m:Nat) (st:List Rs) (acc:List T) (w:T) (p4:Option G) (fuel:Nat),(pres st).length=m->m < fuel->acc.length+m<=90000->st.length<=90000->Ins ins st ->
  ∃ p4',dWhile awC (awB tb) fuel [some (.v w),some (.v (.f n)),some (.l acc),some (.l (st.reverse.map Rs.e)),p4]=some (.nx [some (.v w),some (.v (.f n)),some (.l (acc++(pres st).map Rs.e)),some (.l []),p4']):=by
 intro m
 induction m with
 | zero =>
  intro st acc w p4 fuel hm hfu hb hs hi
  cases st with
  | nil =>
   obtain⟨f,rfl⟩:∃ f,fuel=f+1:=⟨fuel - 1,by lia⟩
   exact⟨p4,by rw[zAd]; simp[awC,zAK]⟩
  | cons r rs =>
   cases r with
   | mk e v ks=>rw[zAN,zAV]at hm; simp at hm
 | succ m ih =>
  intro st acc w p4 fuel hm hfu hb hs hi
  obtain⟨f,rfl⟩:∃ f,fuel=f+1:=⟨fuel - 1,by lia⟩
  cases st with
  | nil=>rw[zAK]at hm; cases hm
  | cons r rs =>
   cases r with
   | mk e v ks =>
    obtain⟨h1,h2⟩:=zAH.mp hi
    obtain⟨h3,h4⟩:=zAm.mp h1
    rw[zAN,zAV]at hm
    have hlen:∀ l:List Rs,l.length<=(pres l).length:=fun l=>by
     induction l with
     | nil=>simp
     | cons x l ih =>
      cases x with
      | mk a b c=>rw[zAN,zAV]; simp; lia
    have hk:=hlen ks
    have hr:=hlen rs
    simp only[DQ,Bf,A4]at hm
    obtain⟨p4',e4⟩:=ih (ks++rs) (acc++[e]) w (some (.v e)) f (by rw[zDN,A4]; lia) (by lia) (by simp; lia) (by simp; lia) (zGb h4 h2)
    refine⟨p4',?_⟩
    have hl1:acc.length < AC:=Aa (show acc.length < 100000 by lia) (by decide)
    have hl2:rs.length+ks.length<=AC:=Al (show rs.length+ks.length<=100000 by lia) (by decide)
    have e0:(B5 Rs.e (Rs.mk e v ks::rs).reverse)=B5 Rs.e rs.reverse++[e]:=by simp[Rs.e]
    have pop:(awB tb) [some (.v w),some (.v (.f n)),some (.l acc),some (.l (B5 Rs.e rs.reverse++[e])),p4]=some (.nx [some (.v w),some (.v (.f n)),some (.l (acc++[e])),some (.l (B5 Rs.e rs.reverse++(ks.map Rs.e).reverse)),some (.v e)]):=by
     have cv:dCallV 1 tb (jW (jV 4) qQ) [some (.v w),some (.v (.f n)),some (.l (acc++[e])),some (.l (B5 Rs.e rs.reverse)),some (.v e)]=dCall none ins [] (jW (jV 4) qQ) [some (.v w),some (.v (.f n)),some (.l (acc++[e])),some (.l (B5 Rs.e rs.reverse)),some (.v e)]:=zEp rfl hf
     have ex:∀ Γ,hExtend Γ (B5 Rs.e rs.reverse) [.l (ks.map Rs.e).reverse]=some (.a .non,B5 Rs.e rs.reverse++(ks.map Rs.e).reverse):=fun Γ=>zKB (by simpa using hl2)
     have hs':rs.length+1<=AC:=Al (show rs.length+1<=100000 by simp at hs; lia) (by decide)
     have hq:(B5 Rs.e rs.reverse).length+1<=AC:=by simpa using hs'
     have hl0:acc.length<=AC:=DB hl1
     generalize B5 Rs.e rs.reverse=RR at cv ex hq ⊢
     have hq':RR.length<=AC:=by lia
     rcases h3 with h3 | h3
     ·simp[awB,cv,h3,hl1,ex,gd,hq,hq',hl0]
     ·simp[awB,cv,h3,hl1,ex,gd,hq,hq',hl0]
    rw[zAd,e0]
    have tr:awC [some (.v w),some (.v (.f n)),some (.l acc),some (.l (B5 Rs.e rs.reverse++[e])),p4]=some (true,[some (.v w),some (.v (.f n)),some (.l acc),some (.l (B5 Rs.e rs.reverse++[e])),p4]):=by
     simp[awC]
    rw[tr,Ae,if_pos rfl,pop,Ae]
    dsimp only
    have e5:B5 Rs.e rs.reverse++(ks.map Rs.e).reverse=B5 Rs.e (ks++rs).reverse:=by simp
    rw[e5,e4,zDN]
    rw[zAN,zAV]
    simp[Rs.e]
theorem zEs(hf:tb.find? (fun q=>decide (q.1=n))=some (n,ka,ins))(r:Rs)(h:r.In ins)(hb:r.pre.length<=80000):fnD none 2 5 (awD tb) [.v r.e,.v (.f n)]=some (.l (r.pre.map Rs.e),[]):=by
 have hp:pres [r]=r.pre:=by rw[zAN,zAK,Bp]
 obtain⟨p4',e⟩:=zM2 hf r.pre.length [r] [] r.e none fuelX (by rw[hp]) (by rw[zDO]; lia) (by simp; lia) (by simp) (zAH.mpr ⟨h,zAa⟩)
 rw[hp]at e
 simp only[C8,List.reverse_nil,C0,AN,Aj]at e
 have g1:(1:Nat)<=AC:=by decide
 simp[fnD,awD,gd,e,g1]
end
def fwE:DE:=dMut 1 hPop qQ
theorem zJ3:∀ (es vs t0:List T) (o:Option G),es.length=vs.length->t0.length+vs.length<=100000->∃ o',compD (gdName 0) dYes fwE es [o,some (.l (t0++vs.reverse))]=some (vs,[o',some (.l t0)])
 | [],[],t0,o,_,_=>⟨o,by simp[zAR]⟩
 | [],_::_,_,_,h,_=>by cases h
 | _::_,[],_,_,h,_=>by cases h
 | e::es,v::vs,t0,o,h,hb=>by
  obtain⟨o',h2⟩:=zJ3 es vs t0 (some (.v e)) (by simpa using h) (by simp at hb; lia)
  refine⟨o',?_⟩
  have e1:t0++(v::vs).reverse=(t0++vs.reverse)++[v]:=by simp
  have hq:(t0++vs.reverse).length+1<=AC:=Al (show _<=100001 by simp at hb ⊢; lia) (by decide)
  rw[e1,zAL]
  generalize t0++vs.reverse=RR at h2 hq ⊢
  unfold fwE at h2 ⊢
  simp[gd,hq,h2]
def SimP (K:Fg) (trs:List (TE×TE)) (ks:List Key) (fa:DA):Prop:=∀ (C:Fr) (w:W) (Γ:En) (σ:St) (H:Hp) (ss:List S) (Γ':En) (Q:List (V×V)->Hp->Prop),Rep K C w Γ σ H->fa Γ=some (ss,Γ') ->
 (∀ vs H',Rep K C w Γ' σ H'->Evo w.L H H'->SOks K C w σ H' vs ss->vs.length=ks.length->Q ((ks.map kV).zip vs) H')->tPairs trs σ H Q
theorem zKj:SimP K [] [] qQ:=by
 intro C w Γ σ H ss Γ' Q R e k
 cases e
 exact k [] H R .refl trivial rfl
theorem zJY(key:Key)(hv:SimE K tv fv)(hr:SimP K trs ks fa):SimP K ((tC (kV key),tv)::trs) (key::ks) (jW fv fa):=by
 intro C w Γ σ H ss Γ' Q R e k
 obtain⟨p,e1,e⟩:=bind_some e
 obtain⟨q,e2,e⟩:=bind_some e
 cases e
 show tv σ H _
 refine hv C w Γ σ H p.1 p.2 _ R e1 fun v1 H1 R1 ev1 o1 _=>?_
 exact hr C w p.2 σ H1 q.1 q.2 _ R1 e2 fun vs H2 R2 ev2 o2 hl=>k (v1::vs) H2 R2 (ev1.trans ev2) ⟨o1.evo ev2 R1.lst,o2⟩ (by simp[hl])
def dDispK (ks:List Key) (fa:DA):DE:=fun Γ=>(fa Γ).bind fun p=>(trees p.1).bind fun ts=>if ks.length<=15/\ks.Nodup then some (.d (.inl (ks.zip ts)),p.2) else none
theorem zFR{kvs:List (Key×V)}{k:Key}{v:V}(h:k∉kvs.map (·.1)):putK kvs k v=kvs++[(k,v)]:=by
 unfold putK
 rw[if_neg]
 intro z
 obtain⟨a,ha,e⟩:=List.any_eq_true.mp z
 exact h (BQ.mpr ⟨a,ha,of_decide_eq_true e⟩)
theorem zDc:∀ (ks:List Key) {vs:List V} {ts:List T},Ims K H vs ts->Ee (fun (a:Key×V) (b:Key×T)=>a.1=b.1/\Im K H a.2 b.2) (ks.zip vs) (ks.zip ts)
 | [],_,_,_=>.nil
 | a::r,vs,[],h=>by rw[h.inv0]; exact .nil
 | a::r,vs,t::ts,h=>by
  obtain⟨v,us,rfl,h1,h2⟩:=h.inv
  exact .cons ⟨rfl,h1⟩ (zDc r h2)
theorem zCf:∀ (more kvs:List (Key×V)),((kvs++more).map (·.1)).Nodup->mergeK kvs more=kvs++more
 | [],kvs,_=>by simp[mergeK]
 | p::r,kvs,h=>by
  show mergeK (putK kvs p.1 p.2) r=_
  have hn:p.1∉kvs.map (·.1):=fun z=>by
   rw[By,AN]at h
   exact (List.nodup_append.mp h).2.2 _ z _ AY rfl
  rw[zFR hn,zCf r (kvs++[p]) (by simpa using h)]
  simp
theorem zJx(h:SimP K trs ks fa):SimE K (tDisp trs) (dDispK ks fa):=by
 intro C w Γ σ H s Γ' Q R e k
 obtain⟨⟨ss,G1⟩,e1,e⟩:=bind_some e
 obtain⟨ts,e2,e⟩:=bind_some e
 split at e
 ·rename_i hk
  cases e
  intro p hp
  obtain⟨n1,n2,ow⟩:=R.fresh hp
  refine h C w Γ σ _ ss G1 _ (R.new hp) e1 fun vs H2 R2 ev2 o2 hl=>?_
  have hp2:H2 p=some (.dK []):=ev2 p _ zAO n1
  have hi:=zCF o2 e2
  have hts:ts.length=ks.length:=by rw[← hi.len]; exact hl
  refine⟨hp2,ks.zip vs,?_,by simp[Fl,hl]; exact hk.1,?_⟩
  ·refine List.ext_getElem (by simp) fun i h1 h2=>?_
   simp
  have em:mergeK [] (ks.zip vs)=ks.zip vs:=by
   rw[zCf _ _ (by
    rw[C0,List.map_fst_zip (by lia)]
    exact hk.2)]
   rfl
  rw[em]
  refine k _ _ (R2.tmp n1 n2 ow hp2 trivial) (fun c o hcc nn=>?_) ⟨p,_,rfl,n1,n2,ow,zAO,?_⟩ ⟨p,rfl,hp⟩
  ·have ne:=zAE hcc hp
   rw[zAB ne]
   exact ev2 c o (by rw[zAB ne]; exact hcc) nn
  ·have ev3:Evo (p::w.L) H2 (upd H2 p (.dK (ks.zip vs))):=fun c o e n=>by rw[zAB (fun z:c=p=>n (by rw[z]; exact AY))]; exact e
   have hL3:LL (p::w.L) H2:=fun q hq=>by
    rcases AL.mp hq with z | z
    ·subst z; exact⟨_,hp2,trivial⟩
    ·exact R2.lst q z
   have hi3:=hi.evo ev3 hL3
   exact (show DOk K _ (.dK (ks.zip vs)) (.inl (ks.zip ts)) from zDc ks hi3)
 ·cases e
section
variable {ι:Type}{K:Fg}{mg:Str->Option AD}{k:Nat}{X:ι->Cx}{fa:DA}{pos:Pos}{Γ:En}
def PX (K:Fg) (X:ι->Cx) (pos:Pos) (keys:List (Option Expr)) (values:List Expr) (ks:List Key) (fa:DA):Prop:=∃ trs,(∀ j,PPs (X j) pos keys values trs)/\SimP K trs ks fa
theorem zPj:PX K X pos [] [] [] qQ:=⟨[],fun _=>zNN,zKj⟩
theorem zPi(hv:EX K X e fv)(hr:PX K X pos keys values ks fa):PX K X pos (some (.Constant (.str x) j0 p0)::keys) (e::values) (.inr x::ks) (jW fv fa) :=
 let ⟨_,p,s⟩:=hv; let ⟨_,q,u⟩:=hr; ⟨_,fun j=>zLP zIm (p j) (q j),zJY (.inr x) s u⟩
theorem zKa(h:PX K X pos keys values ks fa)(hall:keys.all (·.isSome)=true:=by rfl)(hl:keys.length=values.length:=by rfl)(h0:keys≠[]:=by exact nofun)(h15:keys.length<=15:=by decide):EX K X (.Dict keys values pos) (dDispK ks fa) :=
 let ⟨_,p,s⟩:=h; ⟨_,fun j=>zN8 (p j) hall hl h0 h15,zJx s⟩
@[simp,simp ↓] theorem zRj:dDispK ks fa Γ=bnd (fa Γ) (f:=⟨fun p=>bnd (trees p.1) (f:=⟨fun ts=>if ks.length<=15/\ks.Nodup then some (.d (.inl (ks.zip ts)),p.2) else none⟩)⟩):=rfl
end
end D
namespace L2
open PySem PySem.Spec PyProof.Rows
structure FunD(K:AM)(x qual:Str)(st:Stmt)(T f:Addr)(fd:Ab):Prop where
 ex:∃ (oc:AD) (od:Option Addr) (kV doc pm:AD) (an:Option Addr) (cdv ct:AD) (osl:Array (Option AD)),
  fd=CA x qual (defArgs st) (defBody st) (defScope st) (.ref T) kV doc pm an cdv ct/\K.lookup f=some ⟨oc,od,.func fd,osl⟩/\Bt K cdv qual=true
 kp:BN K (.ref f)=true
section
variable {P:Ai}{w:Ax}{K:AM}{mg:Str->Option AD}{base:Heap}
theorem FunD.ok{x qual:Str}{st:Stmt}{T f:Addr}{fd:Ab}{N ps:List Str}{k:Nat}{sp:Sp}(F:FunD K x qual st T f fd)(S:FnScope N ps (defScope st))(len:∀ vs H Q E,sp vs H Q E->vs.length=ps.length)
  (hbody:∀ (cdv:AD) (A:BE) (outer:List Env) (s:AG) (H:Hp) (vs:List V) (Q:VK) (E:XK),Room k (A.deeper (E4 qual (defScope st) s.heap.objs.size f cdv))->sp vs H Q E ->
   ∃ t,PSs (cxOf CX0 P w K mg base N qual (defScope st) f cdv A outer s H E).nox (defBody st) t/\t { nx:=fun _ H'=>Q .non H',rt:=Q } (start N vs) H):FnOk P w K mg base CX0 (k+1) f fd ps sp:=by
 obtain⟨oc,od,kV,doc,pm,an,cdv,ct,osl,rfl,lk,hcd⟩:=F.ex
 refine zIS lk hcd S len fun A outer s H vs Q E hr hsp=>?_
 obtain⟨t,h,q⟩:=hbody cdv A outer s H vs Q E hr hsp
 exact⟨t,h.nox,q⟩
theorem FunD.binds{x qual:Str}{st:Stmt}{T f:Addr}{fd:Ab}{ps:List Str}{ds:List AD}{o:Obj}{items:Array AD}{n:Nat}(F:FunD K x qual st T f fd)(hT:K.lookup T=some o)(hs:o.data=.seq items n)
  (h:∀ (kV doc pm:AD) (an:Option Addr) (cdv ct:AD) (us:List AD),(us++ds).length=ps.length->∃ k,Hx (CA x qual (defArgs st) (defBody st) (defScope st) (.ref T) kV doc pm an cdv ct) ⟨us,[]⟩=HQ (.ref T) >>= k/\k (some items)=pure (ps.zip (us++ds))):Binds K fd ps ds:=by
 obtain⟨oc,od,kV,doc,pm,an,cdv,ct,osl,rfl,lk,hcd⟩:=F.ex
 intro s us hK hl
 obtain⟨k,h1,h2⟩:=h kV doc pm an cdv ct us hl
 exact BindsTo.of_defaults rfl (hK T o hT) hs h1 h2
theorem zGu{x qual:Str}{st:Stmt}{T f:Addr}{oc:AD}{od an:Option Addr}{osl:Array (Option AD)}{kV doc pm cdv ct:AD}(l:K.lookup f=some ⟨oc,od,.func (CA x qual (defArgs st) (defBody st) (defScope st) (.ref T) kV doc pm an cdv ct),osl⟩)
  (c:Bt K cdv qual=true) (k:BN K (.ref f)=true):FunD K x qual st T f (CA x qual (defArgs st) (defBody st) (defScope st) (.ref T) kV doc pm an cdv ct):=⟨⟨oc,od,kV,doc,pm,an,cdv,ct,osl,rfl,l,c⟩,k⟩
end
end L2
namespace D
open PySem L2
structure FDd(P:Ai)(wd:Ax)(K:Fg)(mg:Str->Option AD)(base:Heap)(k:Nat)(x:Str)(ip:Option Nat)(n:Nat)(F:DF)(dvs:List V):Prop where
 ex:∃ (f:Addr) (fd:Ab) (ps:List Str) (ds:List AD),FnOk P wd K mg base CX0 k f fd ps (spD K ip n F)/\mg x=some (.ref f)/\BN K (.ref f)=true/\Binds K fd ps ds/\Vals dvs ds
 len:∀ gs r,F gs=some r->gs.length=n
section
variable {ι:Type}{P:Ai}{wd:Ax}{base:Heap}{K:Fg}{mg:Str->Option AD}{k k' n:Nat}{X:ι->Cx}{ip:Option Nat}{e:Expr}{es:List Expr}{pos p:Pos}{da:DA}{F:DF}{x:Str}{dvs:List V}
theorem zKp(M:Fm K mg k X)(B:Fb P wd base X)(D0:FDd P wd K mg base k' x ip n F dvs)(ha:AX K X (e::es) da)(hk:k'<=k:=by first | exact AK _ | decide | lia)(hg:∀ j,Gl (X j) x:=by intro _; rfl)(hdb:(x == ("__debug__":Str))=false:=by decide)
  (he:∀ j,AU (e::es) (X j).env=(false,eval e (X j).env)::AU es (X j).env:=by intro _; rfl) (hpl:∀ j,(Bw pos (AU es (X j).env)).any (·.1)=false:=by intro _; rfl) :
  EX K X (.Call (.Name x p) (e::es) [] pos) (dCall ip F dvs da):=by
 obtain⟨f,fd,ps,ds,h1,h2,h3,h4,h5⟩:=D0.ex
 obtain⟨t,q,u⟩:=ha
 refine⟨tCall (spD K ip n F) dvs E0 t,fun j=>?_,zDT D0.len u⟩
 have hF:FnOk (X j).prog (X j).w (X j).K (X j).mg (X j).base CX0 k' f fd ps (spD K ip n F):=by rw[B.P,B.w,M.K,M.mg,B.b]; exact h1
 exact zGw hF ((M.room j).mono hk) (hg j) (by rw[M.mg]; exact h2) (by rw[M.K]; exact h3) (by rw[M.K]; exact h4) h5 pass0 (q j) hdb (he j) (hpl j)
end
section
variable {P:Ai}{wd:Ax}{base:Heap}{K:Fg}{mg:Str->Option AD}{k:Nat}
theorem zJc{x:Str}{st:Stmt}{T f:Addr}{fd:Ab}{N ps:List Str}{ip:Option Nat}{g:DS}{dvs:List V}{ds:List AD}(F:FunD K x x st T f fd)(S:FnScope N ps (defScope st))(hm:mg x=some (.ref f))(hb:Binds K fd ps [])(hb2:Binds K fd ps ds)(hv:Vals dvs ds)
  (body:∀ (cdv:AD) (A:BE) (outer:List Env) (s:AG) (H:Hp) (E:XK),Fm K mg k (cx1 P wd K mg base N x (defScope st) f cdv A outer s H E)->Fb P wd base (cx1 P wd K mg base N x (defScope st) f cdv A outer s H E)->BX K (cx1 P wd K mg base N x (defScope st) f cdv A outer s H E) ip (defBody st) g) :
  FD P wd K mg base (k+1) x ip ps.length (fnD ip ps.length N.length g)/\FDd P wd K mg base (k+1) x ip ps.length (fnD ip ps.length N.length g) dvs:=by
 have ok:FnOk P wd K mg base CX0 (k+1) f fd ps (spD K ip ps.length (fnD ip ps.length N.length g)):=by
  refine F.ok S (fun vs H Q E h=>h.1) fun cdv A outer s H vs Q E hr h=>?_
  obtain⟨t,p,u⟩:=body cdv A outer s H E ⟨fun _=>rfl,fun _=>rfl,fun _=>rfl,fun _=>hr⟩ ⟨fun _=>rfl,fun _=>rfl,fun _=>rfl⟩
  exact⟨t,p (),zC3 u h⟩
 exact⟨⟨⟨f,fd,ps,ok,hm,F.kp,hb⟩,zC0⟩,⟨⟨f,fd,ps,ds,ok,hm,F.kp,hb2,hv⟩,zC0⟩⟩
end
end D
namespace D
open PySem L2
variable {K:Fg}
end D
namespace D
open PySem L2
open PySem.SeqAt
end D
namespace D
open PySem L2
section
variable {K:Fg}
theorem zK3(R1:Rep K C w Γ1 σ H1)(o1:SOks K C w σ H1 vs ss)(e2:argsG none Γ1 0 ss=some gs) :
  Rep K ⟨H1,[],[]⟩ ⟨[],fun q=>∃ o,H1 q=some o⟩ (gs.map some) (vs.map some) H1:=by
 have hl:=o1.len
 have hgl:=zBx e2
 refine⟨by simp[hl,hgl],fun j g h=>?_,fun i j p ga gb ma mb h1 h2 h3 h4=>?_,fun p hp=>(nomatch hp),fun p hp=>(nomatch hp),fun p hp=>hp,fun p hp=>nofun,fun b o h _=>h,R1.tab,fun q hq=>(nomatch hq)⟩
 ·rw[Af]at h
  obtain⟨g',h',h⟩:=zAA h
  cases h
  obtain⟨s,a1,a2⟩:=zA0 e2 h'
  obtain⟨v,b1,b2⟩:=o1.get a1
  refine⟨v,by rw[Af,b1]; rfl,?_⟩
  cases s with
  | v t=>cases a2; exact b2
  | l xs =>
   simp only[argG,reduceCtorEq,if_false,Ap]at a2
   subst a2
   obtain⟨p,us,rfl,n1,n2,ow,h1,h2⟩:=b2
   exact⟨p,us,rfl,h2,h1,nofun,⟨_,h1⟩⟩
  | d xs =>
   simp only[argG,reduceCtorEq,if_false,Ap]at a2
   subst a2
   obtain⟨p,us,rfl,n1,n2,ow,h1,h2⟩:=b2
   exact⟨p,us,rfl,h2,h1,nofun,⟨_,h1⟩⟩
  | s i =>
   have b2':σ[i]?=some (some v):=b2
   unfold argG at a2
   dsimp only at a2
   split at a2
   ·rename_i xs hx
    simp only[reduceCtorEq,if_false,Ap]at a2
    subst a2
    obtain⟨v',c1,p,us,rfl,c2,c3,c4⟩:=R1.val i _ hx
    rw[b2']at c1; cases c1
    exact⟨p,us,rfl,c4,c3,nofun,⟨_,c3⟩⟩
   ·rename_i xs hx
    simp only[reduceCtorEq,if_false,Ap]at a2
    subst a2
    obtain⟨v',c1,p,us,rfl,c2,c3⟩:=R1.val i _ hx
    rw[b2']at c1; cases c1
    exact⟨p,us,rfl,c2,c3.1,nofun,R1.ra p c3.2.2⟩
   ·rename_i xs hx
    simp only[reduceCtorEq,if_false,Ap]at a2
    subst a2
    obtain⟨v',c1,c2⟩:=R1.val i _ hx
    rw[b2']at c1; cases c1
    exact c2
   ·rename_i xs hx
    simp only[reduceCtorEq,if_false,Ap]at a2
    subst a2
    obtain⟨v',c1,p,us,rfl,c2,c3,c4⟩:=R1.val i _ hx
    rw[b2']at c1; cases c1
    exact⟨p,us,rfl,c4,c3,nofun,⟨_,c3⟩⟩
   ·rename_i xs hx
    simp only[reduceCtorEq,if_false,Ap]at a2
    subst a2
    obtain⟨v',c1,p,us,rfl,c2,c3⟩:=R1.val i _ hx
    rw[b2']at c1; cases c1
    exact⟨p,us,rfl,c2,c3.1,nofun,R1.ra p c3.2.2⟩
   ·cases a2
 ·rw[Af]at h1
  obtain⟨g',h',h⟩:=zAA h1
  cases h
  obtain⟨s,a1,a2⟩:=zA0 e2 h'
  cases s with
  | v t=>cases a2; cases ma
  | l xs=>simp[argG]at a2; subst a2; cases ma
  | d xs=>simp[argG]at a2; subst a2; cases ma
  | s i =>
   unfold argG at a2
   dsimp only at a2
   split at a2 <;> simp at a2 <;> (subst a2; cases ma)
end
abbrev EE:=AD->AG->Prop
end D
namespace D
open PySem L2
def PC (X:Cx) (ops:List Hv) (rs:List Expr) (tc:V->TE):Prop :=
 ∀ (pos:Pos) (pins:List (Addr×Obj)) (s:AG) (σ:St) (H:Hp) (Q:VK) (x:V) (v:AD),Inv X pins σ H s->RelV x v->tc x σ H Q->AV (model X.prog X.w) X.A (Hk pos v ops (evalEach rs X.env)) (EP X pins σ Q) X.xe s
noncomputable def tLast (r:R2) (tb:TE):V->TE:=fun x σ H Q=>tb σ H fun y H1=>r x y H1 Q
noncomputable def tLink (r:R2) (tb:TE) (tc:V->TE):V->TE:=fun x σ H Q=>tb σ H fun y H1=>r x y H1 fun z H2=>∃ k,z=.bl k/\(if k=true then tc y σ H2 Q else Q (.bl false) H2)
section
variable {X:Cx}{a b:Expr}{ta tb:TE}{pos:Pos}
theorem zNG(ho:OpR X (BY op) r)(hb:PE X b tb):PC X [op] [b] (tLast r tb):=by
 intro pos pins s σ H Q x v I rv h
 show AV _ _ (Hk pos v [op] [eval b X.env]) _ _ _
 exact Jt (thn (hb pins s σ H _ I h) fun u s1 ⟨y,H1,I1,r1,q1⟩=>ho pins s1 σ H1 x y v u Q I1 rv r1 q1)
theorem zM5(ho:OpR X (BY op) r)(hb:PE X b tb)(hc:PC X (op'::ops) (c::rs) tc):PC X (op::op'::ops) (b::c::rs) (tLink r tb tc):=by
 intro pos pins s σ H Q x v I rv h
 show AV _ _ (Hk pos v (op::op'::ops) (eval b X.env::eval c X.env::evalEach rs X.env)) _ _ _
 refine Ju (thn (hb pins s σ H _ I h) fun u s1 ⟨y,H1,I1,r1,q1⟩=>thn (ho pins s1 σ H1 x y v u _ I1 rv r1 q1) fun d s3 ⟨z,H3,I3,r3,k,e,q3⟩=>?_)
 subst e
 cases r3
 refine PySem.wpAny_truthy_bool ?_
 cases k with
 | false=>exact Jv ⟨.bl false,H3,I3,rfl,q3⟩
 | true=>exact Jw (hc pos pins s3 σ H3 Q y u I3 r1 q3)
theorem zIs(ha:PE X a ta)(hc:PC X (op::op'::ops) (b::c::rs) tc)(hm:lastMarks (op::op'::ops) (b::c::rs)=false) :
  PE X (.Compare a (op::op'::ops) (b::c::rs) pos) (fun σ H Q=>ta σ H fun x H1=>tc x σ H1 Q):=by
 intro pins s σ H Q I h
 exact Jx (thn (ha pins s σ H _ I h) fun v s1 ⟨x,H1,I1,r1,q1⟩=>hc pos pins s1 σ H1 Q x v I1 r1 q1) hm
end
noncomputable def dLast (h:En->S->S->Option S) (fb:DE):S->DE:=fun a Γ=>(fb Γ).bind fun q=>(h q.2 a q.1).map fun s=>(s,q.2)
def dLink (h:En->S->S->Option S) (fb:DE) (fc:S->DE):S->DE:=fun a Γ=>(fb Γ).bind fun q=>(h q.2 a q.1).bind fun z=>match z with
 | .v (.a (.bl k))=>if k=true then fc q.1 q.2 else some (.v (.a (.bl false)),q.2)
 | _=>none
noncomputable def dChainN (fa:DE) (fc:S->DE):DE:=fun Γ=>(fa Γ).bind fun p=>fc p.1 p.2
def SimC (K:Fg) (tc:V->TE) (fc:S->DE):Prop:=∀ (C:Fr) (w:W) (Γ:En) (σ:St) (H:Hp) (x:V) (a s:S) (Γ':En) (Q:VK),Rep K C w Γ σ H->SOk K C w σ H x a->fc a Γ=some (s,Γ') ->
 (∀ v H',Rep K C w Γ' σ H'->Evo w.L H H'->SOk K C w σ H' v s->Nw H v s->Q v H')->tc x σ H Q
section
variable {K:Fg}
theorem zIu(hr:SimR2 K r h)(hb:SimE K tb fb):SimC K (tLast r tb) (dLast h fb):=by
 intro C w Γ σ H x a s Γ' Q R ox e k
 obtain⟨⟨q,G2⟩,e2,e⟩:=bind_some e
 obtain⟨z,e3,e⟩:=zAA e
 cases e
 refine hb C w Γ σ H q G2 _ R e2 fun v2 H2 R2 ev2 o2 n2=>?_
 exact hr C w G2 σ H2 x v2 _ _ _ _ R2 (ox.evo ev2 R.lst) o2 e3 fun v H3 R3 ev3 o3 n3=>k v H3 R3 (ev2.trans ev3) o3 (n3.back ev2 R2.lst)
theorem zJB(hr:SimR2 K r h)(hb:SimE K tb fb)(hc:SimC K tc fc):SimC K (tLink r tb tc) (dLink h fb fc):=by
 intro C w Γ σ H x a s Γ' Q R ox e k
 obtain⟨⟨q,G2⟩,e2,e⟩:=bind_some e
 obtain⟨z,e3,e⟩:=bind_some e
 dsimp only at e3 e
 refine hb C w Γ σ H q G2 _ R e2 fun v2 H2 R2 ev2 o2 n2=>?_
 refine hr C w G2 σ H2 x v2 _ _ _ _ R2 (ox.evo ev2 R.lst) o2 e3 fun v H3 R3 ev3 o3 n3=>?_
 split at e
 ·rename_i c
  refine⟨c,SOk.inva o3,?_⟩
  cases c with
  | true =>
   rw[if_pos rfl]at e ⊢
   exact hc C w G2 σ H3 v2 q s Γ' Q R3 (o2.evo ev3 R2.lst) e fun v H4 R4 ev4 o4 n4=>k v H4 R4 ((ev2.trans ev3).trans ev4) o4 (n4.back (ev2.trans ev3) R3.lst)
  | false =>
   rw[if_neg AZ]at e ⊢
   cases e
   exact k _ H3 R3 (ev2.trans ev3) SOk.atom trivial
 ·cases e
theorem zHN(ha:SimE K ta fa)(hc:SimC K tc fc):SimE K (fun σ H Q=>ta σ H fun x H1=>tc x σ H1 Q) (dChainN fa fc):=by
 intro C w Γ σ H s Γ' Q R e k
 obtain⟨⟨p,G1⟩,e1,e⟩:=bind_some e
 refine ha C w Γ σ H p G1 _ R e1 fun v1 H1 R1 ev1 o1 n1=>?_
 exact hc C w G1 σ H1 v1 p s Γ' Q R1 o1 e fun v H2 R2 ev2 o2 n2=>k v H2 R2 (ev1.trans ev2) o2 (n2.back ev1 R1.lst)
end
def HX {ι:Type} (K:Fg) (X:ι->Cx) (ops:List Hv) (rs:List Expr) (f:S->DE):Prop:=∃ t,(∀ j,PC (X j) ops rs t)/\SimC K t f
section
variable {ι:Type}{K:Fg}{X:ι->Cx}{a b c:Expr}{pos:Pos}{fa fb:DE}
theorem zMs(hc:CmpR K X op h)(hb:EX K X b fb):HX K X [op] [b] (dLast h fb) :=
 let ⟨_,p,q⟩:=hc.ex; let ⟨_,b1,b2⟩:=hb; ⟨_,fun j=>zNG (p j) (b1 j),zIu q b2⟩
theorem zMq(hc:CmpR K X op h)(hb:EX K X b fb)(ht:HX K X (op'::ops) (c::rs) fc):HX K X (op::op'::ops) (b::c::rs) (dLink h fb fc) :=
 let ⟨_,p,q⟩:=hc.ex; let ⟨_,b1,b2⟩:=hb; let ⟨_,c1,c2⟩:=ht; ⟨_,fun j=>zM5 (p j) (b1 j) (c1 j),zJB q b2 c2⟩
theorem zJK(ha:EX K X a fa)(ht:HX K X (op::op'::ops) (b::c::rs) fc)(hm:lastMarks (op::op'::ops) (b::c::rs)=false:=by with_unfolding_all rfl) :
  EX K X (.Compare a (op::op'::ops) (b::c::rs) pos) (dChainN fa fc) :=
 let ⟨_,a1,a2⟩:=ha; let ⟨_,c1,c2⟩:=ht; ⟨_,fun j=>zIs (a1 j) (c1 j) hm,zHN a2 c2⟩
end
end D
namespace D
open PySem L2
@[simp low] theorem zTq{α:Type}{x y:α}:ifB b (x:=⟨x⟩) (y:=⟨y⟩)=if b=true then x else y:=rfl
end D
namespace L2
open PySem PySem.Spec PyProof.Rows
noncomputable def rmH (H:Hp) (c:Addr):Hp:=fun b=>if b=c then none else H b
section
variable {P:Ai}{w:Ax}{H:Hp}{h:Heap}{b c:Addr}{φ:Heap->Prop}
theorem zB6:rmH H c c=none:=if_pos rfl
theorem zAr(h:b≠c):rmH H c b=H b:=if_neg h
theorem zNT(h:rmH H c b=some o):b≠c/\H b=some o:=by
 by_cases e:b=c
 ·subst e; rw[zB6]at h; cases h
 ·rw[zAr e]at h; exact⟨e,h⟩
theorem zBn(h:H b=none):rmH H c b=none:=by
 by_cases e:b=c
 ·subst e; exact zB6
 ·rw[zAr e]; exact h
theorem HOk.rm(x:HOk P w H h)(hc:H c=some (.ext φ)):HOk P w (rmH H c) h:=fun b o e=>by
 obtain⟨hb,e⟩:=zNT e
 exact (x b o e).stay (fun _ _ _ q=>q) (fun d q=>by rw[zAr (fun z=>by rw[z,hc]at q; cases q)]; exact q) (fun d xs q=>by rw[zAr (fun z=>by rw[z,hc]at q; cases xs <;> cases q)]; exact q)
theorem HOk.re(x:HOk P w H h)(hc:H c=none)(new:ObjOk P w (upd H c o') h c o'):HOk P w (upd H c o') h:=fun b o e=>by
 by_cases hb:b=c
 ·subst hb; rw[zAO]at e; cases e; exact new
 ·rw[zAB hb]at e
  exact (x b o e).stay (fun _ _ _ q=>q) (fun d q=>by rw[zAB (zAE q hc)]; exact q) (fun d xs q=>by rw[zAB (zAE q hc)]; exact q)
end
end L2
namespace D
open PySem PySem.Spec PyProof.Rows L2
theorem zFy(x:cellO c v o h):ObjOk P w H h c (.ext (cellO c v o)):=by
 refine⟨x,⟨o,x.1⟩,fun h1 h2 y k=>⟨k o y.1,y.2⟩⟩
theorem zM4(x:lamO L f c c' h):ObjOk P w H h f (.ext (lamO L f c c')):=by
 refine⟨x,?_,fun h1 h2 y k=>?_⟩
 ·obtain⟨pm,ct,e⟩:=x; exact⟨_,e⟩
 ·obtain⟨pm,ct,e⟩:=y; exact⟨pm,ct,k _ e⟩
structure LamScope(L:Lam)(p1 p2:Str):Prop where
 kind:L.scope.kind=.function
 co:L.scope.isCoroutine=false
 gen:L.scope.isGenerator=false
 nocell:∀ y∈L.scope.names,y.2≠.cell
 l1:L.scope.names.lookup p1=some .local
 l2:L.scope.names.lookup p2=some .local
 fr:L.scope.names.lookup L.x=some .free
 only:∀ y,L.scope.names.lookup y=some .free->y=L.x
 n12:p1≠p2
 bind:∀ (cl:List (Str×Addr)) (pm cd ct a b:AD),Hx (PySem.W.kla_fn "<lambda>" L.qual L.params L.body L.scope cl pm cd ct) ⟨[a,b],[]⟩=pure [(p1,a),(p2,b)]
noncomputable def cxLam (P:Ai) (w:Ax) (K:Fg) (mg:Str->Option AD) (base:Heap) (L:Lam) (p1 p2:Str) (f:Addr) (cd:AD) (c:Addr) (A:BE) (outer:List Env) (s:AG) (H:Hp):Cx where
 prog:=P
 w:=w
 K:=K
 mg:=mg
 base:=base
 A:=A.deeper (Dc L.qual L.scope s.heap.objs.size f cd [(L.x,c)])
 N:=[p1,p2,L.x]
 s₀:=s
 H₀:=H
 env:=Dc L.qual L.scope s.heap.objs.size f cd [(L.x,c)]
 outer:=outer
 stack:=Dc L.qual L.scope s.heap.objs.size f cd [(L.x,c)]::outer
 ex:=[]
 calm:=true
 fn:=fun _=>false
 pn:=[]
 xe:=fun _ _=>False
section
variable {P:Ai}{w:Ax}{K:Fg}{mg:Str->Option AD}{base:Heap}{k:Nat}{L:Lam}{p1 p2:Str}{f c c':Addr}
theorem look1(h:([(x,c)]:List (Str×Addr)).lookup y=some d):y=x/\d=c:=by
 rw[Be]at h
 by_cases e:y=x
 ·subst e; simp at h; exact⟨rfl,h.symm⟩
 ·have:(y == x)=false:=by simpa using e
  rw[this]at h; cases h
theorem zN1(S:LamScope L p1 p2)(hr:Room (k+1) A)(e0:Env0 P w K mg base A outer s H)
  (hf:H f=some (.ext (lamO L f c c'))) (hc:H c=some (.ext (cellO c va oc))) (hd:H c'=some (.cod L.qual)) (r1:RelV a1 u1) (r2:RelV a2 u2)
  (hbody:Room k (A.deeper (Dc L.qual L.scope s.heap.objs.size f (.ref c') [(L.x,c)]))->∃ t,PE (cxLam P w K mg base L p1 p2 f (.ref c') c A outer s (rmH H c)) L.body t/\t [some a1,some a2,some va] (rmH H c) fun v H'=>Q v (upd H' c (.ext (cellO c va oc)))) :
  DR (model P w) A (.call (.ref f) ⟨[u1,u2],[]⟩) (CR CX0 outer P w H s Q E) s:=by
 obtain⟨⟨pm,ct,ho⟩,_,_⟩:=(show ObjOk P w H s.heap f (.ext (lamO L f c c')) from e0.hok f _ hf)
 obtain⟨⟨ec,uc,rc,dc⟩,_,_⟩:=(show ObjOk P w H s.heap c (.ext (cellO c va oc)) from e0.hok c _ hc)
 obtain⟨od,vs,td,ed,dd,qd⟩:=(show ObjOk P w H s.heap c' (.cod L.qual) from e0.hok c' _ hd)
 have lim:s.heap.NoLimit:=e0.mod.nolimit.keeps fun b o e=>(e0.bs b o e).1
 refine PySem.W.kla_callFunE hr.depth ho rfl S.co S.gen rfl ⟨c',od,vs,td,rfl,ed,dd,qd⟩ ?_
 rw[S.bind]
 refine AH (wpAny_newFunctionEnv S.nocell (fun y hy=>?_) (fun h1 hns hsb=>⟨lim.fresh _ hsb,?_⟩) S.kind)
 ·rcases AL.mp hy with z | z
  ·rw[z]; exact S.l1
  ·rw[AI.mp z]; exact S.l2
 show DR _ _ (.expr L.body (Dc L.qual L.scope s.heap.objs.size f (.ref c') [(L.x,c)])) _ _
 have hk:∀ b o,s.heap.get? b=some o->h1.get? b=some o:=fun b o e=>hsb.extBut b o (Ag (AJ e)) (AE _ e)
 have hcb:c < s.heap.objs.size:=AJ ec
 obtain⟨t,ht,hq⟩:=hbody (hr.deeper _)
 have hok1:=e0.hok.rm hc
 have I:Inv (cxLam P w K mg base L p1 p2 f (.ref c') c A outer s (rmH H c)) [] [some a1,some a2,some va] (rmH H c) { s with heap:=h1,toks:=s.toks+[(p1,u1),(p2,u2)].length }:=by
  refine⟨⟨e0.mod,S.kind,rfl,rfl,AK _,fun y z d q1 q2=>?_,fun y hy=>?_,(fun _ _ z=>nomatch z),fun _=>hr.hd,Gc e0.frames,.inr ⟨rfl,rfl⟩,(fun b z=>nomatch z),fun b o e=>⟨(e0.bs b o e).1,zBn (e0.bs b o e).2⟩,e0.bsz,(fun b _ _ z=>nomatch z),(fun b z=>nomatch z),e0.funs,fun b hb=>zBn (e0.frf b hb)⟩,
   rfl,e0.bare,Un.kept hk,⟨_,hns,fun i y v q1 q2 q3=>?_⟩,fun y d q=>?_,zBn (e0.hok.fresh (AK _)),fun y d q=>?_,(fun p hp=>nomatch hp),hok1.kept hk,rfl⟩
  ·rw[(look1 q1).1,(look1 q2).1]
  ·have hy:L.scope.names.lookup y=some .cell\/L.scope.names.lookup y=some .free:=hy
   rcases hy with z | z
   ·exact absurd rfl (S.nocell _ (BG z))
   ·rw[S.only y z]
    exact⟨c,by show ([(L.x,c)]:List (Str×Addr)).lookup L.x=_; simp⟩
  ·match i,q1,q2 with
   | 0,q1,q2 =>
    cases q1; cases q2
    refine⟨u1,r1,.inl ⟨S.l1,?_⟩⟩
    show ([(p1,u1),(p2,u2)]:List (Str×AD)).reverse.lookup p1=_
    have:(p1 == p2)=false:=by simpa using S.n12
    simp[Be,this]
   | 1,q1,q2 =>
    cases q1; cases q2
    refine⟨u2,r2,.inl ⟨S.l2,?_⟩⟩
    show ([(p1,u1),(p2,u2)]:List (Str×AD)).reverse.lookup p2=_
    simp[Be]
   | 2,q1,q2 =>
    cases q1; cases q2
    exact⟨uc,rc,.inr ⟨.inr S.fr,c,by show ([(L.x,c)]:List (Str×Addr)).lookup L.x=_; simp,oc,hk _ _ ec,dc⟩⟩
   | i+3,q1,q2=>cases q1
  ·rw[(look1 q).2]; exact⟨_,oc,hk _ _ ec,dc⟩
  ·rw[(look1 q).2]; exact zB6
 refine PySem.W.kla_codeExpr (Bj (ht [] _ _ _ _ I hq) (fun u s' hs=>?_) fun _ _ z=>z.elim)
 obtain⟨v,H',J,rv,q⟩:=hs
 have hcn:H' c=none:=J.freeC L.x c (by show ([(L.x,c)]:List (Str×Addr)).lookup L.x=_; simp)
 have un:=J.base
 have cfs:c∉frs outer:=fun z=>by have:=e0.frf c z; rw[hc]at this; cases this
 have ec':s'.heap.get? c=some oc:=un.keep c oc ec zB6 cfs (by simp[cxLam])
 have nof:(cxLam P w K mg base L p1 p2 f (.ref c') c A outer s (rmH H c)).ex=[]:=rfl
 refine⟨v,_,J.os,J.bare,?_,J.hok.re hcn (zFy ⟨ec',uc,rc,dc⟩),rv,q⟩
 exact {
  keep:=fun b o e n hb hx=>un.keep b o e (zBn n) hb hx
  slot:=fun b o e n hb hx=>un.slot b o e (zBn n) hb hx
  free:=fun b o e n hx=>by
   have hbc:b≠c:=fun z=>by rw[z,hc]at n; cases n
   rw[zAB hbc]; exact un.free b o e (zBn n) hx
  there:=fun b o e hx=>un.there b o e hx
  tups:=fun b xs e=>by
   have hbc:b≠c:=fun z=>by rw[z,hc]at e; cases e
   rw[zAB hbc]; exact un.tups b xs ((zAr hbc).trans e)
  frzs:=fun b o u e=>by
   have hbc:b≠c:=fun z=>by rw[z,hc]at e; cases e
   rw[zAB hbc]; exact un.frzs b o u ((zAr hbc).trans e)
  tbls:=fun b ps e=>by
   have hbc:b≠c:=fun z=>by rw[z,hc]at e; cases e
   rw[zAB hbc]; exact un.tbls b ps ((zAr hbc).trans e) }
end
theorem zFd(l:List AD)(h:Di l):Di (l++[.int a t,.int b u,c]):=by
 fun_induction Di l with
 | case1=>simp[Di]
 | case2 _ _ _ _ _ r ih=>simp only[DQ,Di]; exact ih h
 | case3=>exact h.elim
theorem zHM(l:List AD)(h:Di l)(e:EW pos (l++[.int a t,.int b u,c])=some cv):EW pos l=some cv\/cv=c:=by
 fun_induction Di l with
 | case1 =>
  simp only[C0,EW]at e
  split at e
  ·cases e; exact .inr rfl
  ·cases e
 | case2 _ _ _ _ _ r ih =>
  simp only[DQ,EW]at e ⊢
  split at e
  ·rename_i z; rw[if_pos z]; exact .inl e
  ·rename_i z; rw[if_neg z]; exact ih h e
 | case3=>exact h.elim
section
variable {X:Cx}{L:Lam}{pos:Pos}{c0 P0:Addr}
theorem zG4{pins:List (Addr×Obj)}{σ:L2.St}{H:Hp}{s:AG}{h':Heap}{P c' c:Addr}{q:Str}{tk:Tok}{pm ct:AD}(I:Inv X pins σ H s)(hP:H P=some (.tbq q))(hq:q=L.qual)(hx:∀ b o,b≠P->s.heap.get? b=some o->h'.get? b=some o)(hs:s.heap.objs.size<=h'.objs.size)
  (hc:(H c'=some (.cod q))\/(s.heap.objs.size<=c'/\c' < h'.objs.size/\h'.CodeRec (.ref c') q)) (hp:∃ ps:Array AD,h'.get? P=some { cls:=.none,data:=.fields ps }/\Di ps.toList/\∀ pos cv,EW pos ps.toList=some cv->∃ d,cv=.ref d/\(d=c'\/H d=some (.cod q))) :
  ∃ H1,Inv X pins σ H1 { s with heap:=h'.push (FP "<lambda>" L.qual L.params L.body L.scope [(L.x,c)] pm c' ct),toks:=tk }/\(∀ b o,H b=some o->H1 b=some o)/\H1 h'.objs.size=some (.ext (lamO L h'.objs.size c c'))/\H1 c'=some (.cod q):=by
 subst hq
 have hn:∀ {b},s.heap.objs.size<=b->H b=none:=fun hb=>I.hok.fresh hb
 have hfn:H h'.objs.size=none:=hn hs
 have hcf:c'≠h'.objs.size:=by
  rcases hc with z | ⟨_,z,_⟩
  ·exact fun e=>by rw[e,hfn]at z; cases z
  ·exact Ag z
 let H1:Hp:=upd (upd H c' (.cod L.qual)) h'.objs.size (.ext (lamO L h'.objs.size c c'))
 have e1:H1 h'.objs.size=some (.ext (lamO L h'.objs.size c c')):=zAO
 have e2:H1 c'=some (.cod L.qual):=by show upd _ _ _ _=_; rw[zAB hcf]; exact zAO
 have old:∀ b o,H b=some o->H1 b=some o:=fun b o e=>by
  show upd _ _ _ _=_
  rw[zAB (zAE e hfn)]
  by_cases hb:b=c'
  ·subst hb
   rcases hc with z | ⟨z,_,_⟩
   ·rw[z]at e; cases e; exact zAO
   ·rw[hn z]at e; cases e
  ·rw[zAB hb]; exact e
 have get:∀ b o,b≠P->s.heap.get? b=some o->(h'.push (FP "<lambda>" L.qual L.params L.body L.scope [(L.x,c)] pm c' ct)).get? b=some o:=fun b o n e=>AE _ (hx b o n e)
 have nP:∀ b,H b=none->b≠P:=fun b n z=>by rw[z,hP]at n; cases n
 obtain⟨ps,hp1,hp2,hp3⟩:=hp
 refine⟨H1,I.un ?_ ?_,old,e1,e2⟩
 ·exact {
   keep:=fun b o e n _ _=>get b o (nP b n) e
   slot:=fun b o e n _ _=>⟨o.slots,get b o (nP b n) e⟩
   free:=fun b o e n _=>by
    have hb:=AJ e
    show upd _ _ _ _=_
    have h1:b≠h'.objs.size:=Ag (Aa hb hs)
    have h2:b≠c':=fun z=>by
     rcases hc with y | ⟨y,_,_⟩
     ·rw[← z,n]at y; cases y
     ·rw[← z]at y; exact absurd hb (GG.mpr y)
    rw[zAB h1,zAB h2]; exact n
   there:=fun b o e _=>by
    by_cases hb:b=P
    ·subst hb; exact⟨_,AE _ hp1⟩
    ·exact⟨o,get b o hb e⟩
   tups:=fun b xs e=>old b _ e
   frzs:=fun b o u e=>old b _ e
   tbls:=fun b ps e=>⟨#[],by rw[old b _ e]; simp⟩ }
 ·intro b o e
  by_cases hb:b=h'.objs.size
  ·subst hb
   rw[e1]at e; cases e
   exact zM4 ⟨pm,ct,AQ _ rfl⟩
  ·by_cases hb2:b=c'
   ·subst hb2
    rw[e2]at e; cases e
    rcases hc with z | ⟨z,z2,z3⟩
    ·obtain⟨o,vs,t,q1,q2⟩:=(show ObjOk X.prog X.w H s.heap b (.cod L.qual) from I.hok b _ z)
     exact⟨o,vs,t,get b o (fun y=>by rw[y,hP]at z; cases z) q1,q2⟩
    ·obtain⟨_,o,vs,t,q0,q1,q2,q3⟩:=z3
     cases q0
     exact⟨o,vs,t,AE _ q1,q2,q3⟩
   ·have e':H b=some o:=by
     have e:upd _ _ _ _=_:=e
     rw[zAB hb,zAB hb2]at e; exact e
    by_cases hb3:b=P
    ·subst hb3
     rw[hP]at e'; cases e'
     refine⟨ps,AE _ hp1,hp2,fun pos cv z=>?_⟩
     obtain⟨d,hd,z⟩:=hp3 pos cv z
     refine⟨d,hd,?_⟩
     rcases z with z | z
     ·rw[z]; exact e2
     ·exact old _ _ z
    ·exact (I.hok b o e').stay (fun d u z q=>get d u (fun y=>by
      rcases z with z | z
      ·exact hb3 (z ▸ y)
      ·rw[y,hP]at z; cases z) q) (fun d q=>old _ _ q) (fun d xs q=>old _ _ q)
theorem zPZ(hcode:X.env.code=.ref c0)(hH:CM X.K c0 P0=true)(hg:X.env.globals=Ad)
  (hcl:∀ c,X.env.cells.lookup L.x=some c->Ej L.scope X.env=pure [(L.x,c)]) (hq:X.env.qual++"<lambda>"=L.qual) (hdef:Ic L.params X.env=([],[])) :
  PE X (.Lambda L.params L.body L.scope pos) (fun σ H Q=>∃ c,X.env.cells.lookup L.x=some c/\H P0=some (.tbq L.qual)/\∀ f c' H1,(∀ b o,H b=some o->H1 b=some o)->H1 f=some (.ext (lamO L f c c'))->H1 c'=some (.cod L.qual)->Q (.ref f) H1):=by
 intro pins s σ H Q I h
 obtain⟨c,hc,hP,h⟩:=h
 refine PySem.W.kla_eval hdef ?_
 rw[hq]
 have hm:=I.mod
 have hns:s.heap.Ns Ad X.mg:=hm.glob.keeps I.bk
 have C:=Gi I.kIn hH
 obtain⟨ps,g1,g2,g3⟩:=(show ObjOk X.prog X.w H s.heap P0 (.tbq L.qual) from I.hok P0 _ hP)
 have hnb:∀ b o,X.base.get? b=some o->b≠P0:=fun b o e z=>by
  have:=(I.bs b o e).2
  rw[z,hP]at this; cases this
 have hgP:Ad≠P0:=by
  obtain⟨o,es,ep,e,_⟩:=hm.glob
  exact hnb _ _ e
 obtain⟨bm,ob,b1,b2,b3,b4,b5,b6⟩:=hm.bmod
 have hbG:bm≠Ad:=fun z=>by
  obtain⟨o,es,ep,e,hd,_⟩:=hm.glob
  rw[← z,b3]at e; cases e
  rw[b6]at hd; cases hd
 have hb:s.heap.BuiltinsAt X.mg P0:=⟨bm,ob,b1,b2,hbG,hnb _ _ b3,I.bk _ _ b3,b4,b5,b6⟩
 cases hca:EW pos ps.toList with
 | none =>
  refine PySem.W.kla_makeFunction (hcl c hc) hg hns hcode C g1 g2 hca hgP hb fun c' ctv h' tk hx hge hlt hrec htb=>?_
  obtain⟨H1,J,k1,k2,k3⟩:=zG4 (L:=L) (c:=c) (pm:=(X.mg "__name__").getD .none) (ct:=ctv) (tk:=tk) I hP rfl (fun b o n e=>hx b o n e) (by lia) (.inr ⟨hge,hlt,hrec⟩) ⟨_,htb,by
   rw[G4]; exact zFd _ g2,fun pos cv z=>by
   rw[G4]at z
   rcases zHM _ g2 z with z | z
   ·obtain⟨d,z1,z2⟩:=g3 pos cv z; exact⟨d,z1,.inr z2⟩
   ·exact⟨c',z,.inl rfl⟩⟩
  exact⟨.ref h'.objs.size,H1,J,rfl,h _ _ _ k1 k2 k3⟩
 | some cv =>
  obtain⟨c',rfl,hc'⟩:=g3 pos cv hca
  refine PySem.W.kla_makeFunctionHit (hcl c hc) hg hns hcode C g1 g2 hca hb fun ctv h' tk hk hsz=>?_
  obtain⟨H1,J,k1,k2,k3⟩:=zG4 (L:=L) (c:=c) (pm:=(X.mg "__name__").getD .none) (ct:=ctv) (tk:=tk) I hP rfl (fun b o _ e=>hk b o e) hsz (.inl hc') ⟨ps,hk _ _ g1,g2,fun pos cv z=>by
   obtain⟨d,z1,z2⟩:=g3 pos cv z; exact⟨d,z1,.inr z2⟩⟩
  exact⟨.ref h'.objs.size,H1,J,rfl,h _ _ _ k1 k2 k3⟩
end
mutual
noncomputable def T.pl:T->Bool
 | .a _=>true
 | .t ts=>T.pls ts
 | .l ts=>T.pls ts
 | .f _=>true
 | .x _ _=>false
 | .m _ _=>false
noncomputable def T.pls:List T->Bool
 | []=>true
 | y::r=>T.pl y && T.pls r
end
theorem pl_a:T.pl (.a v)=true:=by unfold T.pl; rfl
theorem pl_t:T.pl (.t ts)=T.pls ts:=by rw[T.pl]
theorem pl_l:T.pl (.l ts)=T.pls ts:=by rw[T.pl]
theorem zBD:T.pls []=true:=by unfold T.pls; rfl
theorem zAu:T.pls (t::ts)=(t.pl && T.pls ts):=by rw[T.pls]
theorem zEM:∀ {ts:List T},(∀ t∈ts,t.pl=true)->T.pls ts=true
 | [],_=>zBD
 | _::_,h=>by rw[zAu,h _ AY,zEM fun t ht=>h t (AR _ ht)]; rfl
def G.pl:G->Bool
 | .v t=>t.pl
 | .r ts=>T.pls ts
 | .k ts=>T.pls ts
 | _=>false
section
variable {K:Fg}{H:Hp}{c:Addr}{φ:Heap->Prop}
theorem Tp.rm(hc:H c=some (.ext φ))(h:Tp K H p vs):Tp K (rmH H c) p vs:=by
 rcases h with h | h
 ·exact .inl ((zAr fun z=>by rw[z,hc]at h; cases h).trans h)
 ·exact .inr h
theorem KF.rm(hc:H c=some (.ext φ))(h:KF K H p vs):KF K (rmH H c) p vs:=by
 rcases h with ⟨o,h⟩ | h
 ·exact .inl ⟨o,(zAr fun z=>by rw[z,hc]at h; cases h).trans h⟩
 ·exact .inr h
mutual
theorem Im.rm(hc:H c=some (.ext φ)):∀ {v:V} {t:T},t.pl=true->Im K H v t->Im K (rmH H c) v t
 | _,.a _,_,h=>h
 | _,.t _,q,h=>by
  rw[pl_t]at q
  unfold Im at h ⊢
  obtain⟨p,vs,rfl,hs,hi⟩:=h
  exact⟨p,vs,rfl,hs.rm hc,Ims.rm hc q hi⟩
 | _,.l _,q,h=>by
  rw[pl_l]at q
  unfold Im at h ⊢
  obtain⟨p,vs,rfl,hs,hi⟩:=h
  exact⟨p,vs,rfl,hs.rm hc,Ims.rm hc q hi⟩
 | _,.f _,_,h=>by unfold Im at h ⊢; exact h
 | _,.x _ _,q,_=>by unfold T.pl at q; cases q
 | _,.m _ _,q,_=>by unfold T.pl at q; cases q
theorem Ims.rm(hc:H c=some (.ext φ)):∀ {vs:List V} {ts:List T},T.pls ts=true->Ims K H vs ts->Ims K (rmH H c) vs ts
 | _,[],_,h=>h
 | _,_::_,q,h=>by
  rw[zAu,An]at q
  unfold Ims at h ⊢
  obtain⟨v,r,rfl,h1,h2⟩:=h
  exact⟨v,r,rfl,Im.rm hc q.1 h1,Ims.rm hc q.2 h2⟩
end
theorem TabOk.rm(hc:H c=some (.ext φ))(h:TabOk K H):TabOk K (rmH H c):=fun a P z=>(zAr fun e=>by have:=h a P z; rw[e,hc]at this; cases this).trans (h a P z)
theorem GOk.rm(hc:H c=some (.ext φ))(q:g.pl=true)(h:GOk K w H v g):GOk K ⟨[],fun b=>∃ o,rmH H c b=some o⟩ (rmH H c) v g:=by
 cases g with
 | v t=>exact Im.rm hc q h
 | r ts =>
  obtain⟨p,vs,rfl,hi,h1,_⟩:=h
  have e:rmH H c p=some (.lst vs):=(zAr fun z=>by rw[z,hc]at h1; cases h1).trans h1
  exact⟨p,vs,rfl,Ims.rm hc q hi,e,nofun,⟨_,e⟩⟩
 | k ts =>
  obtain⟨p,vs,rfl,hi,h1⟩:=h
  exact⟨p,vs,rfl,Ims.rm hc q hi,h1.rm hc⟩
 | l _=>cases q
 | d _=>cases q
 | e _=>cases q
theorem zOl(h:g.pl=true):isMut g=false:=by cases g <;> first | rfl | cases h
theorem zNj(hc:H c=some (.ext φ))(R1:Rep K C w Γ1 σ H)(o1:SOks K C w σ H [a1,a2] ss)(e2:argsG none Γ1 0 ss=some [g1,g2])(q1:g1.pl=true)(q2:g2.pl=true)(q3:ta.pl=true)(ha:Im K H va ta) :
  Rep K ⟨rmH H c,[],[]⟩ ⟨[],fun b=>∃ o,rmH H c b=some o⟩ [some g1,some g2,some (.v ta)] [some a1,some a2,some va] (rmH H c):=by
 have R:=zK3 R1 o1 e2
 have get:∀ (i:Nat) (g:G),([some g1,some g2,some (.v ta)]:En)[i]?=some (some g)->g.pl=true/\∃ v,([some a1,some a2,some va]:L2.St)[i]?=some (some v)/\GOk K ⟨[],fun b=>∃ o,rmH H c b=some o⟩ (rmH H c) v g:=fun i g h=>by
  match i,h with
  | 0,h=>cases h; obtain⟨v,e,z⟩:=R.val 0 g1 rfl; cases e; exact⟨q1,_,rfl,z.rm hc q1⟩
  | 1,h=>cases h; obtain⟨v,e,z⟩:=R.val 1 g2 rfl; cases e; exact⟨q2,_,rfl,z.rm hc q2⟩
  | 2,h=>cases h; exact⟨q3,_,rfl,Im.rm hc q3 ha⟩
  | i+3,h=>cases h
 refine⟨rfl,fun i g h=>(get i g h).2,fun i j p g g' m _ h _ _ _=>?_,fun p hp=>(nomatch hp),fun p hp=>(nomatch hp),fun p hp=>hp,fun p hp=>nofun,fun b o h _=>h,R1.tab.rm hc,fun q hq=>(nomatch hq)⟩
 rw[zOl (get i g h).1]at m; cases m
end
def lamF (dl:DE) (ta:T) (gs:List G):Option V:=match gs with
 | [g1,g2]=>if g1.pl && g2.pl && ta.pl then match dl [some g1,some g2,some (.v ta)] with
  | some (.v (.a u),_)=>some u
  | _=>none
  else none
 | _=>none
def LD (P:Ai) (wd:Ax) (K:Fg) (mg:Str->Option AD) (base:Heap) (k:Nat) (L:Lam) (dl:DE):Prop:=∃ p1 p2,LamScope L p1 p2/\∀ (f c:Addr) (cd:AD) (A:BE) (outer:List Env) (s:AG) (H:Hp),
 Room k (A.deeper (Dc L.qual L.scope s.heap.objs.size f cd [(L.x,c)]))->∃ t,PE (cxLam P wd K mg base L p1 p2 f cd c A outer s H) L.body t/\SimE K t dl
end D
namespace L2
open PySem PySem.Spec PyProof.Rows D
section
variable {X:Cx}{x:Str}{p pos:Pos}{e:Expr}{es:List Expr}{t:TA}{k:Nat}
def tCallL (K:Fg) (i:Nat) (L:Lam) (dl:DE) (t:TA):TE:=fun σ H Q=>∃ f c c' va oc,σ[i]?=some (some (.ref f))/\H f=some (.ext (lamO L f c c'))/\t σ H fun vs H1=>∃ a1 a2,vs=[a1,a2] /\
 H1 f=some (.ext (lamO L f c c'))/\H1 c=some (.ext (cellO c va oc))/\H1 c'=some (.cod L.qual)/\∀ t':TE,SimE K t' dl->t' [some a1,some a2,some va] (rmH H1 c) fun v H'=>Q v (upd H' c (.ext (cellO c va oc)))
theorem zG1(x:HOk P w H h)(e:H f=some (.ext (lamO L f c c'))):PySem.W.FnAt f h:=by
 obtain⟨⟨pm,ct,ho⟩,_,_⟩:=(show ObjOk P w H h f (.ext (lamO L f c c')) from x f _ e)
 exact⟨_,_,_,_,ho⟩
theorem zLK{i:Nat}{L:Lam}{dl:DE}(D0:LD X.prog X.w X.K X.mg X.base k L dl)
  (hr:Room (k+1) X.A) (hN:X.N[i]?=some x) (hv:Vis X.env.scope x) (ha:PA X (e::es) t) (hd:(x == ("__debug__":Str))=false:=by decide) (hcd:(x == ("__classdict__":Str))=false:=by decide)
  (he:AU (e::es) X.env=(false,eval e X.env)::AU es X.env:=by rfl) (hpl:(Bw pos (AU es X.env)).any (·.1)=false:=by rfl) :
  PE X (.Call (.Name x p) (e::es) [] pos) (tCallL X.K i L dl t):=by
 intro pins s σ H Q I h
 obtain⟨f,c,c',va,oc,e1,e2,h⟩:=h
 obtain⟨p1,p2,S,B⟩:=D0
 refine Cc ?_
 refine thn (zCk (X:=X) (i:=i) (x:=x) (pos:=p) hN hv hd hcd pins s σ H (fun v H'=>v=.ref f/\H'=H) I ⟨.ref f,e1,rfl,rfl⟩) fun u s1 ⟨v,H1,I1,r1,q1⟩=>?_
 obtain⟨rfl,rfl⟩:=q1
 obtain rfl:u=Bc f:=r1
 refine PySem.W.callWith_F (zG1 I1.hok e2) (thn (ha pos pins s1 σ _ _ I1 h) fun us s2 ⟨vs,H2,I2,r,q⟩=>?_) he hpl
 obtain⟨a1,a2,rfl,f1,f2,f3,q⟩:=q
 refine⟨zG1 I2.hok f1,?_⟩
 cases r with
 | cons r1 r =>
  cases r with
  | cons r2 r =>
   cases r
   refine IR (Dw (zN1 (E:=E0) (Q:=Q) S hr I2.env0 f1 f2 f3 r1 r2 fun hr'=>?_) fun r s' hq=>?_)
   ·obtain⟨t',ht,hs⟩:=B f c (.ref c') X.A X.stack s2 (rmH H2 c) hr'
    exact⟨t',ht,q t' hs⟩
   ·cases r with
    | error e=>exact pass0 pins σ H2 s2 e s' I2 hq
    | ok fl =>
     cases fl with
     | ret u=>exact I2.after hq
     | next=>exact A8 hq
     | brk=>exact A8 hq
     | cont=>exact A8 hq
end
end L2
namespace D
open PySem L2
open Classical in
def dCallM (i:Nat) (tb:Tb) (L:Lam) (dl:DE) (fa:DA):DE:=fun Γ=>match Γ[i]? with
 | some (some (.v (.f n)))=>match tb.find? fun q=>decide (q.1=n) with
  | some q=>dCall none q.2.2 [] fa Γ
  | none=>none
 | some (some (.v (.m L' [ta])))=>if L'=L then (fa Γ).bind fun p=>(argsG none p.2 0 p.1).bind fun gs=>(lamF dl ta gs).map fun u=>(.v (.a u),p.2) else none
 | _=>none
def tCallM (K:Fg) (i:Nat) (C:Addr->Sp->Prop) (L:Lam) (dl:DE) (t:TA):TE:=fun σ H Q=>tCallV i C t σ H Q\/tCallL K i L dl t σ H Q
theorem zKO(h:lamF dl ta gs=some u):∃ g1 g2 Γ',gs=[g1,g2]/\g1.pl=true/\g2.pl=true/\ta.pl=true/\dl [some g1,some g2,some (.v ta)]=some (.v (.a u),Γ'):=by
 unfold lamF at h
 split at h
 ·rename_i g1 g2
  split at h
  ·rename_i hq
   simp only[An]at hq
   split at h
   ·rename_i z
    cases h
    exact⟨g1,g2,_,rfl,hq.1.1,hq.1.2,hq.2,z⟩
   ·cases h
  ·cases h
 ·cases h
theorem zJ6(hl:∀ q∈tb,∀ gs r,q.2.2 gs=some r->gs.length=q.2.1)(ha:SimA K t fa):SimE K (tCallM K i (CallC K tb) L dl t) (dCallM i tb L dl fa):=by
 intro C w Γ σ H s Γ' Q R e k
 unfold dCallM at e
 split at e
 ·rename_i n hn
  refine .inl (zEW hl ha C w Γ σ H s Γ' Q R ?_ k)
  unfold dCallV
  rw[hn]
  exact e
 ·rename_i L' ta hn
  split at e
  ·rename_i hL
   subst hL
   obtain⟨⟨ss,Γ1⟩,e1,e⟩:=bind_some e
   obtain⟨gs,e2,e⟩:=bind_some e
   obtain⟨u,e3,e⟩:=zAA e
   cases e
   obtain⟨g1,g2,Γ2,rfl,q1,q2,q3,e4⟩:=zKO e3
   obtain⟨v,s1,hv⟩:=R.val i _ hn
   obtain⟨f,vs,rfl,hk,hi⟩:=(show Im K H v (.m _ [ta]) from hv).invm
   obtain⟨c,c',va,oc,rfl,f1,f2,f3⟩:=id hk
   obtain⟨_,_,hz,him,_⟩:=hi.inv
   cases hz
   refine .inr ⟨f,c,c',va,oc,s1,f1,ha C w Γ σ H ss Γ1 _ R e1 fun vs H1 R1 ev o1 nw=>?_⟩
   have hl2:=o1.len
   have hl3:=zBx e2
   obtain⟨a1,a2,rfl⟩:∃ a1 a2,vs=[a1,a2]:=by
    have:vs.length=2:=by simp at hl3; lia
    match vs,this with
    | [a,b],_=>exact⟨a,b,rfl⟩
   have n:∀ {b o},H b=some o->¬ Mu o->b∉w.L:=fun {b o} q m z=>by
    obtain⟨u,q',m'⟩:=R.lst b z
    rw[q]at q'; cases q'; exact m m'
   have f1':=ev _ _ f1 (n f1 id)
   have f2':=ev _ _ f2 (n f2 id)
   have f3':=ev _ _ f3 (n f3 id)
   refine⟨a1,a2,rfl,f1',f2',f3',fun t' hs=>?_⟩
   refine hs _ _ _ _ _ _ _ _ (zNj f2' R1 o1 e2 q1 q2 q3 (him.evo ev R.lst)) e4 fun v H' R' ev' so _=>?_
   have hv':v=u:=so.inva
   subst hv'
   have old:∀ b o,H1 b=some o->upd H' c (.ext (cellO c va oc)) b=some o:=fun b o h=>by
    by_cases hb:b=c
    ·subst hb; rw[f2']at h; cases h; exact zAO
    ·rw[zAB hb]; exact ev' b o ((zAr hb).trans h) nofun
   exact k _ _ (R1.evo0 old) (ev.trans fun b o h _=>old b o h) .atom trivial
  ·cases e
 ·cases e
section
variable {ι:Type}{P:Ai}{wd:Ax}{base:Heap}{K:Fg}{mg:Str->Option AD}{k k' n:Nat}{X:ι->Cx}{e:Expr}{es:List Expr}{pos p:Pos}{da:DA}{x:Str}{tb:Tb}{Γ:En}{L:Lam}{dl:DE}
theorem LD.mono(D0:LD P wd K mg base k' L dl)(h:k'<=k):LD P wd K mg base k L dl:=by
 obtain⟨p1,p2,S,B⟩:=D0
 exact⟨p1,p2,S,fun f c cd A outer s H hr=>B f c cd A outer s H (hr.mono h)⟩
theorem zK1(i:Nat)(M:Fm K mg k X)(B:Fb P wd base X)(T0:TbOk P wd K mg base k' tb)(D0:LD P wd K mg base k' L dl)(ha:AX K X (e::es) da)(hk:k'+1<=k:=by first | exact AK _ | decide | lia)
  (hN:∀ j,(X j).N[i]?=some x:=by intro _; rfl) (hv:∀ j,Vis (X j).env.scope x:=by intro _; first | exact DY rfl | exact Cf (DY rfl) | exact Cf (Cf rfl)) (hd:(x == ("__debug__":Str))=false:=by decide) (hcd:(x == ("__classdict__":Str))=false:=by decide)
  (he:∀ j,AU (e::es) (X j).env=(false,eval e (X j).env)::AU es (X j).env:=by intro _; rfl) (hpl:∀ j,(Bw pos (AU es (X j).env)).any (·.1)=false:=by intro _; rfl) :
  EX K X (.Call (.Name x p) (e::es) [] pos) (dCallM i tb L dl da):=by
 obtain⟨t,q,u⟩:=ha
 refine⟨tCallM K i (CallC K tb) L dl t,fun j=>?_,zJ6 (fun q hq=>(T0 q hq).len) u⟩
 intro pins s σ H Q I h
 rcases h with h | h
 ·refine zFT (k:=k') (fun hm f sp hc=>?_) ((M.room j).mono (by lia)) (hN j) (hv j) (q j) hd hcd (he j) (hpl j) pins s σ H Q I h
  obtain⟨q,hq,h1,rfl⟩:=hc
  obtain⟨f',fd,ps,g1,g2,g3,g4⟩:=(T0 q hq).ex
  have hm':Mod K mg base:=by rw[← M.K j,← M.mg j,← B.b j]; exact hm
  have e:=Hr hm'.kin hm'.glob h1
  rw[g2]at e
  cases e
  exact⟨fd,ps,by rw[B.P,B.w,M.K,M.mg,B.b]; exact g1,by rw[M.K]; exact g3,by rw[M.K]; exact g4⟩
 ·have D1:LD (X j).prog (X j).w (X j).K (X j).mg (X j).base k' L dl:=by rw[B.P,B.w,M.K,M.mg,B.b]; exact D0
  rw[← M.K j]at h
  exact zLK D1 ((M.room j).mono hk) (hN j) (hv j) (q j) hd hcd (he j) (hpl j) pins s σ H Q I h
end
open PySem PySem.Spec L2
def TabAt (K:Fg) (fd:Ab):Prop:=∃ c0 P0,fd.code=.ref c0/\CG K "is_so"=some (c0,P0)/\CM K c0 P0=true
def tHand (sp:Sp) (L:Lam) (P0:Addr):TE:=fun σ H Q=>∃ v0 va,σ[0]?=some (some v0)/\σ[1]?=some (some va)/\H P0=some (.tbq L.qual)/\∀ f c c' oc H2,H c=none->(∀ b o,H b=some o->H2 b=some o)->H2 f=some (.ext (lamO L f c c'))->H2 c=some (.ext (cellO c va oc)) ->
 H2 c'=some (.cod L.qual)->sp [v0,.ref f] H2 (fun v H'=>H' c=some (.ext (cellO c va oc))/\Q v (rmH H' c)) E0
section
variable {X:Cx}{L:Lam}{pos lp p p':Pos}{c0 P0 f:Addr}{x y:Str}{k:Nat}{fd:Ab}{ps:List Str}{sp:Sp}
theorem zNl(F:FnOk X.prog X.w X.K X.mg X.base CX0 k f fd ps sp)(hr:Room k X.A)(hgl:Gl X x)(hm:X.mg x=some (.ref f))(hk:BN X.K (.ref f)=true)(hb:Binds X.K fd ps [])
  (hcode:X.env.code=.ref c0) (hH:CM X.K c0 P0=true) (hg:X.env.globals=Ad)
  (hcl:∀ c,X.env.cells.lookup L.x=some c->Ej L.scope X.env=pure [(L.x,c)]) (hq:X.env.qual++"<lambda>"=L.qual) (hdef:Ic L.params X.env=([],[]))
  (h0:PE X (.Name y p') (tVar 0)) (hN:X.N[1]?=some L.x) (hkd:X.env.kindOf L.x=some .cell) (hvis:Vis X.env.scope L.x) (hfn:X.fn L.x=true) (hdb:(x == ("__debug__":Str))=false:=by decide)
  (he:AU [.Name y p',.Lambda L.params L.body L.scope lp] X.env=(false,eval (.Name y p') X.env)::AU [.Lambda L.params L.body L.scope lp] X.env:=by rfl)
  (he2:AU [.Lambda L.params L.body L.scope lp] X.env=(false,eval (.Lambda L.params L.body L.scope lp) X.env)::AU [] X.env:=by rfl)
  (hpl:(Bw pos (AU [.Lambda L.params L.body L.scope lp] X.env)).any (·.1)=false:=by rfl) :
  PE X (.Call (.Name x p) [.Name y p',.Lambda L.params L.body L.scope lp] [] pos) (tHand sp L P0):=by
 intro pins s σ H Q I h
 obtain⟨v0,va,e0,e1,hP,h⟩:=h
 obtain⟨c,hc⟩:=I.ok.has L.x (.inl hkd)
 refine Cc (zED I hgl hm ?_ hdb)
 have A0:=zB4 h0 (zB4 (zPZ (pos:=lp) hcode hH hg hcl hq hdef) zDd he2) he
 refine Eh (h₀:=X.base) I.ok.mod.kin hk (thn (A0 pos pins s σ H (fun vs H1=>∃ f c',vs=[v0,.ref f]/\(∀ b o,H b=some o->H1 b=some o)/\H1 f=some (.ext (lamO L f c c'))/\H1 c'=some (.cod L.qual)) I ?_) fun us s1 ⟨vs,H1,I1,r,q⟩=>⟨I1.kIn,?_⟩) he hpl
 ·exact⟨v0,e0,c,hc,hP,fun f c' H1 k1 k2 k3=>⟨f,c',rfl,k1,k2,k3⟩⟩
 obtain⟨f',c',rfl,k1,k2,k3⟩:=q
 have hcn:H c=none:=I.freeC _ _ hc
 have hc1:H1 c=none:=I1.freeC _ _ hc
 obtain⟨m,hm1,hl⟩:=I1.loc
 obtain⟨u,ru,lk⟩:=hl 1 L.x va hN e1 hvis
 obtain⟨oc,ec,dc⟩:∃ oc,s1.heap.get? c=some oc/\oc.data=.cell (some u):=by
  rcases lk with ⟨z,_⟩ | ⟨_,c2,z1,oc,z2,z3⟩
  ·rw[hkd]at z; cases z
  ·rw[hc]at z1; cases z1; exact⟨oc,z2,z3⟩
 have cO:cellO c va oc s1.heap:=⟨ec,u,ru,dc⟩
 have cab:=I1.ok.cab L.x c hfn hc
 have ne2:∀ {b o},H1 b=some o->upd H1 c (.ext (cellO c va oc)) b=some o:=fun {b o} e=>by
  rw[zAB (zAE e hc1)]; exact e
 have no2:∀ {b},b≠c->H1 b=none->upd H1 c (.ext (cellO c va oc)) b=none:=fun {b} n e=>by rw[zAB n]; exact e
 have z1:=I1.env0
 have fsn:∀ b∈frs X.stack,b≠c:=fun b hb z=>by
  rcases AL.mp (I1.stkSub b hb) with e | e
  ·exact I1.cne _ _ hc (z.symm.trans e)
  ·obtain⟨_,o,ho,_⟩:=I1.ok.funs.mem e
   rw[z]at ho
   exact absurd (AJ ho) (GG.mpr cab)
 have z2:Env0 X.prog X.w X.K X.mg X.base X.A X.stack s1 (upd H1 c (.ext (cellO c va oc))):=⟨z1.frames,z1.mod,fun b o e=>⟨(z1.bs b o e).1,no2 (fun z=>by
   rw[z]at e
   exact absurd (AJ e) (GG.mpr (Al I1.ok.bsz cab))) (z1.bs b o e).2⟩,z1.bsz,z1.funs,fun b hb=>no2 (fsn b hb) (z1.frf b hb),z1.hok.re hc1 (zFy cO),z1.bare⟩
 have hsp:=h f' c c' oc (upd H1 c (.ext (cellO c va oc))) hcn (fun b o e=>ne2 (k1 b o e)) (ne2 k2) zAO (ne2 k3)
 have hl:(us++[]).length=ps.length:=by rw[Bp,← r.length]; exact F.len _ _ _ _ hsp
 have hbs:=hb s1 us I1.kIn hl
 rw[Bp]at hbs
 refine IR (Dw (F.run X.A X.stack s1 _ ⟨us,[]⟩ us [v0,.ref f'] _ E0 hr z2 hbs r hsp) fun r s' hq=>?_)
 cases r with
 | error e=>exact pass0 pins σ H1 s1 e s' I1 hq
 | ok fl =>
  cases fl with
  | ret u =>
   obtain⟨v,H',os,bare,un,hok,rv,hcc,hQ⟩:=hq
   have gc:s'.heap.get? c=some oc:=(show ObjOk X.prog X.w H' s'.heap c (.ext (cellO c va oc)) from hok c _ hcc).1.1
   refine I1.after ⟨v,rmH H' c,os,bare,?_,hok.rm hcc,rv,hQ⟩
   exact {
    keep:=fun b o e n hb hx=>by
     by_cases z:b=c
     ·subst z; rw[ec]at e; cases e; exact gc
     ·exact un.keep b o e (no2 z n) hb hx
    slot:=fun b o e n hb hx=>un.slot b o e (no2 (fsn b hb) n) hb hx
    free:=fun b o e n hx=>by
     by_cases z:b=c
     ·subst z; exact zB6
     ·rw[zAr z]; exact un.free b o e (no2 z n) hx
    there:=un.there
    tups:=fun b xs e=>by
     have z:b≠c:=zAE e hc1
     rw[zAr z]; exact un.tups b xs (ne2 e)
    frzs:=fun b o w e=>by
     have z:b≠c:=zAE e hc1
     rw[zAr z]; exact un.frzs b o w (ne2 e)
    tbls:=fun b ps e=>by
     have z:b≠c:=zAE e hc1
     rw[zAr z]; exact un.tbls b ps (ne2 e) }
  | next=>exact A8 hq
  | brk=>exact A8 hq
  | cont=>exact A8 hq
end
def dHand (F:DF) (L:Lam):DE:=fun Γ=>match Γ with
 | [some (.v t0),some (.v ta)]=>match F [.v t0,.v (.m L [ta])] with
  | some (.v (.a u),[])=>some (.v (.a u),Γ)
  | _=>none
 | _=>none
section
variable {K:Fg}{F:DF}{L:Lam}{c0 P0:Addr}
theorem zLY(hT:CG K "is_so"=some (c0,P0))(hq:L.qual="is_so.<locals>.<lambda>"):SimE K (tHand (spD K none 2 F) L P0) (dHand F L):=by
 intro C w Γ σ H s Γ' Q R e k
 unfold dHand at e
 split at e
 ·rename_i t0 ta
  split at e
  ·rename_i u eF
   cases e
   obtain⟨v0,s0,i0⟩:=R.val 0 _ rfl
   obtain⟨va,s1,i1⟩:=R.val 1 _ rfl
   refine⟨v0,va,s0,s1,by rw[hq]; exact R.tab c0 P0 hT,fun f c c' oc H2 hcn old f1 f2 f3=>?_⟩
   have ev:Evo [] H H2:=fun b o h _=>old b o h
   have hL:LL ([]:List Addr) H:=fun p hp=>nomatch hp
   have j0:Im K H2 v0 t0:=Im.evo ev hL i0
   have j1:Im K H2 (.ref f) (.m L [ta]):=Im.lam ⟨c,c',va,oc,rfl,f1,f2,f3⟩ (.one (Im.evo ev hL i1))
   refine⟨rfl,⟨[],fun b=>∃ o,H2 b=some o⟩,[.v t0,.v (.m L [ta])],.v (.a u),[],eF,?_,rfl,(fun p hp=>nomatch hp),fun v H' ev2 _ ro=>⟨ev2 _ _ f2 nofun,?_⟩⟩
   ·refine⟨rfl,fun i g h=>?_,fun i j p g g' m _ h _ _ _=>?_,fun p hp=>(nomatch hp),fun p hp=>(nomatch hp),fun p hp=>hp,fun p hp=>nofun,fun b o h _=>h,fun c P z=>old _ _ (R.tab c P z),fun q hq=>(nomatch hq)⟩
    ·match i,h with
     | 0,h=>cases h; exact⟨_,rfl,j0⟩
     | 1,h=>cases h; exact⟨_,rfl,j1⟩
     | i+2,h=>cases h
    ·match i,h with
     | 0,h=>cases h; cases m
     | 1,h=>cases h; cases m
     | i+2,h=>cases h
   ·obtain rfl:v=u:=(show Im K H' v (.a u) from ro).inva
    have old2:∀ b o,H b=some o->rmH H' c b=some o:=fun b o h=>by
     rw[zAr (zAE h hcn)]; exact ev2 b o (old b o h) nofun
    exact k _ _ (R.evo0 old2) (fun b o h _=>old2 b o h) .atom trivial
  ·cases e
 ·cases e
end
section
variable {P:Ai}{wd:Ax}{base:Heap}{K:Fg}{mg:Str->Option AD}{k k':Nat}
theorem zP8(F:Fun K x x st f fd)(S:FnScope N ps (defScope st))
  (body:∀ (cdv:AD) (A:BE) (outer:List Env) (s:AG) (H:Hp) (E:XK),fd.code=cdv->Fm K mg k (cx1 P wd K mg base N x (defScope st) f cdv A outer s H E)->Fb P wd base (cx1 P wd K mg base N x (defScope st) f cdv A outer s H E)->BX K (cx1 P wd K mg base N x (defScope st) f cdv A outer s H E) ip (defBody st) g) :
  FnOk P wd K mg base CX0 (k+1) f fd ps (spD K ip ps.length (fnD ip ps.length N.length g)):=by
 obtain⟨oc,od,kV,doc,pm,an,cdv,ct,osl,rfl,lk,hcd⟩:=F.ex
 refine zIS lk hcd S (fun vs H Q E h=>h.1) fun A outer s H vs Q E hr hsp=>?_
 obtain⟨t,p,u⟩:=body cdv A outer s H E rfl ⟨fun _=>rfl,fun _=>rfl,fun _=>rfl,fun _=>hr⟩ ⟨fun _=>rfl,fun _=>rfl,fun _=>rfl⟩
 exact⟨t,(p ()).nox,zC3 u hsp⟩
end
section
variable {ι:Type}{P:Ai}{wd:Ax}{base:Heap}{K:Fg}{mg:Str->Option AD}{k k':Nat}{X:ι->Cx}{F:DF}{L:Lam}{pos lp p p':Pos}{x y:Str}{fd:Ab}{cdv:AD}
theorem zNn(M:Fm K mg k X)(B:Fb P wd base X)(D0:FD P wd K mg base k' x none 2 F)(hT:TabAt K fd)(hc:fd.code=cdv)(hcode:∀ j,(X j).env.code=cdv)(hk:k'<=k:=by first | exact AK _ | decide | lia)
  (hg:∀ j,(X j).env.globals=Ad:=by intro _; rfl) (hcl:∀ j c,(X j).env.cells.lookup L.x=some c->Ej L.scope (X j).env=pure [(L.x,c)]) (hq:∀ j,(X j).env.qual++"<lambda>"=L.qual:=by intro _; rfl) (hdef:∀ j,Ic L.params (X j).env=([],[]):=by intro _; rfl)
  (h0:∀ j,PE (X j) (.Name y p') (tVar 0)) (hN:∀ j,(X j).N[1]?=some L.x:=by intro _; rfl) (hkd:∀ j,(X j).env.kindOf L.x=some .cell:=by intro _; rfl) (hfn:∀ j,(X j).fn L.x=true:=by intro _; rfl) (hqq:L.qual="is_so.<locals>.<lambda>":=by rfl)
  (hgl:∀ j,Gl (X j) x:=by intro _; rfl) (hdb:(x == ("__debug__":Str))=false:=by decide)
  (he:∀ j,AU [.Name y p',.Lambda L.params L.body L.scope lp] (X j).env=(false,eval (.Name y p') (X j).env)::AU [.Lambda L.params L.body L.scope lp] (X j).env:=by intro _; rfl)
  (he2:∀ j,AU [.Lambda L.params L.body L.scope lp] (X j).env=(false,eval (.Lambda L.params L.body L.scope lp) (X j).env)::AU [] (X j).env:=by intro _; rfl)
  (hpl:∀ j,(Bw pos (AU [.Lambda L.params L.body L.scope lp] (X j).env)).any (·.1)=false:=by intro _; rfl) :
  EX K X (.Call (.Name x p) [.Name y p',.Lambda L.params L.body L.scope lp] [] pos) (dHand F L):=by
 obtain⟨c0,P0,t1,t2,t3⟩:=hT
 obtain⟨f,fd',ps,g1,g2,g3,g4⟩:=D0.ex
 refine⟨tHand (spD K none 2 F) L P0,fun j=>?_,zLY t2 hqq⟩
 have hkj:=hkd j
 exact zNl (k:=k') (by rw[B.P,B.w,M.K,M.mg,B.b]; exact g1) ((M.room j).mono hk) (hgl j) (by rw[M.mg]; exact g2) (by rw[M.K]; exact g3) (by rw[M.K]; exact g4) (by rw[hcode j,← hc]; exact t1) (by rw[M.K]; exact t3) (hg j) (hcl j) (hq j) (hdef j) (h0 j) (hN j) hkj (.inr (.inl hkj)) (hfn j) hdb (he j) (he2 j) (hpl j)
end
open PySem PySem.Spec PyProof.Rows L2
theorem zJO{P:Ai}{w:Ax}{K:AM}{mg mb:Str->Option AD}{k:Nat}{fa a c0 P0:Addr}{fd:Ab}{x:Str}{sp:Sp}{s₁:AG}{vs:List AD}{ns:List Int}
  (KX:K.In s₁.heap) (hns:s₁.heap.Ns Ad mg) (hb:s₁.heap.Ns Dj mb) (hbb:∀ x:Str,x≠"__name__"->mb x=B6 x) (hlim:s₁.heap.NoLimit) (hg:s₁.gens=#[])
  (hbm:∃ bm ob,mg "__builtins__"=some (.ref bm)/\bm≠Dj/\s₁.heap.get? bm=some ob/\ob.cls=.type "module"/\ob.dict=some Dj/\ob.data=.plain)
  (hT:CG K "is_so"=some (c0,P0)) (hH:CM K c0 P0=true) (hNT:Fi K=true) (hP:s₁.heap.get? P0=some { cls:=.none,data:=.fields #[] })
  (ha:s₁.heap.get? a=some { cls:=.type "list",data:=.seq vs.toArray }) (hi:Ei vs ns) (hl:ns.length<=AC) (hr:Room k Fu)
  (F:∀ base:Heap,K.In base->base.Ns Ad mg->FnOk P w K mg base CX0 k fa fd [x] sp) (hbind:∀ (s:AG) (u:AD),Gb s fd ⟨[u],[]⟩ [(x,u)])
  (hsp:∀ H:Hp,(∀ us,H a≠some (.lst us))->TabOk K H->SqL K H a (ns.map V.int)->sp [.ref a] H (fun v H'=>v=.bl true/\∀ b o,H b=some o->H' b=some o) fun _ _ _=>False) :
  DR (model P w) Fu (.call (.ref fa) ⟨[.ref a],[]⟩) (fun r s'=>r=.ok (.ret (.bool true))/\OldK s₁.heap s'.heap/\s'.os=s₁.os/\Ef s'.gens) s₁:=by
 have rv:=zEr hi
 have lenV:=hi.length
 have haP:a≠P0:=fun z=>by rw[z,hP]at ha; cases ha
 have core:∀ H:Hp,(∀ b,H b=none\/(∃ o xs,H b=some (.frz o (.lst xs)))\/b=P0)->H P0=some (.tbq "is_so.<locals>.<lambda>")->SqL K H a (ns.map V.int)->HOk P w H s₁.heap->(∀ b,H b≠none->b=a\/b=P0)->(H a≠none->K.lookup a=none) ->
   DR (model P w) Fu (.call (.ref fa) ⟨[.ref a],[]⟩) (fun r s'=>r=.ok (.ret (.bool true))/\OldK s₁.heap s'.heap/\s'.os=s₁.os/\Ef s'.gens) s₁:=by
  intro H hO hHP hS hok hA hK
  have base_of:∀ {b:Addr} {o:Obj},s₁.heap.get? b=some o->H b=none->(hidT s₁.heap H).get? b=some o:=fun e n=>zLM e n
  have noA:∀ {b:Addr} {o:Obj},s₁.heap.get? b=some o->(∀ its n,o.data≠.seq its n)->(∀ ps,o.data≠.fields ps)->H b=none:=fun {b o} e d1 d2=>by
   cases q:H b with
   | none=>rfl
   | some u =>
    rcases hA b (by rw[q]; simp) with e' | e'
    ·subst e'
     rw[ha]at e; cases e
     exact absurd rfl (d1 _ _)
    ·subst e'
     rw[hP]at e; cases e
     exact absurd rfl (d2 _)
  have nsK:∀ {b:Addr} {m:Str->Option AD},s₁.heap.Ns b m->(hidT s₁.heap H).Ns b m:=fun {b m} ⟨o,es,ep,e,d,r⟩=>⟨o,es,ep,base_of e (noA e (fun _ _ z=>by rw[d]at z; cases z) (fun _ z=>by rw[d]at z; cases z)),d,r⟩
  have hKb:K.In (hidT s₁.heap H):=fun b o e=>base_of (KX b o e) (by
   cases q:H b with
   | none=>rfl
   | some u =>
    rcases hA b (by rw[q]; simp) with e' | e'
    ·subst e'
     rw[hK (by rw[q]; simp)]at e; cases e
    ·subst e'
     have h2:=Aw.mp hNT (b,o) (PySem.W.mem_of_lookupK e)
     have e3:=KX b o e
     rw[hP]at e3; cases e3
     exact absurd (show false=true from h2) AZ)
  have hM:Mod K mg (hidT s₁.heap H):=⟨hKb,nsK hns,⟨mb,nsK hb,hbb⟩,let ⟨mc,h1,h2⟩:=hlim; ⟨mc,nsK h1,h2⟩,by
   obtain⟨bm,ob,b1,b2,b3,b4,b5,b6⟩:=hbm
   exact⟨bm,ob,b1,b2,base_of b3 (noA b3 (fun _ _ z=>by rw[b6]at z; cases z) (fun _ z=>by rw[b6]at z; cases z)),b4,b5,b6⟩⟩
  have e0:Env0 P w K mg (hidT s₁.heap H) Fu [] s₁ H:=⟨rfl,hM,fun b o e=>zMv e,Nat.le_of_eq (zI3 _ _),trivial,fun b hb=>absurd (show b∈([]:List Addr) from hb) (by simp),hok,.of_eq hg⟩
  have hLs:∀ us,H a≠some (.lst us):=fun us z=>by
   rcases hO a with y | ⟨o,xs,y⟩ | y
   ·rw[z]at y; cases y
   ·rw[z]at y; cases y
   ·exact haP y
  have hTb:TabOk K H:=fun c P z=>by rw[hT]at z; cases z; exact hHP
  refine Dw ((F _ hKb (nsK hns)).run Fu [] s₁ H ⟨[.ref a],[]⟩ [.ref a] [.ref a] _ _ hr e0 (hbind s₁ (.ref a)) (.cons rfl .nil) (hsp H hLs hTb hS)) fun r s' h=>?_
  cases r with
  | error e=>exact A8 h
  | ok fl =>
   cases fl with
   | next=>exact A8 h
   | brk=>exact A8 h
   | cont=>exact A8 h
   | ret u =>
    obtain⟨v,H',os,bare,un,hok',r',q,ev⟩:=h
    subst q
    obtain rfl:u=Fs true:=r'
    have keep:∀ b o,b≠P0->s₁.heap.get? b=some o->s'.heap.get? b=some o:=fun b o n e=>by
     cases q:H b with
     | none=>exact un.keep b o e q (by intro z; exact absurd (show b∈([]:List Addr) from z) (by simp)) (by simp)
     | some u =>
      rcases hO b with z | ⟨ob,xs,z⟩ | z
      ·rw[q]at z; cases z
      ·have z2:=un.frzs b ob _ z
       obtain⟨e1,_⟩:=hok b _ z
       obtain⟨e2,_⟩:=hok' b _ z2
       rw[e]at e1; cases e1
       exact e2
      ·exact absurd z n
    obtain⟨ps,p1,_⟩:=(show ObjOk P w H' s'.heap P0 (.tbq "is_so.<locals>.<lambda>") from hok' P0 _ (ev _ _ hHP))
    have C:=Gi KX hH
    refine⟨rfl,⟨fun b o e=>?_,fun b o e=>?_⟩,os,bare⟩
    ·by_cases z:b=P0
     ·subst z
      rw[hP]at e; cases e
      exact .inr (.inl ⟨(C.tab hP).isCodeTable,rfl,#[],ps,rfl,by rw[Array.empty_append]; exact p1⟩)
     ·exact .inl (keep b o z e)
    ·by_cases z:b=P0
     ·subst z; exact⟨_,p1⟩
     ·exact⟨o,keep b o z e⟩
 have tbo:∀ {H:Hp},H P0=some (.tbq "is_so.<locals>.<lambda>")->ObjOk P w H s₁.heap P0 (.tbq "is_so.<locals>.<lambda>"):=fun _=>⟨#[],hP,trivial,fun pos cv z=>by cases z⟩
 cases hk:K.lookup a with
 | some o =>
  have e:=KX a o hk
  rw[ha]at e
  cases e
  refine core (fun b=>if b=P0 then some (.tbq "is_so.<locals>.<lambda>") else none) (fun b=>?_) (if_pos rfl) (.inr ⟨_,vs.toArray,_,hk,rfl,rfl,rfl,by rw[AO,lenV]; exact hl,by simpa using rv⟩) (fun b u z=>?_) (fun b z=>?_) fun z=>absurd (if_neg haP) z
  ·by_cases hb:b=P0
   ·exact .inr (.inr hb)
   ·exact .inl (if_neg hb)
  ·by_cases hb:b=P0
   ·have z':=(if_pos hb).symm.trans z
    cases z'
    subst hb
    exact tbo z
   ·have z':=(if_neg hb).symm.trans z
    cases z'
  ·by_cases hb:b=P0
   ·exact .inr hb
   ·exact absurd (if_neg hb) z
 | none =>
  refine core (fun b=>if b=P0 then some (.tbq "is_so.<locals>.<lambda>") else if b=a then some (.frz { cls:=.type "list",data:=.seq vs.toArray } (.lst (ns.map V.int))) else none) (fun b=>?_) (if_pos rfl) (.inl (.inr ⟨{ cls:=.type "list",data:=.seq vs.toArray },(if_neg haP).trans (if_pos rfl)⟩)) (fun b u z=>?_) (fun b z=>?_) fun _=>hk
  ·by_cases hb:b=P0
   ·exact .inr (.inr hb)
   ·by_cases hb2:b=a
    ·exact .inr (.inl ⟨_,_,(if_neg hb).trans (if_pos hb2)⟩)
    ·exact .inl ((if_neg hb).trans (if_neg hb2))
  ·by_cases hb:b=P0
   ·have z':=(if_pos hb).symm.trans z
    cases z'
    subst hb
    exact tbo z
   ·by_cases hb2:b=a
    ·have z':=((if_neg hb).trans (if_pos hb2)).symm.trans z
     cases z'
     subst hb2
     exact⟨ha,by rw[A7]; exact hl,vs,_,rv,ha⟩
    ·have z':=((if_neg hb).trans (if_neg hb2)).symm.trans z
     cases z'
  ·by_cases hb:b=P0
   ·exact .inr hb
   ·by_cases hb2:b=a
    ·exact .inl hb2
    ·exact absurd ((if_neg hb).trans (if_neg hb2)) z
theorem zKb{K:Fg}{F:DF}{H:Hp}{a:Addr}{ns:List Int}(hO:∀ us,H a≠some (.lst us))(hT:TabOk K H)(hS:SqL K H a (ns.map V.int))(h:F [.k (intsT ns)]=some (.v (.a (.bl true)),[])):spD K none 1 F [.ref a] H (fun v H'=>v=.bl true/\∀ b o,H b=some o->H' b=some o) fun _ _ _=>False:=by
 have hK:KF K H a (ns.map V.int):=KF.of hS hO
 refine⟨rfl,⟨[],fun _=>False⟩,_,_,_,h,⟨rfl,fun i g e=>?_,fun i j p ga gb ma mb e=>?_,fun p hp=>(nomatch hp),fun p hp=>(nomatch hp),fun p hp=>hp.elim,fun p hp=>hp.elim,fun b o e _=>e,hT,fun q hq=>(nomatch hq)⟩,rfl,(fun p hp=>nomatch hp),fun v H' ev _ hr=>⟨?_,fun b o e=>ev b o e nofun⟩⟩
 ·match i,e with
  | 0,e =>
   cases e
   refine⟨_,rfl,a,ns.map V.int,rfl,?_,hK⟩
   have:intsT ns=(ns.map V.int).map T.a:=by simp[intsT]
   rw[this]
   exact Ims.atoms _
  | i+1,e=>simp at e
 ·match i,e with
  | 0,e=>cases e; cases ma
  | i+1,e=>simp at e
 ·exact (show Im K H' v (.a (.bl true)) from hr).inva
theorem walk_ofL{l:FT}{n k:Nat}{q:Ai}{loose:List Str}{XP:(Str->Option AD)->Heap->Prop}{YP:Ax->Heap->Prop}{d:DefRec}{K:J5->AM}{sp:AM->Sp}{x:Str}{c0 P0:Addr}
  (hn:l.most=some n) (hn2:n<=AC) (hdf:d.params.defaults=[]) (hr:Room k Fu)
  (hY:∀ (w:Ax) (h:Heap),YP w h->(K w.params).In h) (hYP:∀ (w:Ax) (h:Heap),YP w h->h.get? P0=some { cls:=.none,data:=.fields #[] })
  (hT:∀ w:Ax,CG (K w.params) "is_so"=some (c0,P0)) (hH:∀ w:Ax,CM (K w.params) c0 P0=true) (hNT:∀ w:Ax,Fi (K w.params)=true)
  (F:∀ (w:Ax) (mg:Str->Option AD) (fa:Addr) (h:Heap),(K w.params).In h->h.Ns Ad mg->mg d.name=some (.ref fa) ->
   ∃ fd:Ab,(∀ (s:AG) (u:AD),Gb s fd ⟨[u],[]⟩ [(x,u)]) /\
    ∀ base:Heap,(K w.params).In base->base.Ns Ad mg->FnOk l.prog w (K w.params) mg base CX0 k fa fd [x] (sp (K w.params)))
  (hsp:∀ (K:AM) (H:Hp) (a:Addr) (ns:List Int),ns.length<=n->(∀ us,H a≠some (.lst us))->TabOk K H->SqL K H a (ns.map V.int)->sp K [.ref a] H (fun v H'=>v=.bl true/\∀ b o,H b=some o->H' b=some o) fun _ _ _=>False) :
  Hs q loose XP YP l.row.toRowW d [] (fun f vs=>HA f vs):=by
 refine Att.attach_call hn hdf fun w s₀ s₁ mg mb fa o pm cd doc a vs ns G Y ho hd hcd hmg hobj hints hlen hg=>?_
 have KX:=hY w _ Y
 obtain⟨fd,hb,hF⟩:=F w mg fa _ KX G.T.g hmg
 exact zJO KX G.T.g G.T.b G.T.builtins G.T.nolimit hg G.T.bmain (hT w) (hH w) (hNT w) (hYP w _ Y) hobj hints (Al hlen hn2) hr hF hb fun H h1 h2 h3=>hsp _ H a ns hlen h1 h2 h3
mutual
noncomputable def Rs.PutP (PP:T->List T->T->Prop):Rs->Prop
 | .mk e v ks=>PP e (ks.map Rs.v) v/\PutsP PP ks
noncomputable def PutsP (PP:T->List T->T->Prop):List Rs->Prop
 | []=>True
 | r::rs=>r.PutP PP/\PutsP PP rs
end
theorem zAG:PutsP PP (r::rs) ↔ r.PutP PP/\PutsP PP rs:=by rw[PutsP]
theorem zAZ:(Rs.mk e v ks).PutP PP ↔ PP e (ks.map Rs.v) v/\PutsP PP ks:=by rw[Rs.PutP]
theorem zAQ:PutsP PP []:=by unfold PutsP; trivial
def fwBM (tb1:Tb) (dp:DE):DS:=dSeq (dSet 5 (dComp (some (1,3)) [none,some 3] (dSeqI (dCallV 1 tb1 (jW (jV 4) qQ))) (gdName 0) dYes fwE))
 (dDrop (dMut 3 hAppend (jW dp qQ)))
def fwDM (FA:DF) (tb1:Tb) (dp:DE):DS:=dSeq (dSet 3 (dLst qQ))
 (dSeq (dFor none (dRevL (jW (dCall none FA [] (jW (jV 0) (jW (jV 1) qQ))) qQ)) (gdName 4) (fwBM tb1 dp))
 (dRet (dOp ixS (jV 3) (dC (.int 0)))))
section
variable {tb1:Tb}{dp:DE}{pv:T}{PP:T->List T->T->Prop}{n:Str}{ka:Nat}{ins:DF}
def PutOk (n:Str) (dp:DE) (pv:T) (PP:T->List T->T->Prop):Prop:=∀ (w e v:T) (t0 vs:List T),PP e vs v->dp [some (.v w),some (.v (.f n)),some (.v pv),some (.l t0),some (.v e),some (.l vs)]=some (.v v,[some (.v w),some (.v (.f n)),some (.v pv),some (.l t0),some (.v e),some (.l vs)])
theorem zLD(hf:tb1.find? (fun q=>decide (q.1=n))=some (n,ka,ins))(hg:PutOk n dp pv PP){e v:T}{ks:List Rs}{t0:List T}{w:T}{p5:Option G}(h1:ins [.v e]=some (.v (.t (ks.map Rs.e)),[])\/ins [.v e]=some (.l (ks.map Rs.e),[]))
  (h2:PP e (ks.map Rs.v) v) (hb:t0.length+ks.length<=90000) :
  fwBM tb1 dp [some (.v w),some (.v (.f n)),some (.v pv),some (.l (t0++(ks.map Rs.v).reverse)),some (.v e),p5]=some (.nx [some (.v w),some (.v (.f n)),some (.v pv),some (.l (t0++[v])),some (.v e),some (.l (ks.map Rs.v))]):=by
 obtain⟨o',hc⟩:=zJ3 (ks.map Rs.e) (ks.map Rs.v) t0 none (by simp) (by simp; lia)
 have cv:dCallV 1 tb1 (jW (jV 4) qQ) [some (.v w),some (.v (.f n)),some (.v pv),some (.l (t0++(ks.map Rs.v).reverse)),some (.v e),p5]=dCall none ins [] (jW (jV 4) qQ) [some (.v w),some (.v (.f n)),some (.v pv),some (.l (t0++(ks.map Rs.v).reverse)),some (.v e),p5]:=zEp rfl hf
 have cw:=hg w e v t0 _ h2
 have hz:(ks.map Rs.e).length<=AC:=Al (show (ks.map Rs.e).length<=100000 by simp; lia) (by decide)
 have ht:t0.length < AC:=Aa (show t0.length < 100000 by lia) (by decide)
 have ht':t0.length<=AC:=DB ht
 generalize t0++(ks.map Rs.v).reverse=RR at hc cv ⊢
 generalize ks.map Rs.e=EE at h1 hc hz ⊢
 generalize ks.map Rs.v=VV at h2 hc cw ⊢
 rcases h1 with h1 | h1
 ·simp[fwBM,cv,h1,hc,cw,gd,hz,ht,ht']
 ·simp[fwBM,cv,h1,hc,cw,gd,hz,ht,ht']
mutual
theorem zGm(hf:tb1.find? (fun q=>decide (q.1=n))=some (n,ka,ins))(hg:PutOk n dp pv PP)(w:T):∀ (r:Rs) (t0 more:List T) (p4 p5:Option G),r.In ins->r.PutP PP->t0.length+r.pre.length<=90000 ->
  ∃ p4' p5',forD (gdName 4) (fwBM tb1 dp) (r.pre.reverse.map Rs.e++more) [some (.v w),some (.v (.f n)),some (.v pv),some (.l t0),p4,p5]=forD (gdName 4) (fwBM tb1 dp) more [some (.v w),some (.v (.f n)),some (.v pv),some (.l (t0++[r.v])),p4',p5']
 | .mk e v ks,t0,more,p4,p5,hi,hp,hb=>by
  obtain⟨h1,h2⟩:=zAm.mp hi
  obtain⟨h3,h4⟩:=zAZ.mp hp
  rw[zAV]at hb ⊢
  simp only[Bf]at hb
  have hlen:∀ l:List Rs,l.length<=(pres l).length:=fun l=>by
   induction l with
   | nil=>simp
   | cons x l ih =>
    cases x with
    | mk a b c=>rw[zAN,zAV]; simp; lia
  have hk:=hlen ks
  obtain⟨q4,q5,e1⟩:=zGj hf hg w ks t0 (e::more) p4 p5 h2 h4 (by lia)
  refine⟨some (.v e),some (.l (ks.map Rs.v)),?_⟩
  rw[C8,By,Bx,AN,Aj]
  show forD _ _ (B5 Rs.e (pres ks).reverse++(e::more)) _=_
  rw[e1,zBu]
  simp only[zBy]
  rw[show (List.set [some (G.v w),some (.v (.f n)),some (.v pv),some (.l (t0++(ks.map Rs.v).reverse)),q4,q5] 4 (some (.v e)))=[some (.v w),some (.v (.f n)),some (.v pv),some (.l (t0++(ks.map Rs.v).reverse)),some (.v e),q5] from rfl]
  rw[Ae,zLD hf hg h1 h3 (by lia),Ae]
  rfl
theorem zGj(hf:tb1.find? (fun q=>decide (q.1=n))=some (n,ka,ins))(hg:PutOk n dp pv PP)(w:T):∀ (ks:List Rs) (t0 more:List T) (p4 p5:Option G),Ins ins ks->PutsP PP ks->t0.length+(pres ks).length<=90000 ->
  ∃ p4' p5',forD (gdName 4) (fwBM tb1 dp) ((pres ks).reverse.map Rs.e++more) [some (.v w),some (.v (.f n)),some (.v pv),some (.l t0),p4,p5]=forD (gdName 4) (fwBM tb1 dp) more [some (.v w),some (.v (.f n)),some (.v pv),some (.l (t0++(ks.map Rs.v).reverse)),p4',p5']
 | [],t0,more,p4,p5,_,_,_=>⟨p4,p5,by simp[zAK]⟩
 | r::rs,t0,more,p4,p5,hi,hp,hb=>by
  obtain⟨h1,h2⟩:=zAH.mp hi
  obtain⟨h3,h4⟩:=zAG.mp hp
  rw[zAN]at hb ⊢
  simp only[A4]at hb
  have hlen:∀ l:List Rs,l.length<=(pres l).length:=fun l=>by
   induction l with
   | nil=>simp
   | cons x l ih =>
    cases x with
    | mk a b c=>rw[zAN,zAV]; simp; lia
  have hk:=hlen rs
  obtain⟨q4,q5,e1⟩:=zGj hf hg w rs t0 (r.pre.reverse.map Rs.e++more) p4 p5 h2 h4 (by lia)
  obtain⟨q6,q7,e2⟩:=zGm hf hg w r (t0++(rs.map Rs.v).reverse) more q4 q5 h1 h3 (by simp; lia)
  refine⟨q6,q7,?_⟩
  rw[List.reverse_append,By,Bx,e1,e2]
  simp
end
theorem zA7(hf:tb1.find? (fun q=>decide (q.1=n))=some (n,ka,ins))(hg:PutOk n dp pv PP)(r:Rs)(h1:r.In ins)(h2:r.PutP PP)(hb:r.pre.length<=80000) :
  fnD none 3 6 (fwDM (fnD none 2 5 (awD tb1)) tb1 dp) [.v r.e,.v (.f n),.v pv]=some (.v r.v,[]):=by
 have ha:=zEs hf r h1 hb
 obtain⟨q4,q5,e⟩:=zGm hf hg r.e r [] [] none none h1 h2 (by simp; lia)
 rw[Bp,zBr]at e
 have hz:(r.pre.map Rs.e).length<=AC:=Al (show (r.pre.map Rs.e).length<=100000 by simp; lia) (by decide)
 have e2:(B5 Rs.e r.pre).reverse=B5 Rs.e r.pre.reverse:=by simp
 generalize fnD none 2 5 (awD tb1)=FA at ha ⊢
 generalize r.pre.map Rs.e=EE at ha hz e2
 rw[← e2]at e
 simp[fnD,fwDM,ha,gd,hz,e]
end
theorem zNM:PutOk n (dCallM 2 tb2 L dlx (jW (jV 4) (jW (jV 5) qQ))) (.m L [ta]) (fun e vs v=>∃ u,v=.a u/\lamF dlx ta [.v e,.r vs]=some u):=by
 rintro w e v t0 vs ⟨u,rfl,h⟩
 unfold dCallM
 have fa:jW (jV 4) (jW (jV 5) qQ) [some (.v w),some (.v (.f n)),some (.v (.m L [ta])),some (.l t0),some (.v e),some (.l vs)]=some ([.v e,.s 5],[some (.v w),some (.v (.f n)),some (.v (.m L [ta])),some (.l t0),some (.v e),some (.l vs)]):=rfl
 have ag:argsG none [some (.v w),some (.v (.f n)),some (.v (.m L [ta])),some (.l t0),some (.v e),some (.l vs)] 0 [.v e,.s 5]=some [.v e,.r vs]:=rfl
 refine (if_pos rfl).trans ?_
 rw[fa,Ae,ag,Ae,h]
 rfl
theorem zEG(hg:tb2.find? (fun q=>decide (q.1=m))=some (m,kb,put)):PutOk n (dCallM 2 tb2 L dlx (jW (jV 4) (jW (jV 5) qQ))) (.f m) (fun e vs v=>put [.v e,.r vs]=some (.v v,[])):=by
 rintro w e v t0 vs h
 have cv:dCallM 2 tb2 L dlx (jW (jV 4) (jW (jV 5) qQ)) [some (.v w),some (.v (.f n)),some (.v (.f m)),some (.l t0),some (.v e),some (.l vs)]=dCall none put [] (jW (jV 4) (jW (jV 5) qQ)) [some (.v w),some (.v (.f n)),some (.v (.f m)),some (.l t0),some (.v e),some (.l vs)]:=by
  unfold dCallM
  show (match tb2.find? fun q=>decide (q.1=m) with | some q=>dCall none q.2.2 [] _ _ | none=>none)=_
  rw[hg]
 rw[cv]
 simp[h]
end D
namespace Lw
open PySem.W (mg_of mg_none_of nsIn fnOf)
open PyProof.Rows (boot_all boot_bool boot_isinstance boot_list boot_max boot_min boot_sorted boot_tuple)
open PySem L2 D
def top (i:Nat):Stmt:=PySem.Challenge.pw_fivecups_k67_whole_one_saying_danced_oth.main.body.getD i (.Pass ⟨0,0,0,0⟩)
noncomputable section
variable {P:Ai}{wd:Ax}{K:AM}{mg:Str->Option AD}{base:Heap}
noncomputable def zCv:T:=.t (([1,3,0,4,2]:List Int).map V.int |>.map T.a)
noncomputable def zB8:T:=.t (([1,2,3,4,0]:List Int).map V.int |>.map T.a)
abbrev zBq:Nat:=4
abbrev zCc:Nat:=12
abbrev zDo:Nat:=20
abbrev zDi:Nat:=12
local macro_rules | `(tactic| walk_at "s") => `(tactic| exact ⟨rfl,rfl,rfl,by decide +kernel,rfl,by decide +kernel,by decide +kernel⟩)
abbrev st_4:Stmt:=top 62
theorem sc_4:FnScope ["_law_script","_law_k","_law_cell","_law_seed"] ["_law_script","_law_k"] (defScope st_4):=by walk_at "s"
def d_4:DS:=dSeq (dSet 2 (dOp addS (dOp mulS (dC (.int 7919)) (jV 1)) (dC (.int 11))))
 (dSeq (dIf (dTest (dOp ltS (jV 1) (dCB lenS (jW (jV 0) qQ)))) (dSet 2 (dOp ixS (jV 0) (jV 1))) (dIf (dTest (dOp gtS (dCB lenS (jW (jV 0) qQ)) (dC (.int 0)))) (dSet 2 (dOp addS (jV 2) (dOp mulS (dOp modS (dOp ixS (jV 0) (dOp modS (jV 1) (dCB lenS (jW (jV 0) qQ)))) (dC (.int 2147483629))) (dC (.int 69623))))) dNext))
 (dSeq (dSet 3 (dOp addS (dOp modS (dOp addS (dOp mulS (dOp modS (jV 2) (dC (.int 2147483629))) (dC (.int 48271))) (dOp mulS (dC (.int 40692)) (jV 1))) (dC (.int 2147483629))) (dC (.int 1))))
 (dRet (dLst (jW (dOp ixS (dLst (jW (dC (.int 0)) (jW (jV 2) qQ))) (dCB intS (jW (dOp geS (jV 2) (dOp powS (dC (.int 10)) (dC (.int 18)))) qQ))) (jW (jV 3) qQ))))))
def F_4:DF:=fnD none 2 4 d_4
abbrev st_5:Stmt:=top 63
theorem sc_5:FnScope ["_law_box_here","_law_wide","_law_digit","_law_one"] ["_law_box_here","_law_wide"] (defScope st_5):=by walk_at "s"
def d_5:DS:=dSeq (dIf (dTest (dOp gtS (dOp ixS (jV 0) (dC (.int 0))) (dC (.int 0)))) (dSeq (dSet 2 (dOp modS (dOp ixS (jV 0) (dC (.int 0))) (jV 1)))
 (dSeq (dSetIx 0 (dOp fdivS (dOp ixS (jV 0) (dC (.int 0))) (jV 1)) (dC (.int 0)))
 (dRet (jV 2)))) dNext)
 (dSeq (dSet 3 (dOp modS (dOp mulS (dOp ixS (jV 0) (dC (.int 1))) (dC (.int 69623))) (dC (.int 2147483647))))
 (dSeq (dSetIx 0 (dOp addS (dOp modS (dOp addS (dOp mulS (jV 3) (dC (.int 48271))) (dC (.int 30103))) (dC (.int 2147483629))) (dC (.int 1))) (dC (.int 1)))
 (dRet (dOp modS (dOp fdivS (dOp addS (dOp mulS (jV 3) (dC (.int 2147483647))) (dOp ixS (jV 0) (dC (.int 1)))) (dC (.int 8191))) (jV 1)))))
def F_5:DF:=fnD (some 0) 2 4 d_5
abbrev st_1:Stmt:=top 68
theorem sc_1:FnScope ["_law_box_here","_law_questions","_law_room","_law_down","_law_form","_law_first","_law_one","_law_second","_law_other","_law_head"] ["_law_box_here","_law_questions","_law_room","_law_down"] (defScope st_1):=by walk_at "s"
def d_1 (rec:DF):DS:=dSeq (dSet 4 (dCall (some 0) F_5 [] (jW (jV 0) (jW (dC (.int 10)) qQ))))
 (dSeq (dIf (dOr (dTest (dOp ltS (jV 2) (dC (.int 2)))) (dOr (dTest (dOp ltS (jV 3) (dC (.int 2)))) (dTest (dOp eqS (jV 4) (dC (.int 0)))))) (dRet (dOp ixS (dLst (jW (dTup (jW (dC (.str "ask")) (jW (dCall (some 0) F_5 [] (jW (jV 0) (jW (jV 1) qQ))) qQ))) (jW (dTup (jW (dC (.str "yes")) qQ)) (jW (dTup (jW (dC (.str "no")) qQ)) qQ)))) (dCB max2S (jW (dC (.int 0)) (jW (dOp subS (dCall (some 0) F_5 [] (jW (jV 0) (jW (dC (.int 8)) qQ))) (dC (.int 5))) qQ))))) dNext)
 (dSeq (dIf (dOr (dTest (dOp ltS (jV 4) (dC (.int 3)))) (dTest (dOp ltS (jV 2) (dC (.int 3))))) (dRet (dTup (jW (dC (.str "not")) (jW (dCall (some 0) rec [] (jW (jV 0) (jW (jV 1) (jW (dOp subS (jV 2) (dC (.int 1))) (jW (dOp subS (jV 3) (dC (.int 1))) qQ))))) qQ)))) dNext)
 (dSeq (dSet 5 (dOp addS (dC (.int 1)) (dCall (some 0) F_5 [] (jW (jV 0) (jW (dOp subS (jV 2) (dC (.int 2))) qQ)))))
 (dSeq (dSet 6 (dCall (some 0) rec [] (jW (jV 0) (jW (jV 1) (jW (jV 5) (jW (dOp subS (jV 3) (dC (.int 1))) qQ))))))
 (dSeq (dIf (dAnd (dTest (dOp eqS (jV 4) (dC (.int 9)))) (dAnd (dTest (dOp gtS (jV 2) (dC (.int 3)))) (dTest (dOp ltS (jV 5) (dOp subS (jV 2) (dC (.int 2))))))) (dSeq (dSet 7 (dOp addS (dC (.int 1)) (dCall (some 0) F_5 [] (jW (jV 0) (jW (dOp subS (dOp subS (jV 2) (dC (.int 2))) (jV 5)) qQ)))))
 (dSeq (dSet 8 (dCall (some 0) rec [] (jW (jV 0) (jW (jV 1) (jW (jV 7) (jW (dOp subS (jV 3) (dC (.int 1))) qQ))))))
 (dRet (dTup (jW (dC (.str "most")) (jW (jV 6) (jW (jV 8) (jW (dCall (some 0) rec [] (jW (jV 0) (jW (jV 1) (jW (dOp subS (dOp subS (dOp subS (jV 2) (dC (.int 1))) (jV 5)) (jV 7)) (jW (dOp subS (jV 3) (dC (.int 1))) qQ))))) qQ)))))))) dNext)
 (dSeq (dSet 9 (dOp ixS (dLst (jW (dC (.str "and")) (jW (dC (.str "or")) (jW (dC (.str "either")) qQ)))) (dOp modS (jV 4) (dC (.int 3)))))
 (dRet (dTup (jW (jV 9) (jW (jV 6) (jW (dCall (some 0) rec [] (jW (jV 0) (jW (jV 1) (jW (dOp subS (dOp subS (jV 2) (dC (.int 1))) (jV 5)) (jW (dOp subS (jV 3) (dC (.int 1))) qQ))))) qQ)))))))))))
def F_1:Nat->DF
 | 0=>fun _=>none
 | n+1=>fnD (some 0) 4 10 (d_1 (F_1 n))
def zCq (rec:DF):DE:=dCall none rec [] (jW (jV 0) qQ)
def zCb (rec:DF):DT:=dTru (dCB isiS (jW (jV 0) (jW (dC (.ty "tuple")) qQ)))
abbrev st_3:Stmt:=top 69
theorem sc_3:FnScope ["_law_saying_here","_law_some"] ["_law_saying_here"] (defScope st_3):=by walk_at "s"
def d_3 (rec:DF):DS:=dSeq (dSet 1 (dComp none [none] (dSeqI (dSl (jV 0) (dPart (dC (.int 1))) dNoPart)) (gdName 0) ((zCb rec)) ((zCq rec))))
 (dSeq (dIf (dTest (dOp (inS false) (dOp ixS (jV 0) (dC (.int 0))) (dTup (jW (dC (.str "yes")) (jW (dC (.str "no")) (jW (dC (.str "ask")) qQ)))))) (dRet (dC (.int 1))) dNext)
 (dSeq (dIf (dTest (dOp eqS (dOp ixS (jV 0) (dC (.int 0))) (dC (.str "not")))) (dRet (dOp ixS (jV 1) (dC (.int 0)))) dNext)
 (dSeq (dIf (dTest (dOp eqS (dOp ixS (jV 0) (dC (.int 0))) (dC (.str "most")))) (dRet (dOp addS (dOp mulS (dC (.int 12)) (dOp addS (dOp ixS (jV 1) (dC (.int 0))) (dOp ixS (jV 1) (dC (.int 1))))) (dOp mulS (dC (.int 4)) (dOp ixS (jV 1) (dC (.int 2)))))) dNext)
 (dRet (dOp mulS (dOp addS (dOp ixS (jV 1) (dC (.int 0))) (dOp ixS (jV 1) (dC (.int 1)))) (dOp ixS (dLst (jW (dC (.int 2)) (jW (dC (.int 8)) qQ))) (dCB intS (jW (dOp eqS (dOp ixS (jV 0) (dC (.int 0))) (dC (.str "either"))) qQ))))))))
def F_3:Nat->DF
 | 0=>fun _=>none
 | n+1=>fnD none 1 2 (d_3 (F_3 n))
def zCu:DT:=dTest (dOp gtS (dCall none (F_3 zDi) [] (jW (jV 2) qQ)) (dC (.int 8)))
def zDp:DS:=dSet 2 (dOp ixS (jV 2) (dOp addS (dC (.int 1)) (dCall (some 0) F_5 [] (jW (jV 0) (jW (dOp subS (dCB lenS (jW (jV 2) qQ)) (dC (.int 1))) qQ)))))
abbrev st_6:Stmt:=top 73
theorem sc_6:FnScope ["_law_box_here","_law_questions","_law_found"] ["_law_box_here","_law_questions"] (defScope st_6):=by walk_at "s"
def d_6:DS:=dSeq (dSet 2 (dCall (some 0) (F_1 zCc) [] (jW (jV 0) (jW (jV 1) (jW (dC (.int 4)) (jW (dC (.int 3)) qQ))))))
 (dSeq (dWhile (zCu) (zDp) fuelX)
 (dRet (jV 2)))
def F_6:DF:=fnD (some 0) 2 3 d_6
abbrev st_7:Stmt:=top 14
theorem sc_7:FnScope ["saying"] ["saying"] (defScope st_7):=by walk_at "s"
def d_7:DS:=dRet (dIfE (dTest (dOp eqS (dOp ixS (jV 0) (dC (.int 0))) (dC (.str "ask")))) (dTup qQ) (dSl (jV 0) (dPart (dC (.int 1))) dNoPart))
def F_7:DF:=fnD none 1 1 d_7
def zPv:DT:=dTest (dOp neS (dOp ixS (jV 0) (dOp ixS (jV 2) (dUn negS (dC (.int 1))))) (jV 1))
def zP3:DS:=dDrop (dMut 2 hAppend (jW (dOp ixS (jV 0) (dOp ixS (jV 2) (dUn negS (dC (.int 1))))) qQ))
abbrev st_8:Stmt:=top 6
theorem sc_8:FnScope ["turning","place","row"] ["turning","place"] (defScope st_8):=by walk_at "s"
def d_8:DS:=dSeq (dSet 2 (dLst (jW (jV 1) qQ)))
 (dSeq (dWhile (zPv) (zP3) fuelX)
 (dRet (dCB tupleS (jW (jV 2) qQ))))
def F_8:DF:=fnD none 2 3 d_8
def zIp:DE:=jV 0
def zOg:DT:=dAnd (dTest (dOp gtS (dCB lenS (jW (jV 0) qQ)) (dC (.int 1)))) (dTest (dOp eqS (dOp ixS (jV 0) (dC (.int 0))) (dCB min1S (jW (jV 0) qQ))))
def zJE:DE:=dCall none F_8 [] (jW (jV 1) (jW (jV 0) qQ))
abbrev st_9:Stmt:=top 7
theorem sc_9:FnScope ["turning","rows"] ["turning"] (defScope st_9):=by walk_at "s"
def d_9:DS:=dSeq (dSet 1 (dComp none [none,some 0] (dRng1 (jW (dCB lenS (jW (jV 0) qQ)) qQ)) (gdName 0) dYes (zJE)))
 (dRet (dComp none [none] (dSeqI (jV 1)) (gdName 0) (zOg) (zIp)))
def F_9:DF:=fnD none 1 2 d_9
def zGg:DE:=dOp getKS (jV 1) (jV 0)
abbrev zHR:Stmt:=top 9
theorem zLw:FnScope ["one","other","led"] ["one","other"] (defScope zHR):=by walk_at "s"
def d_10:DS:=dSeq (dSet 2 (dDZip (jW (dOp ixS (dCall none F_9 [] (jW (jV 0) qQ)) (dC (.int 0))) (jW (dOp ixS (dCall none F_9 [] (jW (jV 1) qQ)) (dC (.int 0))) qQ))))
 (dRet (dCB tupleS (jW (dComp none [none,some 2] (dRng1 (jW (dCB lenS (jW (jV 0) qQ)) qQ)) (gdName 0) dYes (zGg)) qQ)))
def F_10:DF:=fnD none 2 3 d_10
def zDF:DE:=dOp ixS (jV 1) (jV 0)
abbrev zHz:Stmt:=top 26
theorem zMf:FnScope ["one","other"] ["one","other"] (defScope zHz):=by walk_at "s"
def d_11:DS:=dRet (dCB tupleS (jW (dComp none [none,some 1] (dSeqI (jV 0)) (gdName 0) dYes (zDF)) qQ))
def F_11:DF:=fnD none 2 2 d_11
def zDC:DE:=dIndex (jV 1) (jW (jV 0) qQ)
abbrev zHf:Stmt:=top 27
theorem zLz:FnScope ["turning"] ["turning"] (defScope zHf):=by walk_at "s"
def d_12:DS:=dRet (dCB tupleS (jW (dComp none [none,some 0] (dRng1 (jW (dCB lenS (jW (jV 0) qQ)) qQ)) (gdName 0) dYes (zDC)) qQ))
def F_12:DF:=fnD none 1 1 d_12
abbrev zHv:Stmt:=top 29
theorem zMh:FnScope ["a","b"] ["a","b"] (defScope zHv):=by walk_at "s"
def d_13:DS:=dRet (dCall none F_11 [] (jW (dCall none F_11 [] (jW (jV 0) (jW (jV 1) qQ))) (jW (dCall none F_11 [] (jW (dCall none F_12 [] (jW (jV 0) qQ)) (jW (dCall none F_12 [] (jW (jV 1) qQ)) qQ))) qQ)))
def F_13:DF:=fnD none 2 2 d_13
abbrev zIZ:Stmt:=top 28
theorem zLv:FnScope ["turning","by"] ["turning","by"] (defScope zIZ):=by walk_at "s"
def d_14:DS:=dRet (dCall none F_11 [] (jW (dCall none F_11 [] (jW (dCall none F_12 [] (jW (jV 1) qQ)) (jW (jV 0) qQ))) (jW (jV 1) qQ)))
def F_14:DF:=fnD none 2 2 d_14
abbrev zIQ:Stmt:=top 34
theorem zMS:FnScope ["ring","by"] ["ring"] (defScope zIQ):=by walk_at "s"
def d_15:DS:=dSeq (dSet 1 (dCall none F_10 [] (jW (dCall none F_13 [] (jW (dK zB8) (jW (dK zCv) qQ))) (jW (jV 0) qQ))))
 (dRet (dTup (jW (dCall none F_14 [] (jW (dK zB8) (jW (jV 1) qQ))) (jW (dCall none F_14 [] (jW (dK zCv) (jW (jV 1) qQ))) qQ))))
def F_15:DF:=fnD none 1 2 d_15
abbrev zIh:Stmt:=top 37
theorem zMR:FnScope ["piece","saying","ring","pair","there"] ["piece"] (defScope zIh):=by walk_at "s"
def d_16:DS:=dSeq (dSet 1 (dOp ixS (jV 0) (dC (.int 0))))
 (dSeq (dSet 2 (dOp ixS (jV 0) (dC (.int 1))))
 (dSeq (dIf (dTest (dOp eqS (dOp ixS (jV 1) (dC (.int 0))) (dC (.str "not")))) (dRet (dLst (jW (dTup (jW (dOp ixS (jV 1) (dC (.int 1))) (jW (dCall none F_12 [] (jW (jV 2) qQ)) qQ))) qQ))) dNext)
 (dSeq (dIf (dTest (dOp eqS (dOp ixS (jV 1) (dC (.int 0))) (dC (.str "and")))) (dSeq (dSet 3 (dCall none F_15 [] (jW (jV 2) qQ)))
 (dSeq (dSet 4 (dLst (jW (dTup (jW (dOp ixS (jV 1) (dC (.int 1))) (jW (dOp ixS (jV 3) (dC (.int 0))) qQ))) (jW (dTup (jW (dOp ixS (jV 1) (dC (.int 2))) (jW (dOp ixS (jV 3) (dC (.int 1))) qQ))) qQ))))
 (dRet (dOp addS (jV 4) (dLst (jW (dTup (jW (dOp ixS (jV 1) (dC (.int 1))) (jW (dCall none F_12 [] (jW (dOp ixS (jV 3) (dC (.int 0))) qQ)) qQ))) (jW (dTup (jW (dOp ixS (jV 1) (dC (.int 2))) (jW (dCall none F_12 [] (jW (dOp ixS (jV 3) (dC (.int 1))) qQ)) qQ))) qQ))))))) dNext)
 (dRet (dLst qQ)))))
def F_16:DF:=fnD none 1 5 d_16
def zNx:DT:=dTru (jV 3)
def zNA:DS:=dSeq (dSet 4 (dMut 3 hPop qQ))
 (dSeq (dDrop (dMut 2 hAppend (jW (jV 4) qQ)))
 (dDrop (dMut 3 hExtend (jW (dLRev (jW (dCallV 1 [("inner",1,F_7),("pieces_in",1,F_16)] (jW (jV 4) qQ)) qQ)) qQ))))
abbrev zIY:Stmt:=top 11
theorem zL3:FnScope ["whole","inside_of","found","rest","part"] ["whole","inside_of"] (defScope zIY):=by walk_at "s"
def d_17:DS:=dSeq (dSet 2 (dLst qQ))
 (dSeq (dSet 3 (dLst (jW (jV 0) qQ)))
 (dSeq (dWhile (zNx) (zNA) fuelX)
 (dRet (jV 2))))
def F_17:DF:=fnD none 2 5 d_17
abbrev zIe:Stmt:=top 18
theorem zMB:FnScope ["part","inside","word"] ["part","inside"] (defScope zIe):=by walk_at "s"
def d_18:DS:=dSeq (dSet 2 (dOp ixS (jV 0) (dC (.int 0))))
 (dSeq (dIf (dTest (dOp eqS (jV 2) (dC (.str "not")))) (dRet (dOp ixS (jV 1) (dC (.int 0)))) dNext)
 (dSeq (dIf (dTest (dOp (inS false) (jV 2) (dTup (jW (dC (.str "and")) (jW (dC (.str "or")) qQ))))) (dRet (dOp mulS (dC (.int 2)) (dOp addS (dOp ixS (jV 1) (dC (.int 0))) (dOp ixS (jV 1) (dC (.int 1)))))) dNext)
 (dSeq (dIf (dTest (dOp eqS (jV 2) (dC (.str "either")))) (dRet (dOp mulS (dC (.int 8)) (dOp addS (dOp ixS (jV 1) (dC (.int 0))) (dOp ixS (jV 1) (dC (.int 1)))))) dNext)
 (dSeq (dIf (dTest (dOp eqS (jV 2) (dC (.str "most")))) (dRet (dOp addS (dOp mulS (dC (.int 12)) (dOp addS (dOp ixS (jV 1) (dC (.int 0))) (dOp ixS (jV 1) (dC (.int 1))))) (dOp mulS (dC (.int 4)) (dOp ixS (jV 1) (dC (.int 2)))))) dNext)
 (dRet (dC (.int 1)))))))
def F_18:DF:=fnD none 2 3 d_18
abbrev zIf:Stmt:=top 21
theorem zMl:FnScope ["s","t"] ["s","t"] (defScope zIf):=by walk_at "s"
def d_19:DS:=dRet (dTup (jW (dC (.str "not")) (jW (dTup (jW (dC (.str "and")) (jW (dTup (jW (dC (.str "not")) (jW (jV 0) qQ))) (jW (dTup (jW (dC (.str "not")) (jW (jV 1) qQ))) qQ)))) qQ)))
def F_19:DF:=fnD none 2 2 d_19
abbrev zH4:Stmt:=top 22
theorem zMM:FnScope ["part","inside","word","s","t"] ["part","inside"] (defScope zH4):=by walk_at "s"
def d_20:DS:=dSeq (dSet 2 (dOp ixS (jV 0) (dC (.int 0))))
 (dSeq (dIf (dTest (dOp (inS false) (jV 2) (dTup (jW (dC (.str "yes")) (jW (dC (.str "no")) (jW (dC (.str "ask")) qQ)))))) (dRet (jV 0)) dNext)
 (dSeq (dIf (dTest (dOp eqS (jV 2) (dC (.str "or")))) (dRet (dCall none F_19 [] (jW (dOp ixS (jV 1) (dC (.int 0))) (jW (dOp ixS (jV 1) (dC (.int 1))) qQ)))) dNext)
 (dSeq (dIf (dTest (dOp eqS (jV 2) (dC (.str "either")))) (dSeq (dSet 3 (dOp ixS (jV 1) (dC (.int 0))))
 (dSeq (dSet 4 (dOp ixS (jV 1) (dC (.int 1))))
 (dRet (dCall none F_19 [] (jW (dTup (jW (dC (.str "and")) (jW (jV 3) (jW (dTup (jW (dC (.str "not")) (jW (jV 4) qQ))) qQ)))) (jW (dTup (jW (dC (.str "and")) (jW (dTup (jW (dC (.str "not")) (jW (jV 3) qQ))) (jW (jV 4) qQ)))) qQ)))))) dNext)
 (dSeq (dIf (dTest (dOp eqS (jV 2) (dC (.str "most")))) (dSeq (dSet 3 (dOp ixS (jV 1) (dC (.int 0))))
 (dSeq (dSet 4 (dOp ixS (jV 1) (dC (.int 1))))
 (dRet (dCall none F_19 [] (jW (dTup (jW (dC (.str "and")) (jW (jV 3) (jW (jV 4) qQ)))) (jW (dTup (jW (dC (.str "and")) (jW (dOp ixS (jV 1) (dC (.int 2))) (jW (dCall none F_19 [] (jW (jV 3) (jW (jV 4) qQ))) qQ)))) qQ)))))) dNext)
 (dRet (dCB tupleS (jW (dOp addS (dLst (jW (jV 2) qQ)) (jV 1)) qQ)))))))
def F_20:DF:=fnD none 2 5 d_20
abbrev zIB:Stmt:=top 39
theorem zLx:FnScope ["steps","turning","last"] ["steps","turning"] (defScope zIB):=by walk_at "s"
def d_21:DS:=dSeq (dSet 2 (dOp ixS (jV 0) (dUn negS (dC (.int 1)))))
 (dRet (dOp addS (dSl (jV 0) dNoPart (dPart (dUn negS (dC (.int 1))))) (dTup (jW (dTup (jW (dOp ixS (jV 2) (dC (.int 0))) (jW (dCall none F_11 [] (jW (dOp ixS (jV 2) (dC (.int 1))) (jW (jV 1) qQ))) (jW (dCall none F_11 [] (jW (dOp ixS (jV 2) (dC (.int 2))) (jW (jV 1) qQ))) qQ)))) qQ))))
def F_21:DF:=fnD none 2 3 d_21
abbrev zIR:Stmt:=top 25
theorem zMH:FnScope ["cups"] ["cups"] (defScope zIR):=by walk_at "s"
def d_22:DS:=dRet (dTupRng (jW (jV 0) qQ))
def F_22:DF:=fnD none 1 1 d_22
abbrev zH1:Stmt:=top 38
theorem zMC:FnScope ["saying","ring","turning"] ["saying","ring"] (defScope zH1):=by walk_at "s"
def d_23:DS:=dSeq (dIf (dTest (dOp eqS (dOp ixS (jV 0) (dC (.int 0))) (dC (.str "ask")))) (dRet (dTup (jW (dOp ixS (jV 0) (dC (.int 1))) (jW (jV 1) (jW (dCall none F_22 [] (jW (dC (.int 5)) qQ)) qQ))))) dNext)
 (dSeq (dSet 2 (dIfE (dTest (dOp eqS (dOp ixS (jV 0) (dC (.int 0))) (dC (.str "yes")))) (jV 1) (dCall none F_22 [] (jW (dC (.int 5)) qQ))))
 (dRet (dTup (jW (dC (.int 0)) (jW (jV 2) (jW (jV 2) qQ))))))
def F_23:DF:=fnD none 2 3 d_23
abbrev zHF:Stmt:=top 40
theorem zL6:FnScope ["piece","inside","word"] ["piece","inside"] (defScope zHF):=by walk_at "s"
def d_24:DS:=dSeq (dSet 2 (dOp ixS (dOp ixS (jV 0) (dC (.int 0))) (dC (.int 0))))
 (dSeq (dIf (dTest (dOp eqS (jV 2) (dC (.str "not")))) (dRet (dCall none F_21 [] (jW (dOp ixS (jV 1) (dC (.int 0))) (jW (dOp ixS (jV 0) (dC (.int 1))) qQ)))) dNext)
 (dSeq (dIf (dTest (dOp eqS (jV 2) (dC (.str "and")))) (dRet (dOp addS (dOp addS (dOp addS (dOp ixS (jV 1) (dC (.int 0))) (dOp ixS (jV 1) (dC (.int 1)))) (dOp ixS (jV 1) (dC (.int 2)))) (dOp ixS (jV 1) (dC (.int 3))))) dNext)
 (dRet (dTup (jW (dCall none F_23 [] (jW (dOp ixS (jV 0) (dC (.int 0))) (jW (dOp ixS (jV 0) (dC (.int 1))) qQ))) qQ)))))
def F_24:DF:=fnD none 2 3 d_24
def zD2:DE:=dOp ixS (jV 0) (dC (.int 0))
abbrev zHk:Stmt:=top 59
theorem zIP:FnScope ["piece","inside","pair","i","j","k","papers"] ["piece","inside"] (defScope zHk):=by walk_at "s"
def d_25:DS:=dSeq (dIf (dTest (dOp eqS (dOp ixS (dOp ixS (jV 0) (dC (.int 0))) (dC (.int 0))) (dC (.str "not")))) (dRet (dTup (jW (dTup (jW (dC (.str "not")) (jW (dOp ixS (dOp ixS (jV 1) (dC (.int 0))) (dC (.int 0))) qQ))) (jW (dOp ixS (dOp ixS (jV 1) (dC (.int 0))) (dC (.int 1))) qQ)))) dNext)
 (dSeq (dIf (dTest (dOp eqS (dOp ixS (dOp ixS (jV 0) (dC (.int 0))) (dC (.int 0))) (dC (.str "and")))) (dSeq (dSet 2 (dCall none F_15 [] (jW (dOp ixS (jV 0) (dC (.int 1))) qQ)))
 (dSeq (dSet 3 (dOp ixS (dOp ixS (jV 1) (dC (.int 0))) (dC (.int 1))))
 (dSeq (dSet 4 (dOp addS (jV 3) (dOp ixS (dOp ixS (jV 1) (dC (.int 1))) (dC (.int 1)))))
 (dSeq (dSet 5 (dOp addS (jV 4) (dOp ixS (dOp ixS (jV 1) (dC (.int 2))) (dC (.int 1)))))
 (dSeq (dSet 6 (dCB tupleS (jW (dComp none [none] (dSeqI (jV 1)) (gdName 0) dYes (zD2)) qQ)))
 (dRet (dTup (jW (dOp addS (dTup (jW (dC (.str "and")) (jW (jV 3) (jW (jV 4) (jW (jV 5) (jW (dOp ixS (jV 2) (dC (.int 0))) (jW (dOp ixS (jV 2) (dC (.int 1))) qQ))))))) (jV 6)) (jW (dOp addS (jV 5) (dOp ixS (dOp ixS (jV 1) (dC (.int 3))) (dC (.int 1)))) qQ))))))))) dNext)
 (dRet (dTup (jW (dTup (jW (dC (.str "step")) qQ)) (jW (dC (.int 1)) qQ)))))
def F_25:DF:=fnD none 2 7 d_25
abbrev zHE:Stmt:=top 16
theorem zMQ:FnScope ["answers","part","inside","word"] ["answers","part","inside"] (defScope zHE):=by walk_at "s"
def d_26:DS:=dSeq (dSet 3 (dOp ixS (jV 1) (dC (.int 0))))
 (dSeq (dIf (dTest (dOp eqS (jV 3) (dC (.str "ask")))) (dRet (dOp eqS (dOp ixS (jV 0) (dOp ixS (jV 1) (dC (.int 1)))) (dC (.int 1)))) dNext)
 (dSeq (dIf (dTest (dOp eqS (jV 3) (dC (.str "not")))) (dRet (dNotV (dOp ixS (jV 2) (dC (.int 0))))) dNext)
 (dSeq (dIf (dTest (dOp eqS (jV 3) (dC (.str "and")))) (dRet (dAndV (dOp ixS (jV 2) (dC (.int 0))) (dOp ixS (jV 2) (dC (.int 1))))) dNext)
 (dSeq (dIf (dTest (dOp eqS (jV 3) (dC (.str "or")))) (dRet (dOrV (dOp ixS (jV 2) (dC (.int 0))) (dOp ixS (jV 2) (dC (.int 1))))) dNext)
 (dSeq (dIf (dTest (dOp eqS (jV 3) (dC (.str "either")))) (dRet (dOp neS (dOp ixS (jV 2) (dC (.int 0))) (dOp ixS (jV 2) (dC (.int 1))))) dNext)
 (dSeq (dIf (dTest (dOp eqS (jV 3) (dC (.str "most")))) (dRet (dOp geS (dLFind gCount (jV 2) (jW (dC (.bl true)) qQ)) (dC (.int 2)))) dNext)
 (dRet (dOp eqS (jV 3) (dC (.str "yes"))))))))))
def F_26:DF:=fnD none 3 4 d_26
abbrev zBR:Stmt:=top 17
def lamE (s:Stmt):Expr:=match defBody s with
 | [.Return (some (.Call _ [_,l] _ _)) _]=>l
 | _=>.Name "" ⟨0,0,0,0⟩
def L_so:Lam:=match lamE zBR with
 | .Lambda ps b sc _=>⟨ps,b,sc,"is_so.<locals>.<lambda>","answers"⟩
 | e=>⟨defArgs zBR,e,defScope zBR,"",""⟩
theorem zPz:LamScope L_so "part" "inside":=⟨rfl,rfl,rfl,by decide +kernel,rfl,rfl,rfl,fun y h=>(show ∀ q∈L_so.scope.names,q.2=BO->q.1=L_so.x by decide +kernel) (y,.free) (BG h) rfl,by decide,fun _ _ _ _ _ _=>rfl⟩
def zBQ:DE:=dCall none F_26 [] (jW (jV 2) (jW (jV 0) (jW (jV 1) qQ)))
def zGk:DE:=dMut 1 hPop qQ
def zM6:DS:=dSeq (dSet 5 (dComp (some (1,3)) [none,some 3] (dSeqI (dCallV 1 [("inner",1,F_7),("pieces_in",1,F_16)] (jW (jV 4) qQ))) (gdName 0) dYes (zGk)))
 (dDrop (dMut 3 hAppend (jW (dCallM 2 [("weight_of",2,F_18),("spelled_of",2,F_20),("steps_of",2,F_24),("paper_of",2,F_25)] L_so zBQ (jW (jV 4) (jW (jV 5) qQ))) qQ)))
abbrev zHg:Stmt:=top 12
theorem zIJ:FnScope ["whole","inside_of","put","told","part","inside"] ["whole","inside_of","put"] (defScope zHg):=by walk_at "s"
def d_28:DS:=dSeq (dSet 3 (dLst qQ))
 (dSeq (dFor none (dRevL (jW (dCall none F_17 [] (jW (jV 0) (jW (jV 1) qQ))) qQ)) (gdName 4) (zM6))
 (dRet (dOp ixS (jV 3) (dC (.int 0)))))
def F_28:DF:=fnD none 3 6 d_28
abbrev zIA:Stmt:=top 15
theorem zMj:FnScope ["saying","put"] ["saying","put"] (defScope zIA):=by walk_at "s"
def d_29:DS:=dRet (dCall none F_28 [] (jW (jV 0) (jW (dFn "inner") (jW (jV 1) qQ))))
def F_29:DF:=fnD none 2 2 d_29
abbrev zHG:Stmt:=top 23
theorem zMA:FnScope ["saying"] ["saying"] (defScope zHG):=by walk_at "s"
def d_30:DS:=dRet (dCall none F_29 [] (jW (jV 0) (jW (dFn "spelled_of") qQ)))
def F_30:DF:=fnD none 1 1 d_30
abbrev zHt:Stmt:=top 74
theorem zMN:FnScope ["_law_box_here","_law_questions","_law_s","_law_t","_law_one","_law_some"] ["_law_box_here","_law_questions"] (defScope zHt):=by walk_at "s"
def d_31:DS:=dSeq (dPar2 2 3 (jW (dCall (some 0) F_6 [] (jW (jV 0) (jW (jV 1) qQ))) (jW (dCall (some 0) F_6 [] (jW (jV 0) (jW (jV 1) qQ))) qQ)))
 (dSeq (dSet 4 (dTup (jW (dC (.str "either")) (jW (jV 2) (jW (jV 3) qQ)))))
 (dSeq (dSet 5 (dLst (jW (jV 4) (jW (dTup (jW (dC (.str "and")) (jW (dTup (jW (dC (.str "or")) (jW (jV 2) (jW (jV 3) qQ)))) (jW (dTup (jW (dC (.str "not")) (jW (dTup (jW (dC (.str "and")) (jW (jV 2) (jW (jV 3) qQ)))) qQ))) qQ)))) (jW (dTup (jW (dC (.str "not")) (jW (dTup (jW (dC (.str "not")) (jW (jV 4) qQ))) qQ))) (jW (dCall none F_30 [] (jW (jV 4) qQ)) qQ))))))
 (dRet (dOp addS (jV 5) (dLst (jW (dTup (jW (dC (.str "or")) (jW (dTup (jW (dC (.str "and")) (jW (jV 2) (jW (dTup (jW (dC (.str "not")) (jW (jV 3) qQ))) qQ)))) (jW (dTup (jW (dC (.str "and")) (jW (dTup (jW (dC (.str "not")) (jW (jV 2) qQ))) (jW (jV 3) qQ)))) qQ)))) qQ))))))
def F_31:DF:=fnD (some 0) 2 6 d_31
def zC8:DS:=dDrop (dMut 3 hExtend (jW (dLst (jW (dOp addS (jV 4) (dTup (jW (dC (.int 0)) qQ))) (jW (dOp addS (jV 4) (dTup (jW (dC (.int 1)) qQ))) qQ))) qQ))
def zB3:DS:=dSeq (dSet 3 (dLst qQ))
 (dSeq (dFor none (dSeqI (jV 1)) (gdName 4) (zC8))
 (dMv 1 3))
abbrev zIL:Stmt:=top 72
theorem zMJ:FnScope ["_law_questions","_law_found","_law_k","_law_longer","_law_answers_here"] ["_law_questions"] (defScope zIL):=by walk_at "s"
def d_32:DS:=dSeq (dSet 1 (dLst (jW (dTup qQ) qQ)))
 (dSeq (dFor none (dRng1 (jW (jV 0) qQ)) (gdName 2) (zB3))
 (dRet (jV 1)))
def F_32:DF:=fnD none 1 5 d_32
def zB2:DE:=dCall (some 0) F_5 [] (jW (jV 1) (jW (dC (.int 2)) qQ))
abbrev zIg:Stmt:=top 71
theorem zL0:FnScope ["_law_box_here","_law_questions"] ["_law_box_here","_law_questions"] (defScope zIg):=by walk_at "s"
def d_33:DS:=dRet (dCB tupleS (jW (dComp (some (1,0)) [none,some 0] (dRng1 (jW (jV 1) qQ)) (gdName 0) dYes (zB2)) qQ))
def F_33:DF:=fnD (some 0) 2 2 d_33
def zCA:DE:=dCall (some 0) F_33 [] (jW (jV 1) (jW (jV 2) qQ))
abbrev zHH:Stmt:=top 75
theorem zMd:FnScope ["_law_box_here","_law_questions"] ["_law_box_here","_law_questions"] (defScope zHH):=by walk_at "s"
def d_34:DS:=dSeq (dIf (dTest (dOp ltS (jV 1) (dC (.int 4)))) (dRet (dCall none F_32 [] (jW (jV 1) qQ))) dNext)
 (dRet (dComp (some (1,0)) [none,some 0,some 1] (dRng1 (jW (dC (.int 8)) qQ)) (gdName 0) dYes (zCA)))
def F_34:DF:=fnD (some 0) 2 2 d_34
abbrev zIi:Stmt:=top 30
theorem zMD:FnScope ["cups","thing"] ["cups","thing"] (defScope zIi):=by walk_at "s"
def d_35:DS:=dRet (dOp eqS (dCB sortedS (jW (jV 1) qQ)) (dListRng (jW (jV 0) qQ)))
def F_35:DF:=fnD none 2 2 d_35
def zGf:DE:=dCB lenS (jW (jV 0) qQ)
abbrev zHW:Stmt:=top 8
theorem zMY:FnScope ["turning"] ["turning"] (defScope zHW):=by walk_at "s"
def d_36:DS:=dRet (dOp eqS (dComp none [none] (dSeqI (dCall none F_9 [] (jW (jV 0) qQ))) (gdName 0) dYes (zGf)) (dLst (jW (dCB lenS (jW (jV 0) qQ)) qQ)))
def F_36:DF:=fnD none 1 1 d_36
abbrev zHa:Stmt:=top 35
theorem zLy:FnScope ["thing"] ["thing"] (defScope zHa):=by walk_at "s"
def d_37:DS:=dRet (dAndV (dCall none F_35 [] (jW (dC (.int 5)) (jW (jV 0) qQ))) (dCall none F_36 [] (jW (jV 0) qQ)))
def F_37:DF:=fnD none 1 1 d_37
abbrev zHD:Stmt:=top 19
theorem zMK:FnScope ["saying"] ["saying"] (defScope zHD):=by walk_at "s"
def d_38:DS:=dRet (dCall none F_29 [] (jW (jV 0) (jW (dFn "weight_of") qQ)))
def F_38:DF:=fnD none 1 1 d_38
abbrev zHL:Stmt:=top 36
theorem zMP:FnScope ["saying","ring","most"] ["saying","ring","most"] (defScope zHL):=by walk_at "s"
def d_39:DS:=dSeq (dIf (dNot (dTru (dCall none F_37 [] (jW (jV 1) qQ)))) (dNever) dNext)
 (dIf (dTest (dOp gtS (dCall none F_38 [] (jW (jV 0) qQ)) (jV 2))) (dNever) dNext)
def F_39:DF:=fnD none 3 3 d_39
abbrev zC9:Stmt:=top 41
theorem zMc:FnScope ["saying","questions","ring","most"] ["saying","questions","ring","most"] (defScope zC9):=by walk_at "s"
def d_40:DS:=dSeq (dDrop (dCall none F_39 [] (jW (jV 0) (jW (jV 2) (jW (jV 3) qQ)))))
 (dRet (dTup (jW (dC (.int 5)) (jW (jV 1) (jW (dCall none F_28 [] (jW (dTup (jW (dCall none F_30 [] (jW (jV 0) qQ)) (jW (jV 2) qQ))) (jW (dFn "pieces_in") (jW (dFn "steps_of") qQ)))) qQ)))))
def F_40:DF:=fnD none 4 4 d_40
def zD8:DS:=dSetIx 4 (dOp ixS (jV 3) (dOp modS (dOp addS (jV 5) (dC (.int 1))) (jV 1))) (jV 6)
def zB5:DT:=dTest (dOp gtS (dCB lenS (jW (jV 2) qQ)) (dC (.int 0)))
def zDE:DS:=dDrop (dMut 3 hAppend (jW (dMut 2 hPopAt (jW (dCall (some 0) F_5 [] (jW (jV 0) (jW (dCB lenS (jW (jV 2) qQ)) qQ))) qQ)) qQ))
abbrev zH5:Stmt:=top 65
theorem zMI:FnScope ["_law_box_here","_law_cups","_law_left","_law_row","_law_found","_law_k","_law_place"] ["_law_box_here","_law_cups"] (defScope zH5):=by walk_at "s"
def d_41:DS:=dSeq (dSet 2 (dListRng (jW (dC (.int 1)) (jW (jV 1) qQ))))
 (dSeq (dSet 3 (dLst (jW (dC (.int 0)) qQ)))
 (dSeq (dWhile (zB5) (zDE) fuelX)
 (dSeq (dSet 4 (dOp mulS (dLst (jW (dC (.int 0)) qQ)) (jV 1)))
 (dSeq (dFor (some 0) (dEnum (jW (jV 3) qQ)) (gdTup 2 (gdCons (gdName 5) (gdCons (gdName 6) gdNil))) (zD8))
 (dRet (dCB tupleS (jW (jV 4) qQ)))))))
def F_41:DF:=fnD (some 0) 2 7 d_41
def zC1:DE:=dTup (jW (dOp ixS (jV 0) (dC (.int 0))) (jW (dCall none F_14 [] (jW (dOp ixS (jV 0) (dC (.int 1))) (jW (jV 1) qQ))) (jW (dCall none F_14 [] (jW (dOp ixS (jV 0) (dC (.int 2))) (jW (jV 1) qQ))) qQ)))
abbrev zIC:Stmt:=top 44
theorem zIV:FnScope ["dance","by","steps"] ["dance","by"] (defScope zIC):=by walk_at "s"
def d_42:DS:=dSeq (dIf (dTest (dOp neS (dCB lenS (jW (jV 1) qQ)) (dOp ixS (jV 0) (dC (.int 0))))) (dNever) dNext)
 (dSeq (dSet 2 (dComp none [none,some 1] (dSeqI (dOp ixS (jV 0) (dC (.int 2)))) (gdName 0) dYes (zC1)))
 (dRet (dTup (jW (dOp ixS (jV 0) (dC (.int 0))) (jW (dOp ixS (jV 0) (dC (.int 1))) (jW (dCB tupleS (jW (jV 2) qQ)) qQ))))))
def F_42:DF:=fnD none 2 3 d_42
def zC2:DE:=dTup (jW (dOp ixS (jV 0) (dC (.int 0))) (jW (dCall none F_12 [] (jW (dOp ixS (jV 0) (dC (.int 1))) qQ)) (jW (dCall none F_12 [] (jW (dOp ixS (jV 0) (dC (.int 2))) qQ)) qQ)))
abbrev zHK:Stmt:=top 43
theorem zIX:FnScope ["dance","steps"] ["dance"] (defScope zHK):=by walk_at "s"
def d_43:DS:=dSeq (dSet 1 (dComp none [none] (dRev (jW (dOp ixS (jV 0) (dC (.int 2))) qQ)) (gdName 0) dYes (zC2)))
 (dRet (dTup (jW (dOp ixS (jV 0) (dC (.int 0))) (jW (dOp ixS (jV 0) (dC (.int 1))) (jW (dCB tupleS (jW (jV 1) qQ)) qQ)))))
def F_43:DF:=fnD none 1 2 d_43
abbrev zHr:Stmt:=top 46
theorem zMX:FnScope ["step","answers"] ["step","answers"] (defScope zHr):=by walk_at "s"
def d_44:DS:=dRet (dIfE (dTest (dOp eqS (dOp ixS (jV 1) (dOp ixS (jV 0) (dC (.int 0)))) (dC (.int 1)))) (dOp ixS (jV 0) (dC (.int 1))) (dOp ixS (jV 0) (dC (.int 2))))
def F_44:DF:=fnD none 2 2 d_44
def zC5:DS:=dSeq (dSet 3 (dCall none F_11 [] (jW (jV 3) (jW (dCall none F_44 [] (jW (jV 4) (jW (jV 1) qQ))) qQ))))
 (dDrop (dMut 2 hAppend (jW (jV 3) qQ)))
abbrev zIO:Stmt:=top 47
theorem zMi:FnScope ["dance","answers","told","turning","step"] ["dance","answers"] (defScope zIO):=by walk_at "s"
def d_45:DS:=dSeq (dSet 2 (dLst qQ))
 (dSeq (dSet 3 (dCall none F_22 [] (jW (dOp ixS (jV 0) (dC (.int 0))) qQ)))
 (dSeq (dFor none (dSeqI (dOp ixS (jV 0) (dC (.int 2)))) (gdName 4) (zC5))
 (dRet (jV 2))))
def F_45:DF:=fnD none 2 5 d_45
abbrev zIH:Stmt:=top 48
theorem zMa:FnScope ["dance","answers"] ["dance","answers"] (defScope zIH):=by walk_at "s"
def d_46:DS:=dRet (dOp ixS (dOp addS (dLst (jW (dCall none F_22 [] (jW (dOp ixS (jV 0) (dC (.int 0))) qQ)) qQ)) (dCall none F_45 [] (jW (jV 0) (jW (jV 1) qQ)))) (dUn negS (dC (.int 1))))
def F_46:DF:=fnD none 2 2 d_46
def zCx:DE:=dIndex (jV 1) (jW (jV 0) qQ)
abbrev zIG:Stmt:=top 67
theorem zME:FnScope ["_law_turning"] ["_law_turning"] (defScope zIG):=by walk_at "s"
def d_47:DS:=dRet (dCB tupleS (jW (dComp none [none,some 0] (dRng1 (jW (dCB lenS (jW (jV 0) qQ)) qQ)) (gdName 0) dYes (zCx)) qQ))
def F_47:DF:=fnD none 1 1 d_47
def zDB:DS:=dSeq (dIf (dTest (dOp neS (dCall none F_46 [] (jW (jV 5) (jW (jV 7) qQ))) (dCall none F_46 [] (jW (jV 1) (jW (jV 7) qQ))))) (dRet (dC (.bl false))) dNext)
 (dIf (dTest (dOp neS (dCall none F_46 [] (jW (jV 6) (jW (jV 7) qQ))) (dCall none F_47 [] (jW (dCall none F_46 [] (jW (jV 0) (jW (jV 7) qQ))) qQ)))) (dRet (dC (.bl false))) dNext)
abbrev zHs:Stmt:=top 77
theorem zMk:FnScope ["_law_dance","_law_other","_law_ring_here","_law_there","_law_rows_here","_law_about_ring","_law_again","_law_answers_here"] ["_law_dance","_law_other","_law_ring_here","_law_there","_law_rows_here"] (defScope zHs):=by walk_at "s"
def d_48:DS:=dSeq (dSet 5 (dCall none F_42 [] (jW (jV 0) (jW (dCall none F_10 [] (jW (jV 2) (jW (jV 3) qQ))) qQ))))
 (dSeq (dSet 6 (dCall none F_43 [] (jW (jV 0) qQ)))
 (dSeq (dFor none (dSeqI (jV 4)) (gdName 7) (zDB))
 (dRet (dC (.bl true)))))
def F_48:DF:=fnD none 5 8 d_48
abbrev zC4:Stmt:=top 60
theorem zMW:FnScope ["saying","questions","ring","most","dance","paper"] ["saying","questions","ring","most"] (defScope zC4):=by walk_at "s"
def d_49:DS:=dSeq (dSet 4 (dCall none F_40 [] (jW (jV 0) (jW (jV 1) (jW (jV 2) (jW (jV 3) qQ))))))
 (dSeq (dSet 5 (dOp ixS (dCall none F_28 [] (jW (dTup (jW (dCall none F_30 [] (jW (jV 0) qQ)) (jW (jV 2) qQ))) (jW (dFn "pieces_in") (jW (dFn "paper_of") qQ)))) (dC (.int 0))))
 (dRet (dTup (jW (jV 4) (jW (jV 5) qQ)))))
def F_49:DF:=fnD none 4 6 d_49
abbrev zH0:Stmt:=top 51
theorem zL4:FnScope ["paper","word","many"] ["paper","word","many"] (defScope zH0):=by walk_at "s"
def d_50:DS:=dRet (dAndV (dCB isiS (jW (jV 0) (jW (dC (.ty "tuple")) qQ))) (dAndV (dOp eqS (dCB lenS (jW (jV 0) qQ)) (jV 2)) (dOp eqS (dOp ixS (jV 0) (dC (.int 0))) (jV 1))))
def F_50:DF:=fnD none 3 3 d_50
abbrev zHY:Stmt:=top 55
theorem zMU:FnScope ["saying","ring","row","paper"] ["saying","ring","row","paper"] (defScope zHY):=by walk_at "s"
def d_51:DS:=dSeq (dIf (dOr (dTest (dOp neS (dOp ixS (jV 0) (dC (.int 0))) (dC (.str "not")))) (dTest (dOp eqS (dCB lenS (jW (jV 2) qQ)) (dC (.int 0))))) (dRet (dC .non)) dNext)
 (dRet (dLst (jW (dTup (jW (dOp ixS (jV 0) (dC (.int 1))) (jW (dCall none F_12 [] (jW (jV 1) qQ)) (jW (dCall none F_21 [] (jW (jV 2) (jW (dCall none F_12 [] (jW (jV 1) qQ)) qQ))) (jW (dOp ixS (jV 3) (dC (.int 1))) qQ))))) qQ)))
def F_51:DF:=fnD none 4 4 d_51
abbrev zIa:Stmt:=top 50
theorem zL8:FnScope ["thing"] ["thing"] (defScope zIa):=by walk_at "s"
def d_52:DS:=dRet (dAndV (dCB isiS (jW (jV 0) (jW (dC (.ty "int")) qQ))) (dNotV (dCB isiS (jW (jV 0) (jW (dC (.ty "bool")) qQ)))))
def F_52:DF:=fnD none 1 1 d_52
def zEH:DE:=dCall none F_52 [] (jW (jV 0) qQ)
abbrev zHT:Stmt:=top 52
theorem zMO:FnScope ["cuts","many"] ["cuts","many"] (defScope zHT):=by walk_at "s"
def d_53:DS:=dRet (dAndV (dCB allS (jW (dComp none [none] (dSeqI (jV 0)) (gdName 0) dYes (zEH)) qQ)) (dChainN (dC (.int 0)) (dLink ltS (dOp ixS (jV 0) (dC (.int 0))) (dLink ltS (dOp ixS (jV 0) (dC (.int 1))) (dLink ltS (dOp ixS (jV 0) (dC (.int 2))) (dLast ltS (jV 1)))))))
def F_53:DF:=fnD none 2 2 d_53
def zGX:DE:=dCall none F_52 [] (jW (jV 0) qQ)
abbrev zIE:Stmt:=top 53
theorem zMZ:FnScope ["thing"] ["thing"] (defScope zIE):=by walk_at "s"
def d_54:DS:=dRet (dAndV (dCB isiS (jW (jV 0) (jW (dC (.ty "tuple")) qQ))) (dAndV (dCB allS (jW (dComp none [none] (dSeqI (jV 0)) (gdName 0) dYes (zGX)) qQ)) (dCall none F_37 [] (jW (jV 0) qQ))))
def F_54:DF:=fnD none 1 1 d_54
abbrev zHU:Stmt:=top 56
theorem zMV:FnScope ["saying","ring","row","paper","a","b","i","j","k","there"] ["saying","ring","row","paper"] (defScope zHU):=by walk_at "s"
def d_55:DS:=dSeq (dSet 4 (dOp ixS (jV 3) (dC (.int 4))))
 (dSeq (dSet 5 (dOp ixS (jV 3) (dC (.int 5))))
 (dSeq (dIf (dOr (dTest (dOp neS (dOp ixS (jV 0) (dC (.int 0))) (dC (.str "and")))) (dNot (dTru (dCall none F_53 [] (jW (dSl (jV 3) (dPart (dC (.int 1))) (dPart (dC (.int 4)))) (jW (dCB lenS (jW (jV 2) qQ)) qQ)))))) (dRet (dC .non)) dNext)
 (dSeq (dIf (dOr (dNot (dTru (dCall none F_54 [] (jW (jV 4) qQ)))) (dOr (dNot (dTru (dCall none F_54 [] (jW (jV 5) qQ)))) (dTest (dOp neS (dCall none F_13 [] (jW (jV 4) (jW (jV 5) qQ))) (jV 1))))) (dRet (dC .non)) dNext)
 (dSeq (dSet 6 (dOp ixS (jV 3) (dC (.int 1))))
 (dSeq (dSet 7 (dOp ixS (jV 3) (dC (.int 2))))
 (dSeq (dSet 8 (dOp ixS (jV 3) (dC (.int 3))))
 (dSeq (dSet 9 (dLst (jW (dTup (jW (dOp ixS (jV 0) (dC (.int 1))) (jW (jV 4) (jW (dSl (jV 2) dNoPart (dPart (jV 6))) (jW (dOp ixS (jV 3) (dC (.int 6))) qQ))))) (jW (dTup (jW (dOp ixS (jV 0) (dC (.int 2))) (jW (jV 5) (jW (dSl (jV 2) (dPart (jV 6)) (dPart (jV 7))) (jW (dOp ixS (jV 3) (dC (.int 7))) qQ))))) qQ))))
 (dRet (dOp addS (jV 9) (dLst (jW (dTup (jW (dOp ixS (jV 0) (dC (.int 1))) (jW (dCall none F_12 [] (jW (jV 4) qQ)) (jW (dSl (jV 2) (dPart (jV 7)) (dPart (jV 8))) (jW (dOp ixS (jV 3) (dC (.int 8))) qQ))))) (jW (dTup (jW (dOp ixS (jV 0) (dC (.int 2))) (jW (dCall none F_12 [] (jW (jV 5) qQ)) (jW (dSl (jV 2) (dPart (jV 8)) dNoPart) (jW (dOp ixS (jV 3) (dC (.int 9))) qQ))))) qQ))))))))))))
def F_55:DF:=fnD none 4 10 d_55
abbrev zH7:Stmt:=top 54
theorem zMb:FnScope ["saying","ring","row"] ["saying","ring","row"] (defScope zH7):=by walk_at "s"
def d_56:DS:=dSeq (dIf (dTest (dOp neS (dCB lenS (jW (jV 2) qQ)) (dC (.int 1)))) (dRet (dC (.bl false))) dNext)
 (dSeq (dIf (dTest (dOp eqS (dOp ixS (jV 0) (dC (.int 0))) (dC (.str "ask")))) (dRet (dOp eqS (dOp ixS (jV 2) (dC (.int 0))) (dTup (jW (dOp ixS (jV 0) (dC (.int 1))) (jW (jV 1) (jW (dCall none F_22 [] (jW (dC (.int 5)) qQ)) qQ)))))) dNext)
 (dSeq (dIf (dTest (dOp eqS (dOp ixS (jV 0) (dC (.int 0))) (dC (.str "yes")))) (dRet (dOp eqS (dSl (dOp ixS (jV 2) (dC (.int 0))) (dPart (dC (.int 1))) dNoPart) (dTup (jW (jV 1) (jW (jV 1) qQ))))) dNext)
 (dRet (dAndV (dOp eqS (dOp ixS (jV 0) (dC (.int 0))) (dC (.str "no"))) (dOp eqS (dSl (dOp ixS (jV 2) (dC (.int 0))) (dPart (dC (.int 1))) dNoPart) (dTup (jW (dCall none F_22 [] (jW (dC (.int 5)) qQ)) (jW (dCall none F_22 [] (jW (dC (.int 5)) qQ)) qQ))))))))
def F_56:DF:=fnD none 3 3 d_56
abbrev zHx:Stmt:=top 57
theorem zL9:FnScope ["saying","ring","row","paper"] ["saying","ring","row","paper"] (defScope zHx):=by walk_at "s"
def d_57:DS:=dSeq (dIf (dTru (dCall none F_50 [] (jW (jV 3) (jW (dC (.str "step")) (jW (dC (.int 1)) qQ))))) (dRet (dIfE (dTru (dCall none F_56 [] (jW (jV 0) (jW (jV 1) (jW (jV 2) qQ))))) (dLst qQ) (dC .non))) dNext)
 (dSeq (dIf (dTru (dCall none F_50 [] (jW (jV 3) (jW (dC (.str "not")) (jW (dC (.int 2)) qQ))))) (dRet (dCall none F_51 [] (jW (jV 0) (jW (jV 1) (jW (jV 2) (jW (jV 3) qQ)))))) dNext)
 (dSeq (dIf (dTru (dCall none F_50 [] (jW (jV 3) (jW (dC (.str "and")) (jW (dC (.int 10)) qQ))))) (dRet (dCall none F_55 [] (jW (jV 0) (jW (jV 1) (jW (jV 2) (jW (jV 3) qQ)))))) dNext)
 (dRet (dC .non))))
def F_57:DF:=fnD none 4 4 d_57
def zBH:DT:=dTru (jV 4)
def zAl:DS:=dSeq (dSet 5 (dMut 4 hPop qQ))
 (dSeq (dSet 6 (dCall none F_57 [] (jW (dOp ixS (jV 5) (dC (.int 0))) (jW (dOp ixS (jV 5) (dC (.int 1))) (jW (dOp ixS (jV 5) (dC (.int 2))) (jW (dOp ixS (jV 5) (dC (.int 3))) qQ))))))
 (dSeq (dIf (dTest (dOp (isNoneS false) (jV 6) (dC .non))) (dRet (dC (.bl false))) dNext)
 (dDrop (dMut 4 hExtend (jW (jV 6) qQ)))))
abbrev zIb:Stmt:=top 58
theorem zL2:FnScope ["saying","ring","dance","paper","rest","claim","inside"] ["saying","ring","dance","paper"] (defScope zIb):=by walk_at "s"
def d_58:DS:=dSeq (dSet 4 (dLst (jW (dTup (jW (dCall none F_30 [] (jW (jV 0) qQ)) (jW (jV 1) (jW (dOp ixS (jV 2) (dC (.int 2))) (jW (jV 3) qQ))))) qQ)))
 (dSeq (dWhile (zBH) (zAl) fuelX)
 (dRet (dC (.bl true))))
def F_58:DF:=fnD none 4 7 d_58
abbrev zHw:Stmt:=top 78
theorem zMT:FnScope ["_law_saying_here","_law_questions","_law_ring_here","_law_there","_law_dance","_law_paper"] ["_law_saying_here","_law_questions","_law_ring_here","_law_there"] (defScope zHw):=by walk_at "s"
def d_59:DS:=dSeq (dUnp (gdTup 2 (gdCons (gdName 4) (gdCons (gdName 5) gdNil))) (dCall none F_49 [.int 128] (jW (jV 0) (jW (jV 1) (jW (jV 2) qQ)))))
 (dSeq (dIf (dTest (dOp (isBS true) (dCall none F_58 [] (jW (jV 0) (jW (jV 2) (jW (jV 4) (jW (jV 5) qQ))))) (dC (.bl true)))) (dRet (dC (.bl false))) dNext)
 (dSeq (dIf (dTest (dOp (isBS true) (dCall none F_58 [] (jW (dCall none F_30 [] (jW (jV 0) qQ)) (jW (jV 2) (jW (jV 4) (jW (jV 5) qQ))))) (dC (.bl true)))) (dRet (dC (.bl false))) dNext)
 (dRet (dOrV (dOp eqS (jV 2) (jV 3)) (dOp (isBS false) (dCall none F_58 [] (jW (jV 0) (jW (jV 3) (jW (jV 4) (jW (jV 5) qQ))))) (dC (.bl false)))))))
def F_59:DF:=fnD none 4 6 d_59
def zDb (rec:DF):DE:=dCall none rec [] (jW (jV 0) (jW (jV 1) qQ))
abbrev st_2:Stmt:=top 70
theorem sc_2:FnScope ["_law_saying_here","_law_answers_here","_law_head","_law_some","_law_many"] ["_law_saying_here","_law_answers_here"] (defScope st_2):=by walk_at "s"
def d_2 (rec:DF):DS:=dSeq (dSet 2 (dOp ixS (jV 0) (dC (.int 0))))
 (dSeq (dIf (dTest (dOp eqS (jV 2) (dC (.str "ask")))) (dRet (dOp eqS (dOp ixS (jV 1) (dOp ixS (jV 0) (dC (.int 1)))) (dC (.int 1)))) dNext)
 (dSeq (dSet 3 (dComp none [none,some 1] (dSeqI (dSl (jV 0) (dPart (dC (.int 1))) dNoPart)) (gdName 0) dYes ((zDb rec))))
 (dSeq (dIf (dTest (dOp eqS (jV 2) (dC (.str "not")))) (dRet (dNotV (dOp ixS (jV 3) (dC (.int 0))))) dNext)
 (dSeq (dSet 4 (dLFind gCount (jV 3) (jW (dC (.bl true)) qQ)))
 (dRet (dOp getKS (dDispK [.inr "yes",.inr "no",.inr "and",.inr "or",.inr "either",.inr "most"] (jW (dC (.bl true)) (jW (dC (.bl false)) (jW (dOp eqS (jV 4) (dC (.int 2))) (jW (dOp gtS (jV 4) (dC (.int 0))) (jW (dOp eqS (jV 4) (dC (.int 1))) (jW (dOp gtS (jV 4) (dC (.int 1))) qQ))))))) (jV 2)))))))
def F_2:Nat->DF
 | 0=>fun _=>none
 | n+1=>fnD none 2 5 (d_2 (F_2 n))
def F_27:DF:=fnD none 2 2 (dRet (dHand F_29 L_so))
theorem zRV:FnScope ["saying","answers"] ["saying","answers"] (defScope zBR):=by walk_at "s"
theorem zPr(c:Addr)(h:(Fy "is_so" (defScope zBR) n f cdv).cells.lookup L_so.x=some c):Ej L_so.scope (Fy "is_so" (defScope zBR) n f cdv)=pure [(L_so.x,c)]:=by
 cases h
 rfl
def zCo (rec:DF):DE:=dCall none rec [] (jW (jV 0) (jW (jV 1) qQ))
abbrev st_0:Stmt:=top 64
theorem sc_0:FnScope ["_law_found","_law_due"] ["_law_found","_law_due"] (defScope st_0):=by walk_at "s"
def d_0 (rec:DF):DS:=dSeq (dIf (dTru (dCB isiS (jW (jV 1) (jW (dTup (jW (dC (.ty "list")) (jW (dC (.ty "tuple")) qQ))) qQ)))) (dSeq (dIf (dOr (dTest (dOp neS (dCB isiS (jW (jV 0) (jW (dC (.ty "tuple")) qQ))) (dCB isiS (jW (jV 1) (jW (dC (.ty "tuple")) qQ))))) (dTest (dOp neS (dCB isiS (jW (jV 0) (jW (dC (.ty "list")) qQ))) (dCB isiS (jW (jV 1) (jW (dC (.ty "list")) qQ)))))) (dRet (dC (.bl false))) dNext)
 (dRet (dAndV (dOp eqS (dCB lenS (jW (jV 0) qQ)) (dCB lenS (jW (jV 1) qQ))) (dCB allS (jW (dComp none [none,none] (dZip (jW (jV 0) (jW (jV 1) qQ))) (gdTup 2 (gdCons (gdName 0) (gdCons (gdName 1) gdNil))) dYes ((zCo rec))) qQ))))) dNext)
 (dRet (dAndV (dOp eqS (dCB isiS (jW (jV 0) (jW (dC (.ty "bool")) qQ))) (dCB isiS (jW (jV 1) (jW (dC (.ty "bool")) qQ)))) (dOp eqS (jV 0) (jV 1))))
def F_0:Nat->DF
 | 0=>fun _=>none
 | n+1=>fnD none 2 2 (d_0 (F_0 n))
def zB1:DS:=dSeq (dSet 6 (dCall none (F_2 zDo) [] (jW (jV 1) (jW (jV 5) qQ))))
 (dSeq (dIf (dTest (dOp neS (dCall none F_27 [] (jW (jV 0) (jW (jV 5) qQ))) (jV 6))) (dRet (dC (.bl false))) dNext)
 (dIf (dNot (dTru (dCall none (F_0 zBq) [] (jW (dCall none F_46 [] (jW (jV 3) (jW (jV 5) qQ))) (jW (dOp ixS (dLst (jW (dTupRng (jW (dC (.int 5)) qQ)) (jW (jV 2) qQ))) (dCB intS (jW (jV 6) qQ))) qQ))))) (dRet (dC (.bl false))) dNext))
abbrev zH9:Stmt:=top 76
theorem zL1:FnScope ["_law_saying_here","_law_due","_law_ring_here","_law_dance","_law_rows_here","_law_answers_here","_law_so_here"] ["_law_saying_here","_law_due","_law_ring_here","_law_dance","_law_rows_here"] (defScope zH9):=by walk_at "s"
def d_60:DS:=dSeq (dFor none (dSeqI (jV 4)) (gdName 5) (zB1))
 (dRet (dC (.bl true)))
def F_60:DF:=fnD none 5 7 d_60
def zCG:DS:=dSeq (dSet 9 (dCall none F_40 [.int 128] (jW (jV 8) (jW (jV 3) (jW (jV 5) qQ)))))
 (dIf (dNot (dTru (dCall none F_60 [] (jW (jV 8) (jW (dOp ixS (jV 4) (dC (.int 0))) (jW (jV 5) (jW (jV 9) (jW (jV 7) qQ)))))))) (dRet (dC (.bl false))) dNext)
def zCU:DS:=dSeq (dSet 2 (dCall none F_4 [] (jW (jV 0) (jW (jV 1) qQ))))
 (dSeq (dSet 3 (dOp addS (dC (.int 1)) (dCall (some 0) F_5 [] (jW (jV 2) (jW (dC (.int 5)) qQ)))))
 (dSeq (dSet 4 (dCall (some 0) F_31 [] (jW (jV 2) (jW (jV 3) qQ))))
 (dSeq (dPar2 5 6 (jW (dCall (some 0) F_41 [] (jW (jV 2) (jW (dC (.int 5)) qQ))) (jW (dCall (some 0) F_41 [] (jW (jV 2) (jW (dC (.int 5)) qQ))) qQ)))
 (dSeq (dSet 7 (dCall (some 0) F_34 [] (jW (jV 2) (jW (jV 3) qQ))))
 (dSeq (dFor none (dSeqI (jV 4)) (gdName 8) (zCG))
 (dSeq (dSet 10 (dCall none F_40 [.int 128] (jW (dOp ixS (jV 4) (dC (.int 0))) (jW (jV 3) (jW (jV 6) qQ)))))
 (dSeq (dIf (dNot (dTru (dCall none F_48 [] (jW (dCall none F_40 [.int 128] (jW (dOp ixS (jV 4) (dC (.int 0))) (jW (jV 3) (jW (jV 5) qQ)))) (jW (jV 10) (jW (jV 5) (jW (jV 6) (jW (jV 7) qQ)))))))) (dRet (dC (.bl false))) dNext)
 (dSeq (dSet 11 (dOp ixS (jV 4) (dCall (some 0) F_5 [] (jW (jV 2) (jW (dCB lenS (jW (jV 4) qQ)) qQ)))))
 (dIf (dNot (dTru (dCall none F_59 [] (jW (jV 11) (jW (jV 3) (jW (jV 5) (jW (jV 6) qQ))))))) (dRet (dC (.bl false))) dNext)))))))))
abbrev zBN:Stmt:=top 79
theorem zJz:FnScope ["_law_script","_law_k","_law_box_here","_law_questions","_law_some","_law_ring_here","_law_there","_law_rows_here","_law_saying_here","_law_dance","_law_other","_law_one"] ["_law_script"] (defScope zBN):=by walk_at "s"
def zMF:DS:=dSeq (dFor none (dRng1 (jW (dOp addS (dC (.int 1)) (dCB lenS (jW (dSl (jV 0) dNoPart (dPart (dC (.int 1)))) qQ))) qQ)) (gdName 1) (zCU))
 (dRet (dC (.bl true)))
def zCP:DF:=fnD none 1 12 zMF
abbrev tb_1:Tb:=[("inner",1,F_7),("pieces_in",1,F_16)]
abbrev tb_2:Tb:=[("weight_of",2,F_18),("spelled_of",2,F_20),("steps_of",2,F_24),("paper_of",2,F_25)]
end
open PySem L2 D
theorem zN3(a b w:Int)(h0:0 < w)(h1:w < 1073741824):∃ r a' b',0<=r/\r < w/\F_5 [.l [iT a,iT b],.v (iT w)]=some (.v (iT r),[iT a',iT b']):=by
 have h2:CDiv a w:=⟨h0,h1⟩
 by_cases h:0 < a
 ·refine⟨a % w,a / w,b,Fz _ (by lia),FG _ h0,?_⟩
  simp[F_5,fnD,d_5,h,h0,h2,ixN]
 ·refine⟨(b * 69623 % 2147483647 * 2147483647+((b * 69623 % 2147483647 * 48271+30103) % 2147483629+1)) / 8191 % w,a,(b * 69623 % 2147483647 * 48271+30103) % 2147483629+1,Fz _ (by lia),FG _ h0,?_⟩
  simp[F_5,fnD,d_5,h,h0,h2,ixN,CMul,CDiv]
theorem zAt(a b:Int)(w:Nat)(h0:0 < w)(h1:w<=1000000000):∃ (r:Nat) (a' b':Int),r < w/\F_5 [.l [iT a,iT b],.v (iT (w:Int))]=some (.v (iT (r:Int)),[iT a',iT b']):=by
 obtain⟨r,a',b',r0,r1,e⟩:=zN3 a b w (by lia) (by lia)
 obtain⟨n,rfl⟩:∃ n:Nat,r=n:=⟨r.toNat,by lia⟩
 exact⟨n,a',b',by lia,e⟩
theorem zO7(ns:List Int)(k:Int)(hk:0<=k)(hk1:k < 1000):∃ a b,F_4 [.k (intsT ns),.v (iT k)]=some (.l [iT a,iT b],[]):=by
 have hl:(intsT ns).length=ns.length:=by simp[intsT]
 have fin:∀ c:Int,∃ a,atI [T.a (V.int 0),T.a (V.int c)] (if (1000000000000000000:Int)<=c then 1 else 0)=some (iT a):=fun c=>by
  split
  ·exact⟨c,rfl⟩
  ·exact⟨0,rfl⟩
 have c1:CMul 7919 k:=.inl ⟨by decide,by decide⟩
 have c2:CMul 40692 k:=.inl ⟨by decide,by decide⟩
 have c3:∀ m:Int,CMul m 69623:=fun m=>.inr ⟨by decide,by decide⟩
 have c4:∀ m:Int,CMul m 48271:=fun m=>.inr ⟨by decide,by decide⟩
 have c5:CPow 10 18:=⟨by decide,by decide,by decide⟩
 by_cases h1:k < ns.length
 ·obtain⟨z,hz⟩:=zFv ns hk h1
  obtain⟨a,ha⟩:=fin z
  refine⟨a,(z % 2147483629 * 48271+40692 * k) % 2147483629+1,?_⟩
  simp[F_4,fnD,d_4,hl,h1,c1,c2,c3,c4,c5,hz,ha,gd,zD7]
 ·by_cases h2:0 < ns.length
  ·obtain⟨z,hz⟩:=zFv ns (i:=k % ns.length) (Fz _ (by lia)) (FG _ (by lia))
   obtain⟨a,ha⟩:=fin (7919 * k+11+z % 2147483629 * 69623)
   refine⟨a,((7919 * k+11+z % 2147483629 * 69623) % 2147483629 * 48271+40692 * k) % 2147483629+1,?_⟩
   simp[F_4,fnD,d_4,hl,h1,h2,c1,c2,c3,c4,c5,hz,ha,gd,zD7]
  ·obtain⟨a,ha⟩:=fin (7919 * k+11)
   refine⟨a,((7919 * k+11) % 2147483629 * 48271+40692 * k) % 2147483629+1,?_⟩
   simp[F_4,fnD,d_4,hl,h1,h2,c1,c2,c3,c4,c5,ha,gd,zD7]
theorem zBK(h1:tg Γ t=some Γ1)(h2:b Γ1=some (.nx Γ2)):forD tg b (t::r) Γ=forD tg b r Γ2:=by
 rw[zBu,h1,Ae,h2,Ae]
theorem zHP(h1:tg Γ t=some Γ1)(h2:de Γ1=some (.v t',Γ2))(h3:compD tg dYes de r Γ2=some (ts,Γ3)):compD tg dYes de (t::r) Γ=some (t'::ts,Γ3):=by
 rw[zAL,h1,Ae,zN7,Ae,if_pos rfl,h2,Ae,zPy,Ae,h3]
 rfl
def Pl:Nat->T->Prop
 | 0,t=>∃ v,t=.a v/\(tyN [] (.v (.a v))).isSome=true
 | n+1,t=>(∃ v,t=.a v/\(tyN [] (.v (.a v))).isSome=true)\/∃ ts:List T,t=.t ts/\ts.length<=10000/\∀ x∈ts,Pl n x
theorem Pl.atom(h:(tyN [] (.v (.a v))).isSome=true):Pl n (.a v):=by
 cases n with
 | zero=>exact⟨v,rfl,h⟩
 | succ n=>exact .inl ⟨v,rfl,h⟩
theorem Pl.int(i:Int):Pl n (iT i):=Pl.atom rfl
theorem Pl.tup(hl:ts.length<=10000)(h:∀ x∈ts,Pl n x):Pl (n+1) (.t ts):=.inr ⟨ts,rfl,hl,h⟩
theorem Pl.turn(h:t.length<=10000):Pl (n+1) (tuT t):=Pl.tup (by simpa using h) fun x hx=>by
 obtain⟨k,_,rfl⟩:=BQ.mp hx
 exact Pl.int _
theorem zLS(xs:List T):zipT xs xs=xs.map fun x=>.t [x,x]:=by
 unfold zipT
 induction xs with
 | nil=>rfl
 | cons x r ih=>simp[ih]
theorem zDq(rec:DF)(v:V)(h:(tyN [] (.v (.a v))).isSome=true):fnD none 2 2 (d_0 rec) [.v (.a v),.v (.a v)]=some (.v (bT true),[]):=by
 have g2:(2:Nat)<=AC:=by decide
 cases v with
 | int i=>simp[fnD,d_0,gd,g2,isiS,tyN,subLT,subTy]
 | bl b=>simp[fnD,d_0,gd,g2,isiS,tyN,subLT,subTy]
 | str x=>simp[fnD,d_0,gd,g2,isiS,tyN,subLT,subTy]
 | non =>
  have e:∀ Γ,eqS Γ (.v (.a .non)) (.v (.a .non))=some (.v (.a (.bl true))):=fun Γ=>rfl
  simp[fnD,d_0,gd,g2,isiS,tyN,subLT,subTy,e]
 | byt _=>cases h
 | flt _=>cases h
 | ref _=>cases h
 | ty _=>cases h
theorem zGN(rec:DF)(ts:List T)(hl:ts.length<=10000)(h:∀ x∈ts,rec [.v x,.v x]=some (.v (bT true),[])):fnD none 2 2 (d_0 rec) [.v (.t ts),.v (.t ts)]=some (.v (bT true),[]):=by
 have g2:(2:Nat)<=AC:=by decide
 have g3:ts.length<=AC:=zAC (by lia)
 obtain⟨o1,o2,e⟩:=zEc (fun x:T=>x) (fun x=>x) (fun _=>bT true) (de:=zCo rec) (R:=[]) ts (fun x hx=>by
  have:=h x hx
  simp only[bT]at this
  simp[zCo,this]) none none
 have e':compD (gdTup 2 (gdCons (gdName 0) (gdCons (gdName 1) gdNil))) dYes (zCo rec) (zipT ts ts) [none,none]=some (Ah ts.length (T.a (V.bl true)),[o1,o2]):=by
  rw[zLS,e,List.map_const']
 simp[fnD,d_0,gd,g2,g3,isiS,tyN,subLT,subTy,dZip,e']
theorem zFu:∀ (n:Nat) (t:T),Pl n t->F_0 (n+1) [.v t,.v t]=some (.v (bT true),[])
 | 0,_,⟨v,rfl,h⟩=>zDq _ v h
 | n+1,_,.inl ⟨v,rfl,h⟩=>zDq _ v h
 | n+1,_,.inr ⟨ts,rfl,hl,h⟩=>zGN _ ts hl fun x hx=>zFu n x (h x hx)
theorem alike12(t:T)(h:Pl (zBq - 1) t):F_0 zBq [.v t,.v t]=some (.v (.a (.bl true)),[]):=zFu (zBq - 1) t h
@[simp] theorem zSk(a b:String):(Ba a=Ba b)=(a=b):=by
 refine propext ⟨fun h=>?_,fun h=>by rw[h]⟩
 rw[Gw,Gw]at h
 have h2:=congrArg (fun s=>s.cps.toList) h
 simp only[List.toList_toArray]at h2
 refine String.toList_inj.mp (List.map_inj_right (fun x y e=>?_) |>.mp h2)
 exact Char.ext (UInt32.toNat_inj.mp e)
inductive Sy where
 | yes | no | ask (q:Nat) | nt (a:Sy) | an (a b:Sy) | or (a b:Sy) | ei (a b:Sy) | mo (a b c:Sy)
noncomputable abbrev sT (x:Str):T:=.a (.str x)
def Sy.t:Sy->T
 | .yes=>.t [sT "yes"]
 | .no=>.t [sT "no"]
 | .ask q=>.t [sT "ask",iT q]
 | .nt a=>.t [sT "not",a.t]
 | .an a b=>.t [sT "and",a.t,b.t]
 | .or a b=>.t [sT "or",a.t,b.t]
 | .ei a b=>.t [sT "either",a.t,b.t]
 | .mo a b c=>.t [sT "most",a.t,b.t,c.t]
noncomputable def Sy.kids:Sy->List Sy
 | .yes=>[]
 | .no=>[]
 | .ask _=>[]
 | .nt a=>[a]
 | .an a b=>[a,b]
 | .or a b=>[a,b]
 | .ei a b=>[a,b]
 | .mo a b c=>[a,b,c]
noncomputable def Sy.parts:Sy->Nat
 | .yes=>1
 | .no=>1
 | .ask _=>1
 | .nt a=>1+a.parts
 | .an a b=>1+a.parts+b.parts
 | .or a b=>1+a.parts+b.parts
 | .ei a b=>1+a.parts+b.parts
 | .mo a b c=>1+a.parts+b.parts+c.parts
noncomputable def Sy.down:Sy->Nat
 | .yes=>1
 | .no=>1
 | .ask _=>1
 | .nt a=>1+a.down
 | .an a b=>1+max a.down b.down
 | .or a b=>1+max a.down b.down
 | .ei a b=>1+max a.down b.down
 | .mo a b c=>1+max a.down (max b.down c.down)
noncomputable def Sy.wt:Sy->Nat
 | .yes=>1
 | .no=>1
 | .ask _=>1
 | .nt a=>a.wt
 | .an a b=>2 * (a.wt+b.wt)
 | .or a b=>2 * (a.wt+b.wt)
 | .ei a b=>8 * (a.wt+b.wt)
 | .mo a b c=>12 * (a.wt+b.wt)+4 * c.wt
noncomputable def Sy.qs (q:Nat):Sy->Prop
 | .yes=>True
 | .no=>True
 | .ask k=>k < q
 | .nt a=>a.qs q
 | .an a b=>a.qs q/\b.qs q
 | .or a b=>a.qs q/\b.qs q
 | .ei a b=>a.qs q/\b.qs q
 | .mo a b c=>a.qs q/\b.qs q/\c.qs q
theorem Sy.parts_pos:∀ s:Sy,1<=s.parts
 | .yes=>AK _
 | .no=>AK _
 | .ask _=>AK _
 | .nt a=>by simp only[Sy.parts]; lia
 | .an a b=>by simp only[Sy.parts]; lia
 | .or a b=>by simp only[Sy.parts]; lia
 | .ei a b=>by simp only[Sy.parts]; lia
 | .mo a b c=>by simp only[Sy.parts]; lia
theorem Sy.down_pos:∀ s:Sy,1<=s.down
 | .yes=>AK _
 | .no=>AK _
 | .ask _=>AK _
 | .nt a=>by simp only[Sy.down]; lia
 | .an a b=>by simp only[Sy.down]; lia
 | .or a b=>by simp only[Sy.down]; lia
 | .ei a b=>by simp only[Sy.down]; lia
 | .mo a b c=>by simp only[Sy.down]; lia
def Sy.rs (f:Sy->T):Sy->Rs
 | .yes=>.mk (Sy.t .yes) (f .yes) []
 | .no=>.mk (Sy.t .no) (f .no) []
 | .ask q=>.mk (Sy.t (.ask q)) (f (.ask q)) []
 | .nt a=>.mk (Sy.t (.nt a)) (f (.nt a)) [a.rs f]
 | .an a b=>.mk (Sy.t (.an a b)) (f (.an a b)) [a.rs f,b.rs f]
 | .or a b=>.mk (Sy.t (.or a b)) (f (.or a b)) [a.rs f,b.rs f]
 | .ei a b=>.mk (Sy.t (.ei a b)) (f (.ei a b)) [a.rs f,b.rs f]
 | .mo a b c=>.mk (Sy.t (.mo a b c)) (f (.mo a b c)) [a.rs f,b.rs f,c.rs f]
theorem Sy.rs_e(f:Sy->T)(s:Sy):(s.rs f).e=s.t:=by cases s <;> rfl
theorem Sy.rs_v(f:Sy->T)(s:Sy):(s.rs f).v=f s:=by cases s <;> rfl
theorem Sy.rs_pre(f:Sy->T):∀ s:Sy,(s.rs f).pre.length=s.parts
 | .yes=>by simp[Sy.rs,zAV,zAK,Sy.parts]
 | .no=>by simp[Sy.rs,zAV,zAK,Sy.parts]
 | .ask _=>by simp[Sy.rs,zAV,zAK,Sy.parts]
 | .nt a=>by simp[Sy.rs,zAV,zAK,zAN,Sy.parts,a.rs_pre f]; lia
 | .an a b=>by simp[Sy.rs,zAV,zAK,zAN,Sy.parts,a.rs_pre f,b.rs_pre f]; lia
 | .or a b=>by simp[Sy.rs,zAV,zAK,zAN,Sy.parts,a.rs_pre f,b.rs_pre f]; lia
 | .ei a b=>by simp[Sy.rs,zAV,zAK,zAN,Sy.parts,a.rs_pre f,b.rs_pre f]; lia
 | .mo a b c=>by simp[Sy.rs,zAV,zAK,zAN,Sy.parts,a.rs_pre f,b.rs_pre f,c.rs_pre f]; lia
theorem cut1(x:T)(r:List T):cutT (x::r) (some 1) none=r:=zFw (x::r) 1
theorem zBB(s:Sy):F_7 [.v s.t]=some (.v (.t (s.kids.map Sy.t)),[]):=by
 cases s <;> simp[F_7,fnD,d_7,Sy.t,Sy.kids,gd,cut1,zQ1]
theorem Sy.rs_in(f:Sy->T):∀ s:Sy,(s.rs f).In F_7
 | .yes=>zAm.mpr ⟨.inl (zBB .yes),zAa⟩
 | .no=>zAm.mpr ⟨.inl (zBB .no),zAa⟩
 | .ask q=>zAm.mpr ⟨.inl (zBB (.ask q)),zAa⟩
 | .nt a=>zAm.mpr ⟨.inl (by simpa [Sy.kids,Sy.rs_e] using zBB (.nt a)),zAH.mpr ⟨a.rs_in f,zAa⟩⟩
 | .an a b=>zAm.mpr ⟨.inl (by simpa [Sy.kids,Sy.rs_e] using zBB (.an a b)),zAH.mpr ⟨a.rs_in f,zAH.mpr ⟨b.rs_in f,zAa⟩⟩⟩
 | .or a b=>zAm.mpr ⟨.inl (by simpa [Sy.kids,Sy.rs_e] using zBB (.or a b)),zAH.mpr ⟨a.rs_in f,zAH.mpr ⟨b.rs_in f,zAa⟩⟩⟩
 | .ei a b=>zAm.mpr ⟨.inl (by simpa [Sy.kids,Sy.rs_e] using zBB (.ei a b)),zAH.mpr ⟨a.rs_in f,zAH.mpr ⟨b.rs_in f,zAa⟩⟩⟩
 | .mo a b c=>zAm.mpr ⟨.inl (by simpa [Sy.kids,Sy.rs_e] using zBB (.mo a b c)),zAH.mpr ⟨a.rs_in f,zAH.mpr ⟨b.rs_in f,zAH.mpr ⟨c.rs_in f,zAa⟩⟩⟩⟩
def orS (s t:Sy):Sy:=.nt (.an (.nt s) (.nt t))
def Sy.spell:Sy->Sy
 | .yes=>.yes
 | .no=>.no
 | .ask q=>.ask q
 | .nt a=>.nt a.spell
 | .an a b=>.an a.spell b.spell
 | .or a b=>orS a.spell b.spell
 | .ei a b=>orS (.an a.spell (.nt b.spell)) (.an (.nt a.spell) b.spell)
 | .mo a b c=>orS (.an a.spell b.spell) (.an c.spell (orS a.spell b.spell))
theorem zPw(x y:T):F_19 [.v x,.v y]=some (.v (.t [sT "not",.t [sT "and",.t [sT "not",x],.t [sT "not",y]]]),[]):=by
 have g2:(2:Nat)<=AC:=by decide
 have g3:(3:Nat)<=AC:=by decide
 simp[F_19,fnD,d_19,gd,g2,g3]
theorem zEt(s:Sy):F_20 [.v s.t,.r (s.kids.map fun k=>k.spell.t)]=some (.v s.spell.t,[]):=by
 have g1:(1:Nat)<=AC:=by decide
 have g2:(2:Nat)<=AC:=by decide
 have g3:(3:Nat)<=AC:=by decide
 have g4:(4:Nat)<=AC:=by decide
 cases s <;> simp[F_20,fnD,d_20,Sy.t,Sy.kids,Sy.spell,orS,gd,g1,g2,g3,g4,zPw,inS,atomsOf,flatV,inV,eqV]
theorem zBG(h:f Γ=some (.nx Γ'))(k:g Γ'=r):dSeq f g Γ=r:=by rw[zNH,h]; exact k
theorem zIv(q:Nat)(hq0:0 < q)(hq:q<=100):∀ (n:Nat) (a b:Int) (room down:Nat),1<=n->down<=n->1<=room->room<=1000->∃ (s:Sy) (a' b':Int),s.down<=max 1 down/\s.parts<=room/\s.qs q /\
  F_1 n [.l [iT a,iT b],.v (iT (q:Int)),.v (iT (room:Int)),.v (iT (down:Int))]=some (.v s.t,[iT a',iT b']):=by
 intro n
 induction n with
 | zero=>intro a b room down h; lia
 | succ n ih =>
  intro a b room down _ hd hr hr2
  obtain⟨f,a1,b1,hf,e1⟩:=zAt a b 10 (by decide) (by decide)
  have e1':F_5 [.l [iT a,iT b],.v (iT 10)]=some (.v (iT (f:Int)),[iT a1,iT b1]):=e1
  simp only[iT]at e1' ⊢
  clear e1
  by_cases leaf:room < 2\/down < 2\/f=0
  ·obtain⟨k,a2,b2,hk,e2⟩:=zAt a1 b1 q hq0 (by lia)
   obtain⟨g,a3,b3,hg,e3⟩:=zAt a2 b2 8 (by decide) (by decide)
   have e3':F_5 [.l [iT a2,iT b2],.v (iT 8)]=some (.v (iT (g:Int)),[iT a3,iT b3]):=e3
   simp only[iT]at e2 e3'
   have fin:∀ (s:Sy) (i:Nat),(if (5:Int) < (g:Int) then (g:Int) - 5 else 0)=(i:Int)->[Sy.t (.ask k),Sy.t .yes,Sy.t .no][i]?=some s.t->F_1 (n+1) [.l [.a (.int a),.a (.int b)],.v (.a (.int (q:Int))),.v (.a (.int (room:Int))),.v (.a (.int (down:Int)))]=some (.v s.t,[.a (.int a3),.a (.int b3)]):=fun s i mx es=>by
    simp only[Sy.t,iT]at es
    by_cases h1:(room:Int) < 2
    ·simp[F_1,fnD,d_1,e1',e2,e3',h1,mx,zAf,es]
    ·by_cases h2:(down:Int) < 2
     ·simp[F_1,fnD,d_1,e1',e2,e3',h1,h2,mx,zAf,es]
     ·have h3:f=0:=by lia
      simp[F_1,fnD,d_1,e1',e2,e3',h1,h2,h3,mx,zAf,es]
   have hm:(1:Nat)<=max 1 down:=IK _ _
   by_cases c1:g<=5
   ·exact⟨.ask k,a3,b3,hm,hr,hk,fin _ 0 (by rw[if_neg (by lia)]; rfl) rfl⟩
   ·by_cases c2:g=6
    ·subst c2
     exact⟨.yes,a3,b3,hm,hr,trivial,fin _ 1 (by decide) rfl⟩
    ·have:g=7:=by lia
     subst this
     exact⟨.no,a3,b3,hm,hr,trivial,fin _ 2 (by decide) rfl⟩
  ·have m1:¬ (room:Int) < 2:=by lia
   have m2:¬ (down:Int) < 2:=by lia
   have m3:¬ f=0:=by lia
   have m3':¬ (f:Int)=0:=by lia
   have d1:(down:Int) - 1=((down - 1:Nat):Int):=by lia
   by_cases nt:f < 3\/room < 3
   ·obtain⟨s,a2,b2,h1,h2,h3,e2⟩:=ih a1 b1 (room - 1) (down - 1) (by lia) (by lia) (by lia) (by lia)
    have r1:(room:Int) - 1=((room - 1:Nat):Int):=by lia
    refine⟨.nt s,a2,b2,by simp only[Sy.down]; lia,by simp only[Sy.parts]; lia,h3,?_⟩
    simp only[iT,Sy.t]at e2 ⊢
    generalize s.t=S at *
    by_cases h:(f:Int) < 3
    ·simp[F_1,fnD,d_1,e1',m1,m2,m3,m3',h,r1,d1,e2]
    ·have h':(room:Int) < 3:=by lia
     simp[F_1,fnD,d_1,e1',m1,m2,m3,m3',h,h',r1,d1,e2]
   ·have n1:¬ (f:Int) < 3:=by lia
    have n2:¬ (room:Int) < 3:=by lia
    obtain⟨k1,a2,b2,hk1,e2⟩:=zAt a1 b1 (room - 2) (by lia) (by lia)
    have r2:(room:Int) - 2=((room - 2:Nat):Int):=by lia
    obtain⟨x1,hx1⟩:∃ x1:Nat,x1=1+k1:=⟨1+k1,rfl⟩
    obtain⟨s1,a3,b3,h1,h2,h3,e3⟩:=ih a2 b2 x1 (down - 1) (by lia) (by lia) (by lia) (by lia)
    have c1:(1:Int)+(k1:Int)=(x1:Int):=by lia
    by_cases mo:f=9/\room > 3/\x1 < room - 2
    ·obtain⟨k2,a4,b4,hk2,e4⟩:=zAt a3 b3 (room - 2 - x1) (by lia) (by lia)
     obtain⟨x2,hx2⟩:∃ x2:Nat,x2=1+k2:=⟨1+k2,rfl⟩
     have c2:(1:Int)+(k2:Int)=(x2:Int):=by lia
     obtain⟨s2,a5,b5,u1,u2,u3,e5⟩:=ih a4 b4 x2 (down - 1) (by lia) (by lia) (by lia) (by lia)
     obtain⟨s3,a6,b6,v1,v2,v3,e6⟩:=ih a5 b5 (room - 1 - x1 - x2) (down - 1) (by lia) (by lia) (by lia) (by lia)
     have r3:((room - 2:Nat):Int) - (x1:Int)=((room - 2 - x1:Nat):Int):=by lia
     have r4:(room:Int) - 1 - (x1:Int) - (x2:Int)=((room - 1 - x1 - x2:Nat):Int):=by lia
     have q1:(f:Int)=9:=by lia
     have q2:(3:Int) < (room:Int):=by lia
     have q3:(x1:Int) < ((room - 2:Nat):Int):=by lia
     refine⟨.mo s1 s2 s3,a6,b6,by simp only[Sy.down]; lia,by simp only[Sy.parts]; lia,⟨h3,u3,v3⟩,?_⟩
     simp only[iT,Sy.t]at e2 e3 e4 e5 e6 ⊢
     rw[q1]at e1'
     simp[F_1,fnD,d_1,e1',m1,m2,n2,r2,e2,c1,d1,e3,q2,q3,r3,e4,c2,e5,r4,e6]
    ·obtain⟨s2,a4,b4,u1,u2,u3,e4⟩:=ih a3 b3 (room - 1 - x1) (down - 1) (by lia) (by lia) (by lia) (by lia)
     have r3:(room:Int) - 1 - (x1:Int)=((room - 1 - x1:Nat):Int):=by lia
     simp only[iT]at e2 e3 e4
     have fin:∀ (w:Str) (i:Nat),(f:Int) % 3=(i:Int)->[sT "and",sT "or",sT "either"][i]?=some (sT w)->F_1 (n+1) [.l [.a (.int a),.a (.int b)],.v (.a (.int (q:Int))),.v (.a (.int (room:Int))),.v (.a (.int (down:Int)))]=some (.v (.t [sT w,s1.t,s2.t]),[.a (.int a4),.a (.int b4)]):=fun w i ei es=>by
      simp only[sT]at es ⊢
      by_cases q1:(f:Int)=9
      ·have hi:i=0:=by lia
       subst hi
       simp at es
       subst es
       by_cases q2:(3:Int) < (room:Int)
       ·have q3:¬ (x1:Int) < ((room - 2:Nat):Int):=by lia
        simp[F_1,fnD,d_1,e1',m1,m2,m3,m3',n1,n2,r2,e2,c1,d1,e3,q1,q2,q3,r3,e4]
       ·simp[F_1,fnD,d_1,e1',m1,m2,m3,m3',n1,n2,r2,e2,c1,d1,e3,q1,q2,r3,e4]
      ·simp[F_1,fnD,d_1,e1',m1,m2,m3,m3',n1,n2,r2,e2,c1,d1,e3,q1,ei,zAf,es,r3,e4]
     have hf3:f % 3=0\/f % 3=1\/f % 3=2:=by lia
     rcases hf3 with h | h | h
     ·exact⟨.an s1 s2,a4,b4,by simp only[Sy.down]; lia,by simp only[Sy.parts]; lia,⟨h3,u3⟩,fin "and" 0 (by lia) rfl⟩
     ·exact⟨.or s1 s2,a4,b4,by simp only[Sy.down]; lia,by simp only[Sy.parts]; lia,⟨h3,u3⟩,fin "or" 1 (by lia) rfl⟩
     ·exact⟨.ei s1 s2,a4,b4,by simp only[Sy.down]; lia,by simp only[Sy.parts]; lia,⟨h3,u3⟩,fin "either" 2 (by lia) rfl⟩
theorem lw_q(rec:DF)(s:Sy):zCb rec [some (.v s.t)]=some (true,[some (.v s.t)]):=by
 cases s <;> simp[zCb,Sy.t,isiS,tyN,subTy]
theorem lw_i(rec:DF)(i:Int):zCb rec [some (.v (iT i))]=some (false,[some (.v (iT i))]):=by
 simp[zCb,isiS,tyN,subTy]
theorem lw_e(rec:DF)(s:Sy)(m:Nat)(h:rec [.v s.t]=some (.v (iT (m:Int)),[])):zCq rec [some (.v s.t)]=some (.v (iT (m:Int)),[some (.v s.t)]):=by
 simp only[iT]at h ⊢
 simp[zCq,h]
theorem zGO:∀ (n:Nat) (s:Sy),s.down<=n->F_3 n [.v s.t]=some (.v (iT (s.wt:Int)),[]):=by
 intro n
 induction n with
 | zero=>intro s h; have:=s.down_pos; lia
 | succ n ih =>
  intro s h
  have g1:(1:Nat)<=AC:=by decide
  have g2:(2:Nat)<=AC:=by decide
  have g3:(3:Nat)<=AC:=by decide
  have c12:∀ x:Int,CMul 12 x:=fun x=>.inl ⟨by decide,by decide⟩
  have c4:∀ x:Int,CMul 4 x:=fun x=>.inl ⟨by decide,by decide⟩
  have c2:∀ x:Int,CMul x 2:=fun x=>.inr ⟨by decide,by decide⟩
  have c8:∀ x:Int,CMul x 8:=fun x=>.inr ⟨by decide,by decide⟩
  have ea:∀ k:Sy,k.down<=n->zCq (F_3 n) [some (.v k.t)]=some (.v (.a (.int (k.wt:Int))),[some (.v k.t)]):=fun k hk=>lw_e _ k _ (ih k hk)
  have qi:=fun i:Int=>lw_i (F_3 n) i
  have qk:=lw_q (F_3 n)
  simp only[iT]at qi
  cases s with
  | yes=>simp[F_3,fnD,d_3,Sy.t,Sy.wt,cut1,zAR,gd,g1,g2,g3,inS,atomsOf,flatV,inV,eqV]
  | no=>simp[F_3,fnD,d_3,Sy.t,Sy.wt,cut1,zAR,gd,g1,g2,g3,inS,atomsOf,flatV,inV,eqV]
  | ask q=>simp[F_3,fnD,d_3,Sy.t,Sy.wt,cut1,zAL,zAR,gd,g1,g2,g3,inS,atomsOf,flatV,inV,eqV,qi]
  | nt a =>
   have h1:=ea a (by simp only[Sy.down]at h; lia)
   simp[F_3,fnD,d_3,Sy.t,Sy.wt,cut1,zAL,zAR,gd,g1,g2,g3,inS,atomsOf,flatV,inV,eqV,qk,h1]
  | an a b =>
   have h1:=ea a (by simp only[Sy.down]at h; lia)
   have h2:=ea b (by simp only[Sy.down]at h; lia)
   simp[F_3,fnD,d_3,Sy.t,Sy.wt,cut1,zAL,zAR,gd,g1,g2,g3,inS,atomsOf,flatV,inV,eqV,qk,h1,h2,c2]
   lia
  | or a b =>
   have h1:=ea a (by simp only[Sy.down]at h; lia)
   have h2:=ea b (by simp only[Sy.down]at h; lia)
   simp[F_3,fnD,d_3,Sy.t,Sy.wt,cut1,zAL,zAR,gd,g1,g2,g3,inS,atomsOf,flatV,inV,eqV,qk,h1,h2,c2]
   lia
  | ei a b =>
   have h1:=ea a (by simp only[Sy.down]at h; lia)
   have h2:=ea b (by simp only[Sy.down]at h; lia)
   simp[F_3,fnD,d_3,Sy.t,Sy.wt,cut1,zAL,zAR,gd,g1,g2,g3,inS,atomsOf,flatV,inV,eqV,qk,h1,h2,c8]
   lia
  | mo a b c =>
   have h1:=ea a (by simp only[Sy.down]at h; lia)
   have h2:=ea b (by simp only[Sy.down]at h; lia)
   have h3:=ea c (by simp only[Sy.down]at h; lia)
   simp[F_3,fnD,d_3,Sy.t,Sy.wt,cut1,zAL,zAR,gd,g1,g2,g3,inS,atomsOf,flatV,inV,eqV,qk,h1,h2,h3,c12,c4]
noncomputable def allL (n:Nat):Nat->List (List Nat)
 | 0=>[[]]
 | m+1=>(allL n m).flatMap fun r=>(AF n).map fun k=>k::r
theorem zFZ:∀ {t:List Nat},(∀ k∈t,k < n)->t∈allL n t.length
 | [],_=>AI.mpr rfl
 | k::r,h=>List.mem_flatMap.mpr ⟨r,zFZ fun x hx=>h x (AR _ hx),BQ.mpr ⟨k,F0.mpr (h k AY),rfl⟩⟩
noncomputable def ndB:List Nat->Bool
 | []=>true
 | k::r=>!(r.contains k) && ndB r
theorem zKN:∀ {t:List Nat},t.Nodup->ndB t=true
 | [],_=>rfl
 | k::r,h=>by
  have h':=Bq.mp h
  simp[ndB,h'.1,zKN h'.2]
def turns (n:Nat):List (List Nat):=(allL n n).filter ndB
theorem zCt(h:IsT n t):t∈turns n:=by
 refine De.mpr ⟨?_,zKN h.nd⟩
 have:=zFZ h.lt
 rw[h.len]at this
 exact this
def isTr:Option (G×List T)->Bool
 | some (.v (.a (.bl true)),[])=>true
 | _=>false
theorem zGl:∀ {x:Option (G×List T)},isTr x=true->x=some (.v (.a (.bl true)),[])
 | some (.v (.a (.bl true)),[]),_=>rfl
noncomputable def ringF (row:List Nat) (m:Nat):List (Nat×Nat)->List Nat->List Nat
 | [],f=>f
 | (p,k)::r,f=>ringF row m r (f.set p (row.getD ((k+1) % m) 0))
def ringOf (n:Nat) (row:List Nat):List Nat:=ringF row n row.zipIdx (Ah n 0)
def isTb (n:Nat) (t:List Nat):Bool:=t.length == n && (t.all fun k=>decide (k < n)) && ndB t
theorem zIz:∀ {t:List Nat},ndB t=true->t.Nodup
 | [],_=>IJ
 | k::r,h=>by
  simp only[ndB,An,Bool.not_eq_true']at h
  refine Bq.mpr ⟨fun hm=>?_,zIz h.2⟩
  have:r.contains k=true:=by simpa using hm
  rw[h.1]at this; cases this
theorem zEA(h:isTb n t=true):IsT n t:=by
 simp only[isTb,An,beq_iff_eq,Aw,decide_eq_true_eq]at h
 exact⟨h.1.1,h.1.2,zIz h.2⟩
theorem zKz:([3,4,5].all fun n=>(turns n).all fun row=>isTb n (ringOf n row) || row.getD 0 0 != 0)=true:=by decide +kernel
theorem zKV(t:List Nat):enumT (tvT t)=(t.zipIdx 0).map fun q=>.t [iT (q.2:Int),iT (q.1:Int)]:=by
 unfold enumT
 simp[List.zipIdx_map,Gx]
theorem zJR:∀ (m:Nat) (ls fs:List Nat) (a b n:Int) (o4 o5 o6:Option G) (fuel:Nat),ls.length=m->m < fuel->ls.length+fs.length<=5->∃ fs' a' b',(fs'.Perm (fs++ls)/\(fs≠[]->fs'.getD 0 0=fs.getD 0 0)) /\
  dWhile zB5 zDE fuel [some (.l [iT a,iT b]),some (.v (iT n)),some (.l (tvT ls)),some (.l (tvT fs)),o4,o5,o6]=some (.nx [some (.l [iT a',iT b']),some (.v (iT n)),some (.l []),some (.l (tvT fs')),o4,o5,o6]):=by
 intro m
 induction m with
 | zero =>
  intro ls fs a b n o4 o5 o6 fuel hl hf h5
  obtain rfl:ls=[]:=GZ.mp hl
  obtain⟨f,rfl⟩:∃ f,fuel=f+1:=⟨fuel - 1,by lia⟩
  exact⟨fs,a,b,⟨by simp,fun _=>rfl⟩,by rw[zAd]; simp[zB5]⟩
 | succ m ih =>
  intro ls fs a b n o4 o5 o6 fuel hl hf h5
  obtain⟨f,rfl⟩:∃ f,fuel=f+1:=⟨fuel - 1,by lia⟩
  obtain⟨r,a',b',hr,e⟩:=zAt a b ls.length (by lia) (by lia)
  obtain⟨z,hz⟩:∃ z,ls[r]?=some z:=⟨ls[r],by simp[hr]⟩
  obtain⟨fs',a2,b2,⟨hp,hh⟩,e2⟩:=ih (ls.eraseIdx r) (fs++[z]) a' b' n o4 o5 o6 f (by rw[GB hr]; lia) (by lia) (by rw[GB hr]; simp; lia)
  refine⟨fs',a2,b2,⟨hp.trans (zHh hz),fun h0=>?_⟩,?_⟩
  ·rw[hh (by simp)]
   cases fs with
   | nil=>exact absurd rfl h0
   | cons x r=>rfl
  rw[← e2,zAd]
  have hpos:(0:Int) < ls.length:=by lia
  have hb:inR 9223372036854775807 (r:Int)=true:=zCC (by lia)
  have g1:ls.length<=AC:=zAC (by lia)
  have g2:fs.length<=AC:=zAC (by lia)
  have g3:fs.length < AC:=zGx (by lia)
  simp[zB5,zDE,hpos,e,hb,zFh hr,hz,gd,g1,g2,g3,show 0 < ls.length by lia,zI9]
theorem zLJ(n:Nat)(row:List Nat)(hn:0 < n)(hrow:row.length=n)(b0 b2:Option G):∀ (its:List (Nat×Nat)) (f:List Nat) (o5 o6:Option G),(∀ q∈its,q.1 < f.length/\q.2 < 100)->∃ o5' o6',
  forD (gdTup 2 (gdCons (gdName 5) (gdCons (gdName 6) gdNil))) zD8 (its.map fun q=>.t [iT (q.2:Int),iT (q.1:Int)]) [b0,some (.v (iT (n:Int))),b2,some (.r (tvT row)),some (.l (tvT f)),o5,o6] =
   some (.nx [b0,some (.v (iT (n:Int))),b2,some (.r (tvT row)),some (.l (tvT (ringF row n its f))),o5',o6']):=by
 intro its
 induction its with
 | nil=>intro f o5 o6 _; exact⟨o5,o6,by rw[Aj,zBr]; rfl⟩
 | cons q r ih =>
  intro f o5 o6 h
  obtain⟨p,k⟩:=q
  have h1:=h (p,k) AY
  have hm:(k+1) % n < n:=Nat.mod_lt _ hn
  have h2:atI (tvT row) (((k:Int)+1) % (n:Int))=some (iT ((row.getD ((k+1) % n) 0:Nat):Int)):=by
   have e:((k:Int)+1) % (n:Int)=(((k+1) % n:Nat):Int):=by simp
   rw[e]
   refine zCh ?_
   rw[Cm,BP (by lia)]; rfl
  have hn':(0:Int) < (n:Int):=by lia
  have h3:ixN f.length (p:Int)=some p:=zGW h1.1
  obtain⟨o5',o6',e⟩:=ih (f.set p (row.getD ((k+1) % n) 0)) (some (.v (iT (k:Int)))) (some (.v (iT (p:Int)))) (fun q hq=>by have:=h q (AR _ hq); simpa using this)
  refine⟨o5',o6',?_⟩
  rw[AN,zBu]
  have hs:(tvT f).set p (iT ((row.getD ((k+1) % n) 0:Nat):Int))=tvT (f.set p (row.getD ((k+1) % n) 0)):=by simp[tvT,List.map_set]
  have h3':ixN (tvT f).length (p:Int)=some p:=by simpa using h3
  simp only[ringF]
  rw[← e,← hs]
  generalize row.getD ((k+1) % n) 0=z at *
  generalize tvT row=RR at *
  generalize tvT f=FF at *
  simp only[iT]at h2 ⊢
  simp[zD8,hn',hn,h2,h3']
theorem zMu(a b:Int)(n:Nat)(h3:3<=n)(hn:n<=5):∃ row a' b',IsT n (ringOf n row)/\row.Perm (AF n)/\row.getD 0 0=0/\F_41 [.l [iT a,iT b],.v (iT (n:Int))]=some (.v (tuT (ringOf n row)),[iT a',iT b']):=by
 obtain⟨row,a',b',⟨hp,hh⟩,e⟩:=zJR (n - 1) ((Ec 1 (n - 1))) [0] a b n none none none fuelX (by simp) (by rw[zDO]; lia) (by simp; lia)
 have hpr:row.Perm (AF n):=by
  have e0:[0]++Ec 1 (n - 1)=AF n:=by
   obtain⟨m,rfl⟩:∃ m,n=m+1:=⟨n - 1,by lia⟩
   rw[List.range_eq_range',Hn]
   simp
  rw[← e0]; exact hp
 have hrt:=zDH hpr
 have h0:=hh (by simp)
 have hT:IsT n (ringOf n row):=by
  have:=Aw.mp zKz n (by simp; lia)
  have:=Aw.mp this row (zCt hrt)
  simp only[EL,bne_iff_ne,ne_eq]at this
  rcases this with z | z
  ·exact zEA z
  ·exact absurd h0 z
 refine⟨row,a',b',hT,hpr,h0,?_⟩
 obtain⟨o5,o6,e2⟩:=zLJ n row (by lia) hrt.len (some (.l [iT a',iT b'])) (some (.l [])) row.zipIdx (Ah n 0) none none (fun q hq=>by
  have h:=List.mem_zipIdx hq
  have hl:=hrt.len
  refine⟨?_,by lia⟩
  have:q.1∈row:=by rw[h.2.2]; exact EA _
  simpa using hrt.lt _ this)
 have r1:rngS [.v (.a (.int 1)),.v (.a (.int (n:Int)))]=some (rngT 1 (n - 1)):=zJA 1 n (by lia) (by lia)
 have r2:rngT 1 (n - 1)=tvT (Ec 1 (n - 1)):=by
  simp[rngT,List.range'_eq_map_range,Gx]
 have m1:∀ Γ,mulS Γ (.l [.a (.int 0)]) (.v (.a (.int (n:Int))))=some (.l (tvT (Ah n 0))):=fun Γ=>by
  rw[zLm [.a (.int 0)] n (by simp; lia) (by lia)]
  congr 2
  simp[tvT]
 have g1:(1:Nat)<=AC:=by decide
 have gl:(tvT row).length<=AC:=zAC (by simp[hrt.len]; lia)
 have en:dEnum (jW (jV 3) qQ) [some (.l [iT a',iT b']),some (.v (iT (n:Int))),some (.l []),some (.l (tvT row)),some (.l (tvT (Ah n 0))),none,none]=some (((row.zipIdx 0).map fun q=>.t [iT (q.2:Int),iT (q.1:Int)],[3]),[some (.l [iT a',iT b']),some (.v (iT (n:Int))),some (.l []),some (.l (tvT row)),some (.l (tvT (Ah n 0))),none,none]):=by
  rw[← zKV]
  generalize tvT row=RR at *
  simp[dEnum,gd,gl]
 unfold ringOf
 simp only[tvT,AN,Aj,iT,Int.ofNat_zero]at e
 have e':dWhile zB5 zDE fuelX [some (.l [iT a,iT b]),some (.v (iT (n:Int))),some (.l (tvT (Ec 1 (n - 1)))),some (.l [.a (.int 0)]),none,none,none]=some (.nx [some (.l [iT a',iT b']),some (.v (iT (n:Int))),some (.l []),some (.l (tvT row)),none,none,none]):=e
 rw[← r2]at e'
 generalize (row.zipIdx 0).map (fun q=>T.t [iT (q.2:Int),iT (q.1:Int)])=EE at *
 simp only[tuT]
 generalize tvT (ringF row n row.zipIdx (Ah n 0))=Z at *
 generalize tvT (Ah n 0)=R0 at *
 generalize tvT row=RR at *
 simp only[iT]at *
 simp[F_41,fnD,d_41,r1,gd,g1,e',m1,en,frz1,e2]
noncomputable def rings5:List (List Nat):=[[1,2,3,4,0],[1,2,4,0,3],[1,3,4,2,0],[1,3,0,4,2],[1,4,3,0,2],[1,4,0,2,3],[2,3,1,4,0],[2,4,1,0,3],[2,4,3,1,0],[2,0,3,4,1],[2,3,4,0,1],[2,0,4,1,3],[3,2,4,1,0],[3,4,0,1,2],[3,4,1,2,0],[3,0,4,2,1],[3,2,0,4,1],[3,0,1,4,2],[4,2,3,0,1],[4,3,0,2,1],[4,3,1,0,2],[4,0,3,1,2],[4,2,0,1,3],[4,0,1,2,3]]
noncomputable def invs:List Nat->Nat
 | []=>0
 | k::r=>(r.filter fun x=>decide (x < k)).length+invs r
def evB (t:List Nat):Bool:=invs t % 2 == 0
noncomputable def natsT':List T->Option (List Nat)
 | []=>some []
 | .a (.int n)::r=>if 0<=n then (natsT' r).map fun ks=>n.toNat::ks else none
 | _=>none
theorem natsT'_eq:∀ {ts:List T} {ks:List Nat},natsT' ts=some ks->ts=tvT ks
 | [],ks,e=>by cases e; rfl
 | t::r,ks,e=>by
  unfold natsT' at e
  split at e
  ·rename_i h; cases h
  ·rename_i n r' h
   cases h
   split at e
   ·rename_i h0
    obtain⟨ms,e1,e⟩:=zAA e
    subst e
    rw[natsT'_eq e1]
    simp[tvT]; lia
   ·cases e
  ·cases e
def apO (r:List Nat):Option (List Nat×List Nat):=match F_15 [.v (tuT r)] with
 | some (.v (.t [.t as,.t bs]),[])=>(natsT' as).bind fun a=>(natsT' bs).map fun b=>(a,b)
 | _=>none
def apL (r:List Nat):List Nat×List Nat:=(apO r).getD ([],[])
theorem zOy(h:apO r=some p):F_15 [.v (tuT r)]=some (.v (.t [tuT p.1,tuT p.2]),[]):=by
 unfold apO at h
 split at h
 ·rename_i as bs e
  obtain⟨a,e1,h⟩:=bind_some h
  obtain⟨b,e2,h⟩:=zAA h
  subst h
  rw[e,natsT'_eq e1,natsT'_eq e2]
 ·cases h
def chkA (r:List Nat):Bool:=match apO r with
 | some (a,b)=>rings5.contains a && rings5.contains b && (thenL (thenL a b) (thenL (backL a) (backL b)) == r)
 | none=>false
theorem allA5:rings5.all chkA=true:=by decide +kernel
theorem allB5:(rings5.all fun r=>rings5.contains (backL r) && isTb 5 r && evB r && isTr (F_37 [.v (tuT r)]))=true:=by decide +kernel
theorem allR5:((turns 5).all fun row=>row.getD 0 0 != 0 || rings5.contains (ringOf 5 row))=true:=by decide +kernel
theorem allC5:((turns 5).all fun t=>!evB t || rings5.all fun r=>evB (thenL t r))=true:=by decide +kernel
structure Rg(r:List Nat):Prop where
 mem:r∈rings5
theorem Rg.facts(h:Rg r):Rg (backL r)/\IsT 5 r/\evB r=true/\F_37 [.v (tuT r)]=some (.v (.a (.bl true)),[]):=by
 have:=Aw.mp allB5 r h.mem
 simp only[An]at this
 exact⟨⟨by simpa using this.1.1.1⟩,zEA this.1.1.2,this.1.2,zGl this.2⟩
theorem Rg.isT(h:Rg r):IsT 5 r:=h.facts.2.1
theorem Rg.back(h:Rg r):Rg (backL r):=h.facts.1
theorem Rg.ap(h:Rg r):F_15 [.v (tuT r)]=some (.v (.t [tuT (apL r).1,tuT (apL r).2]),[])/\Rg (apL r).1/\Rg (apL r).2/\thenL (thenL (apL r).1 (apL r).2) (thenL (backL (apL r).1) (backL (apL r).2))=r:=by
 have:=Aw.mp allA5 r h.mem
 unfold chkA at this
 unfold apL
 split at this
 ·rename_i a b e
  simp only[An]at this
  rw[e,FJ]
  exact⟨zOy e,⟨by simpa using this.1.1⟩,⟨by simpa using this.1.2⟩,by simpa using this.2⟩
 ·cases this
structure Ev(t:List Nat):Prop where
 isT:IsT 5 t
 ev:evB t=true
theorem Rg.even(h:Rg r):Ev r:=⟨h.isT,h.facts.2.2.1⟩
theorem zDW:Ev (AF 5):=⟨zAX 5,by decide⟩
theorem Ev.then(h:Ev t)(hr:Rg r):Ev (thenL t r):=by
 refine⟨zAM h.isT hr.isT,?_⟩
 have:=Aw.mp allC5 t (zCt h.isT)
 rw[h.ev]at this
 exact Aw.mp (by simpa using this) r hr.mem
theorem zC6{α:Type}{a b:List α}(hl:a.length=b.length)(h:∀ i,i < a.length->a[i]?=b[i]?):a=b:=by
 apply Hj
 intro i
 by_cases hi:i < a.length
 ·exact h i hi
 ·rw[BH (by lia),BH (by lia)]
theorem zAj(a b:List Nat):(thenL a b).length=a.length:=by simp[thenL]
theorem zAP(ha:IsT n a)(hb:IsT n b)(hc:IsT n c):thenL (thenL a b) c=thenL a (thenL b c):=by
 refine zC6 (by simp[zAj]) fun i hi=>?_
 have hi':i < n:=by rw[zAj,zAj,ha.len]at hi; exact hi
 obtain⟨k,e1,k1⟩:=ha.get hi'
 obtain⟨m,e2,m1⟩:=hb.get k1
 obtain⟨z,e3,z1⟩:=hc.get m1
 rw[zBA (zBA e1 e2) e3,zBA e1 (zBA e2 e3)]
theorem zCN(h:i < n):(AF n)[i]?=some i:=by simp[h]
theorem zAW(ha:IsT n a):thenL a (AF n)=a:=by
 refine zC6 (by simp[zAj]) fun i hi=>?_
 have hi':i < n:=by rw[zAj,ha.len]at hi; exact hi
 obtain⟨k,e1,k1⟩:=ha.get hi'
 rw[zBA e1 (zCN k1),e1]
theorem zAc(ha:IsT n a):thenL (AF n) a=a:=by
 refine zC6 (by simp[zAj,ha.len]) fun i hi=>?_
 have hi':i < n:=by rw[zAj,List.length_range]at hi; exact hi
 obtain⟨k,e1,k1⟩:=ha.get hi'
 rw[zBA (zCN hi') e1,e1]
theorem zBO(ha:IsT n a):thenL a (backL a)=AF n:=by
 refine zC6 (by simp[zAj,ha.len]) fun i hi=>?_
 have hi':i < n:=by rw[zAj,ha.len]at hi; exact hi
 obtain⟨k,e1,k1⟩:=ha.get hi'
 rw[zBA e1 (zCW (by rw[ha.len]; exact k1)),zBY ha e1,zCN hi']
theorem zPO(ha:IsT n a)(hi:i < n):a[a.idxOf i]?=some i:=by
 have hm:=ha.mem hi
 have hlt:a.idxOf i < a.length:=CL.mpr hm
 rw[BP hlt]
 simp
theorem zBg(ha:IsT n a):thenL (backL a) a=AF n:=by
 refine zC6 (by simp[zAj,backL,ha.len]) fun i hi=>?_
 have hi':i < n:=by rw[zAj,(zAb ha).len]at hi; exact hi
 rw[zBA (zCW (by rw[ha.len]; exact hi')) (zPO ha hi'),zCN hi']
theorem zDx(ha:IsT n a):backL (backL a)=a:=by
 have hb:=zAb ha
 refine zC6 (by rw[(zAb hb).len,ha.len]) fun i hi=>?_
 have hi':i < n:=by rw[(zAb hb).len]at hi; exact hi
 obtain⟨k,e1,k1⟩:=ha.get hi'
 rw[zCW (by rw[hb.len]; exact hi'),e1]
 have:(backL a)[k]?=some i:=by rw[zCW (by rw[ha.len]; exact k1),zBY ha e1]
 rw[zBY hb this]
theorem zCO:∀ {st:List Stp} {c d:List Nat},IsT n c->IsT n d->StOk n qs st->doneL as (thenL c d) st=thenL c (doneL as d st)
 | [],_,_,_,_,_=>rfl
 | s::r,c,d,hc,hd,hs=>by
  have hp:=zBC (as:=as) (hs s AY)
  simp only[doneL]
  rw[zAP hc hd hp]
  exact zCO hc (zAM hd hp) fun x hx=>hs x (AR _ hx)
theorem zCR(hs:StOk n qs (s::r)):doneL as (AF n) (s::r)=thenL (pickT as s) (doneL as (AF n) r):=by
 have hp:=zBC (as:=as) (hs s AY)
 have hr:StOk n qs r:=fun x hx=>hs x (AR _ hx)
 show doneL as (thenL (AF n) (pickT as s)) r=_
 rw[zAc hp]
 conv=>lhs; rw[← zAW hp]
 exact zCO hp (zAX n) hr
theorem zEY(as:List Nat):∀ (c:List Nat) (st:List Stp) (s:Stp),doneL as c (st++[s])=thenL (doneL as c st) (pickT as s)
 | _,[],_=>rfl
 | c,x::r,s=>zEY as (thenL c (pickT as x)) r s
def bkS (s:Stp):Stp:=(s.1,backL s.2.1,backL s.2.2)
theorem zNd(as:List Nat)(s:Stp):pickT as (bkS s)=backL (pickT as s):=by
 unfold pickT bkS
 dsimp only
 split <;> rfl
theorem zIc(hs:StOk n qs st):StOk n qs (st.reverse.map bkS):=fun x hx=>by
 obtain⟨s,h,rfl⟩:=BQ.mp hx
 have:=hs s (Ht.mp h)
 exact⟨this.1,zAb this.2.1,zAb this.2.2⟩
theorem zGV:∀ {st:List Stp},StOk n qs st->thenL (doneL as (AF n) st) (doneL as (AF n) (st.reverse.map bkS))=AF n/\thenL (doneL as (AF n) (st.reverse.map bkS)) (doneL as (AF n) st)=AF n
 | [],_=>by
  have:=zAW (zAX n)
  exact⟨this,this⟩
 | s::r,hs=>by
  have hr:StOk n qs r:=fun x hx=>hs x (AR _ hx)
  obtain⟨i1,i2⟩:=zGV (as:=as) hr
  have hp:=zBC (as:=as) (hs s AY)
  have hd:=zA2 (as:=as) (zAX n) hr
  have hb:=zA2 (as:=as) (zAX n) (zIc hr)
  have hbp:=zAb hp
  have e:doneL as (AF n) ((s::r).reverse.map bkS)=thenL (doneL as (AF n) (r.reverse.map bkS)) (backL (pickT as s)):=by
   rw[C8,By,AN,Aj,zEY,zNd]
  rw[e,zCR hs]
  generalize doneL as (AF n) r=d at *
  generalize doneL as (AF n) (r.reverse.map bkS)=b at *
  generalize pickT as s=p at *
  constructor
  ·rw[zAP hp hd (zAM hb hbp),← zAP hd hb hbp,i1,zAc hbp,zBO hp]
  ·rw[zAP hb hbp (zAM hp hd),← zAP hbp hp hd,zBg hp,zAc hd,i2]
def lastF (st:List Stp) (t:List Nat):List Stp:=match st.getLast? with
 | some s=>st.dropLast++[(s.1,thenL s.2.1 t,thenL s.2.2 t)]
 | none=>[]
def Sy.steps:Sy->List Nat->List Stp
 | .yes,r=>[(0,r,r)]
 | .no,_=>[(0,AF 5,AF 5)]
 | .ask q,r=>[(q,r,AF 5)]
 | .nt a,r=>lastF (a.steps (backL r)) r
 | .an a b,r=>a.steps (apL r).1++b.steps (apL r).2++a.steps (backL (apL r).1)++b.steps (backL (apL r).2)
 | _,_=>[]
noncomputable def Sy.plain:Sy->Prop
 | .yes=>True
 | .no=>True
 | .ask _=>True
 | .nt a=>a.plain
 | .an a b=>a.plain/\b.plain
 | _=>False
theorem zAF:∀ s:Sy,s.spell.plain
 | .yes=>trivial
 | .no=>trivial
 | .ask _=>trivial
 | .nt a=>zAF a
 | .an a b=>⟨zAF a,zAF b⟩
 | .or a b=>⟨zAF a,zAF b⟩
 | .ei a b=>⟨⟨zAF a,zAF b⟩,⟨zAF a,zAF b⟩⟩
 | .mo a b c=>⟨⟨zAF a,zAF b⟩,⟨zAF c,⟨zAF a,zAF b⟩⟩⟩
theorem zAT:∀ s:Sy,s.spell.wt=s.wt
 | .yes=>rfl
 | .no=>rfl
 | .ask _=>rfl
 | .nt a=>by have:=zAT a; simp only[Sy.spell,Sy.wt]; try lia
 | .an a b=>by have:=zAT a; have:=zAT b; simp only[Sy.spell,Sy.wt]; try lia
 | .or a b=>by have:=zAT a; have:=zAT b; simp only[Sy.spell,orS,Sy.wt]; try lia
 | .ei a b=>by have:=zAT a; have:=zAT b; simp only[Sy.spell,orS,Sy.wt]; try lia
 | .mo a b c=>by have:=zAT a; have:=zAT b; have:=zAT c; simp only[Sy.spell,orS,Sy.wt]; try lia
theorem zAJ:∀ s:Sy,s.qs q->s.spell.qs q
 | .yes,_=>trivial
 | .no,_=>trivial
 | .ask _,h=>h
 | .nt a,h=>zAJ a h
 | .an a b,h=>⟨zAJ a h.1,zAJ b h.2⟩
 | .or a b,h=>⟨zAJ a h.1,zAJ b h.2⟩
 | .ei a b,h=>⟨⟨zAJ a h.1,zAJ b h.2⟩,⟨zAJ a h.1,zAJ b h.2⟩⟩
 | .mo a b c,h=>⟨⟨zAJ a h.1,zAJ b h.2.1⟩,⟨zAJ c h.2.2,⟨zAJ a h.1,zAJ b h.2.1⟩⟩⟩
theorem zBt:(lastF st t).length=st.length:=by
 unfold lastF
 cases h:st.getLast? with
 | none=>rw[Ct.mp h]; try rfl
 | some s =>
  have:st≠[]:=fun z=>by rw[z]at h; cases h
  have:=Cv.mpr this
  simp only[A4,Gy,ES]
  lia
theorem zAY:∀ (s:Sy) (r:List Nat),s.plain->(s.steps r).length=s.wt
 | .yes,_,_=>rfl
 | .no,_,_=>rfl
 | .ask _,_,_=>rfl
 | .nt a,r,h=>by simp only[Sy.steps,zBt,Sy.wt]; exact zAY a _ h
 | .an a b,r,h=>by
  have h1:=fun r=>zAY a r h.1
  have h2:=fun r=>zAY b r h.2
  simp only[Sy.steps,A4,h1,h2,Sy.wt]
  lia
theorem zAp:∀ s:Sy,1<=s.wt
 | .yes=>AK _
 | .no=>AK _
 | .ask _=>AK _
 | .nt a=>by simp only[Sy.wt]; exact zAp a
 | .an a b=>by have:=zAp a; simp only[Sy.wt]; lia
 | .or a b=>by have:=zAp a; simp only[Sy.wt]; lia
 | .ei a b=>by have:=zAp a; simp only[Sy.wt]; lia
 | .mo a b c=>by have:=zAp a; simp only[Sy.wt]; lia
def StE (q:Nat) (st:List Stp):Prop:=∀ s∈st,s.1 < q/\Ev s.2.1/\Ev s.2.2
theorem StE.ok(h:StE q st):StOk 5 q st:=fun s hs=>⟨(h s hs).1,(h s hs).2.1.isT,(h s hs).2.2.isT⟩
theorem StE.app(h:StE q a)(h':StE q b):StE q (a++b):=fun s hs=>(CD.mp hs).elim (h s) (h' s)
theorem zNI(h:StE q st)(ht:Rg t):StE q (lastF st t):=by
 unfold lastF
 cases e:st.getLast? with
 | none=>exact fun s hs=>nomatch hs
 | some s =>
  have hs:=h s (Co e)
  refine StE.app (fun x hx=>h x (Ed _ hx)) fun x hx=>?_
  rw[AI.mp hx]
  exact⟨hs.1,hs.2.1.then ht,hs.2.2.then ht⟩
theorem zAe(hq:0 < q):∀ (s:Sy) (r:List Nat),s.plain->s.qs q->Rg r->StE q (s.steps r)
 | .yes,r,_,_,hr=>fun x hx=>by rw[AI.mp hx]; exact⟨hq,hr.even,hr.even⟩
 | .no,r,_,_,hr=>fun x hx=>by rw[AI.mp hx]; exact⟨hq,zDW,zDW⟩
 | .ask k,r,_,h,hr=>fun x hx=>by rw[AI.mp hx]; exact⟨h,hr.even,zDW⟩
 | .nt a,r,hp,h,hr=>zNI (zAe hq a _ hp h hr.back) hr
 | .an a b,r,hp,h,hr=>by
  obtain⟨_,h1,h2,_⟩:=hr.ap
  exact (((zAe hq a _ hp.1 h.1 h1).app (zAe hq b _ hp.2 h.2 h2)).app (zAe hq a _ hp.1 h.1 h1.back)).app (zAe hq b _ hp.2 h.2 h2.back)
noncomputable def Sy.so (as:List Nat):Sy->Bool
 | .yes=>true
 | .no=>false
 | .ask q=>as.getD q 0 == 1
 | .nt a=>!a.so as
 | .an a b=>a.so as && b.so as
 | .or a b=>a.so as || b.so as
 | .ei a b=>a.so as != b.so as
 | .mo a b c=>(a.so as && b.so as) || (c.so as && (a.so as || b.so as))
theorem zAh(as:List Nat):∀ s:Sy,s.spell.so as=s.so as
 | .yes=>rfl
 | .no=>rfl
 | .ask _=>rfl
 | .nt a=>by simp only[Sy.spell,Sy.so,zAh as a]
 | .an a b=>by simp only[Sy.spell,Sy.so,zAh as a,zAh as b]
 | .or a b=>by simp only[Sy.spell,orS,Sy.so,zAh as a,zAh as b]; cases a.so as <;> cases b.so as <;> rfl
 | .ei a b=>by simp only[Sy.spell,orS,Sy.so,zAh as a,zAh as b]; cases a.so as <;> cases b.so as <;> rfl
 | .mo a b c=>by simp only[Sy.spell,orS,Sy.so,zAh as a,zAh as b,zAh as c]; cases a.so as <;> cases b.so as <;> cases c.so as <;> rfl
theorem zBi(as:List Nat):∀ (a b:List Stp) (c:List Nat),doneL as c (a++b)=doneL as (doneL as c a) b
 | [],_,_=>rfl
 | s::a,b,c=>zBi as a b _
theorem zDQ(ha:StOk 5 q a)(hb:StOk 5 q b):doneL as (AF 5) (a++b)=thenL (doneL as (AF 5) a) (doneL as (AF 5) b):=by
 have h1:=zA2 (as:=as) (zAX 5) ha
 rw[zBi]
 conv=>lhs; rw[← zAW h1]
 exact zCO h1 (zAX 5) hb
theorem zJf(h:StOk 5 q st)(hn:st≠[])(ht:IsT 5 t):doneL as (AF 5) (lastF st t)=thenL (doneL as (AF 5) st) t:=by
 unfold lastF
 cases e:st.getLast? with
 | none=>exact absurd (Ct.mp e) hn
 | some s =>
  have hs:=h s (Co e)
  have es:st=st.dropLast++[s]:=by
   have:=Fp hn
   rw[Fj hn]at e
   rw[← Au e]; exact this.symm
  have hd:StOk 5 q st.dropLast:=fun x hx=>h x (Ed _ hx)
  have h1:=zA2 (as:=as) (zAX 5) hd
  have hp:=zBC (as:=as) hs
  show doneL as (AF 5) (st.dropLast++[(s.1,thenL s.2.1 t,thenL s.2.2 t)])=_
  conv=>rhs; rw[es]
  rw[zBi,zBi]
  simp only[doneL]
  have ep:pickT as (s.1,thenL s.2.1 t,thenL s.2.2 t)=thenL (pickT as s) t:=by
   unfold pickT
   dsimp only
   split <;> rfl
  rw[ep,zAP h1 hp ht]
theorem zA3(hq:0 < q)(as:List Nat):∀ (s:Sy) (r:List Nat),s.plain->s.qs q->Rg r->doneL as (AF 5) (s.steps r)=cond (s.so as) r (AF 5)
 | .yes,r,_,_,hr=>by
  have hp:pickT as (0,r,r)=r:=by unfold pickT; dsimp only; split <;> rfl
  simp only[Sy.steps,doneL,hp,Sy.so,cond_true]
  exact zAc hr.isT
 | .no,r,_,_,hr=>by
  have hp:pickT as (0,AF 5,AF 5)=AF 5:=by unfold pickT; dsimp only; split <;> rfl
  simp only[Sy.steps,doneL,hp,Sy.so,cond_false]
  exact zAc (zAX 5)
 | .ask k,r,_,_,hr=>by
  simp only[Sy.steps,doneL,Sy.so]
  unfold pickT
  dsimp only
  by_cases h:as.getD k 0=1
  ·rw[if_pos h,show (as.getD k 0 == 1)=true by rw[h]; rfl,cond_true]
   exact zAc hr.isT
  ·rw[if_neg h,show (as.getD k 0 == 1)=false by simpa using h,cond_false]
   exact zAc (zAX 5)
 | .nt a,r,hp,h,hr=>by
  have he:=(zAe hq a _ hp h hr.back).ok
  have hn:a.steps (backL r)≠[]:=fun z=>by
   have:=zAY a (backL r) hp
   rw[z]at this
   have:=zAp a
   simp at *
   lia
  simp only[Sy.steps,Sy.so]
  rw[zJf he hn hr.isT,zA3 hq as a _ hp h hr.back]
  cases a.so as with
  | true=>simp only[cond_true,Ie,cond_false]; exact zBg hr.isT
  | false=>simp only[cond_false,Bool.not_false,cond_true]; exact zAc hr.isT
 | .an a b,r,hp,h,hr=>by
  obtain⟨_,r1,r2,er⟩:=hr.ap
  have a1:=(zAe hq a _ hp.1 h.1 r1).ok
  have b1:=(zAe hq b _ hp.2 h.2 r2).ok
  have a2:=(zAe hq a _ hp.1 h.1 r1.back).ok
  have b2:=(zAe hq b _ hp.2 h.2 r2.back).ok
  have app:∀ {x y:List Stp},StOk 5 q x->StOk 5 q y->StOk 5 q (x++y):=fun hx hy s hs=>(CD.mp hs).elim (hx s) (hy s)
  simp only[Sy.steps,Sy.so]
  rw[zDQ (app (app a1 b1) a2) b2,zDQ (app a1 b1) a2,zDQ a1 b1,zA3 hq as a _ hp.1 h.1 r1,zA3 hq as b _ hp.2 h.2 r2,zA3 hq as a _ hp.1 h.1 r1.back,zA3 hq as b _ hp.2 h.2 r2.back]
  have i1:=r1.isT
  have i2:=r2.isT
  have j1:=r1.back.isT
  have j2:=r2.back.isT
  have s5:=zAX 5
  cases a.so as with
  | true =>
   cases b.so as with
   | true =>
    simp only[cond_true,GR]
    rw[zAP (zAM i1 i2) j1 j2]
    exact er
   | false =>
    simp only[cond_true,cond_false,IE]
    rw[zAW i1,zAW (zAM i1 j1),zBO i1]
  | false =>
   cases b.so as with
   | true =>
    simp only[cond_true,cond_false,IC]
    rw[zAc i2,zAW i2,zBO i2]
   | false =>
    simp only[cond_false,GR]
    rw[zAW s5,zAW s5,zAW s5]
theorem zCI(bs:List Bool):toDs (bs.map fun b=>T.a (.bl b))=some (bs.map Gj)/\BD (bs.map Gj)=true/\gCount (bs.map Gj) (.bool true)=some ((bs.count true:Nat):Int):=by
 refine⟨?_,?_,?_⟩
 ·induction bs with
  | nil=>rfl
  | cons b r ih=>simp only[AN,toDs,ih]; rfl
 ·induction bs with
  | nil=>rfl
  | cons b r ih=>simp only[AN,BD,ih]; rfl
 ·unfold gCount
  congr 2
  induction bs with
  | nil=>rfl
  | cons b r ih =>
   rw[AN,Fc,ih,List.count_cons]
   cases b <;> rfl
theorem zKy(ha:AnsOk m as)(s:Sy)(hq:s.qs m):F_26 [.v (tuT as),.v s.t,.r (s.kids.map fun k=>T.a (.bl (k.so as)))]=some (.v (.a (.bl (s.so as))),[]):=by
 cases s with
 | ask k =>
  have h0:=zEE ha (show k < m from hq)
  have h2:=zCh h0
  have e1:(decide (((as.getD k 0:Nat):Int)=1))=(as.getD k 0 == 1):=by
   by_cases c:as.getD k 0=1
   ·rw[c]; rfl
   ·rw[decide_eq_false (by lia),show (as.getD k 0 == 1)=false by simpa using c]
  simp only[Sy.so,Sy.kids,Aj]
  generalize as.getD k 0=x at *
  unfold tuT
  generalize tvT as=AS at *
  simp only[iT]at h2
  simp[F_26,fnD,d_26,Sy.t,h2,e1]
 | yes=>generalize tuT as=AS; simp[F_26,fnD,d_26,Sy.t,Sy.so,Sy.kids]
 | no=>generalize tuT as=AS; simp[F_26,fnD,d_26,Sy.t,Sy.so,Sy.kids]
 | nt a=>generalize tuT as=AS; simp[F_26,fnD,d_26,Sy.t,Sy.so,Sy.kids]
 | an a b=>generalize tuT as=AS; cases ea:a.so as <;> cases eb:b.so as <;> simp[F_26,fnD,d_26,Sy.t,Sy.so,Sy.kids,ea,eb]
 | or a b=>generalize tuT as=AS; cases ea:a.so as <;> cases eb:b.so as <;> simp[F_26,fnD,d_26,Sy.t,Sy.so,Sy.kids,ea,eb]
 | ei a b=>generalize tuT as=AS; cases ea:a.so as <;> cases eb:b.so as <;> simp[F_26,fnD,d_26,Sy.t,Sy.so,Sy.kids,ea,eb]
 | mo a b c =>
  obtain⟨h1,h2,h3⟩:=zCI [a.so as,b.so as,c.so as]
  have e1:toD (T.a (V.bl true))=some (.bool true):=rfl
  have e2:B4 (.bool true)=true/\Cn (.bool true)<=100:=⟨rfl,by decide⟩
  have hb:decide ((2:Int)<=(([a.so as,b.so as,c.so as].count true:Nat):Int))=(Sy.mo a b c).so as:=by
   simp only[Sy.so]
   cases a.so as <;> cases b.so as <;> cases c.so as <;> rfl
  generalize ([a.so as,b.so as,c.so as].count true:Nat)=C at *
  generalize (Sy.mo a b c).so as=B at *
  generalize tuT as=AS at *
  simp only[AN,Aj]at h1 h2 h3
  simp[F_26,fnD,d_26,Sy.t,Sy.kids,h1,h2,h3,e1,e2,hb]
theorem Sy.plT:∀ s:Sy,s.t.pl=true
 | .yes=>by simp[Sy.t,pl_t,zAu,zBD,pl_a]
 | .no=>by simp[Sy.t,pl_t,zAu,zBD,pl_a]
 | .ask _=>by simp[Sy.t,pl_t,zAu,zBD,pl_a]
 | .nt a=>by simp[Sy.t,pl_t,zAu,zBD,pl_a,a.plT]
 | .an a b=>by simp[Sy.t,pl_t,zAu,zBD,pl_a,a.plT,b.plT]
 | .or a b=>by simp[Sy.t,pl_t,zAu,zBD,pl_a,a.plT,b.plT]
 | .ei a b=>by simp[Sy.t,pl_t,zAu,zBD,pl_a,a.plT,b.plT]
 | .mo a b c=>by simp[Sy.t,pl_t,zAu,zBD,pl_a,a.plT,b.plT,c.plT]
theorem zQ3(as:List Nat):(tuT as).pl=true:=by
 rw[pl_t]
 exact zEM fun t h=>by obtain⟨k,_,rfl⟩:=BQ.mp h; exact pl_a
theorem zOp(ha:AnsOk m as)(s:Sy)(hq:s.qs m):lamF zBQ (tuT as) [.v s.t,.r (s.kids.map fun k=>T.a (.bl (k.so as)))]=some (.bl (s.so as)):=by
 have e:=zKy ha s hq
 have p2:T.pls (s.kids.map fun k=>T.a (.bl (k.so as)))=true:=zEM fun t h=>by obtain⟨k,_,rfl⟩:=BQ.mp h; exact pl_a
 have d:zBQ [some (.v s.t),some (.r (s.kids.map fun k=>T.a (.bl (k.so as)))),some (.v (tuT as))]=some (.v (.a (.bl (s.so as))),[some (.v s.t),some (.r (s.kids.map fun k=>T.a (.bl (k.so as)))),some (.v (tuT as))]):=by
  generalize (s.kids.map fun k=>T.a (.bl (k.so as)))=KS at *
  generalize s.so as=B at *
  generalize tuT as=AS at *
  generalize s.t=ST at *
  simp[zBQ,e]
 unfold lamF
 simp only[G.pl,s.plT,p2,zQ3,GR,if_true]
 rw[d]
theorem Sy.rs_putP(f:Sy->T)(h:∀ s:Sy,s.qs m->PP s.t (s.kids.map f) (f s)):∀ s:Sy,s.qs m->(s.rs f).PutP PP
 | .yes,z=>zAZ.mpr ⟨h .yes z,zAQ⟩
 | .no,z=>zAZ.mpr ⟨h .no z,zAQ⟩
 | .ask q,z=>zAZ.mpr ⟨h (.ask q) z,zAQ⟩
 | .nt a,z=>zAZ.mpr ⟨by simpa [Sy.kids,Sy.rs_v] using h (.nt a) z,zAG.mpr ⟨a.rs_putP f h z,zAQ⟩⟩
 | .an a b,z=>zAZ.mpr ⟨by simpa [Sy.kids,Sy.rs_v] using h (.an a b) z,zAG.mpr ⟨a.rs_putP f h z.1,zAG.mpr ⟨b.rs_putP f h z.2,zAQ⟩⟩⟩
 | .or a b,z=>zAZ.mpr ⟨by simpa [Sy.kids,Sy.rs_v] using h (.or a b) z,zAG.mpr ⟨a.rs_putP f h z.1,zAG.mpr ⟨b.rs_putP f h z.2,zAQ⟩⟩⟩
 | .ei a b,z=>zAZ.mpr ⟨by simpa [Sy.kids,Sy.rs_v] using h (.ei a b) z,zAG.mpr ⟨a.rs_putP f h z.1,zAG.mpr ⟨b.rs_putP f h z.2,zAQ⟩⟩⟩
 | .mo a b c,z=>zAZ.mpr ⟨by simpa [Sy.kids,Sy.rs_v] using h (.mo a b c) z,zAG.mpr ⟨a.rs_putP f h z.1,zAG.mpr ⟨b.rs_putP f h z.2.1,zAG.mpr ⟨c.rs_putP f h z.2.2,zAQ⟩⟩⟩⟩
theorem zDj:F_28=fnD none 3 6 (fwDM (fnD none 2 5 (awD tb_1)) tb_1 (dCallM 2 tb_2 L_so zBQ (jW (jV 4) (jW (jV 5) qQ)))):=rfl
theorem zDZ:tb_1.find? (fun q=>decide (q.1=("inner":Str)))=some (("inner":Str),1,F_7):=by rfl
theorem zKW(ha:AnsOk m as)(s:Sy)(hq:s.qs m)(hp:s.parts<=80000):F_27 [.v s.t,.v (tuT as)]=some (.v (.a (.bl (s.so as))),[]):=by
 have:=zA7 zDZ (zNM (tb2:=tb_2) (L:=L_so) (dlx:=zBQ) (ta:=tuT as)) (s.rs fun k=>T.a (.bl (k.so as))) (s.rs_in _) (s.rs_putP _ (fun k hk=>⟨_,rfl,zOp ha k hk⟩) hq) (by rw[Sy.rs_pre]; exact hp)
 rw[← zDj,Sy.rs_e,Sy.rs_v]at this
 have e:F_29 [.v s.t,.v (.m L_so [tuT as])]=some (.v (.a (.bl (s.so as))),[]):=by
  generalize tuT as=AS at *
  generalize s.so as=B at *
  simp[F_29,fnD,d_29,this]
 have d:dHand F_29 L_so [some (.v s.t),some (.v (tuT as))]=some (.v (.a (.bl (s.so as))),[some (.v s.t),some (.v (tuT as))]):=by
  unfold dHand
  dsimp only
  rw[e]
 unfold F_27 fnD
 rw[if_pos (show ([.v s.t,.v (tuT as)]:List G).length=2 from rfl)]
 show (dRet (dHand F_29 L_so) [some (.v s.t),some (.v (tuT as))]).bind _=_
 unfold dRet
 rw[d]
 rfl
theorem zFp(s:Sy):F_18 [.v s.t,.r (s.kids.map fun k=>iT (k.wt:Int))]=some (.v (iT (s.wt:Int)),[]):=by
 have g2:(2:Nat)<=AC:=by decide
 have c2:∀ x:Int,CMul 2 x:=fun x=>.inl ⟨by decide,by decide⟩
 have c8:∀ x:Int,CMul 8 x:=fun x=>.inl ⟨by decide,by decide⟩
 have c12:∀ x:Int,CMul 12 x:=fun x=>.inl ⟨by decide,by decide⟩
 have c4:∀ x:Int,CMul 4 x:=fun x=>.inl ⟨by decide,by decide⟩
 cases s <;> simp[F_18,fnD,d_18,Sy.t,Sy.kids,Sy.wt,gd,g2,inS,atomsOf,flatV,inV,eqV,c2,c4,c8,c12]
theorem zAS:∀ s:Sy,s.spell.down<=7 * s.down
 | .yes=>by simp[Sy.spell,Sy.down]
 | .no=>by simp[Sy.spell,Sy.down]
 | .ask _=>by simp[Sy.spell,Sy.down]
 | .nt a=>by have:=zAS a; simp only[Sy.spell,Sy.down]; lia
 | .an a b=>by have:=zAS a; have:=zAS b; simp only[Sy.spell,Sy.down]; lia
 | .or a b=>by have:=zAS a; have:=zAS b; simp only[Sy.spell,orS,Sy.down]; lia
 | .ei a b=>by have:=zAS a; have:=zAS b; simp only[Sy.spell,orS,Sy.down]; lia
 | .mo a b c=>by have:=zAS a; have:=zAS b; have:=zAS c; simp only[Sy.spell,orS,Sy.down]; lia
theorem zEB:tb_2.find? (fun q=>decide (q.1=("weight_of":Str)))=some (("weight_of":Str),2,F_18):=by rfl
theorem zDs:tb_2.find? (fun q=>decide (q.1=("spelled_of":Str)))=some (("spelled_of":Str),2,F_20):=by rfl
theorem foldM(hg:tb_2.find? (fun q=>decide (q.1=m))=some (m,kb,put))(f:Sy->T)(hf:∀ s:Sy,put [.v s.t,.r (s.kids.map f)]=some (.v (f s),[]))(s:Sy)(hq:s.qs q)(hp:s.parts<=80000):F_29 [.v s.t,.v (.f m)]=some (.v (f s),[]):=by
 have:=zA7 zDZ (zEG (L:=L_so) (dlx:=zBQ) hg) (s.rs f) (s.rs_in _) (s.rs_putP f (m:=q) (fun k _=>hf k) hq) (by rw[Sy.rs_pre]; exact hp)
 rw[← zDj,Sy.rs_e,Sy.rs_v]at this
 generalize f s=V at *
 generalize s.t=ST at *
 simp[F_29,fnD,d_29,this]
theorem zGL(s:Sy)(hq:s.qs q)(h:s.parts<=80000):F_38 [.v s.t]=some (.v (iT (s.wt:Int)),[]):=by
 have:=foldM zEB (fun k=>iT (k.wt:Int)) zFp s hq h
 simp only[iT]at this ⊢
 generalize s.t=ST at *
 simp[F_38,fnD,d_38,this]
theorem zBE(s:Sy)(hq:s.qs q)(h:s.parts<=80000):F_30 [.v s.t]=some (.v s.spell.t,[]):=by
 have:=foldM zDs (fun k=>k.spell.t) zEt s hq h
 generalize s.spell.t=SP at *
 generalize s.t=ST at *
 simp[F_30,fnD,d_30,this]
abbrev danT (n qs:Nat) (st:List Stp):T:=.t [iT (n:Int),iT (qs:Int),.t (st.map stT)]
theorem zA1(n:Nat)(a b:List Nat)(ha:IsT n a)(hb:IsT n b)(hn:n<=5):F_11 [.v (tuT a),.v (tuT b)]=some (.v (tuT (thenL a b)),[]):=by
 have hl:=ha.len
 obtain⟨o',e⟩:=zBV (fun (k:Nat)=>iT (k:Int)) (fun (k:Nat)=>iT (b.getD k 0:Nat)) (de:=zDF) (R:=[some (.v (tuT b))]) a (fun k hk=>by
  obtain⟨m,hm,_⟩:=hb.get (ha.lt k hk)
  have:=zCh hm
  simp only[tvT,iT]at this
  simp[zDF,this,hm]) none
 have g:a.length<=AC:=zAC (by lia)
 simp only[tuT,tvT,iT]at e
 simp[F_11,fnD,d_11,gd,g,e,thenL]
theorem zAk(n:Nat)(t:List Nat)(h:IsT n t)(hn:n<=5):F_12 [.v (tuT t)]=some (.v (tuT (backL t)),[]):=by
 have hl:=h.len
 obtain⟨o',e⟩:=zBV (fun (i:Nat)=>iT (i:Int)) (fun (i:Nat)=>iT (t.idxOf i:Nat)) (de:=zDC) (R:=[some (.v (tuT t))]) (AF n) (fun i hi=>by
  have f1:=zFm (h.mem (show i < n by simpa using hi))
  simp[zDC,zDV t,zGe t,f1,flatV]) none
 have e2:=zD1 n
 simp only[tuT,tvT,iT]at e e2
 simp[F_12,fnD,d_12,hl,zA9 n (by lia),e2,e,backL]
theorem zBj(n:Nat)(hn:n<=5):F_22 [.v (iT (n:Int))]=some (.v (tuT (AF n)),[]):=by
 simp[F_22,fnD,d_22,zA9 n (by lia),zD1]
abbrev pcT (s:Sy) (r:List Nat):T:=.t [s.t,tuT r]
abbrev spT (st:List Stp):T:=.t (st.map stT)
def Sy.prs:Sy->List Nat->Rs
 | .yes,r=>.mk (pcT .yes r) (spT (Sy.steps .yes r)) []
 | .no,r=>.mk (pcT .no r) (spT (Sy.steps .no r)) []
 | .ask q,r=>.mk (pcT (.ask q) r) (spT (Sy.steps (.ask q) r)) []
 | .nt a,r=>.mk (pcT (.nt a) r) (spT (Sy.steps (.nt a) r)) [a.prs (backL r)]
 | .an a b,r=>.mk (pcT (.an a b) r) (spT (Sy.steps (.an a b) r)) [a.prs (apL r).1,b.prs (apL r).2,a.prs (backL (apL r).1),b.prs (backL (apL r).2)]
 | s,r=>.mk (pcT s r) (spT []) []
theorem zG9(s:Sy)(r:List Nat):(s.prs r).e=pcT s r:=by cases s <;> rfl
theorem zFA(s:Sy)(r:List Nat)(h:s.plain):(s.prs r).v=spT (s.steps r):=by
 cases s with
 | or a b=>exact h.elim
 | ei a b=>exact h.elim
 | mo a b c=>exact h.elim
 | _=>rfl
theorem zBW:∀ (s:Sy) (r:List Nat),s.plain->(s.prs r).pre.length<=s.wt * s.down
 | .yes,r,_=>by simp[Sy.prs,zAV,zAK,Sy.wt,Sy.down]
 | .no,r,_=>by simp[Sy.prs,zAV,zAK,Sy.wt,Sy.down]
 | .ask _,r,_=>by simp[Sy.prs,zAV,zAK,Sy.wt,Sy.down]
 | .nt a,r,h=>by
  have h1:=zBW a (backL r) h
  have h2:=zAp a
  have e:a.wt * (1+a.down)=a.wt+a.wt * a.down:=by rw[C6,Dd]
  simp only[Sy.prs,zAV,zAN,zAK,Bp,Bf,Sy.wt,Sy.down]
  lia
 | .an a b,r,h=>by
  have a1:=zBW a (apL r).1 h.1
  have a2:=zBW a (backL (apL r).1) h.1
  have b1:=zBW b (apL r).2 h.2
  have b2:=zBW b (backL (apL r).2) h.2
  have pa:=zAp a
  have ma:a.wt * a.down<=a.wt * max a.down b.down:=BI _ (IK _ _)
  have mb:b.wt * b.down<=b.wt * max a.down b.down:=BI _ (Nat.le_max_right _ _)
  have e:2 * (a.wt+b.wt) * (1+max a.down b.down)=2 * (a.wt+b.wt)+2 * (a.wt * max a.down b.down)+2 * (b.wt * max a.down b.down):=by
   rw[C6,Dd,Iw,Fq,C6,Nat.add_assoc]
   lia
  simp only[Sy.prs,zAV,zAN,zAK,Bp,Bf,A4,Sy.wt,Sy.down]
  lia
theorem zA6(s:Sy)(r:List Nat)(h:s.kids=[]):F_16 [.v (pcT s r)]=some (.l [],[]):=by
 have g1:(0:Nat)<=AC:=by decide
 cases s with
 | yes=>simp[F_16,fnD,d_16,gd,Sy.t]
 | no=>simp[F_16,fnD,d_16,gd,Sy.t]
 | ask q=>simp[F_16,fnD,d_16,gd,Sy.t]
 | _=>cases h
theorem zDl(a:Sy)(r:List Nat)(hr:Rg r):F_16 [.v (pcT (.nt a) r)]=some (.l [pcT a (backL r)],[]):=by
 have e:=zAk 5 r hr.isT (by decide)
 have g1:(1:Nat)<=AC:=by decide
 have g2:(2:Nat)<=AC:=by decide
 unfold pcT
 simp only[Sy.t]
 generalize tuT r=R at *
 generalize tuT (backL r)=BR at *
 generalize a.t=A
 simp[F_16,fnD,d_16,gd,g1,g2,e]
theorem zDr(a b:Sy)(r:List Nat)(hr:Rg r):F_16 [.v (pcT (.an a b) r)]=some (.l [pcT a (apL r).1,pcT b (apL r).2,pcT a (backL (apL r).1),pcT b (backL (apL r).2)],[]):=by
 obtain⟨e0,r1,r2,_⟩:=hr.ap
 have e1:=zAk 5 _ r1.isT (by decide)
 have e2:=zAk 5 _ r2.isT (by decide)
 have g2:(2:Nat)<=AC:=by decide
 have g4:(4:Nat)<=AC:=by decide
 unfold pcT
 simp only[Sy.t]
 generalize tuT r=R at *
 generalize tuT (backL (apL r).1)=B1 at *
 generalize tuT (backL (apL r).2)=B2 at *
 generalize tuT (apL r).1=A1 at *
 generalize tuT (apL r).2=A2 at *
 generalize a.t=A
 generalize b.t=B
 simp[F_16,fnD,d_16,gd,g2,g4,e0,e1,e2]
theorem zCD:∀ (s:Sy) (r:List Nat),s.plain->Rg r->(s.prs r).In F_16
 | .yes,r,_,_=>zAm.mpr ⟨.inr (zA6 .yes r rfl),zAa⟩
 | .no,r,_,_=>zAm.mpr ⟨.inr (zA6 .no r rfl),zAa⟩
 | .ask q,r,_,_=>zAm.mpr ⟨.inr (zA6 (.ask q) r rfl),zAa⟩
 | .nt a,r,h,hr=>zAm.mpr ⟨.inr (by rw[AN,Aj,zG9]; exact zDl a r hr),zAH.mpr ⟨zCD a _ h hr.back,zAa⟩⟩
 | .an a b,r,h,hr=>by
  obtain⟨_,r1,r2,_⟩:=hr.ap
  exact zAm.mpr ⟨.inr (by simp only[AN,Aj,zG9]; exact zDr a b r hr),zAH.mpr ⟨zCD a _ h.1 r1,zAH.mpr ⟨zCD b _ h.2 r2,zAH.mpr ⟨zCD a _ h.1 r1.back,zAH.mpr ⟨zCD b _ h.2 r2.back,zAa⟩⟩⟩⟩⟩
theorem zOD(s:Sy)(r:List Nat)(h:s.kids=[]):F_23 [.v s.t,.v (tuT r)]=some (.v (.t [iT ((match s with | .ask q=>q | _=>0:Nat):Int),(match s with | .no=>tuT (AF 5) | _=>tuT r),(match s with | .yes=>tuT r | _=>tuT (AF 5))]),[]):=by
 have e:=zBj 5 (by decide)
 have e':F_22 [.v (.a (.int 5))]=some (.v (tuT (AF 5)),[]):=e
 have g3:(3:Nat)<=AC:=by decide
 generalize tuT r=R
 generalize tuT (AF 5)=S5 at *
 cases s with
 | yes=>simp[F_23,fnD,d_23,Sy.t,gd,g3]
 | no=>simp[F_23,fnD,d_23,Sy.t,gd,g3,e']
 | ask q=>simp[F_23,fnD,d_23,Sy.t,gd,g3,e']
 | _=>cases h
theorem zDS(s:Sy)(r:List Nat)(h:s.kids=[]):F_24 [.v (pcT s r),.r []]=some (.v (spT (s.steps r)),[]):=by
 have e:=zOD s r h
 have g1:(1:Nat)<=AC:=by decide
 unfold pcT spT
 cases s with
 | yes =>
  simp only[Sy.steps,AN,Aj,stT]
  simp only[Sy.t]at e ⊢
  generalize tuT r=R at *
  generalize tuT (AF 5)=S5 at *
  simp only[iT]at e ⊢
  simp[F_24,fnD,d_24,gd,g1,e]
 | no =>
  simp only[Sy.steps,AN,Aj,stT]
  simp only[Sy.t]at e ⊢
  generalize tuT r=R at *
  generalize tuT (AF 5)=S5 at *
  simp only[iT]at e ⊢
  simp[F_24,fnD,d_24,gd,g1,e]
 | ask q =>
  simp only[Sy.steps,AN,Aj,stT]
  simp only[Sy.t]at e ⊢
  generalize tuT r=R at *
  generalize tuT (AF 5)=S5 at *
  simp only[iT]at e ⊢
  simp[F_24,fnD,d_24,gd,g1,e]
 | _=>cases h
theorem zKf(xs:List T)(h:xs≠[]):cutT xs none (some (-1))=xs.dropLast:=by
 have hl:=Cv.mpr h
 have:HT.sIx xs.length xs.length (some (-1))=xs.length - 1:=by
  show (if (-1:Int) < 0 then ((-1:Int)+(xs.length:Int)).toNat else min (-1:Int).toNat xs.length)=_
  rw[if_pos (by decide)]
  lia
 unfold cutT
 rw[this,HT.sIx_none]
 simp[ET]
theorem zGT(st:List Stp)(t:List Nat)(h:StOk 5 q st)(hn:st≠[])(ht:IsT 5 t)(hl:st.length<=5000):F_21 [.v (spT st),.v (tuT t)]=some (.v (spT (lastF st t)),[]):=by
 unfold lastF
 cases e:st.getLast? with
 | none=>exact absurd (Ct.mp e) hn
 | some s =>
  have hs:=h s (Co e)
  have e1:=zA1 5 s.2.1 t hs.2.1 ht (by decide)
  have e2:=zA1 5 s.2.2 t hs.2.2 ht (by decide)
  have e3:atI (st.map stT) (-1)=some (stT s):=by
   rw[zKC (by simpa using hn),Af,A7,← List.getLast?_eq_getElem?,e]
   rfl
  have e4:cutT (st.map stT) none (some (-1))=st.dropLast.map stT:=by rw[zKf _ (by simpa using hn),List.map_dropLast]
  have g1:(1:Nat)<=AC:=by decide
  have g3:(3:Nat)<=AC:=by decide
  have gl:(st.dropLast.map stT).length+1<=AC:=zAC (by simp; lia)
  unfold spT
  rw[By,AN,Aj]
  simp only[stT]at e3 ⊢
  generalize st.dropLast.map (fun s=>T.t [iT (s.1:Int),tuT s.2.1,tuT s.2.2])=DL at *
  generalize st.map (fun s=>T.t [iT (s.1:Int),tuT s.2.1,tuT s.2.2])=SL at *
  generalize tuT t=TT at *
  generalize tuT (thenL s.2.1 t)=Y1 at *
  generalize tuT (thenL s.2.2 t)=Z1 at *
  generalize tuT s.2.1=Y0 at *
  generalize tuT s.2.2=Z0 at *
  simp only[iT]at e3 ⊢
  simp[F_21,fnD,d_21,gd,g1,g3,gl,e1,e2,e3,e4]
theorem zNS(hq:0 < q)(a:Sy)(r:List Nat)(hp:a.plain)(h:a.qs q)(hw:a.wt<=1000)(hr:Rg r):F_24 [.v (pcT (.nt a) r),.r [spT (a.steps (backL r))]]=some (.v (spT (Sy.steps (.nt a) r)),[]):=by
 have hl:=zAY a (backL r) hp
 have hn:a.steps (backL r)≠[]:=fun z=>by
  rw[z]at hl
  have:=zAp a
  simp at hl
  lia
 have e:=zGT (a.steps (backL r)) r (zAe hq a _ hp h hr.back).ok hn hr.isT (by lia)
 simp only[Sy.steps]
 unfold pcT
 simp only[Sy.t]
 generalize spT (a.steps (backL r))=S1 at *
 generalize spT (lastF (a.steps (backL r)) r)=S2 at *
 generalize tuT r=R at *
 generalize a.t=A
 simp[F_24,fnD,d_24,e]
theorem zNk(a b:Sy)(r:List Nat)(hp:a.plain/\b.plain)(hw:a.wt+b.wt<=1000):F_24 [.v (pcT (.an a b) r),.r [spT (a.steps (apL r).1),spT (b.steps (apL r).2),spT (a.steps (backL (apL r).1)),spT (b.steps (backL (apL r).2))]]=some (.v (spT (Sy.steps (.an a b) r)),[]):=by
 have l1:=zAY a (apL r).1 hp.1
 have l2:=zAY b (apL r).2 hp.2
 have l3:=zAY a (backL (apL r).1) hp.1
 have l4:=zAY b (backL (apL r).2) hp.2
 simp only[Sy.steps]
 unfold pcT spT
 simp only[Sy.t,By]
 have k1:((a.steps (apL r).1).map stT).length=a.wt:=by rw[A7,l1]
 have k2:((b.steps (apL r).2).map stT).length=b.wt:=by rw[A7,l2]
 have k3:((a.steps (backL (apL r).1)).map stT).length=a.wt:=by rw[A7,l3]
 have k4:((b.steps (backL (apL r).2)).map stT).length=b.wt:=by rw[A7,l4]
 generalize (a.steps (apL r).1).map stT=S1 at *
 generalize (b.steps (apL r).2).map stT=S2 at *
 generalize (a.steps (backL (apL r).1)).map stT=S3 at *
 generalize (b.steps (backL (apL r).2)).map stT=S4 at *
 generalize tuT r=R
 generalize a.t=A
 generalize b.t=B
 have g1:S1.length+S2.length<=AC:=zAC (by lia)
 have g2:S1.length+S2.length+S3.length<=AC:=zAC (by lia)
 have g3:S1.length+S2.length+S3.length+S4.length<=AC:=zAC (by lia)
 have g2':S1.length+(S2.length+S3.length)<=AC:=zAC (by lia)
 have g3':S1.length+(S2.length+(S3.length+S4.length))<=AC:=zAC (by lia)
 have g3'':S1.length+(S2.length+S3.length)+S4.length<=AC:=zAC (by lia)
 simp[F_24,fnD,d_24,gd,g1,g2,g3,g2',g3',g3'']
theorem zO6:a.wt<=(Sy.an a b).wt/\b.wt<=(Sy.an a b).wt/\a.wt+b.wt<=(Sy.an a b).wt:=by simp only[Sy.wt]; lia
theorem zBk(hq:0 < q):∀ (s:Sy) (r:List Nat),s.plain->s.qs q->s.wt<=1000->Rg r->(s.prs r).PutP (fun e vs v=>F_24 [.v e,.r vs]=some (.v v,[]))
 | .yes,r,_,_,_,_=>zAZ.mpr ⟨zDS .yes r rfl,zAQ⟩
 | .no,r,_,_,_,_=>zAZ.mpr ⟨zDS .no r rfl,zAQ⟩
 | .ask q,r,_,_,_,_=>zAZ.mpr ⟨zDS (.ask q) r rfl,zAQ⟩
 | .nt a,r,hp,h,hw,hr=>zAZ.mpr ⟨by rw[AN,Aj,zFA _ _ (show a.plain from hp)]; exact zNS hq a r hp h hw hr,zAG.mpr ⟨zBk hq a _ hp h hw hr.back,zAQ⟩⟩
 | .an a b,r,hp,h,hw,hr=>by
  obtain⟨_,r1,r2,_⟩:=hr.ap
  have w:=zO6 (a:=a) (b:=b)
  exact zAZ.mpr ⟨by simp only[AN,Aj,zFA _ _ hp.1,zFA _ _ hp.2]; exact zNk a b r hp (by lia),zAG.mpr ⟨zBk hq a _ hp.1 h.1 (by lia) r1,zAG.mpr ⟨zBk hq b _ hp.2 h.2 (by lia) r2,zAG.mpr ⟨zBk hq a _ hp.1 h.1 (by lia) r1.back,zAG.mpr ⟨zBk hq b _ hp.2 h.2 (by lia) r2.back,zAQ⟩⟩⟩⟩⟩
theorem zDI:tb_1.find? (fun q=>decide (q.1=("pieces_in":Str)))=some (("pieces_in":Str),1,F_16):=by rfl
theorem zEu:tb_2.find? (fun q=>decide (q.1=("steps_of":Str)))=some (("steps_of":Str),2,F_24):=by rfl
theorem zGd(s:Sy)(q most:Nat)(r:List Nat)(hq:0 < q)(h:s.qs q)(hr:Rg r)(hw:s.wt<=most)(hm:most<=128)(hd:s.down<=60)(hp:s.parts<=80000) :
  F_40 [.v s.t,.v (iT (q:Int)),.v (tuT r),.v (iT (most:Int))]=some (.v (danT 5 q (s.spell.steps r)),[]):=by
 have e1:=zGL s h (by lia)
 have e2:=zBE s h (by lia)
 have pl:=zAF s
 have hb:(s.spell.prs r).pre.length<=80000:=by
  have h1:=zBW s.spell r pl
  rw[zAT]at h1
  have h2:=zAS s
  have h3:s.wt * s.spell.down<=128 * 420:=DH (by lia) (by lia)
  lia
 have e3:=zA7 zDI (zEG (L:=L_so) (dlx:=zBQ) zEu) (s.spell.prs r) (zCD _ r pl hr) (zBk hq _ r pl (zAJ s h) (by rw[zAT]; lia) hr) hb
 rw[← zDj,zG9,zFA _ _ pl]at e3
 have e4:=hr.facts.2.2.2
 have c:¬ (most:Int) < (s.wt:Int):=by lia
 have g2:(2:Nat)<=AC:=by decide
 have g3:(3:Nat)<=AC:=by decide
 unfold pcT at e3
 have e5:F_39 [.v s.t,.v (tuT r),.v (iT (most:Int))]=some (.v (.a .non),[]):=by
  simp only[iT]at e1 ⊢
  generalize tuT r=R at *
  generalize s.t=ST at *
  simp[F_39,fnD,d_39,e4,e1,c]
 unfold danT
 show _=some (G.v (.t [iT ((5:Nat):Int),iT (q:Int),spT (s.spell.steps r)]),([]:List T))
 generalize spT (s.spell.steps r)=SP at *
 generalize tuT r=R at *
 generalize s.t=ST at *
 generalize s.spell.t=SS at *
 simp only[iT]at e5 ⊢
 simp[F_40,fnD,d_40,e5,e2,e3,gd,g2,g3]
inductive PP where
 | step | nt (p:PP) | an (i j k:Nat) (a b:List Nat) (p1 p2 p3 p4:PP)
def PP.t:PP->T
 | .step=>.t [sT "step"]
 | .nt p=>.t [sT "not",p.t]
 | .an i j k a b p1 p2 p3 p4=>.t [sT "and",iT (i:Int),iT (j:Int),iT (k:Int),tuT a,tuT b,p1.t,p2.t,p3.t,p4.t]
noncomputable def PP.size:PP->Nat
 | .step=>1
 | .nt p=>1+p.size
 | .an _ _ _ _ _ p1 p2 p3 p4=>1+p1.size+p2.size+p3.size+p4.size
noncomputable def stepOk (s:Sy) (r:List Nat) (st:List Stp):Bool:=match s,st with
 | .ask q,[x]=>decide (x=(q,r,AF 5))
 | .yes,[x]=>decide (x.2=(r,r))
 | .no,[x]=>decide (x.2=(AF 5,AF 5))
 | _,_=>false
def chk:PP->Sy->List Nat->List Stp->Bool
 | .step,s,r,st=>stepOk s r st
 | .nt p,.nt s,r,st=>chk p s (backL r) (lastF st (backL r))
 | .an i j k a b p1 p2 p3 p4,.an s t,_,st=>chk p1 s a (st.take i) && (chk p2 t b ((st.take j).drop i) && (chk p3 s (backL a) ((st.take k).drop j) && chk p4 t (backL b) (st.drop k)))
 | _,_,_,_=>false
def tbL (a b:List Nat):List Nat:=thenL (thenL a b) (thenL (backL a) (backL b))
inductive Pf:Sy->List Nat->PP->Nat->Prop where
 | ask (q r):Pf (.ask q) r .step 1
 | yes (r):Pf .yes r .step 1
 | no (r):Pf .no r .step 1
 | nt {s r p n}:Pf s (backL r) p n->Pf (.nt s) r (.nt p) n
 | an {s t r a b p1 p2 p3 p4 n1 n2 n3 n4}:Rg a->Rg b->tbL a b=r->Pf s a p1 n1->Pf t b p2 n2->Pf s (backL a) p3 n3->Pf t (backL b) p4 n4 ->
   Pf (.an s t) r (.an n1 (n1+n2) (n1+n2+n3) a b p1 p2 p3 p4) (n1+n2+n3+n4)
theorem Pf.pos{s r p n}(h:Pf s r p n):1<=n:=by
 induction h with
 | ask=>exact AK _
 | yes=>exact AK _
 | no=>exact AK _
 | nt _ ih=>exact ih
 | an _ _ _ _ _ _ _ h1 _ _ _=>lia
theorem Pf.size{s r p n}(h:Pf s r p n):p.size<=n * s.down:=by
 induction h with
 | ask=>simp[PP.size,Sy.down]
 | yes=>simp[PP.size,Sy.down]
 | no=>simp[PP.size,Sy.down]
 | @nt s r p n h ih =>
  have:=h.pos
  simp only[PP.size,Sy.down,C6,Dd]
  lia
 | @an s t r a b p1 p2 p3 p4 n1 n2 n3 n4 _ _ _ h1 h2 h3 h4 i1 i2 i3 i4 =>
  have:=h1.pos
  obtain⟨m,hm⟩:∃ m,m=max s.down t.down:=⟨_,rfl⟩
  have a1:n1 * s.down<=n1 * m:=BI _ (by lia)
  have a2:n2 * t.down<=n2 * m:=BI _ (by lia)
  have a3:n3 * s.down<=n3 * m:=BI _ (by lia)
  have a4:n4 * t.down<=n4 * m:=BI _ (by lia)
  simp only[PP.size,Sy.down,← hm,C6,Dd,Fq]
  lia
theorem zFn(h:StOk 5 q st)(ht:IsT 5 t):StOk 5 q (lastF st t):=by
 unfold lastF
 cases e:st.getLast? with
 | none=>exact fun s hs=>nomatch hs
 | some s =>
  have hs:=h s (Co e)
  intro x hx
  rcases CD.mp hx with z | z
  ·exact h x (Ed _ z)
  ·rw[AI.mp z]
   exact⟨hs.1,zAM hs.2.1 ht,zAM hs.2.2 ht⟩
theorem zHq(h:StOk 5 q st)(ht:IsT 5 t):lastF (lastF st t) (backL t)=st:=by
 unfold lastF
 cases e:st.getLast? with
 | none=>rw[Ct.mp e]; rfl
 | some s =>
  have hs:=h s (Co e)
  have hn:st≠[]:=fun z=>by rw[z]at e; cases e
  have hb:=zAb ht
  have es:st=st.dropLast++[s]:=by
   have:=Fp hn
   rw[Fj hn]at e
   rw[← Au e]; exact this.symm
  simp only[List.getLast?_append,List.getLast?_singleton,Hq,List.dropLast_concat]
  rw[zAP hs.2.1 ht hb,zAP hs.2.2 ht hb,zBO ht,zAW hs.2.1,zAW hs.2.2]
  exact es.symm
theorem sokT(h:StOk n q st)(k:Nat):StOk n q (st.take k):=fun s hs=>h s (List.mem_of_mem_take hs)
theorem sokD(h:StOk n q st)(k:Nat):StOk n q (st.drop k):=fun s hs=>h s (List.mem_of_mem_drop hs)
def Sy.paper:Sy->List Nat->PP
 | .nt a,r=>.nt (a.paper (backL r))
 | .an a b,r=>.an a.wt (a.wt+b.wt) (a.wt+b.wt+a.wt) (apL r).1 (apL r).2 (a.paper (apL r).1) (b.paper (apL r).2) (a.paper (backL (apL r).1)) (b.paper (backL (apL r).2))
 | _,_=>.step
theorem zBU:∀ (s:Sy) (r:List Nat),s.plain->Rg r->Pf s r (s.paper r) s.wt
 | .yes,r,_,_=>.yes r
 | .no,r,_,_=>.no r
 | .ask q,r,_,_=>.ask q r
 | .nt a,r,h,hr=>.nt (zBU a _ h hr.back)
 | .an a b,r,h,hr=>by
  obtain⟨_,r1,r2,er⟩:=hr.ap
  have:=Pf.an (r:=r) r1 r2 er (zBU a _ h.1 r1) (zBU b _ h.2 r2) (zBU a _ h.1 r1.back) (zBU b _ h.2 r2.back)
  have e:a.wt+b.wt+a.wt+b.wt=(Sy.an a b).wt:=by simp only[Sy.wt]; lia
  rw[e]at this
  exact this
theorem zBJ(hq:0 < q):∀ (s:Sy) (r:List Nat),s.plain->s.qs q->Rg r->chk (s.paper r) s r (s.steps r)=true
 | .yes,r,_,_,_=>by simp[Sy.paper,Sy.steps,chk,stepOk]
 | .no,r,_,_,_=>by simp[Sy.paper,Sy.steps,chk,stepOk]
 | .ask k,r,_,_,_=>by simp[Sy.paper,Sy.steps,chk,stepOk]
 | .nt a,r,h,hs,hr=>by
  have e:=zBJ hq a (backL r) h hs hr.back
  simp only[Sy.paper,Sy.steps,chk]
  rw[zHq (zAe hq a _ h hs hr.back).ok hr.isT]
  exact e
 | .an a b,r,h,hs,hr=>by
  obtain⟨_,r1,r2,er⟩:=hr.ap
  have c1:=zBJ hq a _ h.1 hs.1 r1
  have c2:=zBJ hq b _ h.2 hs.2 r2
  have c3:=zBJ hq a _ h.1 hs.1 r1.back
  have c4:=zBJ hq b _ h.2 hs.2 r2.back
  have l1:=zAY a (apL r).1 h.1
  have l2:=zAY b (apL r).2 h.2
  have l3:=zAY a (backL (apL r).1) h.1
  simp only[Sy.paper,Sy.steps,chk]
  generalize a.steps (apL r).1=st1 at *
  generalize b.steps (apL r).2=st2 at *
  generalize a.steps (backL (apL r).1)=st3 at *
  generalize b.steps (backL (apL r).2)=st4 at *
  rw[show a.wt+b.wt+a.wt=st1.length+st2.length+st3.length by lia,show a.wt+b.wt=st1.length+st2.length by lia,← l1]
  have t1:(st1++st2++st3++st4).take st1.length=st1:=by simp[Bx]
  have t2:((st1++st2++st3++st4).take (st1.length+st2.length)).drop st1.length=st2:=by
   have:(st1++st2++st3++st4).take (st1.length+st2.length)=st1++st2:=by
    rw[Bx (st1++st2),show st1.length+st2.length=(st1++st2).length by simp]
    exact IL
   rw[this]; exact GC
  have t3:((st1++st2++st3++st4).take (st1.length+st2.length+st3.length)).drop (st1.length+st2.length)=st3:=by
   have:(st1++st2++st3++st4).take (st1.length+st2.length+st3.length)=st1++st2++st3:=by
    rw[show st1.length+st2.length+st3.length=(st1++st2++st3).length by simp only[A4]]
    exact IL
   rw[this,show st1.length+st2.length=(st1++st2).length by simp]; exact GC
  have t4:(st1++st2++st3++st4).drop (st1.length+st2.length+st3.length)=st4:=by
   rw[show st1.length+st2.length+st3.length=(st1++st2++st3).length by simp only[A4]]
   exact GC
  rw[t1,t2,t3,t4,c1,c2,c3,c4]
  rfl
abbrev pvT (s:Sy) (r:List Nat):T:=.t [(s.paper r).t,iT (s.wt:Int)]
def Sy.pps:Sy->List Nat->Rs
 | .yes,r=>.mk (pcT .yes r) (pvT .yes r) []
 | .no,r=>.mk (pcT .no r) (pvT .no r) []
 | .ask q,r=>.mk (pcT (.ask q) r) (pvT (.ask q) r) []
 | .nt a,r=>.mk (pcT (.nt a) r) (pvT (.nt a) r) [a.pps (backL r)]
 | .an a b,r=>.mk (pcT (.an a b) r) (pvT (.an a b) r) [a.pps (apL r).1,b.pps (apL r).2,a.pps (backL (apL r).1),b.pps (backL (apL r).2)]
 | s,r=>.mk (pcT s r) (pvT s r) []
theorem zHS(s:Sy)(r:List Nat):(s.pps r).e=pcT s r:=by cases s <;> rfl
theorem zHd(s:Sy)(r:List Nat):(s.pps r).v=pvT s r:=by cases s <;> rfl
theorem zBl:∀ (s:Sy) (r:List Nat),s.plain->(s.pps r).pre.length=(s.prs r).pre.length
 | .yes,r,_=>by simp[Sy.prs,Sy.pps,zAV,zAK]
 | .no,r,_=>by simp[Sy.prs,Sy.pps,zAV,zAK]
 | .ask _,r,_=>by simp[Sy.prs,Sy.pps,zAV,zAK]
 | .nt a,r,h=>by
  have h1:=zBl a (backL r) h
  simp only[Sy.prs,Sy.pps,zAV,zAN,zAK,Bp,Bf,h1]
 | .an a b,r,h=>by
  have a1:=zBl a (apL r).1 h.1
  have a2:=zBl a (backL (apL r).1) h.1
  have b1:=zBl b (apL r).2 h.2
  have b2:=zBl b (backL (apL r).2) h.2
  simp only[Sy.prs,Sy.pps,zAV,zAN,zAK,Bp,Bf,A4,a1,a2,b1,b2]
theorem zCB:∀ (s:Sy) (r:List Nat),s.plain->Rg r->(s.pps r).In F_16
 | .yes,r,_,_=>zAm.mpr ⟨.inr (zA6 .yes r rfl),zAa⟩
 | .no,r,_,_=>zAm.mpr ⟨.inr (zA6 .no r rfl),zAa⟩
 | .ask q,r,_,_=>zAm.mpr ⟨.inr (zA6 (.ask q) r rfl),zAa⟩
 | .nt a,r,h,hr=>zAm.mpr ⟨.inr (by rw[AN,Aj,zHS]; exact zDl a r hr),zAH.mpr ⟨zCB a _ h hr.back,zAa⟩⟩
 | .an a b,r,h,hr=>by
  obtain⟨_,r1,r2,_⟩:=hr.ap
  exact zAm.mpr ⟨.inr (by simp only[AN,Aj,zHS]; exact zDr a b r hr),zAH.mpr ⟨zCB a _ h.1 r1,zAH.mpr ⟨zCB b _ h.2 r2,zAH.mpr ⟨zCB a _ h.1 r1.back,zAH.mpr ⟨zCB b _ h.2 r2.back,zAa⟩⟩⟩⟩⟩
theorem zCd(s:Sy)(r:List Nat)(h:s.kids=[]):F_25 [.v (pcT s r),.r []]=some (.v (.t [PP.step.t,iT 1]),[]):=by
 have g1:(1:Nat)<=AC:=by decide
 have g2:(2:Nat)<=AC:=by decide
 unfold pcT
 generalize tuT r=R
 cases s with
 | yes=>simp[F_25,fnD,d_25,gd,g1,g2,Sy.t,PP.t]
 | no=>simp[F_25,fnD,d_25,gd,g1,g2,Sy.t,PP.t]
 | ask q=>simp[F_25,fnD,d_25,gd,g1,g2,Sy.t,PP.t]
 | _=>cases h
theorem zKs(a:Sy)(r:List Nat):F_25 [.v (pcT (.nt a) r),.r [pvT a (backL r)]]=some (.v (pvT (.nt a) r),[]):=by
 have g2:(2:Nat)<=AC:=by decide
 unfold pcT pvT
 simp only[Sy.t,Sy.paper,PP.t,Sy.wt,iT]
 generalize tuT r=R
 generalize (a.paper (backL r)).t=P
 generalize a.t=A
 generalize (a.wt:Int)=W
 simp[F_25,fnD,d_25,gd,g2]
theorem zKh(a b:Sy)(r:List Nat)(hr:Rg r):F_25 [.v (pcT (.an a b) r),.r [pvT a (apL r).1,pvT b (apL r).2,pvT a (backL (apL r).1),pvT b (backL (apL r).2)]]=some (.v (pvT (.an a b) r),[]):=by
 obtain⟨e0,_,_,_⟩:=hr.ap
 have g2:(2:Nat)<=AC:=by decide
 have g4:(4:Nat)<=AC:=by decide
 have g6:(6:Nat)<=AC:=by decide
 have g10:(10:Nat)<=AC:=by decide
 unfold pcT pvT
 simp only[Sy.t,Sy.paper,PP.t,iT]
 have w1:((a.wt+b.wt:Nat):Int)=(a.wt:Int)+(b.wt:Int):=by lia
 have w2:((a.wt+b.wt+a.wt:Nat):Int)=(a.wt:Int)+(b.wt:Int)+(a.wt:Int):=by lia
 have w3:((Sy.an a b).wt:Int)=(a.wt:Int)+(b.wt:Int)+(a.wt:Int)+(b.wt:Int):=by simp only[Sy.wt]; lia
 rw[w1,w2,w3]
 generalize tuT r=R at *
 generalize (a.paper (apL r).1).t=P1
 generalize (b.paper (apL r).2).t=P2
 generalize (a.paper (backL (apL r).1)).t=P3
 generalize (b.paper (backL (apL r).2)).t=P4
 generalize tuT (apL r).1=X at *
 generalize tuT (apL r).2=Y at *
 generalize a.t=A
 generalize b.t=B
 generalize (a.wt:Int)=W1
 generalize (b.wt:Int)=W2
 have i4:∀ (A B C D:T),atI [A,B,C,D] 0=some A/\atI [A,B,C,D] 1=some B/\atI [A,B,C,D] 2=some C/\atI [A,B,C,D] 3=some D:=fun _ _ _ _=>⟨rfl,rfl,rfl,rfl⟩
 have j1:=fun A B C D=>(i4 A B C D).1
 have j2:=fun A B C D=>(i4 A B C D).2.1
 have j3:=fun A B C D=>(i4 A B C D).2.2.1
 have j4:=fun A B C D=>(i4 A B C D).2.2.2
 simp[F_25,fnD,d_25,zD2,zAL,zAR,e0,j1,j2,j3,j4,gd,g2,g4,g6,g10]
theorem zBo:∀ (s:Sy) (r:List Nat),s.plain->Rg r->(s.pps r).PutP (fun e vs v=>F_25 [.v e,.r vs]=some (.v v,[]))
 | .yes,r,_,_=>zAZ.mpr ⟨zCd .yes r rfl,zAQ⟩
 | .no,r,_,_=>zAZ.mpr ⟨zCd .no r rfl,zAQ⟩
 | .ask q,r,_,_=>zAZ.mpr ⟨zCd (.ask q) r rfl,zAQ⟩
 | .nt a,r,h,hr=>zAZ.mpr ⟨by rw[AN,Aj,zHd]; exact zKs a r,zAG.mpr ⟨zBo a _ h hr.back,zAQ⟩⟩
 | .an a b,r,h,hr=>by
  obtain⟨_,r1,r2,_⟩:=hr.ap
  exact zAZ.mpr ⟨by simp only[AN,Aj,zHd]; exact zKh a b r hr,zAG.mpr ⟨zBo a _ h.1 r1,zAG.mpr ⟨zBo b _ h.2 r2,zAG.mpr ⟨zBo a _ h.1 r1.back,zAG.mpr ⟨zBo b _ h.2 r2.back,zAQ⟩⟩⟩⟩⟩
theorem zEy:tb_2.find? (fun q=>decide (q.1=("paper_of":Str)))=some (("paper_of":Str),2,F_25):=by rfl
theorem zEv(s:Sy)(q:Nat)(r:List Nat)(hq:0 < q)(h:s.qs q)(hr:Rg r)(hw:s.wt<=128)(hd:s.down<=60)(hp:s.parts<=80000) :
  F_49 [.v s.t,.v (iT (q:Int)),.v (tuT r),.v (iT 128)]=some (.v (.t [danT 5 q (s.spell.steps r),(s.spell.paper r).t]),[]):=by
 have e1:=zGd s q 128 r hq h hr hw (by decide) hd hp
 have e2:=zBE s h (by lia)
 have pl:=zAF s
 have hb:(s.spell.pps r).pre.length<=80000:=by
  rw[zBl _ _ pl]
  have h1:=zBW s.spell r pl
  rw[zAT]at h1
  have h2:=zAS s
  have h3:s.wt * s.spell.down<=128 * 420:=DH (by lia) (by lia)
  lia
 have e3:=zA7 zDI (zEG (L:=L_so) (dlx:=zBQ) zEy) (s.spell.pps r) (zCB _ r pl hr) (zBo _ r pl hr) hb
 rw[← zDj,zHS,zHd]at e3
 have g2:(2:Nat)<=AC:=by decide
 unfold pcT pvT at e3
 have e1':F_40 [.v s.t,.v (iT (q:Int)),.v (tuT r),.v (iT 128)]=some (.v (danT 5 q (s.spell.steps r)),[]):=e1
 generalize danT 5 q (s.spell.steps r)=DN at *
 generalize (s.spell.paper r).t=PT at *
 generalize tuT r=R at *
 generalize s.t=ST at *
 generalize s.spell.t=SS at *
 simp only[iT]at *
 simp[F_49,fnD,d_49,e1',e2,e3,gd,g2]
theorem zBM:∀ a c:List Nat,B0 (intsD a) (intsD c)=decide (a=c)
 | [],[]=>by simp[intsD,B0]
 | [],y::s=>by simp[intsD,B0]
 | x::r,[]=>by simp[intsD,B0]
 | x::r,y::s=>by
  have:=zBM r s
  simp only[intsD,AN]at this ⊢
  rw[B0,this]
  have e:Az (.int (x:Int)) (.int (y:Int))=decide (x=y):=by
   by_cases h:x=y
   ·subst h; simp[Az]
   ·have h':¬ (x:Int)=(y:Int):=by lia
    simp[Az,h,h']
  rw[e]
  by_cases h:x=y <;> by_cases h2:r=s <;> simp[h,h2]
theorem zD3(Γ:En)(t:List Nat):datS Γ (.v (tuT t))=some (.tuple (intsD t)):=by
 have:=zC7 t
 simp only[tvT,iT]at this
 simp[datS,toD,this]
theorem zCE(Γ:En)(a c:List Nat):neS Γ (.v (tuT a)) (.v (tuT c))=some (.v (.a (.bl (!decide (a=c))))):=by
 have e1:cmpD (fun a b=>!PyData.eqv a b) Γ (.v (tuT a)) (.v (tuT c))=some (.v (.a (.bl (!decide (a=c))))):=by
  unfold cmpD
  rw[zD3,zD3]
  simp only[Ae,B4,zAv,Cn,zBF,Az,zBM]
  rfl
 show ((none:Option S).or (cmpD (fun a b=>!PyData.eqv a b) Γ (.v (tuT a)) (.v (tuT c))))=_
 rw[Cg,e1]
theorem zNY(x y:Nat):Az (.int (x:Int)) (.int (y:Int))=decide (x=y):=by
 by_cases h:x=y
 ·subst h; simp[Az]
 ·have h':¬ (x:Int)=(y:Int):=by lia
  simp[Az,h,h']
theorem zDk(t:List Nat):toD (tuT t)=some (.tuple (intsD t)):=zD3 [] t
theorem zKq(Γ:En)(x y:Stp):eqS Γ (.v (stT x)) (.v (stT y))=some (.v (bT (decide (x=y)))):=by
 have dt:∀ x:Stp,datS Γ (.v (stT x))=some (.tuple [.int (x.1:Int),.tuple (intsD x.2.1),.tuple (intsD x.2.2)]):=fun x=>by
  have h1:=zDk x.2.1
  have h2:=zDk x.2.2
  show toD (.t [iT (x.1:Int),tuT x.2.1,tuT x.2.2])=_
  generalize tuT x.2.1=A at *
  generalize tuT x.2.2=B at *
  simp[toD,toDs,toDa,h1,h2]
 have e1:cmpD Az Γ (.v (stT x)) (.v (stT y))=some (.v (bT (decide (x=y)))):=by
  unfold cmpD
  rw[dt,dt]
  obtain⟨x1,x2,x3⟩:=x
  obtain⟨y1,y2,y3⟩:=y
  simp only[Ae,B4,BD,zAv,Cn,Da,zBF,Az,B0,zBM,zNY]
  by_cases h1:x1=y1 <;> by_cases h2:x2=y2 <;> by_cases h3:x3=y3 <;> simp[h1,h2,h3] <;> first | rfl | lia
 show ((none:Option S).or (cmpD Az Γ (.v (stT x)) (.v (stT y))))=_
 rw[Cg,e1]
theorem zG7(Γ:En)(a b c d:List Nat):eqS Γ (.v (.t [tuT a,tuT b])) (.v (.t [tuT c,tuT d]))=some (.v (bT (decide ((a,b)=(c,d))))):=by
 have dt:∀ a b:List Nat,datS Γ (.v (.t [tuT a,tuT b]))=some (.tuple [.tuple (intsD a),.tuple (intsD b)]):=fun a b=>by
  have h1:=zDk a
  have h2:=zDk b
  show toD (.t [tuT a,tuT b])=_
  generalize tuT a=A at *
  generalize tuT b=B at *
  simp[toD,toDs,h1,h2]
 have e1:cmpD Az Γ (.v (.t [tuT a,tuT b])) (.v (.t [tuT c,tuT d]))=some (.v (bT (decide ((a,b)=(c,d))))):=by
  unfold cmpD
  rw[dt,dt]
  simp only[Ae,B4,BD,zAv,Cn,Da,zBF,Az,B0,zBM]
  by_cases h2:a=c <;> by_cases h3:b=d <;> simp[h2,h3] <;> first | rfl | lia
 show ((none:Option S).or (cmpD Az Γ (.v (.t [tuT a,tuT b])) (.v (.t [tuT c,tuT d]))))=_
 rw[Cg,e1]
theorem zHb(hs:s.kids=[])(r:List Nat)(x:Stp):F_56 [.v s.t,.v (tuT r),.v (spT [x])]=some (.v (bT (stepOk s r [x])),[]):=by
 have e':F_22 [.v (.a (.int 5))]=some (.v (tuT (AF 5)),[]):=zBj 5 (by decide)
 have g2:(2:Nat)<=AC:=by decide
 have g3:(3:Nat)<=AC:=by decide
 cases s with
 | ask q =>
  have h:=fun Γ=>zKq Γ x (q,r,AF 5)
  have hx:stT (q,r,AF 5)=.t [iT (q:Int),tuT r,tuT (AF 5)]:=rfl
  rw[hx]at h
  simp only[spT,AN,Aj,stepOk,Sy.t,iT]at h ⊢
  generalize tuT (AF 5)=S5 at *
  generalize tuT r=R at *
  generalize stT x=X at *
  simp[F_56,fnD,d_56,gd,g3,e',h]
 | yes =>
  have h:=fun Γ=>zG7 Γ x.2.1 x.2.2 r r
  have hx:stT x=.t [iT (x.1:Int),tuT x.2.1,tuT x.2.2]:=rfl
  have hc:stepOk .yes r [x]=decide ((x.2.1,x.2.2)=(r,r)):=rfl
  rw[hc]
  simp only[spT,AN,Aj,Sy.t,hx]
  generalize tuT r=R at *
  generalize tuT x.2.1=X1 at *
  generalize tuT x.2.2=X2 at *
  simp only[iT]
  simp[F_56,fnD,d_56,gd,g2,cut1]
  simp[h]
 | no =>
  have h:=fun Γ=>zG7 Γ x.2.1 x.2.2 (AF 5) (AF 5)
  have hx:stT x=.t [iT (x.1:Int),tuT x.2.1,tuT x.2.2]:=rfl
  have hc:stepOk .no r [x]=decide ((x.2.1,x.2.2)=(AF 5,AF 5)):=rfl
  rw[hc]
  simp only[spT,AN,Aj,Sy.t,hx]
  generalize tuT (AF 5)=S5 at *
  generalize tuT r=R at *
  generalize tuT x.2.1=X1 at *
  generalize tuT x.2.2=X2 at *
  simp only[iT]
  simp[F_56,fnD,d_56,gd,g2,cut1,e']
  simp[h]
 | _=>cases hs
abbrev clT (s:Sy) (r:List Nat) (st:List Stp) (p:PP):T:=.t [s.t,tuT r,spT st,p.t]
theorem zPX:F_50 [.v (.t [sT "step"]),.v (sT "step"),.v (iT 1)]=some (.v (bT true),[]):=by
 simp[F_50,fnD,d_50,isiS,tyN,subTy]
theorem zPn(P:T):F_50 [.v (.t [sT "not",P]),.v (sT "step"),.v (iT 1)]=some (.v (bT false),[]):=by
 simp[F_50,fnD,d_50,isiS,tyN,subTy]
theorem zPL(P:T):F_50 [.v (.t [sT "not",P]),.v (sT "not"),.v (iT 2)]=some (.v (bT true),[]):=by
 simp[F_50,fnD,d_50,isiS,tyN,subTy]
theorem zJ7(a b c d e f g h i:T):F_50 [.v (.t [sT "and",a,b,c,d,e,f,g,h,i]),.v (sT "step"),.v (iT 1)]=some (.v (bT false),[]):=by
 simp[F_50,fnD,d_50,isiS,tyN,subTy]
theorem zKM(a b c d e f g h i:T):F_50 [.v (.t [sT "and",a,b,c,d,e,f,g,h,i]),.v (sT "not"),.v (iT 2)]=some (.v (bT false),[]):=by
 simp[F_50,fnD,d_50,isiS,tyN,subTy]
theorem zJP(a b c d e f g h i:T):F_50 [.v (.t [sT "and",a,b,c,d,e,f,g,h,i]),.v (sT "and"),.v (iT 10)]=some (.v (bT true),[]):=by
 simp[F_50,fnD,d_50,isiS,tyN,subTy]
theorem zGH(hs:s.kids=[])(r:List Nat)(x:Stp):F_57 [.v s.t,.v (tuT r),.v (spT [x]),.v PP.step.t]=some (if stepOk s r [x]=true then .l [] else .v (.a .non),[]):=by
 have e:=zHb hs r x
 have f:=zPX
 have g0:(0:Nat)<=AC:=by decide
 generalize spT [x]=X at *
 generalize s.t=S at *
 generalize tuT r=R at *
 simp only[PP.t,bT,iT,sT]at *
 cases h:stepOk s r [x] with
 | true=>rw[h]at e; simp[F_57,fnD,d_57,e,f,gd]
 | false=>rw[h]at e; simp[F_57,fnD,d_57,e,f]
theorem zE6(S P:T)(r:List Nat)(hr:Rg r)(st:List Stp)(h:StOk 5 q st)(hn:st≠[])(hl:st.length<=5000):F_51 [.v (.t [sT "not",S]),.v (tuT r),.v (spT st),.v (.t [sT "not",P])]=some (.l [.t [S,tuT (backL r),spT (lastF st (backL r)),P]],[]):=by
 have e1:=zAk 5 r hr.isT (by decide)
 have e2:=zGT st (backL r) h hn hr.back.isT hl
 have g1:(1:Nat)<=AC:=by decide
 have g4:(4:Nat)<=AC:=by decide
 unfold spT at *
 have hL:st.map stT≠[]:=by simpa using hn
 generalize st.map stT=L at *
 generalize (lastF st (backL r)).map stT=L' at *
 generalize tuT (backL r)=B at *
 generalize tuT r=R at *
 have hz:¬ (L.length:Int)=0:=by have:=Cv.mpr hL; lia
 simp[F_51,fnD,d_51,e1,e2,hL,hz,gd,g1,g4]
theorem zDy(s:Sy)(p:PP)(r:List Nat)(hr:Rg r)(st:List Stp)(h:StOk 5 q st)(hn:st≠[])(hl:st.length<=5000):F_57 [.v (Sy.nt s).t,.v (tuT r),.v (spT st),.v (PP.nt p).t]=some (.l [clT s (backL r) (lastF st (backL r)) p],[]):=by
 have e:=zE6 s.t p.t r hr st h hn hl
 have f1:=zPn p.t
 have f2:=zPL p.t
 simp only[PP.t,Sy.t,clT]at *
 generalize spT (lastF st (backL r))=L' at *
 generalize spT st=L at *
 generalize tuT (backL r)=B at *
 generalize tuT r=R at *
 generalize s.t=S at *
 generalize p.t=P at *
 simp only[bT,iT,sT]at *
 simp[F_57,fnD,d_57,e,f1,f2]
theorem zKu(i:Int):F_52 [.v (iT i)]=some (.v (bT true),[]):=by
 simp[F_52,fnD,d_52,isiS,tyN,subTy]
theorem zGi(i j k m:Nat)(h1:0 < i)(h2:i < j)(h3:j < k)(h4:k < m):F_53 [.v (.t [iT (i:Int),iT (j:Int),iT (k:Int)]),.v (iT (m:Int))]=some (.v (bT true),[]):=by
 have w:=fun i:Int=>zKu i
 have a1:(0:Int) < (i:Int):=by lia
 have a2:(i:Int) < (j:Int):=by lia
 have a3:(j:Int) < (k:Int):=by lia
 have a4:(k:Int) < (m:Int):=by lia
 have g3:(3:Nat)<=AC:=by decide
 generalize (i:Int)=I at *
 generalize (j:Int)=J at *
 generalize (k:Int)=KK at *
 generalize (m:Int)=MM at *
 simp only[iT,bT]at *
 simp[F_53,fnD,d_53,zEH,zAL,zAR,gd,g3,w,dChainN,dLink,dLast,boolsOf,a1,a2,a3,a4]
theorem zL5(ha:Rg a)(hb:Rg b):F_13 [.v (tuT a),.v (tuT b)]=some (.v (tuT (tbL a b)),[]):=by
 have e1:=zAk 5 a ha.isT (by decide)
 have e2:=zAk 5 b hb.isT (by decide)
 have e3:=zA1 5 a b ha.isT hb.isT (by decide)
 have e4:=zA1 5 _ _ ha.back.isT hb.back.isT (by decide)
 have e5:=zA1 5 _ _ (zAM ha.isT hb.isT) (zAM ha.back.isT hb.back.isT) (by decide)
 unfold tbL
 generalize tuT (thenL (thenL a b) (thenL (backL a) (backL b)))=X1 at *
 generalize tuT (thenL a b)=X2 at *
 generalize tuT (thenL (backL a) (backL b))=X3 at *
 generalize tuT (backL a)=X4 at *
 generalize tuT (backL b)=X5 at *
 generalize tuT a=X6 at *
 generalize tuT b=X7 at *
 simp[F_13,fnD,d_13,e1,e2,e3,e4,e5]
theorem allAny:(rings5.all fun r=>isTr (F_54 [.v (tuT r)]))=true:=by decide +kernel
theorem zCL(h:Rg r):F_54 [.v (tuT r)]=some (.v (.a (.bl true)),[]):=zGl (Aw.mp allAny r h.mem)
theorem zJF(w i j k a b c d e f:T):atI [w,i,j,k,a,b,c,d,e,f] 1=some i:=by rfl
theorem zKK(w i j k a b c d e f:T):atI [w,i,j,k,a,b,c,d,e,f] 2=some j:=by rfl
theorem zIw(w i j k a b c d e f:T):atI [w,i,j,k,a,b,c,d,e,f] 3=some k:=by rfl
theorem zKR(w i j k a b c d e f:T):atI [w,i,j,k,a,b,c,d,e,f] 4=some a:=by rfl
theorem zJp(w i j k a b c d e f:T):atI [w,i,j,k,a,b,c,d,e,f] 5=some b:=by rfl
theorem zPF(w i j k a b c d e f:T):atI [w,i,j,k,a,b,c,d,e,f] 6=some c:=by rfl
theorem zPt(w i j k a b c d e f:T):atI [w,i,j,k,a,b,c,d,e,f] 7=some d:=by rfl
theorem zO4(w i j k a b c d e f:T):atI [w,i,j,k,a,b,c,d,e,f] 8=some e:=by rfl
theorem zPh(w i j k a b c d e f:T):atI [w,i,j,k,a,b,c,d,e,f] 9=some f:=by rfl
theorem cut14(w i j k a b c d e f:T):cutT [w,i,j,k,a,b,c,d,e,f] (some 1) (some 4)=[i,j,k]:=by
 have:=zDP [w,i,j,k,a,b,c,d,e,f] 1 4
 exact this
theorem zK8(Γ:En)(x:List Nat):neS Γ (.v (tuT x)) (.v (tuT x))=some (.v (.a (.bl false))):=by rw[zCE]; simp
theorem zIT{q:Nat}(s t:Sy)(p1 p2 p3 p4:PP){a b:List Nat}(ha:Rg a)(hb:Rg b)(st:List Stp)(i j k:Nat)(h1:0 < i)(h2:i < j)(h3:j < k)(h4:k < st.length)(hl:st.length<=5000) :
  F_57 [.v (Sy.an s t).t,.v (tuT (tbL a b)),.v (spT st),.v (PP.an i j k a b p1 p2 p3 p4).t] =
   some (.l [clT s a (st.take i) p1,clT t b ((st.take j).drop i) p2,clT s (backL a) ((st.take k).drop j) p3,clT t (backL b) (st.drop k) p4],[]):=by
 have c1:cutT (st.map stT) none (some (i:Int))=(st.take i).map stT:=by rw[zFi,GS]
 have c2:cutT (st.map stT) (some (i:Int)) (some (j:Int))=((st.take j).drop i).map stT:=by rw[zDP,IM,GS,GT]
 have c3:cutT (st.map stT) (some (j:Int)) (some (k:Int))=((st.take k).drop j).map stT:=by rw[zDP,IM,GS,GT]
 have c4:cutT (st.map stT) (some (k:Int)) none=(st.drop k).map stT:=by rw[zFw,GT]
 have l1:((st.take i).map stT).length<=AC:=zAC (by simp; lia)
 have l2:(((st.take j).drop i).map stT).length<=AC:=zAC (by simp; lia)
 have l3:(((st.take k).drop j).map stT).length<=AC:=zAC (by simp; lia)
 have l4:((st.drop k).map stT).length<=AC:=zAC (by simp; lia)
 have ec:=zGi i j k st.length h1 h2 h3 h4
 have hm:(st.map stT).length=st.length:=by simp
 rw[← hm]at ec
 have eb1:=zAk 5 a ha.isT (by decide)
 have eb2:=zAk 5 b hb.isT (by decide)
 have er1:=zCL ha
 have er2:=zCL hb
 have et:=zL5 ha hb
 have ne:=fun Γ=>zK8 Γ (tbL a b)
 have f1:=zJ7 (iT (i:Int)) (iT (j:Int)) (iT (k:Int)) (tuT a) (tuT b) p1.t p2.t p3.t p4.t
 have f2:=zKM (iT (i:Int)) (iT (j:Int)) (iT (k:Int)) (tuT a) (tuT b) p1.t p2.t p3.t p4.t
 have f3:=zJP (iT (i:Int)) (iT (j:Int)) (iT (k:Int)) (tuT a) (tuT b) p1.t p2.t p3.t p4.t
 have g2:(2:Nat)<=AC:=by decide
 have g3:(3:Nat)<=AC:=by decide
 have g4:(4:Nat)<=AC:=by decide
 clear hm hl h1 h2 h3 h4 ha hb
 simp only[clT,PP.t,Sy.t,spT]at *
 generalize (st.take i).map stT=L1 at *
 generalize ((st.take j).drop i).map stT=L2 at *
 generalize ((st.take k).drop j).map stT=L3 at *
 generalize (st.drop k).map stT=L4 at *
 generalize st.map stT=L at *
 generalize tuT (tbL a b)=TB at *
 generalize tuT (backL a)=BA at *
 generalize tuT (backL b)=BB at *
 generalize tuT a=A at *
 generalize tuT b=B at *
 generalize s.t=S at *
 generalize t.t=SS at *
 generalize p1.t=Q1 at *
 generalize p2.t=Q2 at *
 generalize p3.t=Q3 at *
 generalize p4.t=Q4 at *
 generalize (i:Int)=I at *
 generalize (j:Int)=J at *
 generalize (k:Int)=KK at *
 have hA:F_55 [.v (.t [sT "and",S,SS]),.v TB,.v (.t L),.v (.t [sT "and",iT I,iT J,iT KK,A,B,Q1,Q2,Q3,Q4])]=some (.l [.t [S,A,.t L1,Q1],.t [SS,B,.t L2,Q2],.t [S,BA,.t L3,Q3],.t [SS,BB,.t L4,Q4]],[]):=by
  simp only[iT,bT,sT]at *
  simp[F_55,fnD,d_55,cut14,zJF,zKK,zIw,zKR,zJp,zPF,zPt,zO4,zPh,ec,er1,er2,et,ne,eb1,eb2,c1,c2,c3,c4,l1,l2,l3,l4,gd,g2,g3,g4]
 simp only[iT,bT,sT]at *
 simp[F_57,fnD,d_57,f1,f2,f3,hA]
theorem zE1(s t:Sy)(p1 p2 p3 p4:PP)(ha:Rg a)(hb:Rg b)(hne:tbL a b≠r)(st:List Stp)(i j k:Nat)(h1:0 < i)(h2:i < j)(h3:j < k)(h4:k < st.length) :
  F_57 [.v (Sy.an s t).t,.v (tuT r),.v (spT st),.v (PP.an i j k a b p1 p2 p3 p4).t]=some (.v (.a .non),[]):=by
 have ec:=zGi i j k st.length h1 h2 h3 h4
 have hm:(st.map stT).length=st.length:=by simp
 rw[← hm]at ec
 have er1:=zCL ha
 have er2:=zCL hb
 have et:=zL5 ha hb
 have ne:∀ Γ,neS Γ (.v (tuT (tbL a b))) (.v (tuT r))=some (.v (.a (.bl true))):=fun Γ=>by rw[zCE]; simp[hne]
 have f1:=zJ7 (iT (i:Int)) (iT (j:Int)) (iT (k:Int)) (tuT a) (tuT b) p1.t p2.t p3.t p4.t
 have f2:=zKM (iT (i:Int)) (iT (j:Int)) (iT (k:Int)) (tuT a) (tuT b) p1.t p2.t p3.t p4.t
 have f3:=zJP (iT (i:Int)) (iT (j:Int)) (iT (k:Int)) (tuT a) (tuT b) p1.t p2.t p3.t p4.t
 have g3:(3:Nat)<=AC:=by decide
 clear hm h1 h2 h3 h4 ha hb hne
 simp only[PP.t,Sy.t,spT]at *
 generalize st.map stT=L at *
 generalize tuT (tbL a b)=TB at *
 generalize tuT r=R at *
 generalize tuT a=A at *
 generalize tuT b=B at *
 generalize s.t=S at *
 generalize t.t=SS at *
 generalize p1.t=Q1 at *
 generalize p2.t=Q2 at *
 generalize p3.t=Q3 at *
 generalize p4.t=Q4 at *
 generalize (i:Int)=I at *
 generalize (j:Int)=J at *
 generalize (k:Int)=KK at *
 have hA:F_55 [.v (.t [sT "and",S,SS]),.v R,.v (.t L),.v (.t [sT "and",iT I,iT J,iT KK,A,B,Q1,Q2,Q3,Q4])]=some (.v (.a .non),[]):=by
  simp only[iT,bT,sT]at *
  simp[F_55,fnD,d_55,cut14,zJF,zKK,zIw,zKR,zJp,ec,er1,er2,et,ne,gd,g3]
 simp only[iT,bT,sT]at *
 simp[F_57,fnD,d_57,f1,f2,f3,hA]
structure Cl where
 s:Sy
 r:List Nat
 st:List Stp
 p:PP
def Cl.t (c:Cl):T:=clT c.s c.r c.st c.p
def Cl.ok (c:Cl):Bool:=chk c.p c.s c.r c.st
structure Cl.Good(q:Nat)(c:Cl):Prop where
 pf:Pf c.s c.r c.p c.st.length
 rg:Rg c.r
 sk:StOk 5 q c.st
 le:c.st.length<=5000
def szs:List Cl->Nat
 | []=>0
 | c::r=>c.p.size+szs r
theorem zCw:∀ (a b:List Cl),szs (a++b)=szs a+szs b
 | [],b=>by simp[szs]
 | c::r,b=>by simp only[DQ,szs,zCw r b]; lia
theorem PP.size_pos:∀ p:PP,1<=p.size
 | .step=>AK _
 | .nt _=>by simp only[PP.size]; lia
 | .an ..=>by simp only[PP.size]; lia
theorem zD5:∀ cs:List Cl,cs.length<=szs cs
 | []=>AK _
 | c::r=>by have:=zD5 r; have:=c.p.size_pos; simp only[Bf,szs]; lia
theorem zLu(c:Cl)(h:c.Good q):(∃ ks:List Cl,F_57 [.v c.s.t,.v (tuT c.r),.v (spT c.st),.v c.p.t]=some (.l (ks.map Cl.t),[])/\(∀ k∈ks,k.Good q)/\szs ks < c.p.size/\ks.all Cl.ok=c.ok) \/
  (F_57 [.v c.s.t,.v (tuT c.r),.v (spT c.st),.v c.p.t]=some (.v (.a .non),[])/\c.ok=false):=by
 obtain⟨s,r,st,p⟩:=c
 obtain⟨pf,rg,sk,le⟩:=h
 dsimp only at *
 have leaf:∀ s:Sy,s.kids=[]->st.length=1->(∃ ks:List Cl,F_57 [.v s.t,.v (tuT r),.v (spT st),.v PP.step.t]=some (.l (ks.map Cl.t),[])/\(∀ k∈ks,k.Good q)/\szs ks < PP.step.size/\ks.all Cl.ok=Cl.ok ⟨s,r,st,.step⟩) \/
  (F_57 [.v s.t,.v (tuT r),.v (spT st),.v PP.step.t]=some (.v (.a .non),[])/\Cl.ok ⟨s,r,st,.step⟩=false):=fun s hs hl=>by
  match st,hl with
  | [x],_ =>
   have e:=zGH hs r x
   have ho:Cl.ok ⟨s,r,[x],.step⟩=stepOk s r [x]:=rfl
   rw[ho]
   cases hc:stepOk s r [x] with
   | true=>rw[hc,if_pos rfl]at e; exact .inl ⟨[],e,by simp,by decide,rfl⟩
   | false=>rw[hc,if_neg AZ]at e; exact .inr ⟨e,rfl⟩
 generalize hn:st.length=n at pf
 cases pf with
 | ask q' r=>exact leaf (.ask q') rfl hn
 | yes r=>exact leaf .yes rfl hn
 | no r=>exact leaf .no rfl hn
 | @nt s r p n h =>
  subst hn
  have hne:st≠[]:=fun z=>by have:=h.pos; rw[z]at this; simp at this
  refine .inl ⟨[⟨s,backL r,lastF st (backL r),p⟩],zDy s p r rg st sk hne le,fun k hk=>?_,?_,?_⟩
  ·rw[AI.mp hk]
   exact⟨by rw[zBt]; exact h,rg.back,zFn sk rg.back.isT,by rw[zBt]; exact le⟩
  ·simp only[szs,PP.size]; lia
  ·simp[Cl.ok,chk]
 | @an s t r a b p1 p2 p3 p4 n1 n2 n3 n4 ra rb er h1 h2 h3 h4 =>
  have:=h1.pos
  have:=h2.pos
  have:=h3.pos
  have:=h4.pos
  subst er
  have e:=zIT (q:=q) s t p1 p2 p3 p4 ra rb st n1 (n1+n2) (n1+n2+n3) (by lia) (by lia) (by lia) (by lia) le
  refine .inl ⟨[⟨s,a,st.take n1,p1⟩,⟨t,b,(st.take (n1+n2)).drop n1,p2⟩,⟨s,backL a,(st.take (n1+n2+n3)).drop (n1+n2),p3⟩,⟨t,backL b,st.drop (n1+n2+n3),p4⟩],e,fun k hk=>?_,?_,?_⟩
  ·simp only[AL,Ao,or_false]at hk
   have l1:(st.take n1).length=n1:=by rw[CS]; lia
   have l2:((st.take (n1+n2)).drop n1).length=n2:=by rw[DK,CS]; lia
   have l3:((st.take (n1+n2+n3)).drop (n1+n2)).length=n3:=by rw[DK,CS]; lia
   have l4:(st.drop (n1+n2+n3)).length=n4:=by rw[DK]; lia
   rcases hk with rfl | rfl | rfl | rfl
   ·exact⟨by dsimp only; rw[l1]; exact h1,ra,sokT sk _,by dsimp only; lia⟩
   ·exact⟨by dsimp only; rw[l2]; exact h2,rb,sokD (sokT sk _) _,by dsimp only; lia⟩
   ·exact⟨by dsimp only; rw[l3]; exact h3,ra.back,sokD (sokT sk _) _,by dsimp only; lia⟩
   ·exact⟨by dsimp only; rw[l4]; exact h4,rb.back,sokD sk _,by dsimp only; lia⟩
  ·simp only[szs,PP.size]; lia
  ·simp[Cl.ok,chk]
theorem zKQ(x0 x1 x2 x3:Option G):∀ (fuel:Nat) (cs:List Cl),szs cs < fuel->szs cs<=90000->(∀ c∈cs,c.Good q)->∀ (o5 o6:Option G),
  (cs.all Cl.ok=true->∃ o5' o6',dWhile zBH zAl fuel [x0,x1,x2,x3,some (.l (cs.map Cl.t)),o5,o6]=some (.nx [x0,x1,x2,x3,some (.l []),o5',o6'])) /\
  (cs.all Cl.ok=false->∃ Γ',dWhile zBH zAl fuel [x0,x1,x2,x3,some (.l (cs.map Cl.t)),o5,o6]=some (.rt (.v (.a (.bl false))) Γ')):=by
 intro fuel
 induction fuel with
 | zero=>intro cs h; lia
 | succ f ih =>
  intro cs hf hb hg o5 o6
  rcases List.eq_nil_or_concat cs with rfl | ⟨cs',c,rfl⟩
  ·refine⟨fun _=>⟨o5,o6,?_⟩,fun h=>by simp at h⟩
   rw[zAd]
   simp[zBH]
  ·rw[List.concat_eq_append]at *
   have hc:=hg c (by simp)
   have hg':∀ c∈cs',c.Good q:=fun k hk=>hg k (by simp[hk])
   rw[zCw]at hf hb
   simp only[szs]at hf hb
   have hl:=zD5 cs'
   have e0:(cs'++[c]).map Cl.t=cs'.map Cl.t++[c.t]:=by simp
   have tr:∀ L:List T,zBH [x0,x1,x2,x3,some (.l (L++[c.t])),o5,o6]=some (true,[x0,x1,x2,x3,some (.l (L++[c.t])),o5,o6]):=fun L=>by simp[zBH]
   have hq:(cs'.map Cl.t).length+1<=AC:=zAC (by simp; lia)
   rw[e0,zAd,tr,Ae,if_pos rfl]
   have ha:(cs'++[c]).all Cl.ok=(cs'.all Cl.ok && c.ok):=by simp
   rw[ha]
   rcases zLu c hc with ⟨ks,e,hk,hs,hok⟩ | ⟨e,hok⟩
   ·have hkl:=zD5 ks
    have body:zAl [x0,x1,x2,x3,some (.l (cs'.map Cl.t++[c.t])),o5,o6]=some (.nx [x0,x1,x2,x3,some (.l ((cs'++ks).map Cl.t)),some (.v c.t),some (.l (ks.map Cl.t))]):=by
     have ex:(cs'.map Cl.t).length+(ks.map Cl.t).length<=AC:=zAC (by simp; lia)
     rw[By]
     unfold Cl.t clT at *
     generalize (cs'.map fun c=>T.t [c.s.t,tuT c.r,spT c.st,c.p.t])=L at *
     generalize (ks.map fun c=>T.t [c.s.t,tuT c.r,spT c.st,c.p.t])=K at *
     generalize spT c.st=X at *
     generalize c.s.t=S at *
     generalize tuT c.r=R at *
     generalize c.p.t=P at *
     have hq':L.length<=AC:=by lia
     simp[zAl,e,hExtend,lsOf,isNoneS,rfS,sqlOf,mkB,gd,ex,hq,hq']
    rw[body,Ae]
    dsimp only
    have:=ih (cs'++ks) (by rw[zCw]; lia) (by rw[zCw]; lia) (fun k hk'=>(CD.mp hk').elim (hg' k) (hk k)) (some (.v c.t)) (some (.l (ks.map Cl.t)))
    rw[List.all_append,hok]at this
    exact this
   ·refine⟨fun h=>by rw[hok]at h; simp at h,fun _=>?_⟩
    have body:∃ Γ',zAl [x0,x1,x2,x3,some (.l (cs'.map Cl.t++[c.t])),o5,o6]=some (.rt (.v (.a (.bl false))) Γ'):=by
     refine⟨[x0,x1,x2,x3,some (.l (cs'.map Cl.t)),some (.v c.t),some (.v (.a .non))],?_⟩
     unfold Cl.t clT at *
     generalize (cs'.map fun c=>T.t [c.s.t,tuT c.r,spT c.st,c.p.t])=L at *
     generalize spT c.st=X at *
     generalize c.s.t=S at *
     generalize tuT c.r=R at *
     generalize c.p.t=P at *
     have hq':L.length<=AC:=by lia
     simp[zAl,e,isNoneS,mkB,gd,hq,hq']
    obtain⟨Γ',eb⟩:=body
    exact⟨Γ',by rw[eb]; rfl⟩
theorem zFk(s:Sy)(r:List Nat)(st:List Stp)(p:PP)(d0 d1:T)(hqs:s.qs q)(hp:s.parts<=80000)(h:(Cl.mk s.spell r st p).Good q)(hz:p.size<=90000):F_58 [.v s.t,.v (tuT r),.v (.t [d0,d1,spT st]),.v p.t]=some (.v (bT (chk p s.spell r st)),[]):=by
 have e:=zBE s hqs hp
 obtain⟨h1,h2⟩:=zKQ (some (.v s.t)) (some (.v (tuT r))) (some (.v (.t [d0,d1,spT st]))) (some (.v p.t)) fuelX [⟨s.spell,r,st,p⟩] (by simp only[szs]; exact Ds (show p.size+0<=90000 by lia) (by decide)) (by simp only[szs]; lia) (fun c hc=>by rw[AI.mp hc]; exact h) none none
 have g1:(1:Nat)<=AC:=by decide
 have g4:(4:Nat)<=AC:=by decide
 have ho:[Cl.mk s.spell r st p].all Cl.ok=chk p s.spell r st:=by simp[Cl.ok]
 rw[ho]at h1 h2
 have el:[Cl.mk s.spell r st p].map Cl.t=[.t [s.spell.t,tuT r,spT st,p.t]]:=rfl
 rw[el]at h1 h2
 clear ho el h hz hp hqs
 generalize chk p s.spell r st=b at *
 generalize spT st=X at *
 generalize s.spell.t=SS at *
 generalize s.t=S at *
 generalize tuT r=R at *
 generalize p.t=P at *
 cases b with
 | true =>
  obtain⟨o5,o6,ew⟩:=h1 rfl
  simp[F_58,fnD,d_58,e,gd,g1,g4,ew]
 | false =>
  obtain⟨Γ',ew⟩:=h2 rfl
  simp[F_58,fnD,d_58,e,gd,g1,g4,ew,resG]
noncomputable def Sy.core:Sy->Bool
 | .nt a=>a.core
 | .an _ _=>true
 | _=>false
theorem zOq(x0 x1 x2 x3 o5 o6:Option G)(L:List T)(hL:L.length<=100)(s r st p:T)(ks:List T)(hk:ks.length<=100)(e:F_57 [.v s,.v r,.v st,.v p]=some (.l ks,[])) :
  zAl [x0,x1,x2,x3,some (.l (L++[.t [s,r,st,p]])),o5,o6]=some (.nx [x0,x1,x2,x3,some (.l (L++ks)),some (.v (.t [s,r,st,p])),some (.l ks)]):=by
 have ex:L.length+ks.length<=AC:=zAC (by lia)
 have hq:L.length+1<=AC:=zAC (by lia)
 have hq':L.length<=AC:=by lia
 simp[zAl,e,hExtend,lsOf,isNoneS,rfS,sqlOf,mkB,gd,ex,hq,hq']
theorem zQs(x0 x1 x2 x3 o5 o6:Option G)(L:List T)(hL:L.length<=100)(s r st p:T)(e:F_57 [.v s,.v r,.v st,.v p]=some (.v (.a .non),[])) :
  zAl [x0,x1,x2,x3,some (.l (L++[.t [s,r,st,p]])),o5,o6]=some (.rt (.v (.a (.bl false))) [x0,x1,x2,x3,some (.l L),some (.v (.t [s,r,st,p])),some (.v (.a .non))]):=by
 have hq:L.length+1<=AC:=zAC (by lia)
 have hq':L.length<=AC:=by lia
 simp[zAl,e,isNoneS,mkB,gd,hq,hq']
theorem hl_c(x0 x1 x2 x3 o5 o6:Option G)(c:T):zBH [x0,x1,x2,x3,some (.l [c]),o5,o6]=some (true,[x0,x1,x2,x3,some (.l [c]),o5,o6]):=by simp[zBH]
theorem zG5(x0 x1 x2 x3:Option G):∀ (s:Sy) (r r':List Nat) (st:List Stp) (fuel:Nat) (o5 o6:Option G),s.plain->s.core=true->Rg r->Rg r'->r≠r'->StOk 5 q st->st.length=s.wt->s.wt<=1000->s.down < fuel ->
  ∃ Γ',dWhile zBH zAl fuel [x0,x1,x2,x3,some (.l [clT s r' st (s.paper r)]),o5,o6]=some (.rt (.v (.a (.bl false))) Γ')
 | .yes,_,_,_,_,_,_,_,h,_,_,_,_,_,_,_=>nomatch h
 | .no,_,_,_,_,_,_,_,h,_,_,_,_,_,_,_=>nomatch h
 | .ask _,_,_,_,_,_,_,_,h,_,_,_,_,_,_,_=>nomatch h
 | .or _ _,_,_,_,_,_,_,h,_,_,_,_,_,_,_,_=>h.elim
 | .ei _ _,_,_,_,_,_,_,h,_,_,_,_,_,_,_,_=>h.elim
 | .mo _ _ _,_,_,_,_,_,_,h,_,_,_,_,_,_,_,_=>h.elim
 | .nt a,r,r',st,0,_,_,_,_,_,_,_,_,_,_,hf=>absurd hf (by lia)
 | .an a b,r,r',st,0,_,_,_,_,_,_,_,_,_,_,hf=>absurd hf (by lia)
 | .nt a,r,r',st,f+1,o5,o6,hp,hc,hr,hr',hne,hs,hl,hw,hf=>by
  have hn:st≠[]:=fun z=>by rw[z]at hl; have:=zAp (.nt a); simp at hl; lia
  have e:=zDy a (a.paper (backL r)) r' hr' st hs hn (by lia)
  have b1:=zOq x0 x1 x2 x3 o5 o6 [] (by simp) _ _ _ _ _ (by simp) e
  have hb:backL r≠backL r':=fun z=>hne (by rw[← zDx hr.isT,z,zDx hr'.isT])
  obtain⟨Γ',ew⟩:=zG5 x0 x1 x2 x3 a (backL r) (backL r') (lastF st (backL r')) f (some (.v (clT (.nt a) r' st (Sy.paper (.nt a) r)))) (some (.l [clT a (backL r') (lastF st (backL r')) (a.paper (backL r))])) hp hc hr.back hr'.back hb (zFn hs hr'.back.isT) (by rw[zBt]; exact hl) hw (by simp only[Sy.down]at hf; lia)
  refine⟨Γ',?_⟩
  rw[zAd,hl_c,Ae,if_pos rfl]
  have b2:zAl [x0,x1,x2,x3,some (.l [clT (.nt a) r' st (Sy.paper (.nt a) r)]),o5,o6]=_:=b1
  rw[b2,Ae]
  exact ew
 | .an a b,r,r',st,f+1,o5,o6,hp,hc,hr,hr',hne,hs,hl,hw,hf=>by
  obtain⟨_,r1,r2,er⟩:=hr.ap
  have pa:=zAp a
  have pb:=zAp b
  have hl':st.length=2 * (a.wt+b.wt):=hl
  have e:=zE1 a b (a.paper (apL r).1) (b.paper (apL r).2) (a.paper (backL (apL r).1)) (b.paper (backL (apL r).2)) r1 r2 (r:=r') (fun z=>hne (er.symm.trans z)) st a.wt (a.wt+b.wt) (a.wt+b.wt+a.wt) (by lia) (by lia) (by lia) (by lia)
  have b1:=zQs x0 x1 x2 x3 o5 o6 [] (by simp) _ _ _ _ e
  have b2:zAl [x0,x1,x2,x3,some (.l [clT (.an a b) r' st (Sy.paper (.an a b) r)]),o5,o6]=_:=b1
  exact⟨_,by rw[zAd,hl_c,Ae,if_pos rfl,b2]; rfl⟩
theorem zLe(s:Sy)(r r':List Nat)(d0 d1:T)(hq:0 < q)(hqs:s.qs q)(hp:s.parts<=80000)(hc:s.spell.core=true)(hr:Rg r)(hr':Rg r')(hne:r≠r')(hw:s.wt<=128)(hd:s.down<=60):F_58 [.v s.t,.v (tuT r'),.v (.t [d0,d1,spT (s.spell.steps r)]),.v (s.spell.paper r).t]=some (.v (bT false),[]):=by
 have e:=zBE s hqs hp
 have pl:=zAF s
 have hd':=zAS s
 obtain⟨Γ',ew⟩:=zG5 (q:=q) (some (.v s.t)) (some (.v (tuT r'))) (some (.v (.t [d0,d1,spT (s.spell.steps r)]))) (some (.v (s.spell.paper r).t)) s.spell r r' (s.spell.steps r) fuelX none none pl hc hr hr' hne (zAe hq _ r pl (zAJ s hqs) hr).ok (zAY _ r pl) (by rw[zAT]; lia) (Ds (show s.spell.down<=420 by lia) (by decide))
 have g1:(1:Nat)<=AC:=by decide
 have g4:(4:Nat)<=AC:=by decide
 unfold clT at ew
 generalize spT (s.spell.steps r)=X at *
 generalize s.spell.t=SS at *
 generalize s.t=S at *
 generalize tuT r'=R at *
 generalize (s.spell.paper r).t=P at *
 simp[F_58,fnD,d_58,e,gd,g1,g4,ew,resG]
theorem Sy.head(s:Sy)(h:s.kids≠[]):∃ w:Str,s.t=.t (sT w::s.kids.map Sy.t):=by
 cases s with
 | yes=>exact absurd rfl h
 | no=>exact absurd rfl h
 | ask q=>exact absurd rfl h
 | nt a=>exact⟨_,rfl⟩
 | an a b=>exact⟨_,rfl⟩
 | or a b=>exact⟨_,rfl⟩
 | ei a b=>exact⟨_,rfl⟩
 | mo a b c=>exact⟨_,rfl⟩
theorem Sy.leaf(s:Sy)(h:s.kids=[]):s.wt=1/\s.parts=1:=by
 cases s with
 | yes=>exact⟨rfl,rfl⟩
 | no=>exact⟨rfl,rfl⟩
 | ask q=>exact⟨rfl,rfl⟩
 | nt a=>cases h
 | an a b=>cases h
 | or a b=>cases h
 | ei a b=>cases h
 | mo a b c=>cases h
theorem Sy.kid{q:Nat}{s k:Sy}(h:k∈s.kids):k.down < s.down/\(s.qs q->k.qs q):=by
 cases s with
 | yes=>cases h
 | no=>cases h
 | ask q=>cases h
 | nt a =>
  simp only[Sy.kids,AL,Ao,or_false]at h
  subst h
  exact⟨by simp only[Sy.down]; omega,fun z=>z⟩
 | an a b =>
  simp only[Sy.kids,AL,Ao,or_false]at h
  rcases h with rfl | rfl
  ·exact⟨by simp only[Sy.down]; omega,fun z=>z.1⟩
  ·exact⟨by simp only[Sy.down]; omega,fun z=>z.2⟩
 | or a b =>
  simp only[Sy.kids,AL,Ao,or_false]at h
  rcases h with rfl | rfl
  ·exact⟨by simp only[Sy.down]; omega,fun z=>z.1⟩
  ·exact⟨by simp only[Sy.down]; omega,fun z=>z.2⟩
 | ei a b =>
  simp only[Sy.kids,AL,Ao,or_false]at h
  rcases h with rfl | rfl
  ·exact⟨by simp only[Sy.down]; omega,fun z=>z.1⟩
  ·exact⟨by simp only[Sy.down]; omega,fun z=>z.2⟩
 | mo a b c =>
  simp only[Sy.kids,AL,Ao,or_false]at h
  rcases h with rfl | rfl | rfl
  ·exact⟨by simp only[Sy.down]; omega,fun z=>z.1⟩
  ·exact⟨by simp only[Sy.down]; omega,fun z=>z.2.1⟩
  ·exact⟨by simp only[Sy.down]; omega,fun z=>z.2.2⟩
theorem Sy.kids3(s:Sy):s.kids.length<=3:=by cases s <;> simp[Sy.kids]
theorem zFe(a b:Sy)(k:Nat)(hk:1<=k)(ha:a.parts<=a.wt * a.down)(hb:b.parts<=b.wt * b.down):1+a.parts+b.parts<=k * (a.wt+b.wt) * (1+max a.down b.down):=by
 have:=zAp a
 obtain⟨m,hm⟩:∃ m,m=max a.down b.down:=⟨_,rfl⟩
 have a1:a.wt * a.down<=a.wt * m:=BI _ (by omega)
 have b1:b.wt * b.down<=b.wt * m:=BI _ (by omega)
 have h1:(a.wt+b.wt) * (1+m)<=k * (a.wt+b.wt) * (1+m):=Nat.mul_le_mul_right _ (Nat.le_mul_of_pos_left _ hk)
 rw[← hm]
 refine Al ?_ h1
 simp only[C6,Dd,Fq]
 omega
theorem zAg:∀ s:Sy,s.parts<=s.wt * s.down
 | .yes=>AK _
 | .no=>AK _
 | .ask _=>AK _
 | .nt a=>by
  have h:=zAg a
  have:=zAp a
  simp only[Sy.parts,Sy.wt,Sy.down,C6,Dd]
  omega
 | .an a b=>zFe a b 2 (by decide) (zAg a) (zAg b)
 | .or a b=>zFe a b 2 (by decide) (zAg a) (zAg b)
 | .ei a b=>zFe a b 8 (by decide) (zAg a) (zAg b)
 | .mo a b c=>by
  have ha:=zAg a
  have hb:=zAg b
  have hc:=zAg c
  have:=zAp a
  obtain⟨m,hm⟩:∃ m,m=max a.down (max b.down c.down):=⟨_,rfl⟩
  have a1:a.wt * a.down<=a.wt * m:=BI _ (by omega)
  have b1:b.wt * b.down<=b.wt * m:=BI _ (by omega)
  have c1:c.wt * c.down<=c.wt * m:=BI _ (by omega)
  simp only[Sy.parts,Sy.wt,Sy.down,← hm,C6,Dd,Fq,Iw]
  omega
theorem zH6(q:Nat):∀ (m:Nat) (s:Sy) (a b:Int) (fuel:Nat),s.down<=m->s.down<=12->m < fuel->s.qs q->∃ (s':Sy) (a' b':Int),s'.down<=s.down/\s'.qs q/\s'.wt<=8 /\
  dWhile zCu zDp fuel [some (.l [iT a,iT b]),some (.v (iT (q:Int))),some (.v s.t)]=some (.nx [some (.l [iT a',iT b']),some (.v (iT (q:Int))),some (.v s'.t)]):=by
 intro m
 induction m with
 | zero=>intro s a b fuel h; have:=s.down_pos; omega
 | succ m ih =>
  intro s a b fuel hd h12 hf hq
  obtain⟨f,rfl⟩:∃ f,fuel=f+1:=⟨fuel - 1,by omega⟩
  have ew:=zGO zDi s h12
  by_cases c:s.wt > 8
  ·have hk:s.kids≠[]:=fun z=>by have:=s.leaf z; omega
   obtain⟨w,et⟩:=s.head hk
   obtain⟨j,a1,b1,hj,e1⟩:=zAt a b s.kids.length (Cv.mpr hk) (by have:=s.kids3; omega)
   obtain⟨k,ek⟩:∃ k,s.kids[j]?=some k:=⟨s.kids[j],by simp[hj]⟩
   have hm:k∈s.kids:=DX ek
   obtain⟨kd,kq⟩:=Sy.kid (q:=q) hm
   obtain⟨s',a',b',u1,u2,u3,e2⟩:=ih k a1 b1 f (by omega) (by omega) (by omega) (kq hq)
   refine⟨s',a',b',by omega,u2,u3,?_⟩
   rw[← e2,zAd]
   have test:zCu [some (.l [iT a,iT b]),some (.v (iT (q:Int))),some (.v s.t)]=some (true,[some (.l [iT a,iT b]),some (.v (iT (q:Int))),some (.v s.t)]):=by
    simp only[iT]at ew ⊢
    have:(8:Int) < (s.wt:Int):=by omega
    simp[zCu,ew,this]
   have body:zDp [some (.l [iT a,iT b]),some (.v (iT (q:Int))),some (.v s.t)]=some (.nx [some (.l [iT a1,iT b1]),some (.v (iT (q:Int))),some (.v k.t)]):=by
    simp only[iT]at e1 ⊢
    have ei:atI (sT w::s.kids.map Sy.t) (1+(j:Int))=some k.t:=by
     rw[show (1:Int)+(j:Int)=((j+1:Nat):Int) by omega,zAf]
     simp[ek]
    rw[et]
    simp only[sT]at ei ⊢
    simp[zDp,e1,ei]
   rw[test,Ae,if_pos rfl,body,Ae]
  ·have c1:¬ (8:Int) < (s.wt:Int):=by omega
   refine⟨s,a,b,AK _,hq,by omega,?_⟩
   rw[zAd]
   simp only[iT]at ew ⊢
   simp[zCu,ew,c1]
structure Sy.Sm(q:Nat)(s:Sy):Prop where
 d:s.down<=3
 q:s.qs q
 w:s.wt<=8
theorem zFQ(q:Nat)(hq0:0 < q)(hq:q<=100)(a b:Int):∃ (s:Sy) (a' b':Int),s.Sm q/\F_6 [.l [iT a,iT b],.v (iT (q:Int))]=some (.v s.t,[iT a',iT b']):=by
 obtain⟨s,a1,b1,u1,u2,u3,e1⟩:=zIv q hq0 hq zCc a b 4 3 (by decide) (by decide) (by decide) (by decide)
 have e1':F_1 zCc [.l [.a (.int a),.a (.int b)],.v (.a (.int (q:Int))),.v (.a (.int 4)),.v (.a (.int 3))]=some (.v s.t,[.a (.int a1),.a (.int b1)]):=e1
 obtain⟨s',a',b',w1,w2,w3,e4⟩:=zH6 q 12 s a1 b1 fuelX (by omega) (by omega) (by rw[zDO]; omega) u3
 refine⟨s',a',b',⟨by omega,w2,w3⟩,?_⟩
 simp only[iT]at e4 ⊢
 simp[F_6,fnD,d_6,e1',e4]
def saids (s t:Sy):List Sy:=[.ei s t,.an (.or s t) (.nt (.an s t)),.nt (.nt (.ei s t)),(Sy.ei s t).spell,.or (.an s (.nt t)) (.an (.nt s) t)]
theorem zMr(q:Nat)(hq0:0 < q)(hq:q<=100)(a b:Int):∃ (s t:Sy) (a' b':Int),s.Sm q/\t.Sm q/\F_31 [.l [iT a,iT b],.v (iT (q:Int))]=some (.l ((saids s t).map Sy.t),[iT a',iT b']):=by
 obtain⟨s,a1,b1,hs,e1⟩:=zFQ q hq0 hq a b
 obtain⟨t,a2,b2,ht,e2⟩:=zFQ q hq0 hq a1 b1
 have hp:=zAg (.ei s t)
 have hb:(Sy.ei s t).wt * (Sy.ei s t).down<=128 * 4:=DH (by have:=hs.w; have:=ht.w; simp only[Sy.wt]; omega) (by have:=hs.d; have:=ht.d; simp only[Sy.down]; omega)
 have e3:=zBE (.ei s t) (show (Sy.ei s t).qs q from ⟨hs.q,ht.q⟩) (by omega)
 have g1:(1:Nat)<=AC:=by decide
 have g2:(2:Nat)<=AC:=by decide
 have g3:(3:Nat)<=AC:=by decide
 have g4:(4:Nat)<=AC:=by decide
 have g5:(5:Nat)<=AC:=by decide
 refine⟨s,t,a2,b2,hs,ht,?_⟩
 simp only[saids,AN,Aj]
 generalize (Sy.ei s t).spell.t=SP at *
 simp only[Sy.t]at e3 ⊢
 generalize s.t=S at *
 generalize t.t=TT at *
 simp only[iT,sT]at e1 e2 e3 ⊢
 simp[F_31,fnD,d_31,e1,e2,e3,gd,g1,g2,g3,g4,g5]
structure Fit(q:Nat)(one x:Sy):Prop where
 q:x.qs q
 w:x.wt<=128
 d:x.down<=60
 p:x.parts<=80000
 so:∀ as,x.so as=one.so as
 c:x.spell.core=true
theorem zBP:∀ s:Sy,s.plain->s.spell=s
 | .yes,_=>rfl
 | .no,_=>rfl
 | .ask _,_=>rfl
 | .nt a,h=>by simp only[Sy.spell,zBP a h]
 | .an a b,h=>by simp only[Sy.spell,zBP a h.1,zBP b h.2]
theorem Fit.mk'{q:Nat}{one x:Sy}(h1:x.qs q)(h2:x.wt<=128)(h3:x.down<=60)(h4:∀ as,x.so as=one.so as)(h5:x.spell.core=true):Fit q one x :=
 ⟨h1,h2,h3,by have:=zAg x; have:x.wt * x.down<=128 * 60:=DH h2 h3; omega,h4,h5⟩
theorem zJS{q:Nat}{s t:Sy}(hs:s.Sm q)(ht:t.Sm q):∀ x∈saids s t,Fit q (.ei s t) x:=by
 have sw:=hs.w
 have tw:=ht.w
 have sd:=hs.d
 have td:=ht.d
 have q1:=hs.q
 have q2:=ht.q
 have w0:(Sy.ei s t).wt<=128:=by simp only[Sy.wt]; omega
 have d0:(Sy.ei s t).down<=4:=by simp only[Sy.down]; omega
 intro x hx
 simp only[saids,AL,Ao,or_false]at hx
 rcases hx with rfl | rfl | rfl | rfl | rfl
 ·exact .mk' ⟨q1,q2⟩ w0 (by omega) (fun _=>rfl) rfl
 ·refine .mk' ⟨⟨q1,q2⟩,q1,q2⟩ (by simp only[Sy.wt]; omega) (by simp only[Sy.down]; omega) (fun as=>?_) rfl
  simp only[Sy.so]; cases s.so as <;> cases t.so as <;> rfl
 ·refine .mk' ⟨q1,q2⟩ w0 (by simp only[Sy.down]at d0 ⊢; omega) (fun as=>?_) rfl
  simp only[Sy.so]; cases s.so as <;> cases t.so as <;> rfl
 ·exact .mk' (zAJ (.ei s t) ⟨q1,q2⟩) (by rw[zAT]; exact w0) (by have:=zAS (.ei s t); omega) (fun as=>zAh as _) (by rw[zBP _ (zAF _)]; rfl)
 ·refine .mk' ⟨⟨q1,q2⟩,q1,q2⟩ (by simp only[Sy.wt]; omega) (by simp only[Sy.down]; omega) (fun as=>?_) rfl
  simp only[Sy.so]; cases s.so as <;> cases t.so as <;> rfl
noncomputable def allA:Nat->List (List Nat)
 | 0=>[[]]
 | q+1=>(allA q).map (0::·)++(allA q).map (1::·)
noncomputable def twoA (a:List Nat):List (List Nat):=[a++[0],a++[1]]
theorem zEk(x:Nat)(l:List (List Nat)):(l.map (x::·)).flatMap twoA=(l.flatMap twoA).map (x::·):=by
 induction l with
 | nil=>rfl
 | cons a r ih=>simp only[AN,Hl,ih,By]; rfl
theorem zFC:∀ q,(allA q).flatMap twoA=allA (q+1)
 | 0=>rfl
 | q+1=>by
  rw[allA,List.flatMap_append,zEk,zEk,zFC q]
  rfl
theorem zFF:∀ q,(allA q).length=2 ^ q
 | 0=>rfl
 | q+1=>by rw[allA]; simp[zFF q]; lia
theorem zGU(h:q<=10):(allA q).length<=1024:=by
 rw[zFF]
 exact Al (Nat.pow_le_pow_right (by decide) h) (by decide)
theorem zDD:∀ (q:Nat) (a:List Nat),a∈allA q->AnsOk q a
 | 0,a,h=>by
  simp[allA]at h
  subst h
  exact⟨rfl,fun x hx=>nomatch hx⟩
 | q+1,a,h=>by
  simp only[allA,CD,BQ]at h
  rcases h with ⟨b,hb,rfl⟩ | ⟨b,hb,rfl⟩
  ·have:=zDD q b hb
   exact⟨by simp[this.len],fun x hx=>(AL.mp hx).elim (fun z=>by lia) (this.lt x)⟩
  ·have:=zDD q b hb
   exact⟨by simp[this.len],fun x hx=>(AL.mp hx).elim (fun z=>by lia) (this.lt x)⟩
theorem zEi(q x1 x2:Option G):∀ (L:List (List Nat)) (acc:List T) (o4:Option G),acc.length+2 * L.length<=5000->(∀ a∈L,a.length<=1000)->∃ o4',forD (gdName 4) zC8 (L.map tuT) [q,x1,x2,some (.l acc),o4]=some (.nx [q,x1,x2,some (.l (acc++(L.flatMap twoA).map tuT)),o4'])
 | [],acc,o4,_,_=>⟨o4,by rw[Aj,zBr]; simp⟩
 | a::r,acc,o4,hl,ha=>by
  obtain⟨o4',e⟩:=zEi q x1 x2 r (acc++[tuT (a++[0]),tuT (a++[1])]) (some (.v (tuT a))) (by simp at hl ⊢; lia) fun z hz=>ha z (AR _ hz)
  refine⟨o4',?_⟩
  have g1:(1:Nat)<=AC:=by decide
  have g2:(2:Nat)<=AC:=by decide
  have g3:a.length+1<=AC:=zAC (by have:=ha a AY; lia)
  have g4:acc.length+2<=AC:=zAC (by simp at hl; lia)
  have g5:acc.length<=AC:=zAC (by simp at hl; lia)
  have turn:zC8 [q,x1,x2,some (.l acc),some (.v (tuT a))]=some (.nx [q,x1,x2,some (.l (acc++[tuT (a++[0]),tuT (a++[1])])),some (.v (tuT a))]):=by
   simp[zC8,gd,g1,g2,g3,g4,g5,hExtend]
  rw[AN,zBK (by simp) turn,e]
  congr 6
  rw[Hl,By,Bx]; rfl
theorem zEU(q:Option G):∀ (its:List T) (k:Nat) (o2 o3 o4:Option G),its.length+k<=10->∃ o2' o3' o4',forD (gdName 2) zB3 its [q,some (.l ((allA k).map tuT)),o2,o3,o4]=some (.nx [q,some (.l ((allA (its.length+k)).map tuT)),o2',o3',o4'])
 | [],k,o2,o3,o4,_=>⟨o2,o3,o4,by rw[zBr,Dh,FQ]⟩
 | t::r,k,o2,o3,o4,h=>by
  have hk:=zGU (q:=k) (by simp at h; lia)
  obtain⟨p4,e1⟩:=zEi q (some (.r ((allA k).map tuT))) (some (.v t)) (allA k) [] o4 (by simp; lia) fun a ha=>by have:=(zDD k a ha).len; simp at h; lia
  rw[C0,zFC]at e1
  obtain⟨o2',o3',o4',e⟩:=zEU q r (k+1) (some (.v t)) none p4 (by simp at h ⊢; lia)
  refine⟨o2',o3',o4',?_⟩
  have g0:(0:Nat)<=AC:=by decide
  have g1:(allA k).length<=AC:=zAC (by lia)
  have hl:((allA k).map tuT).length=(allA k).length:=by simp
  have turn:zB3 [q,some (.l ((allA k).map tuT)),some (.v t),o3,o4]=some (.nx [q,some (.l ((allA (k+1)).map tuT)),some (.v t),none,p4]):=by
   generalize (allA (k+1)).map tuT=A1 at *
   generalize (allA k).map tuT=A0 at *
   simp[zB3,gd,g0,g1,hl,frz1,e1,dMv,setM]
  rw[zBK (by simp) turn,e]
  have:r.length+(k+1)=(t::r).length+k:=by simp; lia
  rw[this]
theorem zEC(q:Nat)(hq:q<=10):F_32 [.v (iT (q:Int))]=some (.l ((allA q).map tuT),[]):=by
 have hr:(rngT 0 q).length=q:=by simp[rngT]
 obtain⟨o2,o3,o4,e⟩:=zEU (some (.v (iT (q:Int)))) (rngT 0 q) 0 none none none (by lia)
 rw[hr,Nat.add_zero]at e
 have e':forD (gdName 2) zB3 (rngT 0 q) [some (.v (iT (q:Int))),some (.l [.t []]),none,none,none]=some (.nx [some (.v (iT (q:Int))),some (.l ((allA q).map tuT)),o2,o3,o4]):=e
 have r1:=zA9 q (by lia)
 have g0:(0:Nat)<=AC:=by decide
 have g1:(1:Nat)<=AC:=by decide
 generalize (allA q).map tuT=AA at *
 simp only[iT]at e' r1 ⊢
 simp[F_32,fnD,d_32,gd,g0,g1,r1,e']
theorem zCm:∀ (its:List T) (o:Option G) (a b:Int),∃ (as:List Nat) (o':Option G) (a' b':Int),as.length=its.length/\(∀ x∈as,x < 2)/\compD (gdName 0) dYes zB2 its [o,some (.l [iT a,iT b])]=some (tvT as,[o',some (.l [iT a',iT b'])])
 | [],o,a,b=>⟨[],o,a,b,rfl,(fun x hx=>nomatch hx),rfl⟩
 | t::r,o,a,b=>by
  obtain⟨x,a1,b1,hx,e1⟩:=zAt a b 2 (by decide) (by decide)
  have e1':F_5 [.l [iT a,iT b],.v (.a (.int 2))]=some (.v (iT (x:Int)),[iT a1,iT b1]):=e1
  obtain⟨as,o',a',b',hl,hlt,e2⟩:=zCm r (some (.v t)) a1 b1
  refine⟨x::as,o',a',b',by simp[hl],fun y hy=>(AL.mp hy).elim (fun z=>z ▸ hx) (hlt y),?_⟩
  have el:zB2 [some (.v t),some (.l [iT a,iT b])]=some (.v (iT (x:Int)),[some (.v t),some (.l [iT a1,iT b1])]):=by
   simp only[iT]at e1'
   simp[zB2,e1']
  simp only[iT,tvT]at el e2
  rw[zAL]
  simp[el,e2]
theorem zId(a b:Int)(qs:Nat)(hq:qs<=10):∃ as a' b',AnsOk qs as/\F_33 [.l [iT a,iT b],.v (iT (qs:Int))]=some (.v (tuT as),[iT a',iT b']):=by
 obtain⟨as,o',a',b',hl,hlt,e⟩:=zCm (rngT 0 qs) none a b
 refine⟨as,a',b',⟨by rw[hl]; simp[rngT],hlt⟩,?_⟩
 simp only[iT,tvT]at e
 simp[F_33,fnD,d_33,zA9 qs (by lia),e]
theorem zEL(n qs:Nat)(s:Stp)(as:List Nat)(hs:s.1 < qs)(ha:AnsOk qs as):F_44 [.v (stT s),.v (tuT as)]=some (.v (tuT (pickT as s)),[]):=by
 have h0:=zEE ha hs
 unfold pickT
 generalize as.getD s.1 0=x at h0 ⊢
 have h1:=zCh h0
 simp only[tvT,iT]at h1
 by_cases hc:x=1
 ·subst hc
  simp[F_44,fnD,d_44,h1]
 ·have hc':¬ (x:Int)=1:=by lia
  simp[F_44,fnD,d_44,h1,hc,hc']
theorem zHe(n qs:Nat)(hn:n<=5)(as:List Nat)(ha:AnsOk qs as)(d:T):∀ (st:List Stp) (c:List Nat) (told:List T) (o4:Option G),IsT n c->StOk n qs st->st.length+told.length<=10000->∃ o4',forD (gdName 4) zC5 (st.map stT) [some (.v d),some (.v (tuT as)),some (.l told),some (.v (tuT c)),o4] =
  some (.nx [some (.v d),some (.v (tuT as)),some (.l (told++(scanL as c st).map tuT)),some (.v (tuT (doneL as c st))),o4']):=by
 intro st
 induction st with
 | nil=>intro c told o4 _ _ _; exact⟨o4,by simp[zBr,scanL,doneL]⟩
 | cons s r ih =>
  intro c told o4 hc hs hl
  have h1:=hs s AY
  have hp:=zBC (as:=as) h1
  have e1:=zEL n qs s as h1.1 ha
  have e2:=zA1 n c (pickT as s) hc hp hn
  obtain⟨o4',e3⟩:=ih (thenL c (pickT as s)) (told++[tuT (thenL c (pickT as s))]) (some (.v (stT s))) (zAM hc hp) (fun x hx=>hs x (AR _ hx)) (by simp at hl ⊢; lia)
  refine⟨o4',?_⟩
  have g1:told.length<=AC:=zAC (by simp at hl; lia)
  have g2:told.length < AC:=zGx (by simp at hl; lia)
  have turn:zC5 [some (.v d),some (.v (tuT as)),some (.l told),some (.v (tuT c)),some (.v (stT s))]=some (.nx [some (.v d),some (.v (tuT as)),some (.l (told++[tuT (thenL c (pickT as s))])),some (.v (tuT (thenL c (pickT as s)))),some (.v (stT s))]):=by
   simp only[tuT,tvT,iT,stT]at e1 e2
   simp[zC5,e1,e2,gd,g1,g2]
  simp only[tuT,tvT,iT,stT]at turn e3
  rw[AN,zBu]
  simp only[zBy,Ae,List.set_cons_succ,List.set_cons_zero]
  simp only[tuT,tvT,iT,stT]
  rw[turn]
  simp only[Ae]
  rw[e3]
  simp[scanL,doneL]
theorem zLW(n qs:Nat)(hn:n<=5)(st:List Stp)(as:List Nat)(ha:AnsOk qs as)(hs:StOk n qs st)(hl:st.length<=5000):F_45 [.v (danT n qs st),.v (tuT as)]=some (.l ((scanL as (AF n) st).map tuT),[]):=by
 obtain⟨o4',e⟩:=zHe n qs hn as ha (danT n qs st) st (AF n) [] none (zAX n) hs (by simp; lia)
 have e1:=zBj n hn
 have g:st.length<=AC:=zAC (by lia)
 simp only[tuT,tvT,iT,danT,stT,C0]at e e1
 simp[F_45,fnD,d_45,e1,gd,g,e]
theorem zCa(n qs:Nat)(hn:n<=5)(st:List Stp)(as:List Nat)(ha:AnsOk qs as)(hs:StOk n qs st)(hl:st.length<=5000):F_46 [.v (danT n qs st),.v (tuT as)]=some (.v (tuT (doneL as (AF n) st)),[]):=by
 have e1:=zBj n hn
 have e2:=zLW n qs hn st as ha hs hl
 have hlen:=zEQ as (AF n) st
 have g1:(1:Nat)<=AC:=by decide
 have g2:1+st.length<=AC:=zAC (by lia)
 have last:atI (tuT (AF n)::(scanL as (AF n) st).map tuT) (-1)=some (tuT (doneL as (AF n) st)):=by
  rw[zKC (by simp)]
  have:=zEX as (AF n) st
  rw[← AN,A7,Af,this]
  rfl
 simp only[tuT,tvT,iT,danT,stT]at e1 e2 last
 simp[F_46,fnD,d_46,e1,e2,gd,g1,hlen,g2,last]
theorem zOH(n:Nat)(t:List Nat)(h:IsT n t)(hn:n<=5):F_47 [.v (tuT t)]=some (.v (tuT (backL t)),[]):=by
 have hl:=h.len
 obtain⟨o',e⟩:=zBV (fun (i:Nat)=>iT (i:Int)) (fun (i:Nat)=>iT (t.idxOf i:Nat)) (de:=zCx) (R:=[some (.v (tuT t))]) (AF n) (fun i hi=>by
  have f1:=zFm (h.mem (show i < n by simpa using hi))
  simp[zCx,zDV t,zGe t,f1,flatV]) none
 have e2:=zD1 n
 simp only[tuT,tvT,iT]at e e2
 simp[F_47,fnD,d_47,hl,zA9 n (by lia),e2,e,backL]
def abT (by' t:List Nat):List Nat:=thenL (thenL (backL by') t) by'
def abS (by':List Nat) (s:Stp):Stp:=(s.1,abT by' s.2.1,abT by' s.2.2)
theorem zGZ(hb:IsT n b)(ht:IsT n t):IsT n (abT b t):=zAM (zAM (zAb hb) ht) hb
theorem zL7(hb:IsT n b)(hs:StOk n qs st):StOk n qs (st.map (abS b)):=fun x hx=>by
 obtain⟨s,h,rfl⟩:=BQ.mp hx
 have:=hs s h
 exact⟨this.1,zGZ hb this.2.1,zGZ hb this.2.2⟩
theorem zOW(as b:List Nat)(s:Stp):pickT as (abS b s)=abT b (pickT as s):=by
 unfold pickT abS
 dsimp only
 split <;> rfl
theorem zLq(hb:IsT n b)(hx:IsT n x)(hy:IsT n y):thenL (abT b x) (abT b y)=abT b (thenL x y):=by
 unfold abT
 have hk:=zAb hb
 rw[zAP (zAM hk hx) hb (zAM (zAM hk hy) hb),← zAP hb (zAM hk hy) hb,← zAP hb hk hy,zBO hb,zAc hy,← zAP (zAM hk hx) hy hb,zAP hk hx hy]
theorem zES(hb:IsT n b):abT b (AF n)=AF n:=by
 unfold abT
 rw[zAW (zAb hb),zBg hb]
theorem zDu(hb:IsT n b):∀ {st:List Stp},StOk n qs st->doneL as (AF n) (st.map (abS b))=abT b (doneL as (AF n) st)
 | [],_=>(zES hb).symm
 | s::r,hs=>by
  have hr:StOk n qs r:=fun x hx=>hs x (AR _ hx)
  have hp:=zBC (as:=as) (hs s AY)
  have hab:=zL7 hb hs
  rw[AN]at hab ⊢
  rw[zCR hab,zCR hs,zDu hb hr,zOW,zLq hb hp (zA2 (zAX n) hr)]
theorem zDf(n:Nat)(t b:List Nat)(ht:IsT n t)(hb:IsT n b)(hn:n<=5):F_14 [.v (tuT t),.v (tuT b)]=some (.v (tuT (abT b t)),[]):=by
 have e1:=zAk n b hb hn
 have e2:=zA1 n _ t (zAb hb) ht hn
 have e3:=zA1 n _ b (zAM (zAb hb) ht) hb hn
 unfold abT
 generalize tuT (thenL (thenL (backL b) t) b)=X at *
 generalize tuT (thenL (backL b) t)=Y at *
 generalize tuT (backL b)=Z at *
 generalize tuT b=B at *
 generalize tuT t=U at *
 simp[F_14,fnD,d_14,e1,e2,e3]
theorem zKl(n qs:Nat)(hn:n<=5)(st:List Stp)(b:List Nat)(hb:IsT n b)(hs:StOk n qs st)(hl:st.length<=5000):F_42 [.v (danT n qs st),.v (tuT b)]=some (.v (danT n qs (st.map (abS b))),[]):=by
 have g3:(3:Nat)<=AC:=by decide
 have hbl:=hb.len
 obtain⟨o',e⟩:=zBV stT (fun s=>stT (abS b s)) (de:=zC1) (R:=[some (.v (tuT b))]) st (fun s hm=>by
  have h:=hs s hm
  have k1:=zDf n s.2.1 b h.2.1 hb hn
  have k2:=zDf n s.2.2 b h.2.2 hb hn
  simp only[stT,abS]
  generalize tuT (abT b s.2.1)=X1 at *
  generalize tuT (abT b s.2.2)=X2 at *
  generalize tuT s.2.1=Y1 at *
  generalize tuT s.2.2=Y2 at *
  generalize tuT b=B at *
  simp[zC1,k1,k2,gd,g3]) none
 have gL:(st.map stT).length<=AC:=zAC (by simp; lia)
 have gM:((st.map (abS b)).map stT).length<=AC:=zAC (by simp; lia)
 have hm:st.map (fun s=>stT (abS b s))=(st.map (abS b)).map stT:=by rw[Gg]; rfl
 have hB:(tvT b).length=n:=by simpa using hbl
 rw[hm]at e
 simp only[danT,tuT]at e ⊢
 generalize (st.map (abS b)).map stT=M at *
 generalize st.map stT=L at *
 generalize tvT b=B at *
 subst hB
 simp[F_42,fnD,d_42,gd,g3,gL,gM,e]
theorem zNo(n qs:Nat)(hn:n<=5)(st:List Stp)(hs:StOk n qs st)(hl:st.length<=5000):F_43 [.v (danT n qs st)]=some (.v (danT n qs (st.reverse.map bkS)),[]):=by
 have g3:(3:Nat)<=AC:=by decide
 obtain⟨o',e⟩:=zBV stT (fun s=>stT (bkS s)) (de:=zC2) (R:=[]) st.reverse (fun s hm=>by
  have h:=hs s (Ht.mp hm)
  have k1:=zAk n s.2.1 h.2.1 hn
  have k2:=zAk n s.2.2 h.2.2 hn
  simp only[iT,tuT,tvT]at k1 k2
  simp[zC2,k1,k2,gd,g3,bkS]) none
 have g:st.length<=AC:=zAC (by lia)
 have hm:st.reverse.map (fun s=>stT (bkS s))=(st.reverse.map bkS).map stT:=by rw[Gg]; rfl
 have hr:(st.map stT).reverse=st.reverse.map stT:=by rw[List.map_reverse]
 have hlen:(st.reverse.map bkS).length=st.length:=by simp
 rw[hm,← hr]at e
 simp only[danT]
 generalize (st.reverse.map bkS)=B at *
 have gB:B.length<=AC:=by rw[hlen]; exact g
 have hL:(st.map stT).length<=AC:=by simpa using g
 generalize st.map stT=L at *
 generalize hBL:B.map stT=BL at *
 have gBL:BL.length<=AC:=by rw[← hBL]; simpa using gB
 simp[F_43,fnD,d_43,dRev,gd,g3,hL,e,gBL,hBL]
theorem zIo(hs:StOk n qs st):doneL as (AF n) (st.reverse.map bkS)=backL (doneL as (AF n) st):=by
 have h:=(zGV (as:=as) hs).1
 have hd:=zA2 (as:=as) (zAX n) hs
 have hb:=zA2 (as:=as) (zAX n) (zIc hs)
 have hbk:=zAb hd
 generalize doneL as (AF n) st=d at *
 generalize doneL as (AF n) (st.reverse.map bkS)=b at *
 rw[← zAc hb,← zBg hd,zAP hbk hd hb,h,zAW hbk]
theorem zM8(ha:AnsOk m as):∀ (n:Nat) (s:Sy),s.down<=n->s.qs m->F_2 n [.v s.t,.v (tuT as)]=some (.v (.a (.bl (s.so as))),[]):=by
 intro n
 induction n with
 | zero=>intro s h; have:=s.down_pos; lia
 | succ n ih =>
  intro s h hq
  have g0:(0:Nat)<=AC:=by decide
  have g1:(1:Nat)<=AC:=by decide
  have g2:(2:Nat)<=AC:=by decide
  have g3:(3:Nat)<=AC:=by decide
  have nd:([.inr "yes",.inr "no",.inr "and",.inr "or",.inr "either",.inr "most"]:List Key).Nodup:=by decide +kernel
  have t1:toD (T.a (V.bl true))=some (.bool true):=rfl
  have t2:B4 (.bool true)=true/\Cn (.bool true)<=100:=⟨rfl,by decide⟩
  have ea:∀ (k:Sy) (b:Bool),k.so as=b->k.down<=n->k.qs m->zDb (F_2 n) [some (.v k.t),some (.v (tuT as))]=some (.v (.a (.bl b)),[some (.v k.t),some (.v (tuT as))]):=fun k b hb hk hkq=>by
   have:=ih k hk hkq
   rw[hb]at this
   generalize tuT as=AS at *
   simp[zDb,this]
  cases s with
  | yes =>
   obtain⟨k1,k2,k3⟩:=zCI []
   simp only[Aj]at k1 k2 k3
   generalize tuT as=AS
   simp[F_2,fnD,d_2,Sy.t,Sy.so,cut1,zAR,gd,g0,k1,k2,k3,t1,t2,nd,keyT,valT]
  | no =>
   obtain⟨k1,k2,k3⟩:=zCI []
   simp only[Aj]at k1 k2 k3
   generalize tuT as=AS
   simp[F_2,fnD,d_2,Sy.t,Sy.so,cut1,zAR,gd,g0,k1,k2,k3,t1,t2,nd,keyT,valT]
  | ask k =>
   have h0:=zEE ha (show k < m from hq)
   have h2:=zCh h0
   have e1:(decide (((as.getD k 0:Nat):Int)=1))=(as.getD k 0 == 1):=by
    by_cases c:as.getD k 0=1
    ·rw[c]; rfl
    ·rw[decide_eq_false (by lia),show (as.getD k 0 == 1)=false by simpa using c]
   simp only[Sy.so]
   generalize as.getD k 0=x at *
   unfold tuT
   generalize tvT as=AS at *
   simp only[iT]at h2
   simp[F_2,fnD,d_2,Sy.t,h2,e1]
  | nt a =>
   have e:=ea a _ rfl (by simp only[Sy.down]at h; lia) hq
   generalize tuT as=AS at *
   simp[F_2,fnD,d_2,Sy.t,Sy.so,cut1,zAL,zAR,gd,g1,e]
  | an a b =>
   cases h1:a.so as <;> cases h2:b.so as
   all_goals
    have e:=ea a _ h1 (by simp only[Sy.down]at h; lia) hq.1
    have e':=ea b _ h2 (by simp only[Sy.down]at h; lia) hq.2
    obtain⟨k1,k2,k3⟩:=zCI [a.so as,b.so as]
    rw[h1,h2]at k1 k2 k3
    simp only[AN,Aj]at k1 k2 k3
    generalize tuT as=AS at *
    simp[F_2,fnD,d_2,Sy.t,Sy.so,cut1,zAL,zAR,gd,g2,e,e',h1,h2,k1,k2,k3,t1,t2,nd,keyT,valT]
  | or a b =>
   cases h1:a.so as <;> cases h2:b.so as
   all_goals
    have e:=ea a _ h1 (by simp only[Sy.down]at h; lia) hq.1
    have e':=ea b _ h2 (by simp only[Sy.down]at h; lia) hq.2
    obtain⟨k1,k2,k3⟩:=zCI [a.so as,b.so as]
    rw[h1,h2]at k1 k2 k3
    simp only[AN,Aj]at k1 k2 k3
    generalize tuT as=AS at *
    simp[F_2,fnD,d_2,Sy.t,Sy.so,cut1,zAL,zAR,gd,g2,e,e',h1,h2,k1,k2,k3,t1,t2,nd,keyT,valT]
  | ei a b =>
   cases h1:a.so as <;> cases h2:b.so as
   all_goals
    have e:=ea a _ h1 (by simp only[Sy.down]at h; lia) hq.1
    have e':=ea b _ h2 (by simp only[Sy.down]at h; lia) hq.2
    obtain⟨k1,k2,k3⟩:=zCI [a.so as,b.so as]
    rw[h1,h2]at k1 k2 k3
    simp only[AN,Aj]at k1 k2 k3
    generalize tuT as=AS at *
    simp[F_2,fnD,d_2,Sy.t,Sy.so,cut1,zAL,zAR,gd,g2,e,e',h1,h2,k1,k2,k3,t1,t2,nd,keyT,valT]
  | mo a b c =>
   cases h1:a.so as <;> cases h2:b.so as <;> cases h3:c.so as
   all_goals
    have e:=ea a _ h1 (by simp only[Sy.down]at h; lia) hq.1
    have e':=ea b _ h2 (by simp only[Sy.down]at h; lia) hq.2.1
    have e'':=ea c _ h3 (by simp only[Sy.down]at h; lia) hq.2.2
    obtain⟨k1,k2,k3⟩:=zCI [a.so as,b.so as,c.so as]
    rw[h1,h2,h3]at k1 k2 k3
    simp only[AN,Aj]at k1 k2 k3
    generalize tuT as=AS at *
    simp[F_2,fnD,d_2,Sy.t,Sy.so,cut1,zAL,zAR,gd,g3,e,e',e'',h1,h2,h3,k1,k2,k3,t1,t2,nd,keyT,valT]
theorem zEn(q:Nat)(hq:q<=10):∀ (its:List T) (o:Option G) (a b:Int),∃ (L:List (List Nat)) (o':Option G) (a' b':Int),L.length=its.length/\(∀ x∈L,AnsOk q x)/\compD (gdName 0) dYes zCA its [o,some (.l [iT a,iT b]),some (.v (iT (q:Int)))]=some (L.map tuT,[o',some (.l [iT a',iT b']),some (.v (iT (q:Int)))])
 | [],o,a,b=>⟨[],o,a,b,rfl,(fun x hx=>nomatch hx),rfl⟩
 | t::r,o,a,b=>by
  obtain⟨x,a1,b1,hx,e1⟩:=zId a b q hq
  obtain⟨L,o',a',b',hl,hlt,e2⟩:=zEn q hq r (some (.v t)) a1 b1
  refine⟨x::L,o',a',b',by simp[hl],fun y hy=>(AL.mp hy).elim (fun z=>z ▸ hx) (hlt y),?_⟩
  have el:zCA [some (.v t),some (.l [iT a,iT b]),some (.v (iT (q:Int)))]=some (.v (tuT x),[some (.v t),some (.l [iT a1,iT b1]),some (.v (iT (q:Int)))]):=by
   generalize tuT x=X at *
   simp only[iT]at e1 ⊢
   simp[zCA,e1]
  rw[AN]
  exact zHP (Γ1:=[some (.v t),some (.l [iT a,iT b]),some (.v (iT (q:Int)))]) (by simp) el e2
theorem zNh(q:Nat)(hq:q<=5)(a b:Int):∃ (L:List (List Nat)) (a' b':Int),(∀ x∈L,AnsOk q x)/\L.length<=1024/\F_34 [.l [iT a,iT b],.v (iT (q:Int))]=some (.l (L.map tuT),[iT a',iT b']):=by
 by_cases c:q < 4
 ·have e:=zEC q (by lia)
  refine⟨allA q,a,b,fun x hx=>zDD q x hx,zGU (by lia),?_⟩
  have c':(q:Int) < 4:=by lia
  generalize (allA q).map tuT=L at *
  simp only[iT]at e ⊢
  simp[F_34,fnD,d_34,c',e]
 ·obtain⟨L,o',a',b',hl,hlt,e⟩:=zEn q (by lia) (rngT 0 8) none a b
  refine⟨L,a',b',hlt,by rw[hl]; decide,?_⟩
  have c':¬ (q:Int) < 4:=by lia
  generalize L.map tuT=LL at *
  simp only[iT]at e ⊢
  have r8:rngS [.v (.a (.int 8))]=some (rngT 0 8):=zA9 8 (by lia)
  simp[F_34,fnD,d_34,c',r8,e]
def ldO (r q:List Nat):Option (List Nat):=match F_10 [.v (tuT r),.v (tuT q)] with
 | some (.v (.t bs),[])=>natsT' bs
 | _=>none
def chkL (r q:List Nat):Bool:=match ldO r q with
 | some b=>isTb 5 b && (abT b r == q)
 | none=>false
theorem allL5:(rings5.all fun r=>rings5.all fun q=>chkL r q)=true:=by decide +kernel
theorem zNw(hr:Rg r)(hq:Rg q):∃ b,IsT 5 b/\abT b r=q/\F_10 [.v (tuT r),.v (tuT q)]=some (.v (tuT b),[]):=by
 have:=Aw.mp (Aw.mp allL5 r hr.mem) q hq.mem
 unfold chkL at this
 split at this
 ·rename_i b e
  simp only[An]at this
  refine⟨b,zEA this.1,by simpa using this.2,?_⟩
  unfold ldO at e
  split at e
  ·rename_i bs e2
   rw[e2,natsT'_eq e]
  ·cases e
 ·cases this
theorem zCn(hq:0 < q)(hx:Fit q one x)(hr:Rg r)(ha:AnsOk q as):F_46 [.v (danT 5 q (x.spell.steps r)),.v (tuT as)]=some (.v (tuT (cond (one.so as) r (AF 5))),[]):=by
 have pl:=zAF x
 have e:=zCa 5 q (by decide) (x.spell.steps r) as ha (zAe hq _ r pl (zAJ x hx.q) hr).ok (by rw[zAY _ r pl,zAT]; have:=hx.w; lia)
 rw[e,zA3 hq as _ r pl (zAJ x hx.q) hr,zAh,hx.so as]
theorem zF7(hq:0 < q)(h1:one.qs q)(hd:one.down<=20)(hx:Fit q one x)(hr:Rg r)(ha:AnsOk q as)(LL:Option G)(o:Option G) :
  zB1 [some (.v x.t),some (.v one.t),some (.v (tuT r)),some (.v (danT 5 q (x.spell.steps r))),LL,some (.v (tuT as)),o]=some (.nx [some (.v x.t),some (.v one.t),some (.v (tuT r)),some (.v (danT 5 q (x.spell.steps r))),LL,some (.v (tuT as)),some (.v (.a (.bl (one.so as))))]):=by
 have e1:=zM8 ha zDo one hd h1
 have e2:=zKW ha x hx.q hx.p
 have e3:=zCn hq hx hr ha
 rw[hx.so as]at e2
 have e4:∀ z:List Nat,z.length=5->F_0 zBq [.v (tuT z),.v (tuT z)]=some (.v (.a (.bl true)),[]):=fun z hz=>alike12 _ (Pl.turn (by lia))
 have l5:(AF 5).length=5:=rfl
 have a0:=e4 (AF 5) l5
 have a1:=e4 r hr.isT.1
 have g2:(2:Nat)<=AC:=by decide
 have r5:rngS [.v (.a (.int 5))]=some (tvT (AF 5)):=zA9 5 (by lia)
 have hS:tuT (AF 5)=.t (tvT (AF 5)):=rfl
 clear e4
 generalize danT 5 q (x.spell.steps r)=DN at *
 generalize x.t=X at *
 generalize one.t=ON at *
 generalize tuT as=AS at *
 cases h:one.so as with
 | true =>
  rw[h]at e1 e2 e3
  simp only[cond_true]at e3
  clear a0 hS
  generalize tuT r=R at *
  generalize tvT (AF 5)=S5 at *
  simp[zB1,e1,e2,e3,a1,gd,g2,r5]
 | false =>
  rw[h]at e1 e2 e3
  simp only[cond_false]at e3
  generalize tuT r=R at *
  rw[hS]at e3 a0
  clear hS
  generalize tvT (AF 5)=S5 at *
  simp[zB1,e1,e2,e3,a0,gd,g2,r5]
theorem zJe(hq:0 < q)(h1:one.qs q)(hd:one.down<=20)(hx:Fit q one x)(hr:Rg r)(L:List (List Nat))(hL:∀ a∈L,AnsOk q a)(hl:L.length<=1024) :
  F_60 [.v x.t,.v one.t,.v (tuT r),.v (danT 5 q (x.spell.steps r)),.r (L.map tuT)]=some (.v (.a (.bl true)),[]):=by
 have loop:∀ (M:List (List Nat)) (o5 o6:Option G),(∀ a∈M,AnsOk q a)->∃ o5' o6',forD (gdName 5) zB1 (M.map tuT) [some (.v x.t),some (.v one.t),some (.v (tuT r)),some (.v (danT 5 q (x.spell.steps r))),some (.r (L.map tuT)),o5,o6]=some (.nx [some (.v x.t),some (.v one.t),some (.v (tuT r)),some (.v (danT 5 q (x.spell.steps r))),some (.r (L.map tuT)),o5',o6']):=by
  intro M
  induction M with
  | nil=>intro o5 o6 _; exact⟨o5,o6,rfl⟩
  | cons a M ih =>
   intro o5 o6 hM
   obtain⟨o5',o6',e⟩:=ih (some (.v (tuT a))) (some (.v (.a (.bl (one.so a))))) fun b hb=>hM b (AR _ hb)
   refine⟨o5',o6',?_⟩
   rw[AN,zBK (Γ1:=[some (.v x.t),some (.v one.t),some (.v (tuT r)),some (.v (danT 5 q (x.spell.steps r))),some (.r (L.map tuT)),some (.v (tuT a)),o6]) (by simp) (zF7 hq h1 hd hx hr (hM a AY) _ _)]
   exact e
 obtain⟨o5,o6,e⟩:=loop L none none hL
 clear loop
 have gl:(L.map tuT).length<=AC:=zAC (by simp; lia)
 generalize danT 5 q (x.spell.steps r)=DN at *
 generalize L.map tuT=LL at *
 generalize tuT r=R at *
 generalize x.t=X at *
 generalize one.t=ON at *
 simp[F_60,fnD,d_60,e,gd,gl]
theorem zPK(hq:0 < q)(hx:Fit q one one)(hr:Rg r)(hr':Rg r')(L:List (List Nat))(hL:∀ a∈L,AnsOk q a)(hl:L.length<=1024) :
  F_48 [.v (danT 5 q (one.spell.steps r)),.v (danT 5 q (one.spell.steps r')),.v (tuT r),.v (tuT r'),.r (L.map tuT)]=some (.v (.a (.bl true)),[]):=by
 obtain⟨b,hb,hab,eb⟩:=zNw hr hr'
 have pl:=zAF one
 have hs:=(zAe hq _ r pl (zAJ one hx.q) hr).ok
 have hlen:(one.spell.steps r).length<=1000:=by rw[zAY _ r pl,zAT]; have:=hx.w; lia
 have e5:=zKl 5 q (by decide) (one.spell.steps r) b hb hs (by lia)
 have e6:=zNo 5 q (by decide) (one.spell.steps r) hs (by lia)
 have turn:∀ (a:List Nat),AnsOk q a->∀ (o:Option G),zDB [some (.v (danT 5 q (one.spell.steps r))),some (.v (danT 5 q (one.spell.steps r'))),some (.v (tuT r)),some (.v (tuT r')),some (.r (L.map tuT)),some (.v (danT 5 q ((one.spell.steps r).map (abS b)))),some (.v (danT 5 q ((one.spell.steps r).reverse.map bkS))),some (.v (tuT a))] =
   some (.nx [some (.v (danT 5 q (one.spell.steps r))),some (.v (danT 5 q (one.spell.steps r'))),some (.v (tuT r)),some (.v (tuT r')),some (.r (L.map tuT)),some (.v (danT 5 q ((one.spell.steps r).map (abS b)))),some (.v (danT 5 q ((one.spell.steps r).reverse.map bkS))),some (.v (tuT a))]):=by
  intro a ha o
  have d0:=zCn hq hx hr ha
  have d1:=zCn hq hx hr' ha
  have hc:IsT 5 (cond (one.so a) r (AF 5)):=by cases one.so a; exact zAX 5; exact hr.isT
  have hd:doneL a (AF 5) (one.spell.steps r)=cond (one.so a) r (AF 5):=by rw[zA3 hq a _ r pl (zAJ one hx.q) hr,zAh]
  have d2:=zCa 5 q (by decide) _ a ha (zL7 hb hs) (by rw[A7]; lia)
  rw[zDu hb hs,hd]at d2
  have hz:abT b (cond (one.so a) r (AF 5))=cond (one.so a) r' (AF 5):=by
   cases one.so a
   ·exact zES hb
   ·exact hab
  rw[hz]at d2
  have d3:=zCa 5 q (by decide) ((one.spell.steps r).reverse.map bkS) a ha (zIc hs) (by simp; lia)
  rw[zIo hs,hd]at d3
  have d4:=zOH 5 _ hc (by decide)
  have n1:=fun Γ=>zCE Γ (cond (one.so a) r' (AF 5)) (cond (one.so a) r' (AF 5))
  have n2:=fun Γ=>zCE Γ (backL (cond (one.so a) r (AF 5))) (backL (cond (one.so a) r (AF 5)))
  simp only[decide_true,Ie]at n1 n2
  generalize tuT (backL (cond (one.so a) r (AF 5)))=Z1 at *
  generalize tuT (cond (one.so a) r (AF 5))=Z2 at *
  generalize tuT (cond (one.so a) r' (AF 5))=Z3 at *
  generalize danT 5 q ((one.spell.steps r).map (abS b))=D1 at *
  generalize danT 5 q ((one.spell.steps r).reverse.map bkS)=D2 at *
  generalize danT 5 q (one.spell.steps r)=D3 at *
  generalize danT 5 q (one.spell.steps r')=D4 at *
  generalize tuT a=A at *
  generalize tuT r=R at *
  generalize tuT r'=R' at *
  generalize L.map tuT=LL at *
  simp[zDB,d0,d1,d2,d3,d4,n1,n2]
 have loop:∀ (M:List (List Nat)) (o7:Option G),(∀ a∈M,AnsOk q a)->∃ o7',forD (gdName 7) zDB (M.map tuT) [some (.v (danT 5 q (one.spell.steps r))),some (.v (danT 5 q (one.spell.steps r'))),some (.v (tuT r)),some (.v (tuT r')),some (.r (L.map tuT)),some (.v (danT 5 q ((one.spell.steps r).map (abS b)))),some (.v (danT 5 q ((one.spell.steps r).reverse.map bkS))),o7] =
   some (.nx [some (.v (danT 5 q (one.spell.steps r))),some (.v (danT 5 q (one.spell.steps r'))),some (.v (tuT r)),some (.v (tuT r')),some (.r (L.map tuT)),some (.v (danT 5 q ((one.spell.steps r).map (abS b)))),some (.v (danT 5 q ((one.spell.steps r).reverse.map bkS))),o7']):=by
  intro M
  induction M with
  | nil=>intro o7 _; exact⟨o7,rfl⟩
  | cons a M ih =>
   intro o7 hM
   obtain⟨o7',e⟩:=ih (some (.v (tuT a))) fun b hb=>hM b (AR _ hb)
   refine⟨o7',?_⟩
   rw[AN,zBK (by simp only[zBy]; rfl) (turn a (hM a AY) none)]
   exact e
 obtain⟨o7,e⟩:=loop L none hL
 clear loop turn
 have gl:(L.map tuT).length<=AC:=zAC (by simp; lia)
 generalize danT 5 q ((one.spell.steps r).map (abS b))=D1 at *
 generalize danT 5 q ((one.spell.steps r).reverse.map bkS)=D2 at *
 generalize danT 5 q (one.spell.steps r)=D3 at *
 generalize danT 5 q (one.spell.steps r')=D4 at *
 generalize tuT r=R at *
 generalize tuT r'=R' at *
 generalize tuT b=BB at *
 generalize L.map tuT=LL at *
 simp[F_48,fnD,d_48,eb,e5,e6,e,gd,gl]
theorem zBb:dCall ip F [v] da Γ=(da Γ).bind fun p=>if onceS ip p.1=true then (argsG ip p.2 0 (p.1++[.v (.a v)])).bind fun gs=>(F gs).map fun q=>(toS q.1,backS ip p.2 p.1 q.2) else none:=rfl
theorem zOU(hq:0 < q)(hx:Fit q one x)(hr:Rg r):(Cl.mk x.spell r (x.spell.steps r) (x.spell.paper r)).Good q/\(x.spell.paper r).size<=90000/\chk (x.spell.paper r) x.spell r (x.spell.steps r)=true:=by
 have pl:=zAF x
 have hw:=hx.w
 have hl:=zAY x.spell r pl
 have pf:=zBU x.spell r pl hr
 have h1:=pf.size
 have hd:=zAS x
 have h2:x.spell.wt * x.spell.down<=128 * 420:=DH (by rw[zAT]; exact hw) (by have:=hx.d; lia)
 exact⟨⟨by dsimp only; rw[hl]; exact pf,hr,(zAe hq _ r pl (zAJ x hx.q) hr).ok,by dsimp only; rw[hl,zAT]; lia⟩,by lia,zBJ hq _ r pl (zAJ x hx.q) hr⟩
theorem zFJ(Γ:En)(a c:List Nat):eqS Γ (.v (tuT a)) (.v (tuT c))=some (.v (.a (.bl (decide (a=c))))):=by
 have d:∀ l:List Nat,datS Γ (.v (tuT l))=some (.tuple (intsD l)):=fun l=>by
  show (toDs (tvT l)).map PyData.tuple=_
  rw[zC7]; rfl
 have e0:eqS Γ (.v (tuT a)) (.v (tuT c))=((none:Option S).or (cmpD Az Γ (.v (tuT a)) (.v (tuT c)))):=rfl
 rw[e0,Cg]
 unfold cmpD
 rw[d,d,Ae,Ae,if_pos ⟨by simp only[B4,zAv],by simp only[B4,zAv],by simp only[Cn,zBF]; decide⟩]
 simp only[Az,zBM]
 simp[mkB]
theorem zJ2(hq:0 < q)(hx:Fit q one x)(hr:Rg r)(hr':Rg r'):F_59 [.v x.t,.v (iT (q:Int)),.v (tuT r),.v (tuT r')]=some (.v (.a (.bl true)),[]):=by
 obtain⟨hg,hz,hc⟩:=zOU hq hx hr
 have pl:=zAF x
 have hi:=zBP x.spell pl
 have e1:=zEv x q r hq hx.q hr hx.w hx.d hx.p
 have e2:=zFk x r (x.spell.steps r) (x.spell.paper r) (iT 5) (iT (q:Int)) hx.q hx.p hg hz
 have e3:=zBE x hx.q hx.p
 have hp':x.spell.parts<=80000:=by
  have:=zAg x.spell
  have hd:=zAS x
  have h2:x.spell.wt * x.spell.down<=128 * 420:=DH (by rw[zAT]; exact hx.w) (by have:=hx.d; lia)
  lia
 have e4:=zFk x.spell r (x.spell.steps r) (x.spell.paper r) (iT 5) (iT (q:Int)) (zAJ x hx.q) hp' (by rw[hi]; exact hg) hz
 rw[hi,hc]at e4
 rw[hc]at e2
 have e5:=fun h:r≠r'=>zLe x r r' (iT 5) (iT (q:Int)) hq hx.q hx.p hx.c hr hr' h hx.w hx.d
 have e6:=fun Γ=>zFJ Γ r r'
 have hD:danT 5 q (x.spell.steps r)=.t [iT 5,iT (q:Int),spT (x.spell.steps r)]:=rfl
 rw[hD]at e1
 clear hg hz hc hi hp' hD
 generalize spT (x.spell.steps r)=SS at *
 generalize (x.spell.paper r).t=PP at *
 generalize x.spell.t=XS at *
 generalize x.t=X at *
 have g2:(2:Nat)<=AC:=by decide
 by_cases h:r=r'
 ·subst h
  simp only[decide_true]at e6
  generalize tuT r=R at *
  simp only[iT,bT]at e1 e2 e3 e4 ⊢
  simp[F_59,fnD,d_59,zBb,isBS,mkB,e1,e2,e3,e4,e6,gd,g2]
 ·have e7:=e5 h
  have e8:∀ Γ,eqS Γ (.v (tuT r)) (.v (tuT r'))=some (.v (.a (.bl false))):=fun Γ=>by rw[e6,decide_eq_false h]
  clear e5 e6
  generalize tuT r=R at *
  generalize tuT r'=R' at *
  simp only[iT,bT]at e1 e2 e3 e4 e7 ⊢
  simp[F_59,fnD,d_59,zBb,isBS,mkB,e1,e2,e3,e4,e7,e8,gd,g2]
theorem zGn(a b:Int):∃ r a' b',Rg r/\F_41 [.l [iT a,iT b],.v (iT 5)]=some (.v (tuT r),[iT a',iT b']):=by
 obtain⟨row,a4,b4,_,hp,hr0,e5⟩:=zMu a b 5 (by decide) (by decide)
 refine⟨_,a4,b4,?_,e5⟩
 have:=Aw.mp allR5 row (zCt (zDH hp))
 simp only[EL,bne_iff_ne,ne_eq]at this
 rcases this with z | z
 ·exact absurd hr0 z
 ·exact⟨by simpa using z⟩
theorem made128(hq:0 < q)(hx:Fit q one x)(hr:Rg r):F_40 [.v x.t,.v (iT (q:Int)),.v (tuT r),.v (.a (.int 128))]=some (.v (danT 5 q (x.spell.steps r)),[]) :=
 zGd x q 128 r hq hx.q hr hx.w (by decide) hx.d hx.p
noncomputable abbrev E67 (sc k bx q sm r1 r2 rw o8 o9 o10 o11:Option G):En:=[sc,k,bx,q,sm,r1,r2,rw,o8,o9,o10,o11]
theorem zG0{q:Nat}(hq:0 < q){one:Sy}{S:List Sy}(h0:S[0]?=some one)(h1:one.qs q)(hd:one.down<=20){r:List Nat}(hr:Rg r)(L:List (List Nat))(hL:∀ a∈L,AnsOk q a)(hl:L.length<=1024)(sc k bx r2 o10 o11:Option G):∀ (M:List Sy) (o8 o9:Option G),(∀ x∈M,Fit q one x)->∃ o8' o9',
  forD (gdName 8) zCG (M.map Sy.t) (E67 sc k bx (some (.v (iT (q:Int)))) (some (.r (S.map Sy.t))) (some (.v (tuT r))) r2 (some (.l (L.map tuT))) o8 o9 o10 o11)=some (.nx (E67 sc k bx (some (.v (iT (q:Int)))) (some (.r (S.map Sy.t))) (some (.v (tuT r))) r2 (some (.l (L.map tuT))) o8' o9' o10 o11))
 | [],o8,o9,_=>⟨o8,o9,rfl⟩
 | x::M,o8,o9,hM=>by
  have hx:=hM x AY
  obtain⟨o8',o9',e⟩:=zG0 hq h0 h1 hd hr L hL hl sc k bx r2 o10 o11 M (some (.v x.t)) (some (.v (danT 5 q (x.spell.steps r)))) fun y hy=>hM y (AR _ hy)
  refine⟨o8',o9',?_⟩
  have e1:=made128 hq hx hr
  have e2:=zJe hq h1 hd hx hr L hL hl
  have e3:atI (S.map Sy.t) 0=some one.t:=by
   have:=zAf (xs:=S.map Sy.t) (n:=0)
   rw[show ((0:Nat):Int)=0 from rfl]at this
   rw[this,Af,h0]; rfl
  have gl:(L.map tuT).length<=AC:=zAC (by simp; lia)
  have turn:zCG (E67 sc k bx (some (.v (iT (q:Int)))) (some (.r (S.map Sy.t))) (some (.v (tuT r))) r2 (some (.l (L.map tuT))) (some (.v x.t)) o9 o10 o11)=some (.nx (E67 sc k bx (some (.v (iT (q:Int)))) (some (.r (S.map Sy.t))) (some (.v (tuT r))) r2 (some (.l (L.map tuT))) (some (.v x.t)) (some (.v (danT 5 q (x.spell.steps r)))) o10 o11)):=by
   clear e
   generalize danT 5 q (x.spell.steps r)=DN at *
   generalize L.map tuT=LL at *
   generalize S.map Sy.t=SL at *
   generalize tuT r=R at *
   generalize x.t=X at *
   generalize one.t=ON at *
   simp only[iT,E67]at *
   simp[zCG,zBb,e1,e2,e3,gd,gl]
  rw[AN,zBK (by simp only[zBy,E67]; rfl) turn]
  exact e
theorem zKc(ns:List Int)(k:Nat)(hk:k < 1000)(o2 o3 o4 o5 o6 o7 o8 o9 o10 o11:Option G):∃ (p2 p3 p4 p5 p6 p7 p8 p9 p10 p11:Option G),zCU (E67 (some (.k (intsT ns))) (some (.v (iT (k:Int)))) o2 o3 o4 o5 o6 o7 o8 o9 o10 o11)=some (.nx (E67 (some (.k (intsT ns))) (some (.v (iT (k:Int)))) p2 p3 p4 p5 p6 p7 p8 p9 p10 p11)):=by
 obtain⟨a,b,e1⟩:=zO7 ns k (by lia) (by lia)
 obtain⟨c,a1,b1,hc,e2⟩:=zAt a b 5 (by decide) (by decide)
 obtain⟨q,rfl⟩:∃ q,c+1=q:=⟨_,rfl⟩
 generalize hq':c+1=q at *
 have hq0:0 < q:=by lia
 obtain⟨s,t,a2,b2,hs,ht,e3⟩:=zMr q hq0 (by lia) a1 b1
 have fit:=zJS hs ht
 have h1:(Sy.ei s t).qs q:=⟨hs.q,ht.q⟩
 have hd:(Sy.ei s t).down<=20:=by have:=hs.d; have:=ht.d; simp only[Sy.down]; lia
 obtain⟨r,a3,b3,hr,e4⟩:=zGn a2 b2
 obtain⟨r',a4,b4,hr',e5⟩:=zGn a3 b3
 obtain⟨L,a5,b5,hL,hl,e6⟩:=zNh q (by lia) a4 b4
 have f1:=fit (.ei s t) AY
 obtain⟨o8',o9',e7⟩:=zG0 hq0 (S:=saids s t) rfl h1 hd hr L hL hl (some (.k (intsT ns))) (some (.v (iT (k:Int)))) (some (.l [iT a5,iT b5])) (some (.v (tuT r'))) o10 o11 (saids s t) o8 o9 fit
 have e8:=made128 hq0 f1 hr'
 have e8':=made128 hq0 f1 hr
 have e9:=zPK hq0 f1 hr hr' L hL hl
 obtain⟨j,a6,b6,hj,e10⟩:=zAt a5 b5 5 (by decide) (by decide)
 obtain⟨x,hx⟩:∃ x,(saids s t)[j]?=some x:=⟨(saids s t)[j]'hj,BP hj⟩
 have e11:=zJ2 hq0 (fit x (DX hx)) hr hr'
 have i0:atI ((saids s t).map Sy.t) 0=some (Sy.ei s t).t:=rfl
 have ij:atI ((saids s t).map Sy.t) (j:Int)=some x.t:=by rw[zAf,Af,hx]; rfl
 have hlen:(((saids s t).map Sy.t).length:Int)=5:=rfl
 have gs:((saids s t).map Sy.t).length<=AC:=zAC (show 5<=_ by lia)
 have gl:(L.map tuT).length<=AC:=zAC (by simp; lia)
 have e2':F_5 [.l [iT a,iT b],.v (iT 5)]=some (.v (iT (c:Int)),[iT a1,iT b1]):=e2
 have e10':F_5 [.l [iT a5,iT b5],.v (iT 5)]=some (.v (iT (j:Int)),[iT a6,iT b6]):=e10
 have cq:(1:Int)+(c:Int)=(q:Int):=by lia
 refine⟨some (.l [iT a6,iT b6]),some (.v (iT (q:Int))),some (.r ((saids s t).map Sy.t)),some (.v (tuT r)),some (.v (tuT r')),some (.l (L.map tuT)),o8',o9',some (.v (danT 5 q ((Sy.ei s t).spell.steps r'))),some (.v x.t),?_⟩
 clear e2 e10 fit h1 hd f1 hs ht hL hl hx hr hr' hc hj hq'
 generalize danT 5 q ((Sy.ei s t).spell.steps r')=D2 at *
 generalize danT 5 q ((Sy.ei s t).spell.steps r)=D1 at *
 generalize (Sy.ei s t).t=ON at *
 generalize x.t=X at *
 generalize (saids s t).map Sy.t=SL at *
 generalize L.map tuT=LL at *
 generalize tuT r=R at *
 generalize tuT r'=R' at *
 generalize intsT ns=NS at *
 simp only[iT,E67]at *
 generalize (k:Int)=KK at *
 generalize (q:Int)=Q at *
 generalize (c:Int)=CC at *
 generalize (j:Int)=JJ at *
 unfold zCU
 refine zBG (Γ':=[some (.k NS),some (.v (.a (.int KK))),some (.l [.a (.int a),.a (.int b)]),o3,o4,o5,o6,o7,o8,o9,o10,o11]) (by simp[e1]) ?_
 refine zBG (Γ':=[some (.k NS),some (.v (.a (.int KK))),some (.l [.a (.int a1),.a (.int b1)]),some (.v (.a (.int Q))),o4,o5,o6,o7,o8,o9,o10,o11]) (by simp[e2',cq]) ?_
 refine zBG (Γ':=[some (.k NS),some (.v (.a (.int KK))),some (.l [.a (.int a2),.a (.int b2)]),some (.v (.a (.int Q))),some (.l SL),o5,o6,o7,o8,o9,o10,o11]) (by simp[e3]) ?_
 refine zBG (Γ':=[some (.k NS),some (.v (.a (.int KK))),some (.l [.a (.int a4),.a (.int b4)]),some (.v (.a (.int Q))),some (.l SL),some (.v R),some (.v R'),o7,o8,o9,o10,o11]) (by simp[e4,e5]) ?_
 refine zBG (Γ':=[some (.k NS),some (.v (.a (.int KK))),some (.l [.a (.int a5),.a (.int b5)]),some (.v (.a (.int Q))),some (.l SL),some (.v R),some (.v R'),some (.l LL),o8,o9,o10,o11]) (by simp[e6]) ?_
 refine zBG (Γ':=[some (.k NS),some (.v (.a (.int KK))),some (.l [.a (.int a5),.a (.int b5)]),some (.v (.a (.int Q))),some (.r SL),some (.v R),some (.v R'),some (.l LL),o8',o9',o10,o11]) (by simp[e7,gd,gs,frz1]) ?_
 refine zBG (Γ':=[some (.k NS),some (.v (.a (.int KK))),some (.l [.a (.int a5),.a (.int b5)]),some (.v (.a (.int Q))),some (.r SL),some (.v R),some (.v R'),some (.l LL),o8',o9',some (.v D2),o11]) (by simp[zBb,i0,e8,gd,gs]) ?_
 refine zBG (Γ':=[some (.k NS),some (.v (.a (.int KK))),some (.l [.a (.int a5),.a (.int b5)]),some (.v (.a (.int Q))),some (.r SL),some (.v R),some (.v R'),some (.l LL),o8',o9',some (.v D2),o11]) (by simp[zBb,i0,e8',e9,gd,gs,gl]) ?_
 refine zBG (Γ':=[some (.k NS),some (.v (.a (.int KK))),some (.l [.a (.int a6),.a (.int b6)]),some (.v (.a (.int Q))),some (.r SL),some (.v R),some (.v R'),some (.l LL),o8',o9',some (.v D2),some (.v X)]) (by simp[hlen,e10',ij,gd,gs]) ?_
 simp[e11]
theorem zF0(ns:List Int):∀ (is:List Nat),(∀ k∈is,k < 1000)->∀ (o1 o2 o3 o4 o5 o6 o7 o8 o9 o10 o11:Option G),∃ (p1 p2 p3 p4 p5 p6 p7 p8 p9 p10 p11:Option G),
  forD (gdName 1) zCU (is.map fun (k:Nat)=>iT (k:Int)) (E67 (some (.k (intsT ns))) o1 o2 o3 o4 o5 o6 o7 o8 o9 o10 o11)=some (.nx (E67 (some (.k (intsT ns))) p1 p2 p3 p4 p5 p6 p7 p8 p9 p10 p11))
 | [],_,o1,o2,o3,o4,o5,o6,o7,o8,o9,o10,o11=>⟨o1,o2,o3,o4,o5,o6,o7,o8,o9,o10,o11,rfl⟩
 | k::r,hk,o1,o2,o3,o4,o5,o6,o7,o8,o9,o10,o11=>by
  obtain⟨p2,p3,p4,p5,p6,p7,p8,p9,p10,p11,e⟩:=zKc ns k (hk k AY) o2 o3 o4 o5 o6 o7 o8 o9 o10 o11
  obtain⟨r1,r2,r3,r4,r5,r6,r7,r8,r9,r10,r11,e'⟩:=zF0 ns r (fun j hj=>hk j (AR _ hj)) (some (.v (iT (k:Int)))) p2 p3 p4 p5 p6 p7 p8 p9 p10 p11
  refine⟨r1,r2,r3,r4,r5,r6,r7,r8,r9,r10,r11,?_⟩
  rw[AN,← e']
  exact zBK (by simp) e
theorem law_true(ns:List Int)(hn:ns.length<=63):zCP [.k (intsT ns)]=some (.v (.a (.bl true)),[]):=by
 have hl:(cutT (intsT ns) none (some 1)).length=min 1 ns.length:=by
  have:=zFi (intsT ns) 1
  rw[show ((1:Nat):Int)=1 from rfl]at this
  rw[this]
  simp[intsT]
 obtain⟨m,hm⟩:∃ m:Nat,m=1+min 1 ns.length:=⟨_,rfl⟩
 obtain⟨p1,p2,p3,p4,p5,p6,p7,p8,p9,p10,p11,e⟩:=zF0 ns (AF m) (fun k hk=>by have:=F0.mp hk; lia) none none none none none none none none none none none
 have ec:(1:Int)+((cutT (intsT ns) none (some 1)).length:Int)=(m:Int):=by rw[hl]; lia
 have er:=zA9 m (by lia)
 have et:rngT 0 m=(AF m).map fun (k:Nat)=>iT (k:Int):=by simp[rngT]
 rw[et]at er
 generalize (AF m).map (fun (k:Nat)=>iT (k:Int))=RR at e er
 simp only[E67]at e
 simp[zCP,fnD,zMF,ec,er,e]
noncomputable def visB (sc:Df) (x:Str):Bool:=match sc.names.lookup x with | some .local=>true | some .cell=>true | some .free=>true | _=>false
theorem zQu{sc:Df}{x:Str}(h:visB sc x=true):Vis sc x:=by
 unfold visB at h
 unfold Vis
 split at h <;> simp_all
theorem ex_w{ι:Type}{K:Fg}{X:ι->Cx}{pos:Pos}(i:Nat){x:Str}(hN:∀ j,(X j).N[i]?=some x:=by intro _; kernel_rfl)(hv:∀ j,visB (X j).env.scope x=true:=by intro _; kernel_rfl)(hd:(x == ("__debug__":Str))=false:=by kernel_rfl)
  (hcd:(x == ("__classdict__":Str))=false:=by kernel_rfl):EX K X (.Name x pos) (jV i):=jZ i hN (fun j=>zQu (hv j)) hd hcd
theorem zRM{ι:Type}{K:Fg}{X:ι->Cx}{ip:Option Nat}{x:Str}{pos:Pos}{N':List Str}{sc:Df}(i:Nat)(S:N'.Nodup:=by decide +kernel)(hi:ip≠some i:=by decide)(hx':∀ j,(cxF X N' sc j).N[i]?=some x:=by intro _; rfl)(hx:∀ j,Loc (cxF X N' sc j).env.scope x:=by intro _; first | exact DY rfl | exact Cf rfl)
  (hf:∀ j,(cxF X N' sc j).fn x=true\/(cxF X N' sc j).env.scope.names.lookup x=some .local:=by intro _; first | exact .inl rfl | exact .inr rfl):GX K (cxF X N' sc) ip (.Name x pos) (gdName i):=zGc i hi (fun _=>S) hx' hx hf
theorem zFL:B6 "int"=some (.type "int"):=by decide +kernel
set_option hygiene false
local macro_rules | `(tactic| walk_at "a")=>`(tactic| with_reducible assumption)
local macro_rules | `(tactic| walk_at "m")=>`(tactic| first | exact M | exact B | exact M.comp | exact B.comp)
local macro_rules | `(tactic| walk_at "x")=>`(tactic| repeat' first
 | ((with_reducible show EX _ _ _ _); first | ((with_reducible show EX _ _ (.Name _ _) _); first | ((with_reducible show EX _ _ _ (jV _)); exact ex_w _) | ((with_reducible show EX _ _ _ (dFn _)); exact zRe (by walk_at "m") (by walk_at "a")) | ((with_reducible show EX _ _ _ (dC (.ty "tuple"))); exact zE9 (by walk_at "m") (by walk_at "a") Dm) | ((with_reducible show EX _ _ _ (dC (.ty "bool"))); exact zE9 (by walk_at "m") (by walk_at "a") boot_bool) | ((with_reducible show EX _ _ _ (dC (.ty "list"))); exact zE9 (by walk_at "m") (by walk_at "a") boot_list) | ((with_reducible show EX _ _ _ (dK _)); exact ex_k zB8 (by walk_at "m") (by walk_at "a")) | ((with_reducible show EX _ _ _ (dK _)); exact ex_k zCv (by walk_at "m") (by walk_at "a")) | ((with_reducible show EX _ _ _ (dC (.ty "int"))); exact zE9 (by walk_at "m") (by walk_at "a") zFL)) | ((with_reducible show EX _ _ (.Constant _ _ _) _); first | ((with_reducible show EX _ _ _ (dC (.int _))); exact jJ) | ((with_reducible show EX _ _ _ (dC (.str _))); exact zOc) | ((with_reducible show EX _ _ _ (dC (.bl _))); exact zQI) | ((with_reducible show EX _ _ _ (dC .non)); exact zQA)) | ((with_reducible show EX _ _ (.Call _ _ _ _) _); first | ((with_reducible show EX _ _ _ (dCB lenS _)); refine zBs (by walk_at "m") (zPJ (by walk_at "m")) (by walk_at "a") PySem.boot_len ?_) | ((with_reducible show EX _ _ _ (dCB isiS _)); refine zBs (by walk_at "m") (zP6 (by walk_at "m")) (by walk_at "a") boot_isinstance ?_) | ((with_reducible show EX _ _ _ (dMut _ _ _)); refine zFb (by walk_at "m") PySem.F.slot_list_append PySem.F.type_list_append (fun _=>zJ8) zIW (pv' _) ?_) | ((with_reducible show EX _ _ _ (dCB tupleS _)); refine zBv (by walk_at "m") (zBI (by walk_at "m")) (by walk_at "a") Dm ?_) | ((with_reducible show EX _ _ _ (dCB intS _)); refine zBv (by walk_at "m") zPY (by walk_at "a") zFL ?_) | ((with_reducible show EX _ _ _ (dMut _ _ qQ)); exact zM0 (by walk_at "m") GU GV (fun _=>zPU) zOP (pv' _)) | ((with_reducible show EX _ _ _ (dMut _ _ _)); refine zFb (by walk_at "m") PySem.F.slot_list_extend PySem.F.type_list_extend (fun _=>zKJ) zID (pv' _) ?_) | ((with_reducible show EX _ _ _ (dIndex _ _)); refine zK7 (by walk_at "m") ?_ ?_) | ((with_reducible show EX _ _ _ (dTupRng _)); refine zJt (by walk_at "m") (by walk_at "a") (by walk_at "a") ?_) | ((with_reducible show EX _ _ _ (dLFind _ _ _)); refine zKg (by walk_at "m") GA PySem.F.type_list_count (fun j=>zKL (M.room j)) ?_ ?_) | ((with_reducible show EX _ _ _ (dListRng _)); refine zHI (by walk_at "m") (by walk_at "a") (by walk_at "a") ?_) | ((with_reducible show EX _ _ _ (dCB max2S _)); refine zBs (by walk_at "m") (zNK (by walk_at "m")) (by walk_at "a") boot_max ?_) | ((with_reducible show EX _ _ _ (dCB _ _)); refine zBs (by walk_at "m") (zN4 (by walk_at "m")) (by walk_at "a") boot_min ?_) | ((with_reducible show EX _ _ _ (dDZip _)); refine zNa (by walk_at "m") (by walk_at "a") (by walk_at "a") ?_) | ((with_reducible show EX _ _ _ (dLRev _)); refine zNv (by walk_at "m") (by walk_at "a") (by walk_at "a") ?_) | ((with_reducible show EX _ _ _ (dCB _ _)); refine zBs (by walk_at "m") (zJh (by walk_at "m")) (by walk_at "a") boot_sorted ?_) | ((with_reducible show EX _ _ _ (dMut _ _ _)); refine zFb (by walk_at "m") GU GV (fun _=>zLO) zKP (pv' _) ?_) | ((with_reducible show EX _ _ _ (dCall _ _ _ _)); refine zGo (by walk_at "m") (by walk_at "m") (by walk_at "a") ?_) | ((with_reducible show EX _ _ _ (dCall _ _ _ _)); refine zKp (by walk_at "m") (by walk_at "m") (by walk_at "a") ?_) | ((with_reducible show EX _ _ _ (dCallV _ _ _)); refine zKn (k':=5) _ (by walk_at "m") (by walk_at "m") (zBm D_7 (zBm D_16 (zKS))) ?_) | ((with_reducible show EX _ _ _ (dCallM _ _ _ _ _)); refine zK1 (k':=5) _ (by walk_at "m") (by walk_at "m") (zBm D_18 (zBm D_20 (zBm D_24 (zBm D_25 (zKS))))) ((zOh D_26).mono (by decide)) ?_)) | ((with_reducible show EX _ _ (.Subscript _ _ _) _); first | ((with_reducible show EX _ _ _ (dOp ixS _ _)); refine zQl (by walk_at "m") ?_ ?_) | ((with_reducible show EX _ _ _ (dSl _ _ _)); refine zQN (by walk_at "m") ?_ ?_ ?_) | ((with_reducible show EX _ _ _ (dOp getKS _ _)); refine zLf (by walk_at "m") ?_ ?_)) | ((with_reducible show EX _ _ (.BinOp _ _ _ _) _); first | ((with_reducible show EX _ _ _ (dOp addS _ _)); refine zPu (by walk_at "m") ?_ ?_) | ((with_reducible show EX _ _ _ (dOp subS _ _)); refine zPg ?_ ?_) | ((with_reducible show EX _ _ _ (dOp mulS _ _)); refine zPI ?_ ?_) | ((with_reducible show EX _ _ _ (dOp modS _ _)); refine zOn ?_ ?_) | ((with_reducible show EX _ _ _ (dOp fdivS _ _)); refine zN9 ?_ ?_) | ((with_reducible show EX _ _ _ (dOp powS _ _)); refine zPW ?_ ?_)) | ((with_reducible show EX _ _ (.Tuple _ _ _) _); first | refine zOf ?_) | ((with_reducible show EX _ _ (.List _ _) _); first | refine zPD ?_) | ((with_reducible show EX _ _ (.Compare _ _ _ _) _); first | ((with_reducible show EX _ _ _ (dOp _ _ _)); refine ex_c ?_ ?_ ?_) | ((with_reducible show EX _ _ _ (dChainN _ _)); refine zJK ?_ ?_)) | ((with_reducible show EX _ _ (.BoolOp _ _ _) _); first | refine zIj ?_ | ((with_reducible show EX _ _ _ (dAndV _ _)); refine zCj ?_ ?_) | ((with_reducible show EX _ _ _ (dOrV _ _)); refine zQ8 ?_ ?_)) | ((with_reducible show EX _ _ (.UnaryOp _ _ _) _); first | ((with_reducible show EX _ _ _ (dUn negS _)); refine zPq ?_) | ((with_reducible show EX _ _ _ (dNotV _)); refine zO1 ?_)) | ((with_reducible show EX _ _ (.IfExp _ _ _ _) _); first | refine zQY ?_ ?_ ?_) | ((with_reducible show EX _ _ (.Dict _ _ _) _); first | refine zKa ?_) )
 | ((with_reducible show AX _ _ _ _); first | refine jQ ?_ ?_ | exact jY)
 | ((with_reducible show BX _ _ _ _ _); first | refine zAU ?_ ?_ | refine zAz ?_ | exact zFo)
 | ((with_reducible show SX _ _ _ _ _); first | refine zAy ?_ | refine zJu _ ?_ (hN:=fun _=>S) | refine zIM ?_ ?_ ?_ | refine zNb ?_ | refine zI2 (by walk_at "m") (fun _=>FH) ?_ ?_ ?_ | refine zKi fuelX (fun _=>FH) ?_ ?_ | refine zLB _ ?_ (pv' _) ?_ | exact zKZ | refine zOa _ _ (by walk_at "m") ?_ (hN:=fun _=>S) | refine zRK _ _ ?_ (hN:=fun _=>S) | refine zPR ?_ ?_)
 | ((with_reducible show TX _ _ _ _); first | refine tx_c ?_ ?_ ?_ | refine tx_v (by walk_at "m") ?_ | refine zPG ?_ | refine tx_w ?_)
 | ((with_reducible show CmpR _ _ _ _); first | exact zML (by walk_at "m") | exact zQj (by walk_at "m") | exact zRC | exact zQX | exact zQq (by walk_at "m") | exact zQV | exact zJ1 | exact zQh | exact zOz)
 | ((with_reducible show IX _ _ _ _ _); first | refine zNZ (by walk_at "m") ?_ | refine zM3 (by walk_at "m") (by walk_at "a") ?_ | refine zOT (by walk_at "m") (by walk_at "a") ?_ | refine zOA (by walk_at "m") (by walk_at "a") ?_ | refine zOx (by walk_at "m") (by walk_at "a") ?_ | refine zOv (by walk_at "m") (by walk_at "a") ?_)
 | refine zNe ?_
 | exact zN2
 | ((with_reducible show WX _ _ _ _); first | refine zQo ?_ ?_ | refine zOk ?_ | refine zPS ?_ ?_ | refine zON ?_)
 | ((with_reducible show GX _ _ _ _ _); first | exact zGc _ (hN:=fun _=>S) | refine zPE _ (by walk_at "m") ?_ | exact zRM _)
 | refine zLt ?_ ?_
 | exact zNO
 | refine zPi ?_ ?_
 | exact zPj
 | refine zMq ?_ ?_ ?_
 | refine zMs ?_ ?_
 | refine zPp ?_
 | ((with_reducible show EX _ _ _ _); delta zCo zB2 zCx zCA zDb zCq zEH zDC zGk zGX zGf zGg zD2 zIp zJE zDF zC1 zC2)
 )
local macro_rules | `(tactic| walk_at "d")=>`(tactic| (intro _ _ _ _ _ _ S M B; walk_at "x"))
section
variable {P:Ai}{wd:Ax}{K:AM}{mg:Str->Option AD}{base:Heap}
theorem ok_4{f:Addr}{fd:Ab}(Fn:Fun K "_law_box" "_law_box" st_4 f fd)(hm:mg "_law_box"=some (.ref f))(hb:Binds K fd ["_law_script","_law_k"] [])(z_int:mg "int"=none)(z_len:mg "len"=none):FD P wd K mg base (1) "_law_box" none 2 F_4 :=
 zAD (k:=0) Fn sc_4 hm hb fun cdv A outer s H E M B=>(by have S:=sc_4.nd; exact by walk_at "x")
theorem ok_5{f:Addr}{fd:Ab}(Fn:Fun K "_law_take" "_law_take" st_5 f fd)(hm:mg "_law_take"=some (.ref f))(hb:Binds K fd ["_law_box_here","_law_wide"] []) :FD P wd K mg base (1) "_law_take" (some 0) 2 F_5 :=
 zAD (k:=0) Fn sc_5 hm hb fun cdv A outer s H E M B=>(by have S:=sc_5.nd; exact by walk_at "x")
theorem ok_1{f:Addr}{fd:Ab}(Fn:Fun K "_law_saying" "_law_saying" st_1 f fd)(hm:mg "_law_saying"=some (.ref f))(hb:Binds K fd ["_law_box_here","_law_questions","_law_room","_law_down"] [])(z_max:mg "max"=none)(D_5:FD P wd K mg base (1) "_law_take" (some 0) 2 F_5)(n:Nat):FD P wd K mg base (1+n) "_law_saying" (some 0) 4 (F_1 n):=by
 induction n with
 | zero=>exact zCy Fn hm hb rfl
 | succ n ih =>
  have Drec:=ih
  exact zAD (k:=1+n) Fn sc_1 hm hb fun cdv A outer s H E M B=>(by have S:=sc_1.nd; exact by walk_at "x")
theorem ok_3{f:Addr}{fd:Ab}(Fn:Fun K "_law_weight" "_law_weight" st_3 f fd)(hm:mg "_law_weight"=some (.ref f))(hb:Binds K fd ["_law_saying_here"] [])(z_int:mg "int"=none)(z_isinstance:mg "isinstance"=none)(z_tuple:mg "tuple"=none)(n:Nat):FD P wd K mg base (0+n) "_law_weight" none 1 (F_3 n):=by
 induction n with
 | zero=>exact zCy Fn hm hb rfl
 | succ n ih =>
  have Drec:=ih
  exact zAD (k:=0+n) Fn sc_3 hm hb fun cdv A outer s H E M B=>(by have S:=sc_3.nd; exact zAU (zBp 1 none (N':=["_law_one"]) (ix:=[none]) M (fun _=>⟨rfl,by kernel_rfl⟩) (by walk_at "x") (by walk_at "x") (by walk_at "x") (by walk_at "x") (hix:=hix0) (hN:=fun _=>sc_3.nd)) (by walk_at "x"))
theorem ok_6{f:Addr}{fd:Ab}(Fn:Fun K "_law_small" "_law_small" st_6 f fd)(hm:mg "_law_small"=some (.ref f))(hb:Binds K fd ["_law_box_here","_law_questions"] [])(z_len:mg "len"=none)(D_5:FD P wd K mg base (1) "_law_take" (some 0) 2 F_5)(D_1:FD P wd K mg base (13) "_law_saying" (some 0) 4 (F_1 zCc))(D_3:FD P wd K mg base (12) "_law_weight" none 1 (F_3 zDi)):FD P wd K mg base (14) "_law_small" (some 0) 2 F_6 :=
 zAD (k:=13) Fn sc_6 hm hb fun cdv A outer s H E M B=>(by have S:=sc_6.nd; exact by walk_at "x")
theorem ok_7{f:Addr}{fd:Ab}(Fn:Fun K "inner" "inner" st_7 f fd)(hm:mg "inner"=some (.ref f))(hb:Binds K fd ["saying"] []) :FD P wd K mg base (1) "inner" none 1 F_7 :=
 zAD (k:=0) Fn sc_7 hm hb fun cdv A outer s H E M B=>(by have S:=sc_7.nd; exact by walk_at "x")
theorem ok_8{f:Addr}{fd:Ab}(Fn:Fun K "row_from" "row_from" st_8 f fd)(hm:mg "row_from"=some (.ref f))(hb:Binds K fd ["turning","place"] [])(z_tuple:mg "tuple"=none):FD P wd K mg base (1) "row_from" none 2 F_8 :=
 zAD (k:=0) Fn sc_8 hm hb fun cdv A outer s H E M B=>(by have S:=sc_8.nd; exact by walk_at "x")
theorem ok_9{f:Addr}{fd:Ab}(Fn:Fun K "rings_of" "rings_of" st_9 f fd)(hm:mg "rings_of"=some (.ref f))(hb:Binds K fd ["turning"] [])(z_len:mg "len"=none)(z_min:mg "min"=none)(z_range:mg "range"=none)(D_8:FD P wd K mg base (1) "row_from" none 2 F_8):FD P wd K mg base (2) "rings_of" none 1 F_9 :=
 zAD (k:=1) Fn sc_9 hm hb fun cdv A outer s H E M B=>(by have S:=sc_9.nd; exact zAU (zBp 1 none (N':=["place","turning"]) (ix:=[none,some 0]) M (fun _=>⟨rfl,by kernel_rfl⟩) (by walk_at "x") (by walk_at "x") zAn (by walk_at "x") (hix:=hix0) (hN:=fun _=>sc_9.nd)) (zAz (zAy (zAq none (N':=["row"]) (ix:=[none]) M (fun _=>⟨rfl,by kernel_rfl⟩) (by walk_at "x") (by walk_at "x") (by walk_at "x") (jZ 0) (hix:=hix0)))))
theorem zRD{f:Addr}{fd:Ab}(Fn:Fun K "leading" "leading" zHR f fd)(hm:mg "leading"=some (.ref f))(hb:Binds K fd ["one","other"] [])(z_dict:mg "dict"=none)(z_len:mg "len"=none)(z_range:mg "range"=none)(z_tuple:mg "tuple"=none)(z_zip:mg "zip"=none)(D_9:FD P wd K mg base (2) "rings_of" none 1 F_9):FD P wd K mg base (3) "leading" none 2 F_10 :=
 zAD (k:=2) Fn zLw hm hb fun cdv A outer s H E M B=>(by have S:=zLw.nd; exact zAU (by walk_at "x") (zAz (zAy (zBv M (zBI M) z_tuple Dm (jQ (zAq none (N':=["place","led"]) (ix:=[none,some 2]) M (fun _=>⟨rfl,by kernel_rfl⟩) (by walk_at "x") (by walk_at "x") zAn (by walk_at "x") (hix:=hix0)) jY)))))
theorem zQ9{f:Addr}{fd:Ab}(Fn:Fun K "then" "then" zHz f fd)(hm:mg "then"=some (.ref f))(hb:Binds K fd ["one","other"] [])(z_tuple:mg "tuple"=none):FD P wd K mg base (1) "then" none 2 F_11 :=
 zAD (k:=0) Fn zMf hm hb fun cdv A outer s H E M B=>(by have S:=zMf.nd; exact zAz (zAy (zBv M (zBI M) z_tuple Dm (jQ (zAq none (N':=["place","other"]) (ix:=[none,some 1]) M (fun _=>⟨rfl,by kernel_rfl⟩) (by walk_at "x") (by walk_at "x") zAn (by walk_at "x") (hix:=hix0)) jY))))
theorem zRX{f:Addr}{fd:Ab}(Fn:Fun K "back" "back" zHf f fd)(hm:mg "back"=some (.ref f))(hb:Binds K fd ["turning"] [])(z_len:mg "len"=none)(z_range:mg "range"=none)(z_tuple:mg "tuple"=none):FD P wd K mg base (1) "back" none 1 F_12 :=
 zAD (k:=0) Fn zLz hm hb fun cdv A outer s H E M B=>(by have S:=zLz.nd; exact zAz (zAy (zBv M (zBI M) z_tuple Dm (jQ (zAq none (N':=["place","turning"]) (ix:=[none,some 0]) M (fun _=>⟨rfl,by kernel_rfl⟩) (by walk_at "x") (by walk_at "x") zAn (by walk_at "x") (hix:=hix0)) jY))))
theorem zQe{f:Addr}{fd:Ab}(Fn:Fun K "there_back" "there_back" zHv f fd)(hm:mg "there_back"=some (.ref f))(hb:Binds K fd ["a","b"] [])(D_11:FD P wd K mg base (1) "then" none 2 F_11)(D_12:FD P wd K mg base (1) "back" none 1 F_12):FD P wd K mg base (2) "there_back" none 2 F_13 :=
 zAD (k:=1) Fn zMh hm hb fun cdv A outer s H E M B=>(by have S:=zMh.nd; exact by walk_at "x")
theorem zQd{f:Addr}{fd:Ab}(Fn:Fun K "about" "about" zIZ f fd)(hm:mg "about"=some (.ref f))(hb:Binds K fd ["turning","by"] [])(D_11:FD P wd K mg base (1) "then" none 2 F_11)(D_12:FD P wd K mg base (1) "back" none 1 F_12):FD P wd K mg base (2) "about" none 2 F_14 :=
 zAD (k:=1) Fn zLv hm hb fun cdv A outer s H E M B=>(by have S:=zLv.nd; exact by walk_at "x")
theorem zRc{f:Addr}{fd:Ab}(Fn:Fun K "apart" "apart" zIQ f fd)(hm:mg "apart"=some (.ref f))(hb:Binds K fd ["ring"] [])(k_OVER:KV K mg "OVER" zCv)(k_THERE:KV K mg "THERE" zB8)(D_10:FD P wd K mg base (3) "leading" none 2 F_10)(D_13:FD P wd K mg base (2) "there_back" none 2 F_13)(D_14:FD P wd K mg base (2) "about" none 2 F_14):FD P wd K mg base (4) "apart" none 1 F_15 :=
 zAD (k:=3) Fn zMS hm hb fun cdv A outer s H E M B=>(by have S:=zMS.nd; exact by walk_at "x")
theorem zQa{f:Addr}{fd:Ab}(Fn:Fun K "pieces_in" "pieces_in" zIh f fd)(hm:mg "pieces_in"=some (.ref f))(hb:Binds K fd ["piece"] [])(D_12:FD P wd K mg base (1) "back" none 1 F_12)(D_15:FD P wd K mg base (4) "apart" none 1 F_15):FD P wd K mg base (5) "pieces_in" none 1 F_16 :=
 zAD (k:=4) Fn zMR hm hb fun cdv A outer s H E M B=>(by have S:=zMR.nd; exact by walk_at "x")
theorem zRh{f:Addr}{fd:Ab}(Fn:Fun K "all_within" "all_within" zIY f fd)(hm:mg "all_within"=some (.ref f))(hb:Binds K fd ["whole","inside_of"] [])(z_list:mg "list"=none)(z_reversed:mg "reversed"=none)(D_7:FD P wd K mg base (1) "inner" none 1 F_7)(D_16:FD P wd K mg base (5) "pieces_in" none 1 F_16):FD P wd K mg base (6) "all_within" none 2 F_17 :=
 zAD (k:=5) Fn zL3 hm hb fun cdv A outer s H E M B=>(by have S:=zL3.nd; exact by walk_at "x")
theorem zQ6{f:Addr}{fd:Ab}(Fn:Fun K "weight_of" "weight_of" zIe f fd)(hm:mg "weight_of"=some (.ref f))(hb:Binds K fd ["part","inside"] []) :FD P wd K mg base (1) "weight_of" none 2 F_18 :=
 zAD (k:=0) Fn zMB hm hb fun cdv A outer s H E M B=>(by have S:=zMB.nd; exact by walk_at "x")
theorem zQb{f:Addr}{fd:Ab}(Fn:Fun K "either_or_both" "either_or_both" zIf f fd)(hm:mg "either_or_both"=some (.ref f))(hb:Binds K fd ["s","t"] []) :FD P wd K mg base (1) "either_or_both" none 2 F_19 :=
 zAD (k:=0) Fn zMl hm hb fun cdv A outer s H E M B=>(by have S:=zMl.nd; exact by walk_at "x")
theorem zQK{f:Addr}{fd:Ab}(Fn:Fun K "spelled_of" "spelled_of" zH4 f fd)(hm:mg "spelled_of"=some (.ref f))(hb:Binds K fd ["part","inside"] [])(z_tuple:mg "tuple"=none)(D_19:FD P wd K mg base (1) "either_or_both" none 2 F_19):FD P wd K mg base (2) "spelled_of" none 2 F_20 :=
 zAD (k:=1) Fn zMM hm hb fun cdv A outer s H E M B=>(by have S:=zMM.nd; exact by walk_at "x")
theorem zRd{f:Addr}{fd:Ab}(Fn:Fun K "last_followed" "last_followed" zIB f fd)(hm:mg "last_followed"=some (.ref f))(hb:Binds K fd ["steps","turning"] [])(D_11:FD P wd K mg base (1) "then" none 2 F_11):FD P wd K mg base (2) "last_followed" none 2 F_21 :=
 zAD (k:=1) Fn zLx hm hb fun cdv A outer s H E M B=>(by have S:=zLx.nd; exact by walk_at "x")
theorem zQf{f:Addr}{fd:Ab}(Fn:Fun K "still" "still" zIR f fd)(hm:mg "still"=some (.ref f))(hb:Binds K fd ["cups"] [])(z_range:mg "range"=none)(z_tuple:mg "tuple"=none):FD P wd K mg base (1) "still" none 1 F_22 :=
 zAD (k:=0) Fn zMH hm hb fun cdv A outer s H E M B=>(by have S:=zMH.nd; exact by walk_at "x")
theorem zQT{f:Addr}{fd:Ab}(Fn:Fun K "bare_step" "bare_step" zH1 f fd)(hm:mg "bare_step"=some (.ref f))(hb:Binds K fd ["saying","ring"] [])(D_22:FD P wd K mg base (1) "still" none 1 F_22):FD P wd K mg base (2) "bare_step" none 2 F_23 :=
 zAD (k:=1) Fn zMC hm hb fun cdv A outer s H E M B=>(by have S:=zMC.nd; exact by walk_at "x")
theorem zQy{f:Addr}{fd:Ab}(Fn:Fun K "steps_of" "steps_of" zHF f fd)(hm:mg "steps_of"=some (.ref f))(hb:Binds K fd ["piece","inside"] [])(D_21:FD P wd K mg base (2) "last_followed" none 2 F_21)(D_23:FD P wd K mg base (2) "bare_step" none 2 F_23):FD P wd K mg base (3) "steps_of" none 2 F_24 :=
 zAD (k:=2) Fn zL6 hm hb fun cdv A outer s H E M B=>(by have S:=zL6.nd; exact by walk_at "x")
theorem zQ4{f:Addr}{fd:Ab}(Fn:Fun K "paper_of" "paper_of" zHk f fd)(hm:mg "paper_of"=some (.ref f))(hb:Binds K fd ["piece","inside"] [])(z_tuple:mg "tuple"=none)(D_15:FD P wd K mg base (4) "apart" none 1 F_15):FD P wd K mg base (5) "paper_of" none 2 F_25 :=
 zAD (k:=4) Fn zIP hm hb fun cdv A outer s H E M B=>(by have S:=zIP.nd; exact zAU (by walk_at "x") (zAU (zIM (by walk_at "x") (zAU (by walk_at "x") (zAU (by walk_at "x") (zAU (by walk_at "x") (zAU (by walk_at "x") (zAU (zJu 6 (zBv M (zBI M) z_tuple Dm (jQ (zAq none (N':=["told"]) (ix:=[none]) M (fun _=>⟨rfl,by kernel_rfl⟩) (by walk_at "x") (by walk_at "x") zAn (by walk_at "x") (hix:=hix0)) jY)) (hN:=fun _=>zIP.nd)) (by walk_at "x")))))) zFo) (by walk_at "x")))
theorem zQM{f:Addr}{fd:Ab}(Fn:Fun K "so_by" "so_by" zHE f fd)(hm:mg "so_by"=some (.ref f))(hb:Binds K fd ["answers","part","inside"] []) :FD P wd K mg base (1) "so_by" none 3 F_26 :=
 zAD (k:=0) Fn zMQ hm hb fun cdv A outer s H E M B=>(by have S:=zMQ.nd; exact by walk_at "x")
theorem zOh(D_26:FD P wd K mg base (1) "so_by" none 3 F_26):LD P wd K mg base (1) L_so zBQ:=⟨"part","inside",zPz,fun f c cd A outer s H hr=>by
 have M:Fm K mg 1 (fun _:Unit=>cxLam P wd K mg base L_so "part" "inside" f cd c A outer s H):=⟨fun _=>rfl,fun _=>rfl,fun _=>rfl,fun _=>hr⟩
 have B:Fb P wd base (fun _:Unit=>cxLam P wd K mg base L_so "part" "inside" f cd c A outer s H):=⟨fun _=>rfl,fun _=>rfl,fun _=>rfl⟩
 obtain⟨t,p,u⟩:=(show EX K (fun _:Unit=>cxLam P wd K mg base L_so "part" "inside" f cd c A outer s H) L_so.body zBQ from zGo M B D_26 (jQ (jZ 2) (jQ (jZ 0) (jQ (jZ 1) jY))))
 exact⟨t,p (),u⟩⟩
theorem zQF{f:Addr}{fd:Ab}(Fn:Fun K "fold_within" "fold_within" zHg f fd)(hm:mg "fold_within"=some (.ref f))(hb:Binds K fd ["whole","inside_of","put"] [])(z_reversed:mg "reversed"=none)(D_7:FD P wd K mg base (1) "inner" none 1 F_7)(D_16:FD P wd K mg base (5) "pieces_in" none 1 F_16)(D_17:FD P wd K mg base (6) "all_within" none 2 F_17)(D_18:FD P wd K mg base (1) "weight_of" none 2 F_18)(D_20:FD P wd K mg base (2) "spelled_of" none 2 F_20)(D_24:FD P wd K mg base (3) "steps_of" none 2 F_24)(D_25:FD P wd K mg base (5) "paper_of" none 2 F_25)(D_26:FD P wd K mg base (1) "so_by" none 3 F_26):FD P wd K mg base (7) "fold_within" none 3 F_28 :=
 zAD (k:=6) Fn zIJ hm hb fun cdv A outer s H E M B=>(by have S:=zIJ.nd; exact zAU (by walk_at "x") (zAU (zI2 M (fun _=>FH) (by walk_at "x") (by walk_at "x") (zAU (zBp 5 (some (1,3)) (N':=["one","told"]) (ix:=[none,some 3]) M (fun _=>⟨rfl,by kernel_rfl⟩) (by walk_at "x") (by walk_at "x") zAn (by walk_at "x") (hix:=hix1 (by decide)) (hN:=fun _=>zIJ.nd)) (by walk_at "x"))) (by walk_at "x")))
theorem zQQ{f:Addr}{fd:Ab}(Fn:Fun K "folded" "folded" zIA f fd)(hm:mg "folded"=some (.ref f))(hb:Binds K fd ["saying","put"] [])(n_inner:NK K mg "inner")(D_28:FD P wd K mg base (7) "fold_within" none 3 F_28):FD P wd K mg base (8) "folded" none 2 F_29 :=
 zAD (k:=7) Fn zMj hm hb fun cdv A outer s H E M B=>(by have S:=zMj.nd; exact by walk_at "x")
theorem zRf{f:Addr}{fd:Ab}(Fn:Fun K "spelled" "spelled" zHG f fd)(hm:mg "spelled"=some (.ref f))(hb:Binds K fd ["saying"] [])(n_spelled_of:NK K mg "spelled_of")(D_29:FD P wd K mg base (8) "folded" none 2 F_29):FD P wd K mg base (9) "spelled" none 1 F_30 :=
 zAD (k:=8) Fn zMA hm hb fun cdv A outer s H E M B=>(by have S:=zMA.nd; exact by walk_at "x")
theorem zRF{f:Addr}{fd:Ab}(Fn:Fun K "_law_said" "_law_said" zHt f fd)(hm:mg "_law_said"=some (.ref f))(hb:Binds K fd ["_law_box_here","_law_questions"] [])(D_6:FD P wd K mg base (14) "_law_small" (some 0) 2 F_6)(D_30:FD P wd K mg base (9) "spelled" none 1 F_30):FD P wd K mg base (15) "_law_said" (some 0) 2 F_31 :=
 zAD (k:=14) Fn zMN hm hb fun cdv A outer s H E M B=>(by have S:=zMN.nd; exact by walk_at "x")
theorem zRH{f:Addr}{fd:Ab}(Fn:Fun K "_law_all_answers" "_law_all_answers" zIL f fd)(hm:mg "_law_all_answers"=some (.ref f))(hb:Binds K fd ["_law_questions"] [])(z_range:mg "range"=none):FD P wd K mg base (1) "_law_all_answers" none 1 F_32 :=
 zAD (k:=0) Fn zMJ hm hb fun cdv A outer s H E M B=>(by have S:=zMJ.nd; exact by walk_at "x")
theorem zRB{f:Addr}{fd:Ab}(Fn:Fun K "_law_answers" "_law_answers" zIg f fd)(hm:mg "_law_answers"=some (.ref f))(hb:Binds K fd ["_law_box_here","_law_questions"] [])(z_range:mg "range"=none)(z_tuple:mg "tuple"=none)(D_5:FD P wd K mg base (1) "_law_take" (some 0) 2 F_5):FD P wd K mg base (2) "_law_answers" (some 0) 2 F_33 :=
 zAD (k:=1) Fn zL0 hm hb fun cdv A outer s H E M B=>(by have S:=zL0.nd; exact zAz (zAy (zBv M (zBI M) z_tuple Dm (jQ (zAq (some (1,0)) (N':=["_law_k","_law_box_here"]) (ix:=[none,some 0]) M (fun _=>⟨rfl,by kernel_rfl⟩) (by walk_at "x") (by walk_at "x") zAn (by walk_at "x") (hix:=hix1 (by decide))) jY))))
theorem zQG{f:Addr}{fd:Ab}(Fn:Fun K "_law_rows" "_law_rows" zHH f fd)(hm:mg "_law_rows"=some (.ref f))(hb:Binds K fd ["_law_box_here","_law_questions"] [])(z_range:mg "range"=none)(D_32:FD P wd K mg base (1) "_law_all_answers" none 1 F_32)(D_33:FD P wd K mg base (2) "_law_answers" (some 0) 2 F_33):FD P wd K mg base (3) "_law_rows" (some 0) 2 F_34 :=
 zAD (k:=2) Fn zMd hm hb fun cdv A outer s H E M B=>(by have S:=zMd.nd; exact zAU (by walk_at "x") (zAz (zAy (zAq (some (1,0)) (N':=["_law_turn","_law_box_here","_law_questions"]) (ix:=[none,some 0,some 1]) M (fun _=>⟨rfl,by kernel_rfl⟩) (by walk_at "x") (by walk_at "x") zAn (by walk_at "x") (hix:=hix1 (by decide))))))
theorem zQz{f:Addr}{fd:Ab}(Fn:Fun K "is_turning" "is_turning" zIi f fd)(hm:mg "is_turning"=some (.ref f))(hb:Binds K fd ["cups","thing"] [])(z_list:mg "list"=none)(z_range:mg "range"=none)(z_sorted:mg "sorted"=none):FD P wd K mg base (1) "is_turning" none 2 F_35 :=
 zAD (k:=0) Fn zMD hm hb fun cdv A outer s H E M B=>(by have S:=zMD.nd; exact by walk_at "x")
theorem zQ5{f:Addr}{fd:Ab}(Fn:Fun K "is_ring" "is_ring" zHW f fd)(hm:mg "is_ring"=some (.ref f))(hb:Binds K fd ["turning"] [])(z_len:mg "len"=none)(D_9:FD P wd K mg base (2) "rings_of" none 1 F_9):FD P wd K mg base (3) "is_ring" none 1 F_36 :=
 zAD (k:=2) Fn zMY hm hb fun cdv A outer s H E M B=>(by have S:=zMY.nd; exact zAz (zAy (ex_c (zML M) (zAq none (N':=["ring"]) (ix:=[none]) M (fun _=>⟨rfl,by kernel_rfl⟩) (by walk_at "x") (by walk_at "x") zAn (by walk_at "x") (hix:=hix0)) (by walk_at "x"))))
theorem zQx{f:Addr}{fd:Ab}(Fn:Fun K "is_ring_of_five" "is_ring_of_five" zHa f fd)(hm:mg "is_ring_of_five"=some (.ref f))(hb:Binds K fd ["thing"] [])(D_35:FD P wd K mg base (1) "is_turning" none 2 F_35)(D_36:FD P wd K mg base (3) "is_ring" none 1 F_36):FD P wd K mg base (4) "is_ring_of_five" none 1 F_37 :=
 zAD (k:=3) Fn zLy hm hb fun cdv A outer s H E M B=>(by have S:=zLy.nd; exact by walk_at "x")
theorem zQn{f:Addr}{fd:Ab}(Fn:Fun K "weight" "weight" zHD f fd)(hm:mg "weight"=some (.ref f))(hb:Binds K fd ["saying"] [])(n_weight_of:NK K mg "weight_of")(D_29:FD P wd K mg base (8) "folded" none 2 F_29):FD P wd K mg base (9) "weight" none 1 F_38 :=
 zAD (k:=8) Fn zMK hm hb fun cdv A outer s H E M B=>(by have S:=zMK.nd; exact by walk_at "x")
theorem zQW{f:Addr}{fd:Ab}(Fn:Fun K "look_at_making" "look_at_making" zHL f fd)(hm:mg "look_at_making"=some (.ref f))(hb:Binds K fd ["saying","ring","most"] [])(D_37:FD P wd K mg base (4) "is_ring_of_five" none 1 F_37)(D_38:FD P wd K mg base (9) "weight" none 1 F_38):FD P wd K mg base (10) "look_at_making" none 3 F_39 :=
 zAD (k:=9) Fn zMP hm hb fun cdv A outer s H E M B=>(by have S:=zMP.nd; exact by walk_at "x")
theorem zQm{pT f:Addr}{fd:Ab}{ds:List AD}(Fn:FunD K "made" "made" zC9 pT f fd)(hm:mg "made"=some (.ref f))(hb:Binds K fd ["saying","questions","ring","most"] [])(hb2:Binds K fd ["saying","questions","ring","most"] ds)(hv:Vals [.int 128] ds)(n_pieces_in:NK K mg "pieces_in")(n_steps_of:NK K mg "steps_of")(D_28:FD P wd K mg base (7) "fold_within" none 3 F_28)(D_30:FD P wd K mg base (9) "spelled" none 1 F_30)(D_39:FD P wd K mg base (10) "look_at_making" none 3 F_39):FD P wd K mg base (11) "made" none 4 F_40/\FDd P wd K mg base (11) "made" none 4 F_40 [.int 128] :=
 zJc (k:=10) Fn zMc hm hb hb2 hv fun cdv A outer s H E M B=>(by have S:=zMc.nd; exact by walk_at "x")
theorem zQZ{f:Addr}{fd:Ab}(Fn:Fun K "_law_ring" "_law_ring" zH5 f fd)(hm:mg "_law_ring"=some (.ref f))(hb:Binds K fd ["_law_box_here","_law_cups"] [])(z_enumerate:mg "enumerate"=none)(z_len:mg "len"=none)(z_list:mg "list"=none)(z_range:mg "range"=none)(z_tuple:mg "tuple"=none)(D_5:FD P wd K mg base (1) "_law_take" (some 0) 2 F_5):FD P wd K mg base (2) "_law_ring" (some 0) 2 F_41 :=
 zAD (k:=1) Fn zMI hm hb fun cdv A outer s H E M B=>(by have S:=zMI.nd; exact by walk_at "x")
theorem zRY{f:Addr}{fd:Ab}(Fn:Fun K "turned_about" "turned_about" zIC f fd)(hm:mg "turned_about"=some (.ref f))(hb:Binds K fd ["dance","by"] [])(z_len:mg "len"=none)(z_tuple:mg "tuple"=none)(D_14:FD P wd K mg base (2) "about" none 2 F_14):FD P wd K mg base (3) "turned_about" none 2 F_42 :=
 zAD (k:=2) Fn zIV hm hb fun cdv A outer s H E M B=>(by have S:=zIV.nd; exact zAU (by walk_at "x") (zAU (zBp 2 none (N':=["step","by"]) (ix:=[none,some 1]) M (fun _=>⟨rfl,by kernel_rfl⟩) (by walk_at "x") (by walk_at "x") zAn (by walk_at "x") (hix:=hix0) (hN:=fun _=>zIV.nd)) (by walk_at "x")))
theorem zQU{f:Addr}{fd:Ab}(Fn:Fun K "turned_back" "turned_back" zHK f fd)(hm:mg "turned_back"=some (.ref f))(hb:Binds K fd ["dance"] [])(z_reversed:mg "reversed"=none)(z_tuple:mg "tuple"=none)(D_12:FD P wd K mg base (1) "back" none 1 F_12):FD P wd K mg base (2) "turned_back" none 1 F_43 :=
 zAD (k:=1) Fn zIX hm hb fun cdv A outer s H E M B=>(by have S:=zIX.nd; exact zAU (zBp 1 none (N':=["step"]) (ix:=[none]) M (fun _=>⟨rfl,by kernel_rfl⟩) (by walk_at "x") (by walk_at "x") zAn (by walk_at "x") (hix:=hix0) (hN:=fun _=>zIX.nd)) (by walk_at "x"))
theorem zQR{f:Addr}{fd:Ab}(Fn:Fun K "turned_by" "turned_by" zHr f fd)(hm:mg "turned_by"=some (.ref f))(hb:Binds K fd ["step","answers"] []) :FD P wd K mg base (1) "turned_by" none 2 F_44 :=
 zAD (k:=0) Fn zMX hm hb fun cdv A outer s H E M B=>(by have S:=zMX.nd; exact by walk_at "x")
theorem zQE{f:Addr}{fd:Ab}(Fn:Fun K "done_by_steps" "done_by_steps" zIO f fd)(hm:mg "done_by_steps"=some (.ref f))(hb:Binds K fd ["dance","answers"] [])(D_11:FD P wd K mg base (1) "then" none 2 F_11)(D_22:FD P wd K mg base (1) "still" none 1 F_22)(D_44:FD P wd K mg base (1) "turned_by" none 2 F_44):FD P wd K mg base (2) "done_by_steps" none 2 F_45 :=
 zAD (k:=1) Fn zMi hm hb fun cdv A outer s H E M B=>(by have S:=zMi.nd; exact by walk_at "x")
theorem zRA{f:Addr}{fd:Ab}(Fn:Fun K "done" "done" zIH f fd)(hm:mg "done"=some (.ref f))(hb:Binds K fd ["dance","answers"] [])(D_22:FD P wd K mg base (1) "still" none 1 F_22)(D_45:FD P wd K mg base (2) "done_by_steps" none 2 F_45):FD P wd K mg base (3) "done" none 2 F_46 :=
 zAD (k:=2) Fn zMa hm hb fun cdv A outer s H E M B=>(by have S:=zMa.nd; exact by walk_at "x")
theorem zQH{f:Addr}{fd:Ab}(Fn:Fun K "_law_back" "_law_back" zIG f fd)(hm:mg "_law_back"=some (.ref f))(hb:Binds K fd ["_law_turning"] [])(z_len:mg "len"=none)(z_range:mg "range"=none)(z_tuple:mg "tuple"=none):FD P wd K mg base (1) "_law_back" none 1 F_47 :=
 zAD (k:=0) Fn zME hm hb fun cdv A outer s H E M B=>(by have S:=zME.nd; exact zAz (zAy (zBv M (zBI M) z_tuple Dm (jQ (zAq none (N':=["_law_place","_law_turning"]) (ix:=[none,some 0]) M (fun _=>⟨rfl,by kernel_rfl⟩) (by walk_at "x") (by walk_at "x") zAn (by walk_at "x") (hix:=hix0)) jY))))
theorem zQi{f:Addr}{fd:Ab}(Fn:Fun K "_law_led" "_law_led" zHs f fd)(hm:mg "_law_led"=some (.ref f))(hb:Binds K fd ["_law_dance","_law_other","_law_ring_here","_law_there","_law_rows_here"] [])(D_10:FD P wd K mg base (3) "leading" none 2 F_10)(D_42:FD P wd K mg base (3) "turned_about" none 2 F_42)(D_43:FD P wd K mg base (2) "turned_back" none 1 F_43)(D_46:FD P wd K mg base (3) "done" none 2 F_46)(D_47:FD P wd K mg base (1) "_law_back" none 1 F_47):FD P wd K mg base (4) "_law_led" none 5 F_48 :=
 zAD (k:=3) Fn zMk hm hb fun cdv A outer s H E M B=>(by have S:=zMk.nd; exact by walk_at "x")
theorem zRJ{pT f:Addr}{fd:Ab}{ds:List AD}(Fn:FunD K "made_with_paper" "made_with_paper" zC4 pT f fd)(hm:mg "made_with_paper"=some (.ref f))(hb:Binds K fd ["saying","questions","ring","most"] [])(hb2:Binds K fd ["saying","questions","ring","most"] ds)(hv:Vals [.int 128] ds)(n_paper_of:NK K mg "paper_of")(n_pieces_in:NK K mg "pieces_in")(D_28:FD P wd K mg base (7) "fold_within" none 3 F_28)(D_30:FD P wd K mg base (9) "spelled" none 1 F_30)(D_40:FD P wd K mg base (11) "made" none 4 F_40):FD P wd K mg base (12) "made_with_paper" none 4 F_49/\FDd P wd K mg base (12) "made_with_paper" none 4 F_49 [.int 128] :=
 zJc (k:=11) Fn zMW hm hb hb2 hv fun cdv A outer s H E M B=>(by have S:=zMW.nd; exact by walk_at "x")
theorem zRP{f:Addr}{fd:Ab}(Fn:Fun K "is_form" "is_form" zH0 f fd)(hm:mg "is_form"=some (.ref f))(hb:Binds K fd ["paper","word","many"] [])(z_isinstance:mg "isinstance"=none)(z_len:mg "len"=none)(z_tuple:mg "tuple"=none):FD P wd K mg base (1) "is_form" none 3 F_50 :=
 zAD (k:=0) Fn zL4 hm hb fun cdv A outer s H E M B=>(by have S:=zL4.nd; exact by walk_at "x")
theorem zQ0{f:Addr}{fd:Ab}(Fn:Fun K "not_claims" "not_claims" zHY f fd)(hm:mg "not_claims"=some (.ref f))(hb:Binds K fd ["saying","ring","row","paper"] [])(z_len:mg "len"=none)(D_12:FD P wd K mg base (1) "back" none 1 F_12)(D_21:FD P wd K mg base (2) "last_followed" none 2 F_21):FD P wd K mg base (3) "not_claims" none 4 F_51 :=
 zAD (k:=2) Fn zMU hm hb fun cdv A outer s H E M B=>(by have S:=zMU.nd; exact by walk_at "x")
theorem zRI{f:Addr}{fd:Ab}(Fn:Fun K "is_whole" "is_whole" zIa f fd)(hm:mg "is_whole"=some (.ref f))(hb:Binds K fd ["thing"] [])(z_bool:mg "bool"=none)(z_int:mg "int"=none)(z_isinstance:mg "isinstance"=none):FD P wd K mg base (1) "is_whole" none 1 F_52 :=
 zAD (k:=0) Fn zL8 hm hb fun cdv A outer s H E M B=>(by have S:=zL8.nd; exact by walk_at "x")
theorem zRS{f:Addr}{fd:Ab}(Fn:Fun K "are_cuts" "are_cuts" zHT f fd)(hm:mg "are_cuts"=some (.ref f))(hb:Binds K fd ["cuts","many"] [])(z_all:mg "all"=none)(D_52:FD P wd K mg base (1) "is_whole" none 1 F_52):FD P wd K mg base (2) "are_cuts" none 2 F_53 :=
 zAD (k:=1) Fn zMO hm hb fun cdv A outer s H E M B=>(by have S:=zMO.nd; exact zAz (zAy (zCj (zBs M (zFl M) z_all KG (jQ (zAq none (N':=["cut"]) (ix:=[none]) M (fun _=>⟨rfl,by kernel_rfl⟩) (by walk_at "x") (by walk_at "x") zAn (by walk_at "x") (hix:=hix0)) jY)) (by walk_at "x"))))
theorem zQg{f:Addr}{fd:Ab}(Fn:Fun K "is_any_ring_of_five" "is_any_ring_of_five" zIE f fd)(hm:mg "is_any_ring_of_five"=some (.ref f))(hb:Binds K fd ["thing"] [])(z_all:mg "all"=none)(z_isinstance:mg "isinstance"=none)(z_tuple:mg "tuple"=none)(D_37:FD P wd K mg base (4) "is_ring_of_five" none 1 F_37)(D_52:FD P wd K mg base (1) "is_whole" none 1 F_52):FD P wd K mg base (5) "is_any_ring_of_five" none 1 F_54 :=
 zAD (k:=4) Fn zMZ hm hb fun cdv A outer s H E M B=>(by have S:=zMZ.nd; exact zAz (zAy (zCj (by walk_at "x") (zCj (zBs M (zFl M) z_all KG (jQ (zAq none (N':=["place"]) (ix:=[none]) M (fun _=>⟨rfl,by kernel_rfl⟩) (by walk_at "x") (by walk_at "x") zAn (by walk_at "x") (hix:=hix0)) jY)) (by walk_at "x")))))
theorem zRG{f:Addr}{fd:Ab}(Fn:Fun K "and_claims" "and_claims" zHU f fd)(hm:mg "and_claims"=some (.ref f))(hb:Binds K fd ["saying","ring","row","paper"] [])(z_len:mg "len"=none)(D_12:FD P wd K mg base (1) "back" none 1 F_12)(D_13:FD P wd K mg base (2) "there_back" none 2 F_13)(D_53:FD P wd K mg base (2) "are_cuts" none 2 F_53)(D_54:FD P wd K mg base (5) "is_any_ring_of_five" none 1 F_54):FD P wd K mg base (6) "and_claims" none 4 F_55 :=
 zAD (k:=5) Fn zMV hm hb fun cdv A outer s H E M B=>(by have S:=zMV.nd; exact by walk_at "x")
theorem zRE{f:Addr}{fd:Ab}(Fn:Fun K "is_step_for" "is_step_for" zH7 f fd)(hm:mg "is_step_for"=some (.ref f))(hb:Binds K fd ["saying","ring","row"] [])(z_len:mg "len"=none)(D_22:FD P wd K mg base (1) "still" none 1 F_22):FD P wd K mg base (2) "is_step_for" none 3 F_56 :=
 zAD (k:=1) Fn zMb hm hb fun cdv A outer s H E M B=>(by have S:=zMb.nd; exact by walk_at "x")
theorem zQw{f:Addr}{fd:Ab}(Fn:Fun K "claims_in" "claims_in" zHx f fd)(hm:mg "claims_in"=some (.ref f))(hb:Binds K fd ["saying","ring","row","paper"] [])(D_50:FD P wd K mg base (1) "is_form" none 3 F_50)(D_51:FD P wd K mg base (3) "not_claims" none 4 F_51)(D_55:FD P wd K mg base (6) "and_claims" none 4 F_55)(D_56:FD P wd K mg base (2) "is_step_for" none 3 F_56):FD P wd K mg base (7) "claims_in" none 4 F_57 :=
 zAD (k:=6) Fn zL9 hm hb fun cdv A outer s H E M B=>(by have S:=zL9.nd; exact by walk_at "x")
theorem zRL{f:Addr}{fd:Ab}(Fn:Fun K "paper_holds" "paper_holds" zIb f fd)(hm:mg "paper_holds"=some (.ref f))(hb:Binds K fd ["saying","ring","dance","paper"] [])(D_30:FD P wd K mg base (9) "spelled" none 1 F_30)(D_57:FD P wd K mg base (7) "claims_in" none 4 F_57):FD P wd K mg base (10) "paper_holds" none 4 F_58 :=
 zAD (k:=9) Fn zL2 hm hb fun cdv A outer s H E M B=>(by have S:=zL2.nd; exact by walk_at "x")
theorem zQ2{f:Addr}{fd:Ab}(Fn:Fun K "_law_papers_hold" "_law_papers_hold" zHw f fd)(hm:mg "_law_papers_hold"=some (.ref f))(hb:Binds K fd ["_law_saying_here","_law_questions","_law_ring_here","_law_there"] [])(D_30:FD P wd K mg base (9) "spelled" none 1 F_30)(D_58:FD P wd K mg base (10) "paper_holds" none 4 F_58)(Dd_49:FDd P wd K mg base (12) "made_with_paper" none 4 F_49 [.int 128]):FD P wd K mg base (13) "_law_papers_hold" none 4 F_59 :=
 zAD (k:=12) Fn zMT hm hb fun cdv A outer s H E M B=>(by have S:=zMT.nd; exact by walk_at "x")
theorem ok_2{f:Addr}{fd:Ab}(Fn:Fun K "_law_so" "_law_so" st_2 f fd)(hm:mg "_law_so"=some (.ref f))(hb:Binds K fd ["_law_saying_here","_law_answers_here"] [])  (n:Nat):FD P wd K mg base (0+n) "_law_so" none 2 (F_2 n):=by
 induction n with
 | zero=>exact zCy Fn hm hb rfl
 | succ n ih =>
  have Drec:=ih
  exact zAD (k:=0+n) Fn sc_2 hm hb fun cdv A outer s H E M B=>(by have S:=sc_2.nd; exact zAU (by walk_at "x") (zAU (by walk_at "x") (zAU (zBp 3 none (N':=["_law_one","_law_answers_here"]) (ix:=[none,some 1]) M (fun _=>⟨rfl,by kernel_rfl⟩) (by walk_at "x") (by walk_at "x") zAn (by walk_at "x") (hix:=hix0) (hN:=fun _=>sc_2.nd)) (by walk_at "x"))))
theorem zRO{f:Addr}{fd:Ab}(Fn:Fun K "is_so" "is_so" zBR f fd)(hm:mg "is_so"=some (.ref f))(hb:Binds K fd ["saying","answers"] [])(tab_p_is_so:TabAt K fd)(D_29:FD P wd K mg base (8) "folded" none 2 F_29):FD P wd K mg base (9) "is_so" none 2 F_27:=by
 refine⟨⟨f,fd,["saying","answers"],zP8 (k:=8) Fn zRV fun cdv A outer s H E hc M B=>zAz (zAy ?_),hm,Fn.kp,hb⟩,zC0⟩
 refine zNn (L:=L_so) (x:="folded") (y:="saying") M B D_29 tab_p_is_so hc ?a1 ?a2 ?a3 ?a4 ?a5 ?a6 ?a7 ?a8 ?a9 ?a10 ?a11 ?a12 ?a13 ?a14 ?a15 ?a16
 case a1=>exact fun _=>rfl
 case a2=>decide
 case a4=>exact fun _ c h=>zPr c h
 case a7=>exact fun _=>pv 0
 case a11=>rfl
 case a13=>decide
 all_goals (intro _; rfl)
theorem ok_0{f:Addr}{fd:Ab}(Fn:Fun K "_law_alike" "_law_alike" st_0 f fd)(hm:mg "_law_alike"=some (.ref f))(hb:Binds K fd ["_law_found","_law_due"] [])(z_all:mg "all"=none)(z_bool:mg "bool"=none)(z_isinstance:mg "isinstance"=none)(z_len:mg "len"=none)(z_list:mg "list"=none)(z_tuple:mg "tuple"=none)(z_zip:mg "zip"=none)(n:Nat):FD P wd K mg base (0+n) "_law_alike" none 2 (F_0 n):=by
 induction n with
 | zero=>exact zCy Fn hm hb rfl
 | succ n ih =>
  have Drec:=ih
  exact zAD (k:=0+n) Fn sc_0 hm hb fun cdv A outer s H E M B=>(by have S:=sc_0.nd; exact zAU (zIM (by walk_at "x") (zAU (by walk_at "x") (zAz (zAy (zCj (by walk_at "x") (zIj (zBs M (zFl M) z_all KG (jQ (zAq none (N':=["_law_one","_law_other"]) (ix:=[none,none]) M (fun _=>⟨rfl,by kernel_rfl⟩) (by walk_at "x") (by walk_at "x") zAn (by walk_at "x") (hix:=hix0)) jY))))))) zFo) (by walk_at "x"))
theorem zQL{f:Addr}{fd:Ab}(Fn:Fun K "_law_danced" "_law_danced" zH9 f fd)(hm:mg "_law_danced"=some (.ref f))(hb:Binds K fd ["_law_saying_here","_law_due","_law_ring_here","_law_dance","_law_rows_here"] [])(z_int:mg "int"=none)(z_range:mg "range"=none)(z_tuple:mg "tuple"=none)(D_46:FD P wd K mg base (3) "done" none 2 F_46)(D_2:FD P wd K mg base (20) "_law_so" none 2 (F_2 zDo))(D_27:FD P wd K mg base (9) "is_so" none 2 F_27)(D_0:FD P wd K mg base (4) "_law_alike" none 2 (F_0 zBq)):FD P wd K mg base (21) "_law_danced" none 5 F_60 :=
 zAD (k:=20) Fn zL1 hm hb fun cdv A outer s H E M B=>(by have S:=zL1.nd; exact by walk_at "x")
theorem zP5{f:Addr}{fd:Ab}(Fn:Fun K "law" "law" zBN f fd)(z_len:mg "len"=none)(z_range:mg "range"=none)(D_4:FD P wd K mg base (1) "_law_box" none 2 F_4)(D_5:FD P wd K mg base (1) "_law_take" (some 0) 2 F_5)(D_31:FD P wd K mg base (15) "_law_said" (some 0) 2 F_31)(D_34:FD P wd K mg base (3) "_law_rows" (some 0) 2 F_34)(D_41:FD P wd K mg base (2) "_law_ring" (some 0) 2 F_41)(D_48:FD P wd K mg base (4) "_law_led" none 5 F_48)(D_59:FD P wd K mg base (13) "_law_papers_hold" none 4 F_59)(D_60:FD P wd K mg base (21) "_law_danced" none 5 F_60)(Dd_40:FDd P wd K mg base (11) "made" none 4 F_40 [.int 128]):FnOk P wd K mg base CX0 22 f fd ["_law_script"] (spD K none 1 zCP) :=
 zQS (k:=21) Fn zJz fun cdv A outer s H E M B=>(by have S:=zJz.nd; exact by walk_at "x")
end
structure Wr(K:AM)(x:Str)(st:Stmt)(f:Addr):Prop where
 a:nsIn K Ad x=some (some (.ref f))
 F:∃ fd,Fun K x x st f fd
theorem wr_mk{K:AM}{x:Str}{st:Stmt}{f:Addr}{oc:AD}{od an:Option Addr}{osl:Array (Option AD)}{kV doc pm cdv ct:AD}(a:nsIn K Ad x=some (some (.ref f)))(l:K.lookup f=some ⟨oc,od,.func (fnOf x x (defArgs st) (defBody st) (defScope st) .none kV doc pm an cdv ct),osl⟩)
  (c:Bt K cdv x=true) (k:BN K (.ref f)=true):Wr K x st f:=⟨a,_,zFj l c k⟩
theorem tab_mk{K:AM}{x:Str}{f c0 P0:Addr}{oc oc2 kV doc pm ct:AD}{od od2 an:Option Addr}{osl osl2:Array (Option AD)}{ps:HM}{b:List Stmt}{sc:Df}{vs:Array AD}(a:nsIn K Ad x=some (some (.ref f)))(l:K.lookup f=some ⟨oc,od,.func (fnOf x x ps b sc .none kV doc pm an (.ref c0) ct),osl⟩)(c:K.lookup c0=some ⟨oc2,od2,.fields vs,osl2⟩)(v:vs[11]?=some (.ref P0)):CG K x=some (c0,P0):=by
 unfold CG
 simp only[a,l,c,v,fnOf]
local macro_rules | `(tactic| walk_at "b") => `(tactic| (intro _ _ _ _ _ _ us hl; first|(obtain⟨_,h⟩:=len1 hl; subst h; exact rfl)|(obtain⟨_,_,h⟩:=len2 hl; subst h; exact rfl)|(obtain⟨_,_,_,h⟩:=len3 hl; subst h; exact rfl)|(obtain⟨_,_,_,_,h⟩:=len4 hl; subst h; exact rfl)|(obtain⟨_,_,_,_,_,h⟩:=len5 hl; subst h; exact rfl)))
theorem all_mk{l:FT}{w:Ax}{K:AM}{h:Heap}{mg:Str->Option AD}{fa:Addr}(X:K.In h)(G:h.Ns Ad mg)(hfa:mg "law"=some (.ref fa))
  (w1:Wr K "_law_box" st_4 f1)
  (w2:Wr K "_law_take" st_5 f2)
  (w3:Wr K "_law_saying" st_1 f3)
  (w4:Wr K "_law_weight" st_3 f4)
  (w5:Wr K "_law_small" st_6 f5)
  (w6:Wr K "inner" st_7 f6)
  (w7:Wr K "row_from" st_8 f7)
  (w8:Wr K "rings_of" st_9 f8)
  (w9:Wr K "leading" zHR f9)
  (w10:Wr K "then" zHz f10)
  (w11:Wr K "back" zHf f11)
  (w12:Wr K "there_back" zHv f12)
  (w13:Wr K "about" zIZ f13)
  (w14:Wr K "apart" zIQ f14)
  (w15:Wr K "pieces_in" zIh f15)
  (w16:Wr K "all_within" zIY f16)
  (w17:Wr K "weight_of" zIe f17)
  (w18:Wr K "either_or_both" zIf f18)
  (w19:Wr K "spelled_of" zH4 f19)
  (w20:Wr K "last_followed" zIB f20)
  (w21:Wr K "still" zIR f21)
  (w22:Wr K "bare_step" zH1 f22)
  (w23:Wr K "steps_of" zHF f23)
  (w24:Wr K "paper_of" zHk f24)
  (w25:Wr K "so_by" zHE f25)
  (w26:Wr K "fold_within" zHg f26)
  (w27:Wr K "folded" zIA f27)
  (w28:Wr K "spelled" zHG f28)
  (w29:Wr K "_law_said" zHt f29)
  (w30:Wr K "_law_all_answers" zIL f30)
  (w31:Wr K "_law_answers" zIg f31)
  (w32:Wr K "_law_rows" zHH f32)
  (w33:Wr K "is_turning" zIi f33)
  (w34:Wr K "is_ring" zHW f34)
  (w35:Wr K "is_ring_of_five" zHa f35)
  (w36:Wr K "weight" zHD f36)
  (w37:Wr K "look_at_making" zHL f37)
  {f38:Addr} {od38 an38:Option Addr} {sl38:Array (Option AD)} {oc38 kV38 dc38 pm38 cd38 ct38:AD}
  {pdf38:Addr} {ndf38:Nat} {sdf38:Array (Option AD)} {tdf38:Tok} (dfl38:K.lookup pdf38=some ⟨.type "tuple",none,.seq [Bb 128 tdf38].toArray ndf38,sdf38⟩)
  (a38:nsIn K Ad "made"=some (some (.ref f38))) (l38:K.lookup f38=some ⟨oc38,od38,.func (fnOf "made" "made" (defArgs zC9) (defBody zC9) (defScope zC9) (.ref pdf38) kV38 dc38 pm38 an38 cd38 ct38),sl38⟩) (c38:Bt K cd38 "made"=true) (k38:BN K (.ref f38)=true)
  (w39:Wr K "_law_ring" zH5 f39)
  (w40:Wr K "turned_about" zIC f40)
  (w41:Wr K "turned_back" zHK f41)
  (w42:Wr K "turned_by" zHr f42)
  (w43:Wr K "done_by_steps" zIO f43)
  (w44:Wr K "done" zIH f44)
  (w45:Wr K "_law_back" zIG f45)
  (w46:Wr K "_law_led" zHs f46)
  {f47:Addr} {od47 an47:Option Addr} {sl47:Array (Option AD)} {oc47 kV47 dc47 pm47 cd47 ct47:AD}
  {pdf47:Addr} {ndf47:Nat} {sdf47:Array (Option AD)} {tdf47:Tok} (dfl47:K.lookup pdf47=some ⟨.type "tuple",none,.seq [Bb 128 tdf47].toArray ndf47,sdf47⟩)
  (a47:nsIn K Ad "made_with_paper"=some (some (.ref f47))) (l47:K.lookup f47=some ⟨oc47,od47,.func (fnOf "made_with_paper" "made_with_paper" (defArgs zC4) (defBody zC4) (defScope zC4) (.ref pdf47) kV47 dc47 pm47 an47 cd47 ct47),sl47⟩) (c47:Bt K cd47 "made_with_paper"=true) (k47:BN K (.ref f47)=true)
  (w48:Wr K "is_form" zH0 f48)
  (w49:Wr K "not_claims" zHY f49)
  (w50:Wr K "is_whole" zIa f50)
  (w51:Wr K "are_cuts" zHT f51)
  (w52:Wr K "is_any_ring_of_five" zIE f52)
  (w53:Wr K "and_claims" zHU f53)
  (w54:Wr K "is_step_for" zH7 f54)
  (w55:Wr K "claims_in" zHx f55)
  (w56:Wr K "paper_holds" zIb f56)
  (w57:Wr K "_law_papers_hold" zHw f57)
  (w58:Wr K "_law_so" st_2 f58)
  {f59:Addr} {od59 an59:Option Addr} {sl59:Array (Option AD)} {oc59 kV59 dc59 pm59 cd59 ct59:AD}
  (a59:nsIn K Ad "is_so"=some (some (.ref f59))) (l59:K.lookup f59=some ⟨oc59,od59,.func (fnOf "is_so" "is_so" (defArgs zBR) (defBody zBR) (defScope zBR) .none kV59 dc59 pm59 an59 cd59 ct59),sl59⟩) (c59:Bt K cd59 "is_so"=true) (k59:BN K (.ref f59)=true)
  (w60:Wr K "_law_alike" st_0 f60)
  (w61:Wr K "_law_danced" zH9 f61)
  {f62:Addr} {od62 an62:Option Addr} {sl62:Array (Option AD)} {oc62 kV62 dc62 pm62 cd62 ct62:AD}
  (a62:nsIn K Ad "law"=some (some (.ref f62))) (l62:K.lookup f62=some ⟨oc62,od62,.func (fnOf "law" "law" (defArgs zBN) (defBody zBN) (defScope zBN) .none kV62 dc62 pm62 an62 cd62 ct62),sl62⟩) (c62:Bt K cd62 "law"=true) (k62:BN K (.ref f62)=true)
  (z1:nsIn K Ad "all"=some none)
  (z2:nsIn K Ad "bool"=some none)
  (z3:nsIn K Ad "dict"=some none)
  (z4:nsIn K Ad "enumerate"=some none)
  (z5:nsIn K Ad "int"=some none)
  (z6:nsIn K Ad "isinstance"=some none)
  (z7:nsIn K Ad "len"=some none)
  (z8:nsIn K Ad "list"=some none)
  (z9:nsIn K Ad "max"=some none)
  (z10:nsIn K Ad "min"=some none)
  (z11:nsIn K Ad "range"=some none)
  (z12:nsIn K Ad "reversed"=some none)
  (z13:nsIn K Ad "sorted"=some none)
  (z14:nsIn K Ad "tuple"=some none)
  (z15:nsIn K Ad "zip"=some none)
  {pk1:Addr} {nk1:Nat} {slk1:Array (Option AD)} {t1_0 t1_1 t1_2 t1_3 t1_4:Tok} (ka1:nsIn K Ad "OVER"=some (some (.ref pk1))) (kl1:K.lookup pk1=some ⟨.type "tuple",none,.seq [Bb 1 t1_0,Bb 3 t1_1,Bb 0 t1_2,Bb 4 t1_3,Bb 2 t1_4].toArray nk1,slk1⟩)
  {pk2:Addr} {nk2:Nat} {slk2:Array (Option AD)} {t2_0 t2_1 t2_2 t2_3 t2_4:Tok} (ka2:nsIn K Ad "THERE"=some (some (.ref pk2))) (kl2:K.lookup pk2=some ⟨.type "tuple",none,.seq [Bb 1 t2_0,Bb 2 t2_1,Bb 3 t2_2,Bb 4 t2_3,Bb 0 t2_4].toArray nk2,slk2⟩)
  {c0 P0:Addr} (tt:CG K "is_so"=some (c0,P0)) (th:CM K c0 P0=true) (tc:cd59=.ref c0) :
  ∃ fd:Ab,(∀ (s:AG) (v:AD),Gb s fd ⟨[v],[]⟩ [("_law_script",v)])/\∀ base:Heap,K.In base->base.Ns Ad mg->FnOk l.prog w K mg base CX0 22 fa fd ["_law_script"] (spD K none 1 zCP):=by
 have e:=hfa.symm.trans (mg_of X G a62)
 cases e
 have z_all:=mg_none_of X G z1
 have z_bool:=mg_none_of X G z2
 have z_dict:=mg_none_of X G z3
 have z_enumerate:=mg_none_of X G z4
 have z_int:=mg_none_of X G z5
 have z_isinstance:=mg_none_of X G z6
 have z_len:=mg_none_of X G z7
 have z_list:=mg_none_of X G z8
 have z_max:=mg_none_of X G z9
 have z_min:=mg_none_of X G z10
 have z_range:=mg_none_of X G z11
 have z_reversed:=mg_none_of X G z12
 have z_sorted:=mg_none_of X G z13
 have z_tuple:=mg_none_of X G z14
 have z_zip:=mg_none_of X G z15
 have k_OVER:KV K mg "OVER" zCv:=zGr [1,3,0,4,2] (mg_of X G ka1) kl1 (.cons ⟨_,rfl⟩ (.cons ⟨_,rfl⟩ (.cons ⟨_,rfl⟩ (.cons ⟨_,rfl⟩ (.cons ⟨_,rfl⟩ (.nil)))))) (by show 5<=AC; decide)
 have k_THERE:KV K mg "THERE" zB8:=zGr [1,2,3,4,0] (mg_of X G ka2) kl2 (.cons ⟨_,rfl⟩ (.cons ⟨_,rfl⟩ (.cons ⟨_,rfl⟩ (.cons ⟨_,rfl⟩ (.cons ⟨_,rfl⟩ (.nil)))))) (by show 5<=AC; decide)
 obtain⟨a1,_,F1⟩:=w1
 obtain⟨a2,_,F2⟩:=w2
 obtain⟨a3,_,F3⟩:=w3
 obtain⟨a4,_,F4⟩:=w4
 obtain⟨a5,_,F5⟩:=w5
 obtain⟨a6,_,F6⟩:=w6
 have b6:=F6.binds (ps:=["saying"]) (by walk_at "b")
 have m6:=mg_of X G a6
 have n_inner:NK K mg "inner":=⟨_,a6,m6⟩
 obtain⟨a7,_,F7⟩:=w7
 obtain⟨a8,_,F8⟩:=w8
 obtain⟨a9,_,F9⟩:=w9
 obtain⟨a10,_,F10⟩:=w10
 obtain⟨a11,_,F11⟩:=w11
 obtain⟨a12,_,F12⟩:=w12
 obtain⟨a13,_,F13⟩:=w13
 obtain⟨a14,_,F14⟩:=w14
 obtain⟨a15,_,F15⟩:=w15
 have b15:=F15.binds (ps:=["piece"]) (by walk_at "b")
 have m15:=mg_of X G a15
 have n_pieces_in:NK K mg "pieces_in":=⟨_,a15,m15⟩
 obtain⟨a16,_,F16⟩:=w16
 obtain⟨a17,_,F17⟩:=w17
 have b17:=F17.binds (ps:=["part","inside"]) (by walk_at "b")
 have m17:=mg_of X G a17
 have n_weight_of:NK K mg "weight_of":=⟨_,a17,m17⟩
 obtain⟨a18,_,F18⟩:=w18
 obtain⟨a19,_,F19⟩:=w19
 have b19:=F19.binds (ps:=["part","inside"]) (by walk_at "b")
 have m19:=mg_of X G a19
 have n_spelled_of:NK K mg "spelled_of":=⟨_,a19,m19⟩
 obtain⟨a20,_,F20⟩:=w20
 obtain⟨a21,_,F21⟩:=w21
 obtain⟨a22,_,F22⟩:=w22
 obtain⟨a23,_,F23⟩:=w23
 have b23:=F23.binds (ps:=["piece","inside"]) (by walk_at "b")
 have m23:=mg_of X G a23
 have n_steps_of:NK K mg "steps_of":=⟨_,a23,m23⟩
 obtain⟨a24,_,F24⟩:=w24
 have b24:=F24.binds (ps:=["piece","inside"]) (by walk_at "b")
 have m24:=mg_of X G a24
 have n_paper_of:NK K mg "paper_of":=⟨_,a24,m24⟩
 obtain⟨a25,_,F25⟩:=w25
 obtain⟨a26,_,F26⟩:=w26
 obtain⟨a27,_,F27⟩:=w27
 obtain⟨a28,_,F28⟩:=w28
 obtain⟨a29,_,F29⟩:=w29
 obtain⟨a30,_,F30⟩:=w30
 obtain⟨a31,_,F31⟩:=w31
 obtain⟨a32,_,F32⟩:=w32
 obtain⟨a33,_,F33⟩:=w33
 obtain⟨a34,_,F34⟩:=w34
 obtain⟨a35,_,F35⟩:=w35
 obtain⟨a36,_,F36⟩:=w36
 obtain⟨a37,_,F37⟩:=w37
 have F38:=zGu (st:=zC9) l38 c38 k38
 have b38:=F38.binds (ps:=["saying","questions","ring","most"]) (ds:=[]) dfl38 rfl fun _ _ _ _ _ _ us hl=>by obtain⟨_,_,_,_,rfl⟩:=len4 (show us.length=4 by simpa using hl); exact⟨_,rfl,rfl⟩
 have bd38:=F38.binds (ps:=["saying","questions","ring","most"]) (ds:=[Bb 128 tdf38]) dfl38 rfl fun _ _ _ _ _ _ us hl=>by obtain⟨_,_,_,rfl⟩:=len3 (show us.length=3 by simpa using hl); exact⟨_,rfl,rfl⟩
 have m38:=mg_of X G a38
 obtain⟨a39,_,F39⟩:=w39
 obtain⟨a40,_,F40⟩:=w40
 obtain⟨a41,_,F41⟩:=w41
 obtain⟨a42,_,F42⟩:=w42
 obtain⟨a43,_,F43⟩:=w43
 obtain⟨a44,_,F44⟩:=w44
 obtain⟨a45,_,F45⟩:=w45
 obtain⟨a46,_,F46⟩:=w46
 have F47:=zGu (st:=zC4) l47 c47 k47
 have b47:=F47.binds (ps:=["saying","questions","ring","most"]) (ds:=[]) dfl47 rfl fun _ _ _ _ _ _ us hl=>by obtain⟨_,_,_,_,rfl⟩:=len4 (show us.length=4 by simpa using hl); exact⟨_,rfl,rfl⟩
 have bd47:=F47.binds (ps:=["saying","questions","ring","most"]) (ds:=[Bb 128 tdf47]) dfl47 rfl fun _ _ _ _ _ _ us hl=>by obtain⟨_,_,_,rfl⟩:=len3 (show us.length=3 by simpa using hl); exact⟨_,rfl,rfl⟩
 have m47:=mg_of X G a47
 obtain⟨a48,_,F48⟩:=w48
 obtain⟨a49,_,F49⟩:=w49
 obtain⟨a50,_,F50⟩:=w50
 obtain⟨a51,_,F51⟩:=w51
 obtain⟨a52,_,F52⟩:=w52
 obtain⟨a53,_,F53⟩:=w53
 obtain⟨a54,_,F54⟩:=w54
 obtain⟨a55,_,F55⟩:=w55
 obtain⟨a56,_,F56⟩:=w56
 obtain⟨a57,_,F57⟩:=w57
 obtain⟨a58,_,F58⟩:=w58
 have F59:=zFj (st:=zBR) l59 c59 k59
 obtain⟨a60,_,F60⟩:=w60
 obtain⟨a61,_,F61⟩:=w61
 have F62:=zFj (st:=zBN) l62 c62 k62
 have b62:=F62.binds (ps:=["_law_script"]) (by walk_at "b")
 have m62:=mg_of X G a62
 refine⟨fnOf "law" "law" (defArgs zBN) (defBody zBN) (defScope zBN) .none kV62 dc62 pm62 an62 cd62 ct62,fun s v=>.of_eq rfl,fun base _ _=>?_⟩
 have D_4:=ok_4 (P:=l.prog) (wd:=w) (base:=base) F1 (mg_of X G a1) (F1.binds (by walk_at "b")) z_int z_len
 have D_5:=ok_5 (P:=l.prog) (wd:=w) (base:=base) F2 (mg_of X G a2) (F2.binds (by walk_at "b"))
 have D_1:=ok_1 F3 (mg_of X G a3) (F3.binds (by walk_at "b")) z_max D_5 zCc
 have D_3:=ok_3 (P:=l.prog) (wd:=w) (base:=base) F4 (mg_of X G a4) (F4.binds (by walk_at "b")) z_int z_isinstance z_tuple zDi
 have D_6:=ok_6 F5 (mg_of X G a5) (F5.binds (by walk_at "b")) z_len D_5 D_1 D_3
 have D_7:=ok_7 (P:=l.prog) (wd:=w) (base:=base) F6 m6 b6
 have D_8:=ok_8 (P:=l.prog) (wd:=w) (base:=base) F7 (mg_of X G a7) (F7.binds (by walk_at "b")) z_tuple
 have D_9:=ok_9 F8 (mg_of X G a8) (F8.binds (by walk_at "b")) z_len z_min z_range D_8
 have D_10:=zRD F9 (mg_of X G a9) (F9.binds (by walk_at "b")) z_dict z_len z_range z_tuple z_zip D_9
 have D_11:=zQ9 (P:=l.prog) (wd:=w) (base:=base) F10 (mg_of X G a10) (F10.binds (by walk_at "b")) z_tuple
 have D_12:=zRX (P:=l.prog) (wd:=w) (base:=base) F11 (mg_of X G a11) (F11.binds (by walk_at "b")) z_len z_range z_tuple
 have D_13:=zQe F12 (mg_of X G a12) (F12.binds (by walk_at "b")) D_11 D_12
 have D_14:=zQd F13 (mg_of X G a13) (F13.binds (by walk_at "b")) D_11 D_12
 have D_15:=zRc F14 (mg_of X G a14) (F14.binds (by walk_at "b")) k_OVER k_THERE D_10 D_13 D_14
 have D_16:=zQa F15 m15 b15 D_12 D_15
 have D_17:=zRh F16 (mg_of X G a16) (F16.binds (by walk_at "b")) z_list z_reversed D_7 D_16
 have D_18:=zQ6 (P:=l.prog) (wd:=w) (base:=base) F17 m17 b17
 have D_19:=zQb (P:=l.prog) (wd:=w) (base:=base) F18 (mg_of X G a18) (F18.binds (by walk_at "b"))
 have D_20:=zQK F19 m19 b19 z_tuple D_19
 have D_21:=zRd F20 (mg_of X G a20) (F20.binds (by walk_at "b")) D_11
 have D_22:=zQf (P:=l.prog) (wd:=w) (base:=base) F21 (mg_of X G a21) (F21.binds (by walk_at "b")) z_range z_tuple
 have D_23:=zQT F22 (mg_of X G a22) (F22.binds (by walk_at "b")) D_22
 have D_24:=zQy F23 m23 b23 D_21 D_23
 have D_25:=zQ4 F24 m24 b24 z_tuple D_15
 have D_26:=zQM (P:=l.prog) (wd:=w) (base:=base) F25 (mg_of X G a25) (F25.binds (by walk_at "b"))
 have D_28:=zQF F26 (mg_of X G a26) (F26.binds (by walk_at "b")) z_reversed D_7 D_16 D_17 D_18 D_20 D_24 D_25 D_26
 have D_29:=zQQ F27 (mg_of X G a27) (F27.binds (by walk_at "b")) n_inner D_28
 have D_30:=zRf F28 (mg_of X G a28) (F28.binds (by walk_at "b")) n_spelled_of D_29
 have D_31:=zRF F29 (mg_of X G a29) (F29.binds (by walk_at "b")) D_6 D_30
 have D_32:=zRH (P:=l.prog) (wd:=w) (base:=base) F30 (mg_of X G a30) (F30.binds (by walk_at "b")) z_range
 have D_33:=zRB F31 (mg_of X G a31) (F31.binds (by walk_at "b")) z_range z_tuple D_5
 have D_34:=zQG F32 (mg_of X G a32) (F32.binds (by walk_at "b")) z_range D_32 D_33
 have D_35:=zQz (P:=l.prog) (wd:=w) (base:=base) F33 (mg_of X G a33) (F33.binds (by walk_at "b")) z_list z_range z_sorted
 have D_36:=zQ5 F34 (mg_of X G a34) (F34.binds (by walk_at "b")) z_len D_9
 have D_37:=zQx F35 (mg_of X G a35) (F35.binds (by walk_at "b")) D_35 D_36
 have D_38:=zQn F36 (mg_of X G a36) (F36.binds (by walk_at "b")) n_weight_of D_29
 have D_39:=zQW F37 (mg_of X G a37) (F37.binds (by walk_at "b")) D_37 D_38
 have DD_40:=zQm (P:=l.prog) (wd:=w) (base:=base) F38 m38 b38 bd38 (.cons ⟨_,rfl⟩ .nil) n_pieces_in n_steps_of D_28 D_30 D_39
 have D_40:=DD_40.1
 have Dd_40:=DD_40.2
 have D_41:=zQZ F39 (mg_of X G a39) (F39.binds (by walk_at "b")) z_enumerate z_len z_list z_range z_tuple D_5
 have D_42:=zRY F40 (mg_of X G a40) (F40.binds (by walk_at "b")) z_len z_tuple D_14
 have D_43:=zQU F41 (mg_of X G a41) (F41.binds (by walk_at "b")) z_reversed z_tuple D_12
 have D_44:=zQR (P:=l.prog) (wd:=w) (base:=base) F42 (mg_of X G a42) (F42.binds (by walk_at "b"))
 have D_45:=zQE F43 (mg_of X G a43) (F43.binds (by walk_at "b")) D_11 D_22 D_44
 have D_46:=zRA F44 (mg_of X G a44) (F44.binds (by walk_at "b")) D_22 D_45
 have D_47:=zQH (P:=l.prog) (wd:=w) (base:=base) F45 (mg_of X G a45) (F45.binds (by walk_at "b")) z_len z_range z_tuple
 have D_48:=zQi F46 (mg_of X G a46) (F46.binds (by walk_at "b")) D_10 D_42 D_43 D_46 D_47
 have DD_49:=zRJ (P:=l.prog) (wd:=w) (base:=base) F47 m47 b47 bd47 (.cons ⟨_,rfl⟩ .nil) n_paper_of n_pieces_in D_28 D_30 D_40
 have D_49:=DD_49.1
 have Dd_49:=DD_49.2
 have D_50:=zRP (P:=l.prog) (wd:=w) (base:=base) F48 (mg_of X G a48) (F48.binds (by walk_at "b")) z_isinstance z_len z_tuple
 have D_51:=zQ0 F49 (mg_of X G a49) (F49.binds (by walk_at "b")) z_len D_12 D_21
 have D_52:=zRI (P:=l.prog) (wd:=w) (base:=base) F50 (mg_of X G a50) (F50.binds (by walk_at "b")) z_bool z_int z_isinstance
 have D_53:=zRS F51 (mg_of X G a51) (F51.binds (by walk_at "b")) z_all D_52
 have D_54:=zQg F52 (mg_of X G a52) (F52.binds (by walk_at "b")) z_all z_isinstance z_tuple D_37 D_52
 have D_55:=zRG F53 (mg_of X G a53) (F53.binds (by walk_at "b")) z_len D_12 D_13 D_53 D_54
 have D_56:=zRE F54 (mg_of X G a54) (F54.binds (by walk_at "b")) z_len D_22
 have D_57:=zQw F55 (mg_of X G a55) (F55.binds (by walk_at "b")) D_50 D_51 D_55 D_56
 have D_58:=zRL F56 (mg_of X G a56) (F56.binds (by walk_at "b")) D_30 D_57
 have D_59:=zQ2 F57 (mg_of X G a57) (F57.binds (by walk_at "b")) D_30 D_58 Dd_49
 have D_2:=ok_2 (P:=l.prog) (wd:=w) (base:=base) F58 (mg_of X G a58) (F58.binds (by walk_at "b"))  zDo
 have D_27:=zRO F59 (mg_of X G a59) (F59.binds (by walk_at "b")) ⟨_,_,tc,tt,th⟩ D_29
 have D_0:=ok_0 (P:=l.prog) (wd:=w) (base:=base) F60 (mg_of X G a60) (F60.binds (by walk_at "b")) z_all z_bool z_isinstance z_len z_list z_tuple z_zip zBq
 have D_60:=zQL F61 (mg_of X G a61) (F61.binds (by walk_at "b")) z_int z_range z_tuple D_46 D_2 D_27 D_0
 exact zP5 F62 z_len z_range D_4 D_5 D_31 D_34 D_41 D_48 D_59 D_60 Dd_40
theorem walk{l:FT}{q:Ai}{loose:List Str}{XP:(Str->Option AD)->Heap->Prop}{YP:Ax->Heap->Prop}{d:DefRec}{K:J5->AM}(pure:∀ ns:List Int,ns.length<=63->zCP [.k (intsT ns)]=some (.v (.a (.bl true)),[]))(hn:l.most=some 63)(hdf:d.params.defaults=[])
  (hY:∀ (w:Ax) (h:Heap),YP w h->(K w.params).In h) {c0 P0:Addr} (hYP:∀ (w:Ax) (h:Heap),YP w h->h.get? P0=some { cls:=.none,data:=.fields #[] }) (hT:∀ w:Ax,CG (K w.params) "is_so"=some (c0,P0)) (hH:∀ w:Ax,CM (K w.params) c0 P0=true) (hNT:∀ w:Ax,Fi (K w.params)=true)
  (F:∀ (w:Ax) (mg:Str->Option AD) (fa:Addr) (h:Heap),(K w.params).In h->h.Ns Ad mg->mg d.name=some (.ref fa) ->
   ∃ fd:Ab,(∀ (s:AG) (u:AD),Gb s fd ⟨[u],[]⟩ [("_law_script",u)])/\∀ base:Heap,(K w.params).In base->base.Ns Ad mg->FnOk l.prog w (K w.params) mg base CX0 22 fa fd ["_law_script"] (spD (K w.params) none 1 zCP)) :
  Hs q loose XP YP l.row.toRowW d [] (fun f vs=>HA f vs) :=
 D.walk_ofL (n:=63) (k:=22) (x:="_law_script") (sp:=fun K=>spD K none 1 zCP) hn (by decide) hdf ⟨rfl,by decide,by decide,rfl⟩ hY hYP hT hH hNT F (fun K H a ns hl h1 h2 h3=>zKb h1 h2 h3 (pure ns hl))
end Lw
local macro_rules | `(tactic| walk_at "w") => `(tactic| (refine' Lw.wr_mk ?a ?l ?c ?k; (case a=>k_is); (case l=>k_is); (case c=>k_is); (case k=>k_is)))
open PySem PySem.W PyProof.Rows
inductive PySem.W.Fast|tw10217560787268253605|tw3668285579380513770|tw15889354056783244420|tw17193838839665534244|tw3808251403137460318|tw260036338907442544|tw4873156548198573206|tw9643207373079718463|tw12220260333203823976|tw8164324450264592355|tw9157433398425622313|tw17160673893181992735|tw5984299867118816150|tw7779701075959885612|tw7757673823639972208|tw15205113442979140765|tw6112447872804925603|tw4834367606894878035|tw11852358504333785864|tw17989976849430652772|tw16563468618224187582|tw16987199396102453092|tw992314601875910752|tw13383980833443507925|tw13993177971278107662|tw46509073855085333|tw31967711925350113|tw12765270178881080368|tw13719335053535861659|tw18075313565374810259|tw11039063143928284253|tw1439968936627463813|tw3818369770088805993|tw1922471680064035614|tw3740088134142991743|tw3256716656694015319|tw2603773569046650509|tw11356522018607955145|tw17805356264023776767|tw13879229259876466924|tw2757029022736784453|tw16319921540970710511|tw8735514376790586609|tw4164189957899717396|tw8805035963315468326|tw15675427235751834251|tw765430554965314389|tw8657986160694373477|tw4120516990526724722|tw6968778977008549653|tw18094127638344761225|tw3819948408287339304|tw3104952052829648220|tw7185836894429269277|tw8782483664709465321|tw18156450718838634246|tw623583334878386147|tw9916855723612771901|tw2481711999840072043|tw2880436132183081253|tw7473695093799239197|tw15468362605079237498|tw3593844239865094758|tw17148814465346053647|tw9708103225630024988|tw15635730426210731549|tw6623401884587132107|tw7009124479761886469|tw17036225504107859468|tw950554179167677859|tw7987350480104268501|tw4119160561092236708|tw1341295837249597889|tw310613749004531587|tw6466312624009366489|tw16678749684240134387|tw1368443673721261383|tw9837331069989530021|tw13559515539197420024|tw12989294910917598724|tw16389158581965844260|tw12433253988218162165|tw276989481874999557|tw9074327046640190867|tw5346714900042789242|tw5790988327012180978|tw15605636247131630712|tw6746542148189336325|tw13513674431082779017|tw574232727135353744|tw6164484076453529795|tw722206409407994192|tw16100854005752719782|tw3688830600943879235|tw6945523600984021326|tw8693923067441527571|tw1424986192282775389|tw15189597756753615181|tw16996818134054870154|tw10942104303624287943|tw13297645007225329920|tw6828840254176005913|tw8259016768795551491|tw12841483057319213658|tw1279368005710890277|tw4786581527368229802
set_option maxRecDepth 100000 in
set_option maxHeartbeats 0 in
theorem PySem.Challenge.cw_fivecups_k67_whole_one_saying_danced_oth_holds : PySem.Challenge.rw_fivecups_k67_whole_one_saying_danced_oth.Holds := by
 w_on; o_law; k_head; (case hw=>w_witness2)
 k_fill
 refine' Lw.walk (l:=PySem.Challenge.rw_fivecups_k67_whole_one_saying_danced_oth) Lw.law_true rfl rfl (fun w h Y=>PySem.W.km_in_of Y) (fun w h Y=>PySem.W.km_tabs_of Y _ (List.Mem.head _)) ?hT ?hH ?hNT ?F
 case hT=>(intro w; refine' Lw.tab_mk ?a ?l ?c ?v; (case a=>k_is); (case l=>k_is); (case c=>k_is); (case v=>rfl))
 case hH=>(intro w; kernel_rfl)
 case hNT=>(intro w; kernel_rfl)
 case F =>
  intro w mg fa h KX G hmg
  refine' Lw.all_mk KX G hmg ?w1 ?w2 ?w3 ?w4 ?w5 ?w6 ?w7 ?w8 ?w9 ?w10 ?w11 ?w12 ?w13 ?w14 ?w15 ?w16 ?w17 ?w18 ?w19 ?w20 ?w21 ?w22 ?w23 ?w24 ?w25 ?w26 ?w27 ?w28 ?w29 ?w30 ?w31 ?w32 ?w33 ?w34 ?w35 ?w36 ?w37 ?dfl38 ?a38 ?l38 ?c38 ?k38 ?w39 ?w40 ?w41 ?w42 ?w43 ?w44 ?w45 ?w46 ?dfl47 ?a47 ?l47 ?c47 ?k47 ?w48 ?w49 ?w50 ?w51 ?w52 ?w53 ?w54 ?w55 ?w56 ?w57 ?w58 ?a59 ?l59 ?c59 ?k59 ?w60 ?w61 ?a62 ?l62 ?c62 ?k62 ?z1 ?z2 ?z3 ?z4 ?z5 ?z6 ?z7 ?z8 ?z9 ?z10 ?z11 ?z12 ?z13 ?z14 ?z15 ?ka1 ?kl1 ?ka2 ?kl2 ?tt ?th ?tc
  all_goals try walk_at "w"
  (case a38=>k_is); (case l38=>k_is); (case c38=>k_is); (case k38=>k_is)
  all_goals try walk_at "w"
  (case a47=>k_is); (case l47=>k_is); (case c47=>k_is); (case k47=>k_is)
  all_goals try walk_at "w"
  (case a59=>k_is); (case l59=>k_is); (case c59=>k_is); (case k59=>k_is)
  all_goals try walk_at "w"
  (case a62=>k_is); (case l62=>k_is); (case c62=>k_is); (case k62=>k_is)
  (case dfl38=>k_is)
  (case dfl47=>k_is)
  (case ka1=>k_is); (case kl1=>k_is)
  (case ka2=>k_is); (case kl2=>k_is)
  (case z1=>k_is); (case z2=>k_is); (case z3=>k_is); (case z4=>k_is); (case z5=>k_is); (case z6=>k_is); (case z7=>k_is); (case z8=>k_is); (case z9=>k_is); (case z10=>k_is); (case z11=>k_is); (case z12=>k_is); (case z13=>k_is); (case z14=>k_is); (case z15=>k_is)
  (case tt=>refine' Lw.tab_mk ?a ?l ?c ?v; (case a=>k_is); (case l=>k_is); (case c=>k_is); (case v=>rfl)); (case th=>kernel_rfl); (case tc=>rfl)
