import PyProof.Rows.All
import Wide.All
import OpenK.AllK
import Wide.FinOn
import Lean
import PyProof.EqAt
import PyProof.EqKinds
import PyProof.TupleCall
import PySem.Challenge.RW_fivecups_k27_papers_bent
open Array renaming toArray_toList->Df,length_toList->FE,getElem?_toList->G0,toList->Ie
open Bool renaming false_ne_true->AO,and_eq_true->AW,true_and->Bu,eq_false_iff->Cm,eq_iff_iff->DB,false_eq_true->D3,or_eq_true->El,not_false->E8,false_and->IR,and_false->IT,and_assoc->Ia,or_false->Ii
open False renaming elim->BU
open ForInStep renaming yield->Cw
open Function renaming comp_def->DG
open Int renaming toNat_natCast->Bn,emod_lt_of_pos->Ff,emod_nonneg->GT,sub_zero->HA,toNat->IP,le_refl->Jz
open List renaming mem_singleton->AE,mem_cons->AH,size_toArray->AL,replicate->AN,mem_cons_of_mem->AR,not_mem_nil->AS,range->AV,mem_cons_self->AZ,getElem?_eq_some_iff->Aa,map_cons->Ab,getElem?_set_ne->Ad,mem_append_right->Ag,getElem?_map->Ah,getElem?_set_self->As,all_eq_true->Aw,length_append->Ax,map_nil->A7,getElem?_append_left->BI,getElem?_eq_none->BN,take_of_length_le->BR,replicate_succ->BW,getElem?_eq_getElem->Bb,nodup_cons->Bf,length_map->Bg,mem_map->Bh,mem_append->Bp,length_take->Bt,append_assoc->By,map->B2,length_drop->B6,getElem_mem->B7,length_cons->B8,cons_append->B9,find?_cons->CH,length_pos_iff->CT,lookup_cons->CU,nil_append->Ce,map_append->Cf,flatten_cons->Ck,getElem?_append_right->Cs,mem_of_getElem?->Ct,any_eq_true->Cy,getLast?_eq_none_iff->C2,any_cons->C7,idxOf_lt_length_iff->C8,pairwise_cons->DD,reverse_cons->DQ,map_map->DR,eraseIdx_eq_take_drop_succ->DZ,map_take->Dg,map_drop->Dh,mem_append_left->Di,mem_of_getLast?->Dl,mem_filter->Dn,append_nil->Do,mem_range->Dz,getD_eq_getElem?_getD->D4,getElem?_zip_eq_some->EC,drop_eq_getElem_cons->ED,dropLast_nil->EI,zipIdx_cons->EU,nodup_range->EY,length_eq_zero_iff->Ea,mem_flatMap->Eb,drop_eq_nil_of_le->Ei,length_replicate->Es,length_singleton->Et,dropLast_eq_take->Ew,concat_eq_append->Ey,range'->E7,drop_take->E9,filterMap_cons->FI,set_comm->FN,Nodup->FR,findIdx?_eq_some_iff_getElem->Fd,map_inj_left->Fo,eraseIdxIfInBounds_toArray->Fu,mem_eraseIdx_iff_getElem?->Fz,of_mem_zip->GE,foldl_cons->GF,forIn_cons->GG,zipIdx_nil->GH,forIn_nil->GV,drop_zero->GW,length_eraseIdx_of_lt->Gc,drop_left->Gd,getLast?_eq_getElem?->Gj,all_cons->Gq,length_erase_of_mem->Gu,getElem?_replicate->Gw,mem_of_mem_erase->HE,getElem?_reverse->HG,eq_nil_or_concat->HI,length_dropLast->HJ,dropLast_subset->HN,dropLast_concat->HP,mem_of_mem_take->HQ,mem_of_mem_drop->HR,mem_filterMap->Hd,foldl->Hh,getElem_idxOf->Hj,ext_getElem?->H9,map_dropLast->ID,flatMap_cons->IE,range'_succ->IG,drop_length->IH,length_nil->IK,nodup_nil->IY,take_left->Ib,length->JS,lookup->JX,all->Kx
open List.Nodup renaming not_mem_erase->Ky
open List.Pairwise renaming nil->JW,imp->Jg
open List.Perm renaming swap->K6,append_left->K7
open List.cons renaming inj->K9
open Nat renaming le_refl->AF,lt_of_lt_of_le->AY,ne_of_lt->Ae,le_trans->Ai,lt_irrefl->BE,ne_of_gt->B4,le_add_right->CB,mul_le_mul_left->CV,lt_succ_self->CW,zero_le->Ca,lt_or_ge->C0,lt_succ_of_lt->DY,le_of_lt->Dv,le_of_succ_le->EJ,min_eq_right->Ec,ble->Ep,min_eq_left->Ex,le_of_ble_eq_true->E4,ble_eq_true_of_le->E5,mul_add->GJ,zero_add->G9,le_succ->HV,mul_one->Hb,lt_of_le_of_lt->Hx,mul_le_mul->Iq,lt_trans->JY,sub_zero->Jb,add_mul->J7,ble_eq->KR
open Ne renaming symm->BD
open Option renaming bind_some->Ac,none_or->BZ,isSome_iff_exists->C3,mem_toList->D9,isSome_some->HK,getD_none->Hg,getD_some->Hi,some_or->II
open Option.some renaming inj->Ak,injEq->Az
open Or renaming inr->EW,inl->Fk
open PyProof.Rows renaming callWith_type1->An,boot_tuple->BM,slot_tuple_getitem->Bk,assignInOrder_cons->Ci,kindOf->D6,AllBare->FC,IntsAre->FH,boot_range->Fw,boot_tuple->Fx,boot_list->F0,envOfC->GC,assignInOrder_nil->GM,ite_ff->GR,ite_tt->GS,Call_->Gn,boot_reversed->Ha,subscriptTail_builtinR->Hq,boot_all->IM,entry_tuple_getitem->IS,args_tuple_getitem->Ih,seqObj->Io,IsTup->Iu,unpackItems_tuple->Iw,len_tuple->JV,callWith_builtin1->Jx,getItem_tuple->Jy,chain_last->J1,chain_link->J2,Compare_chain->J3,test_last->J4,test_link->J5,isTrue_chain->J6,slicePart_none->KA,tupleItemsOf_->Kd,subscriptTail->Kh,zipApart_new->K5
open PyProof.Rows.IsTup renaming new->Ji
open PyProof.Rows.LSm renaming kept_iter->Gx
open PySem renaming wpAny_bind->AA,sizeLine->AB,Value->AD,Shared->AG,wpAny_pure->AJ,wpAny->AQ,starEach->AU,boot_len->Af,mainGlobals->Al,Program->Am,wpAny_field->Ap,wpAny_callSpecial?_slot->Aq,wpAny_newObj_type->Au,wpAny_setField_rec->Ay,World->A0,wpAny_call_entry->A6,cellsFrom->BG,Around->BJ,builtinLookup_eq_fast->BP,compareOp->BQ,assignEach->BS,mem_of_lookup->BV,sizeLine_eq->Be,wpAny_holding->Br,call_meets->Bw,wpAny_pyIter_tuple->Bx,wpAny_of_eq->Bz,wpAny_mono->B3,typeLookup_type->B5,binaryOp->CA,wpAny_attempt->CC,wpAny_seqItems->CG,backTo->CL,wpAny_loadPart'->CM,wpAny_specialOf->CN,wpAny_ite_split->CO,bootBuiltins->CP,foldedSetIterable->CQ,NameKind->CS,wpAny_isInstance->Cb,isSubtype_type->Cc,wpAny_passesOwn->Co,swapsWithSole->Cp,swappedStores->Cq,behindInMarks->Cr,rawInt->Cu,wpAny_truthy_bool->Cv,sysModules->C4,wpAny_rule->C5,FuncData->C6,wpAny_binaryOp_repeat_ref->DC,attributeBase->DM,typeIs_int->DX,ItemsOf->De,IsPair->Dq,assignInOrder->Dt,wpAny_standAt->Du,bindName->Dw,sliceBounds->Dy,pyNext->D5,codeAny_builtin->D8,wpAny_typeOf->EG,callType_new->EH,wpAny_bindName->EK,wpAny_Call_Name_kw->EL,PyData->ER,wpAny_truthy_bool->ES,codeAny->Ee,Keyword->Ef,wpAny_pyIter_list->Eg,plainId_quiet->Eo,Scope->Ez,pushCells->E2,wpAny_pyIter_zip->E3,Paired->FB,codeAny_mono->FG,wpAny_execs_nil->FJ,letOwnedTupleGo->FK,pushCells_keeps->FL,IsPart->FT,keywordEach->FU,compEnvC->FV,firstArgMember->FW,wpAny_updateSeq_pair->FX,wpAny_letGo->FY,isSubtype_stop->FZ,Meets->Fc,wpAny_pyIter_revIter->Fe,swapsWith->Fh,seqIndex?->Fi,wpAny_onRaise->Fy,pyIter->GB,getItem->GN,callerA->GO,IsZip->GQ,tupleKind->Ge,noFill_tuple_add->Gf,seqIndex_of->Gp,wpAny_mkInt->Gs,wpAny_updateSeq->Gy,BindsTo->Gz,valueAt->G4,builtinsNs->G5,CmpOp->G6,backToKw->G8,IsEnum->HB,setField->HD,wpAny_letOwnedTupleGo_zip->HL,seq_tuple_add->HS,call->HW,signature?_of->HZ,PassesOwn->Hc,bindL->He,bindC->Hf,lastMarks->Hl,isTrue->Hm,concat_meets->Hn,seqIndex_neg->Ho,wpAny_Call_method_late->Hr,argsOk->Hv,argBest->Hy,seqSlot_of->Hz,compareChain->IC,unpackItems->IJ,evalEach->IL,wpAny_Name->Ic,wpAny_load->Ig,typeOf->Ij,call_reversed_list->Ip,standAt->Iv,wpAny_sequenceKey->Iy,slot_list_getitem->I0,newList->JB,init_tuple_lookup->JE,wpAny_pyIter_enum->JF,atKey->JG,wpAny_execs_cons->JI,small_one->JJ,IsEnumOut->Jc,entryFor_of_tree->Jd,updateSeq->Je,testChain->Jf,exec_Assign_arm->Jh,recursionLimit->J9,fitsIndex_both->KB,Params->KD,newFunctionEnv->KE,compPost->KG,wpAny_setField->KH,newExc->KI,newTuple->KJ,wpAny_newTuple->KM,wpAny_runValue->KO,sub_tuple_self->KP,madeHere_tuple->KQ,entryFor->KS,Walks->KU,callType_codes->KY,revObj->KZ,rangeSize_one->Kb,intBits_le_64->Kc,evalPart_none->Ke,wpAny_handled->Kw,setItem->Kz,call_range_1->K0,call_range_2->K1,IsRange->K4,call_meetsIn->K8
open PySem.Around renaming under_plainId->Cn
open PySem.AutoListH renaming list___mul___list_int_3->K3
open PySem.AutoSeq1 renaming sub_tuple_tuple->CF,idx_int->DU
open PySem.Builtin.List renaming listExtendWith->Ba,listTooLong->Bo,listLengthHint->Bv,listFitsIndex->FS,listSameRef->Fl,listItems->GA,listUpdate->J0
open PySem.Builtin.Range renaming rangeSize->CD,small->EN
open PySem.Builtin.Slice renaming slicePlaces->Cd,sliceAdjust->Dd,sliceApplied->FO,slicePartIndex->JT,sliceFields->JU
open PySem.Builtin.SmallTypes renaming nextOf->Ar,ownedTupleIsFree->A8,ownedTupleHandOut->Bs,newRecord->Eh
open PySem.Builtin.Tuple renaming tupleExact->BH,tupleItemsOf->FP,tupleTooMany->FQ,tupleIsExact->Ja
open PySem.Calls renaming spliced_nil->DK,callWith_builtin->DN,spliced_cons->Dx,evalArgs_plain->E1,Name_function_global->GL
open PySem.Data renaming cell->J8
open PySem.EqMixed renaming eq_bool_str->JK,eq_int_str->JL,eq_str_bool->JM,eq_str_int->JN,ne_bool_str->JO,ne_int_str->JP,ne_str_bool->JQ,ne_str_int->JR
open PySem.EqNone renaming eq_none_none->Jj,eq_none_bool->Jk,eq_none_int->Jl,eq_none_str->Jm,eq_bool_none->Jn,eq_int_none->Jo,eq_str_none->Jp,ne_none_none->Jq,ne_none_bool->Jr,ne_none_int->Js,ne_none_str->Jt,ne_bool_none->Ju,ne_int_none->Jv,ne_str_none->Jw
open PySem.F renaming slot_list_append->A9,type_list_append->BC,slot_int_rmul->CJ,slot_zip_next->CK,slot_tuple_mul->CZ,slot_tuple_iterator_next->Cz,args_tuple_mul_2->DP,slot_list_pop->DV,type_list_pop->DW,entry_tuple_mul->Da,slot_enumerate_next->Dj,args_object_init_2->Ds,args_tuple_add_2->D7,slot_list_extend->EA,type_list_extend->EB,entry_tuple_add->EF,slot_tuple_add->EM,args_int_rmul_2->ET,args_zip_next_1->EV,slot_dict_get->Ed,slot_int_index->Ej,entry_int_rmul->Ek,entry_zip_next->Em,called_tuple->Er,fills_int_mul->E6,plain_extend_loop->GI,plainAttrs_list->GY,args_dict_get_2->GZ,plain_list_iadd->Ga,plain_tuple_new->Gb,args_tuple_iterator_next_1->Gg,entry_dict_get->Gi,entry_tuple_iterator_next->Gr,args_enumerate_next_1->HM,entry_enumerate_next->HY,typeCall_reversed_1->Hk,args_object_init_3->Ht,slot_tuple_getitem->Hw,newCall_reversed_1->IA,entry_reversed_new->IB,plain_list_iadd->IU,slot_tuple_rmul->IZ,entry_list_pop->Ik,typeCall_zip_2->Il,slot_list_pop->JA,newCall_zip_2->JC,entry_zip_new->JD,called_zip->KN
open PySem.Flow renaming next->Gv
open PySem.Heap renaming get?_push_of_some->AC,get?_push_size->AI,lt_size->AK,size_push->A5,SameBut->Bd,get?_update_other->Bm,get?_update_self->Cg,IsTuple->Fj,ExtBut->GD
open PySem.Heap.DictOf renaming new->KW
open PySem.Heap.IsSliceOf renaming new->Iz
open PySem.Heap.IsTuple renaming push->Gh
open PySem.Heap.SameBut renaming update->GP
open PySem.IsL renaming update->K2
open PySem.NameKind renaming free->BO,cell->Bj
open PySem.Obj renaming mapSeq->DJ,data_mapFields->Hs
open PySem.Paired renaming length->GU
open PySem.PassesOwn renaming never->Ao
open PySem.PyData renaming eqv->Aj,eqvAll->Av,canLayAll0->A4,canLay0->BF,depthAll->BK,depth->Bc,int->EZ,str->JH
open PySem.SeqAt renaming EqAt->HU
open PySem.SeqAt.EqAt renaming int_str->Gk,str_int->Gm,same->Ki,none_bool->Kj,none_int->Kk,none_str->Kl,bool_none->Km,bool_bool->Kn,bool_int->Ko,bool_str->Kp,int_none->Kq,int_bool->Kr,int_int->Ks,str_none->Kt,str_bool->Ku,str_str->Kv
open PySem.Shared renaming heap->Eu
open PySem.Str renaming ofString->Bi,ofString_eq_toList->HH
open PySem.Value renaming ref->Bl,none->CY,type->C9,int->Fq,str->Ft,bool->GK,notImplemented->HF,isStrOf->IQ,isInt->Ir
open PySem.W renaming Frag->AM,keepIn->Cj,cellsFrom_some->DH,fnOf->Dm,codeIn->Dp,nsIn->EO,methodObj->FM,OpenLaw->Fv,callWith_K->G7,kitOne->Hu,WalkO->IF
open PySem.Walks renaming list->JZ
open Std.Legacy.Range renaming forIn_eq_forIn_range'->IV,size->IW
open Sum renaming inl->Fp,inr->Fs
open True renaming intro->Dc
noncomputable section
local macro_rules | `(⋯) => `((by lia))
local macro_rules | `(∅) => `((by decide))
theorem sL(n:Nat)(h:n<=99:=by decide):n<=AB:=Nat.le_trans h (by decide)
local macro_rules | `(~~~[$xs,*]) => `(some (.l [$xs,*])) | `(~~~$x) => `(some (.v $x))
local macro_rules | `(⇑$x) => `(.a (.int $x))
local macro_rules | `(↥$x) => `(some (.nx $x))
set_option Elab.async false
set_option linter.all false
set_option maxRecDepth 100000
namespace L2
open PySem PySem.Spec PyProof.Rows
abbrev Key:=Sum Int Str
def keyIs:Key->AD->Bool
 | .inl k,v=>Ir k v
 | .inr x,v=>IQ x v
def keyH (w:A0):Key->Int
 | .inl k=>hashInt k
 | .inr x=>hashStr w x
theorem zAt:∀ {k:Key} {v:AD},keyIs k v=true->(∃ i t,k=Fp i/\v=Fq i t)\/(∃ x t,k=Fs x/\v=Ft x t)
 | .inl i,v,h=>by
  obtain⟨t,e⟩:=Value.isInt_shape (k:=i) (v:=v) h
  exact .inl ⟨i,t,rfl,e⟩
 | .inr x,v,h=>by
  obtain⟨t,e⟩:=Value.isStrOf_shape (x:=x) (v:=v) h
  exact .inr ⟨x,t,rfl,e⟩
theorem zJP(i:Int)(t:Tok):keyIs (.inl i) (.int i t)=true:=by simp[keyIs,Ir]
theorem zJr(x:Str)(t:Tok):keyIs (.inr x) (.str x t)=true:=by simp[keyIs,IQ]
theorem zOY(a b:Int):decide ((Fp a:Key)=Fp b)=(a == b):=by
 by_cases e:a=b
 ·subst e; simp
 ·have h:¬ (Fp a:Key)=Fp b:=fun q=>e (Sum.inl.inj q)
  rw[decide_eq_false h]
  exact (beq_eq_false_iff_ne.mpr e).symm
theorem zOg(a b:Str):decide ((Fs a:Key)=Fs b)=decide (a=b):=by
 by_cases e:a=b
 ·subst e; simp
 ·have h:¬ (Fs a:Key)=Fs b:=fun q=>e (Sum.inr.inj q)
  rw[decide_eq_false h,decide_eq_false e]
theorem zOR(a:Int)(b:Str):decide ((Fp a:Key)=Fs b)=false:=decide_eq_false (fun q=>nomatch q)
theorem zO8(a:Str)(b:Int):decide ((Fs a:Key)=Fp b)=false:=decide_eq_false (fun q=>nomatch q)
def mixKind (prog:Am) (w:A0):PySem.KeyKind prog w Key where
 is:=keyIs
 hash:=keyH w
 inj:=fun v a b ha hb=>by
  rcases zAt ha with ⟨i,t,rfl,rfl⟩ | ⟨x,t,rfl,rfl⟩
  ·rcases zAt hb with ⟨j,u,rfl,e⟩ | ⟨y,u,rfl,e⟩
   ·injection e with e1 _; rw[e1]
   ·exact nomatch e
  ·rcases zAt hb with ⟨j,u,rfl,e⟩ | ⟨y,u,rfl,e⟩
   ·exact nomatch e
   ·injection e with e1 _; rw[e1]
 byValue:=fun k v h=>by
  rcases zAt h with ⟨i,t,rfl,rfl⟩ | ⟨x,t,rfl,rfl⟩ <;> rfl
 pyHash:=fun hv h=>by
  rcases zAt hv with ⟨i,t,rfl,rfl⟩ | ⟨x,t,rfl,rfl⟩
  ·exact wpAny_pyHash_int h
  ·exact wpAny_pyHash_str h
 eqBool:=fun hu hv h=>by
  rcases zAt hu with ⟨i,t,rfl,rfl⟩ | ⟨x,t,rfl,rfl⟩
  ·rcases zAt hv with ⟨j,u,rfl,rfl⟩ | ⟨y,u,rfl,rfl⟩
   ·rw[zOY]at h; exact wpAny_eqBool_int h
   ·rw[zOR]at h; exact Gk i t y u _ _ _ _ h
  ·rcases zAt hv with ⟨j,u,rfl,rfl⟩ | ⟨y,u,rfl,rfl⟩
   ·rw[zO8]at h; exact Gm x t j u _ _ _ _ h
   ·rw[zOg]at h; exact wpAny_eqBool_str h
 «strs»:=fun k x t v h=>by
  rcases zAt h with ⟨i,u,rfl,e⟩ | ⟨y,u,rfl,e⟩
  ·exact nomatch e
  ·injection e with e1 _
   subst e1
   cases v <;> rfl
theorem zG3(prog:Am)(w:A0)(i:Int)(t:Tok):(mixKind prog w).is (.inl i) (.int i t)=true:=zJP i t
theorem zHJ(prog:Am)(w:A0)(x:Str)(t:Tok):(mixKind prog w).is (.inr x) (.str x t)=true:=zJr x t
inductive V where
 | non | bl (b:Bool) | int (i:Int) | str (x:Str) | byt (b:Array UInt8) | flt (b:UInt64) | ref (a:Addr) | ty (n:String)
 deriving DecidableEq
def RelV:V->AD->Prop
 | .non,u=>u=CY
 | .bl b,u=>u=GK b
 | .int i,u=>∃ t,u=Fq i t
 | .str x,u=>∃ t,u=Ft x t
 | .byt b,u=>∃ t,u=Value.bytes b t
 | .flt b,u=>∃ t,u=Value.float b t
 | .ref a,u=>u=Bl a
 | .ty n,u=>u=C9 n
abbrev Vals:List V->List AD->Prop:=FB RelV
theorem Vals.length{xs:List V}{us:List AD}(r:Vals xs us):xs.length=us.length:=GU r
theorem Vals.get:∀ {xs:List V} {us:List AD} {i:Nat} {x:V},Vals xs us->xs[i]?=some x->∃ u,us[i]?=some u/\RelV x u
 | _,_,_,_,.nil,e=>by simp at e
 | _,_,0,_,.cons r _,e=>by simp at e; subst e; exact⟨_,rfl,r⟩
 | _,_,i+1,x,.cons _ t,e=>by
  obtain⟨u,h1,h2⟩:=Vals.get (i:=i) (x:=x) t (by simpa using e)
  exact⟨u,by simpa using h1,h2⟩
theorem Vals.set{x:V}{u:AD}(r:RelV x u):∀ {xs:List V} {us:List AD} (i:Nat),Vals xs us->Vals (xs.set i x) (us.set i u)
 | _,_,_,.nil=>.nil
 | _,_,0,.cons _ t=>.cons r t
 | _,_,i+1,.cons q t=>.cons q (Vals.set r i t)
theorem Vals.append:∀ {xs ys:List V} {us ws:List AD},Vals xs us->Vals ys ws->Vals (xs++ys) (us++ws)
 | _,_,_,_,.nil,s=>s
 | _,_,_,_,.cons r t,s=>.cons r (Vals.append t s)
theorem Vals.take:∀ {xs:List V} {us:List AD} (n:Nat),Vals xs us->Vals (xs.take n) (us.take n)
 | _,_,0,_=>.nil
 | _,_,_+1,.nil=>.nil
 | _,_,n+1,.cons r t=>.cons r (Vals.take n t)
theorem Vals.drop:∀ {xs:List V} {us:List AD} (n:Nat),Vals xs us->Vals (xs.drop n) (us.drop n)
 | _,_,0,r=>r
 | _,_,_+1,.nil=>.nil
 | _,_,n+1,.cons _ t=>Vals.drop n t
def RelO:Option V->Option AD->Prop
 | some v,some u=>RelV v u
 | none,none=>True
 | _,_=>False
def KV {κ:Type}:List (κ×V)->List (κ×AD)->Prop:=FB fun (p:κ×V) (q:κ×AD)=>p.1=q.1/\RelV p.2 q.2
def kV:Key->V
 | .inl i=>.int i
 | .inr x=>.str x
inductive HO where
 | lst (xs:List V)
 | tup (xs:List V)
 | dK (kvs:List (Key×V)) | dT (kvs:List (List Key×V))
 | set (S:Int->Bool) (n:Nat)
 | ins (C dx:Addr) (fs:List (Str×V))
 | own (x:Addr)
 | xd (fs:List (Str×V))
 | met (f x:Addr)
 | rng (lo hi:Int)
 | frz (o:Obj) (u:HO)
 | tbl (ps:Array AD)
 | ext (φ:Heap->Prop)
abbrev Hp:=Addr->Option HO
def upd (H:Hp) (a:Addr) (o:HO):Hp:=fun b=>if b=a then some o else H b
theorem zAj{H:Hp}{a:Addr}{o:HO}:upd H a o a=some o:=by unfold upd; rw[if_pos rfl]
theorem zAN{H:Hp}{a b:Addr}{o:HO}(h:b≠a):upd H a o b=H b:=by unfold upd; rw[if_neg h]
theorem zAW{H:Hp}{a b:Addr}{o:HO}(h:H a=some o)(h':H b=none):a≠b:=by
 intro e; subst e; rw[h]at h'; cases h'
def TupD (h:Heap) (a:Addr) (items:Array AD):Prop:=∃ o,h.get? a=some o/\o.cls=.type "tuple"/\(∃ n,o.data=.seq items n)/\o.dict=none
theorem TupD.tup{h:Heap}{a:Addr}{items:Array AD}(x:TupD h a items):Iu h a items:=let ⟨o,e,c,d,_⟩:=x; ⟨o,e,c,d⟩
theorem TupD.lt{h:Heap}{a:Addr}{items:Array AD}(x:TupD h a items):a < h.objs.size:=let ⟨_,e,_⟩:=x; AK e
theorem TupD.new(h:Heap)(items:Array AD):TupD (h.push { cls:=.type "tuple",data:=.seq items }) h.objs.size items:=⟨_,AI _ rfl,rfl,⟨_,rfl⟩,rfl⟩
section
variable (P:Am)(w:A0)
def ObjOk (H:Hp) (h:Heap) (a:Addr):HO->Prop
 | .lst xs=>xs.length<=AB/\∃ (its:List AD) (n:Nat),Vals xs its/\h.get? a=some { cls:=.type "list",data:=.seq its.toArray n }
 | .tup xs=>xs.length<=AB/\∃ its:List AD,Vals xs its/\TupD h a its.toArray
 | .dK kvs=>kvs.length<=AB/\(a == C4)=false/\∃ vs,KV kvs vs/\h.DictOf (mixKind P w) a vs
 | .dT kvs=>kvs.length<=AB/\(a == C4)=false/\∃ xs:List (List Key×Addr×AD),
   FB (fun (p:List Key×V) (q:List Key×Addr×AD)=>p.1=q.1/\H q.2.1=some (.tup (p.1.map kV))/\RelV p.2 q.2.2) kvs xs /\
   ∃ o es ep,h.get? a=some o/\o.ExactDict/\o.data=.dict es ep/\es.toList=xs.map (entryOfKey (Ge (mixKind P w)))/\(xs.map (·.1)).Nodup
 | .set S n=>h.SetOf (intKind P w) a S n
 | .ins C dx fs=>H dx=some (.own a)/\fs.length<=1000/\dx≠a/\h.get? a=some (PySem.W.instObj C dx) /\
   ∃ mA,h.Ns1 dx mA/\(∀ f,RelO (fs.lookup f) (mA f))/\PySem.Within mA (fs.map (·.1))
 | .own _=>∃ o,h.get? a=some o
 | .xd fs=>∃ mA,h.Ns1 a mA/\∀ f,RelO (fs.lookup f) (mA f)
 | .rng lo hi=>∃ t u v,h.get? a=some { cls:=.type "range",data:=.fields #[.int lo t,.int hi u,.int 1 v] }
 | .frz o u=>h.get? a=some o/\ObjOk H h a u
 | .tbl ps=>h.get? a=some { cls:=.none,data:=.fields ps }
 | .met f x=>h.get? a=some (FM (.ref f) (.ref x))
 | .ext φ=>φ h/\(∃ o,h.get? a=some o)/\∀ h1 h2:Heap,φ h1->(∀ o,h1.get? a=some o->h2.get? a=some o)->φ h2
def HOk (H:Hp) (h:Heap):Prop:=∀ a o,H a=some o->ObjOk P w H h a o
end
section
variable {P:Am}{w:A0}{H H':Hp}{h h':Heap}{a:Addr}{o:HO}
theorem ObjOk.lt(x:ObjOk P w H h a o):a < h.objs.size:=by
 cases o with
 | lst xs=>obtain⟨_,_,_,_,e⟩:=x; exact AK e
 | tup xs=>obtain⟨_,_,_,p⟩:=x; exact p.lt
 | dK kvs=>obtain⟨_,_,_,_,o,_,_,e,_⟩:=x; exact AK e
 | dT kvs=>obtain⟨_,_,_,_,o,_,_,e,_⟩:=x; exact AK e
 | set S n=>obtain⟨o,_,_,_,e,_⟩:=x; exact AK e
 | ins C dx fs=>obtain⟨_,_,_,e,_⟩:=x; exact AK e
 | own y=>obtain⟨_,e⟩:=x; exact AK e
 | xd fs=>obtain⟨_,⟨_,_,_,e,_⟩,_⟩:=x; exact AK e
 | rng lo hi=>obtain⟨_,_,_,e⟩:=x; exact AK e
 | frz ob u=>obtain⟨e,_⟩:=x; exact AK e
 | tbl ps=>exact AK (show h.get? a=some _ from x)
 | met f y=>exact AK (show h.get? a=some _ from x)
 | ext φ=>obtain⟨_,⟨_,e⟩,_⟩:=x; exact AK e
theorem Paired.mapP{α β:Type}{F G:α->β->Prop}:∀ {l₁:List α} {l₂:List β},FB F l₁ l₂->(∀ a b,F a b->G a b)->FB G l₁ l₂
 | _,_,.nil,_=>.nil
 | _,_,.cons r t,f=>.cons (f _ _ r) (Paired.mapP t f)
theorem ObjOk.stay(x:ObjOk P w H h a o)(k:∀ b u,(b=a\/H b=some (.own a))->h.get? b=some u->h'.get? b=some u)
  (ho:∀ b,H b=some (.own a)->H' b=some (.own a)) (ht:∀ b xs,H b=some (.tup xs)->H' b=some (.tup xs)):ObjOk P w H' h' a o:=by
 induction o with
 | lst xs=>obtain⟨z,its,n,r,e⟩:=x; exact⟨z,its,n,r,k _ _ (.inl rfl) e⟩
 | tup xs=>obtain⟨z,its,r,ob,e,c⟩:=x; exact⟨z,its,r,ob,k _ _ (.inl rfl) e,c⟩
 | dK kvs=>obtain⟨z,y,vs,r,ob,es,ep,e,c⟩:=x; exact⟨z,y,vs,r,ob,es,ep,k _ _ (.inl rfl) e,c⟩
 | dT kvs =>
  obtain⟨z,y,xs,r,ob,es,ep,e,c⟩:=x
  exact⟨z,y,xs,Paired.mapP r fun p q z=>⟨z.1,ht _ _ z.2.1,z.2.2⟩,ob,es,ep,k _ _ (.inl rfl) e,c⟩
 | set S n=>obtain⟨ob,es,ep,t,e,c⟩:=x; exact⟨ob,es,ep,t,k _ _ (.inl rfl) e,c⟩
 | ins C dx fs =>
  obtain⟨d,z,ne,e,mA,⟨od,es,ep,e2,c⟩,r⟩:=x
  exact⟨ho _ d,z,ne,k _ _ (.inl rfl) e,mA,⟨od,es,ep,k _ _ (.inr d) e2,c⟩,r⟩
 | own y=>obtain⟨ob,e⟩:=x; exact⟨ob,k _ _ (.inl rfl) e⟩
 | xd fs=>obtain⟨mA,⟨od,es,ep,e,c⟩,r⟩:=x; exact⟨mA,⟨od,es,ep,k _ _ (.inl rfl) e,c⟩,r⟩
 | rng lo hi=>obtain⟨t,u,v,e⟩:=x; exact⟨t,u,v,k _ _ (.inl rfl) e⟩
 | frz ob u ih=>obtain⟨e,q⟩:=x; exact⟨k _ _ (.inl rfl) e,ih q⟩
 | tbl ps =>
  have e:h.get? a=some { cls:=.none,data:=.fields ps }:=x
  show h'.get? a=some { cls:=.none,data:=.fields ps }
  exact k a _ (.inl rfl) e
 | met f y =>
  have e:h.get? a=some (FM (.ref f) (.ref y)):=x
  show h'.get? a=some (FM (.ref f) (.ref y))
  exact k a _ (.inl rfl) e
 | ext φ=>obtain⟨p,⟨o,e⟩,st⟩:=x; exact⟨st _ _ p fun o q=>k _ _ (.inl rfl) q,⟨o,k _ _ (.inl rfl) e⟩,st⟩
theorem HOk.lt(x:HOk P w H h)(e:H a=some o):a < h.objs.size:=(x a o e).lt
theorem HOk.fresh(x:HOk P w H h)(e:h.objs.size<=a):H a=none:=by
 cases q:H a with
 | none=>rfl
 | some u=>exact absurd (AY (x.lt q) e) (BE _)
theorem HOk.kept(x:HOk P w H h)(k:∀ b u,h.get? b=some u->h'.get? b=some u):HOk P w H h':=fun a o e =>
 (x a o e).stay (fun b u _ q=>k b u q) (fun _ q=>q) fun _ _ q=>q
theorem HOk.laid(x:HOk P w H h)(k:∀ b u,h.get? b=some u->h'.get? b=some u)(hp:h.objs.size<=a)(new:ObjOk P w (upd H a o) h' a o):HOk P w (upd H a o) h':=fun b u e=>by
 have hn:=x.fresh hp
 by_cases hb:b=a
 ·subst hb; rw[zAj]at e; cases e; exact new
 ·rw[zAN hb]at e
  exact (x b u e).stay (fun c v _ q=>k c v q) (fun c q=>by rw[zAN (zAW q hn)]; exact q) fun c xs q=>by rw[zAN (zAW q hn)]; exact q
end
def Rd (H:Hp) (a:Addr) (u:HO):Prop:=H a=some u\/∃ o,H a=some (.frz o u)
theorem Rd.ok{P:Am}{w:A0}{H:Hp}{h:Heap}{a:Addr}{u:HO}(r:Rd H a u)(x:HOk P w H h):ObjOk P w H h a u:=by
 rcases r with r | ⟨o,r⟩
 ·exact x a u r
 ·obtain⟨_,q⟩:=x a _ r
  exact q
def Mut:Option HO->Prop
 | some (.lst _)=>True
 | some (.dK _)=>True
 | some (.dT _)=>True
 | some (.set _ _)=>True
 | some (.ins _ _ _)=>True
 | some (.ext _)=>True
 | _=>False
section
variable {P:Am}{w:A0}{H:Hp}{h h':Heap}{x e:Addr}{o':HO}
theorem HOk.write(ok:HOk P w H h)(mu:Mut (H x))(he:e=x\/H e=some (.own x))(k:∀ b u,b≠e->h.get? b=some u->h'.get? b=some u)(heo:∃ u,h'.get? e=some u)
  (new:ObjOk P w (upd H x o') h' x o'):HOk P w (upd H x o') h':=fun b u q=>by
 have nown:∀ c y,H c=some (.own y)->c≠x:=fun c y r z=>by subst z; rw[r]at mu; exact mu
 have ntup:∀ c xs,H c=some (.tup xs)->c≠x:=fun c xs r z=>by subst z; rw[r]at mu; exact mu
 by_cases hb:b=x
 ·subst hb; rw[zAj]at q; cases q; exact new
 ·rw[zAN hb]at q
  by_cases hbe:b=e
  ·have q':H b=some (.own x):=by
    rcases he with z | z
    ·exact absurd (hbe.trans z) hb
    ·rw[hbe]; exact z
   rw[q]at q'; cases q'
   obtain⟨v,hv⟩:=heo
   exact⟨v,by rw[hbe]; exact hv⟩
  ·refine (ok b u q).stay (fun c v hc r=>k c v ?_ r) (fun c r=>by rw[zAN (nown c b r)]; exact r) fun c xs r=>by rw[zAN (ntup c xs r)]; exact r
   rcases hc with rfl | hc
   ·exact hbe
   ·rintro rfl
    rcases he with z | z
    ·exact nown c b hc z
    ·rw[hc]at z; cases z; exact hb rfl
end
structure Un(fs ex:List Addr)(H H':Hp)(h h':Heap):Prop where
 keep:∀ b o,h.get? b=some o->H b=none->b∉fs->b∉ex->h'.get? b=some o
 slot:∀ b o,h.get? b=some o->H b=none->b∈fs->b∉ex->∃ sl,h'.get? b=some { o with slots:=sl }
 free:∀ b o,h.get? b=some o->H b=none->b∉ex->H' b=none
 there:∀ b o,h.get? b=some o->b∉ex->∃ o',h'.get? b=some o'
 tups:∀ b xs,H b=some (.tup xs)->H' b=some (.tup xs)
 frzs:∀ b o u,H b=some (.frz o u)->H' b=some (.frz o u)
 tbls:∀ b ps,H b=some (.tbl ps)->∃ more,H' b=some (.tbl (ps++more))
section
variable {fs fs' ex ex':List Addr}{H H1 H2:Hp}{h h1 h2 h':Heap}{a x e:Addr}{o:HO}
theorem Un.any(u:Un fs ex H H1 h h1){b:Addr}{ob:Obj}(q:h.get? b=some ob)(n:H b=none)(hx:b∉ex):∃ sl,h1.get? b=some { ob with slots:=sl }:=by
 by_cases hb:b∈fs
 ·exact u.slot b ob q n hb hx
 ·exact⟨ob.slots,u.keep b ob q n hb hx⟩
theorem Un.kept(k:∀ b u,h.get? b=some u->h'.get? b=some u):Un fs ex H H h h' :=
 ⟨fun b ob q _ _ _=>k b ob q,fun b ob q _ _ _=>⟨ob.slots,k b ob q⟩,fun _ _ _ n _=>n,fun b ob q _=>⟨ob,k b ob q⟩,fun _ _ q=>q,fun _ _ _ q=>q,fun _ ps q=>⟨#[],by rw[q]; simp⟩⟩
theorem Un.refl:Un fs ex H H h h:=Un.kept fun _ _ q=>q
theorem Un.laid(k:∀ b u,h.get? b=some u->h'.get? b=some u)(hp:h.objs.size<=a)(hn:H a=none):Un fs ex H (upd H a o) h h' where
 keep:=fun b u q _ _ _=>k b u q
 slot:=fun b u q _ _ _=>⟨u.slots,k b u q⟩
 free:=fun b u q n _=>by rw[zAN (Ae (AY (AK q) hp))]; exact n
 there:=fun b u q _=>⟨u,k b u q⟩
 tups:=fun b xs q=>by rw[zAN (zAW q hn)]; exact q
 frzs:=fun b u xs q=>by rw[zAN (zAW q hn)]; exact q
 tbls:=fun b ps q=>⟨#[],by rw[zAN (zAW q hn),q]; simp⟩
theorem Un.write(mu:Mut (H x))(he:e=x\/H e=some (.own x))(k:∀ b u,b≠e->h.get? b=some u->h'.get? b=some u)(heo:∃ u,h'.get? e=some u):Un fs ex H (upd H x o) h h':=by
 have hx:∀ b,H b=none->b≠x:=fun b n z=>by subst z; rw[n]at mu; exact mu
 have hb:∀ b,H b=none->b≠e:=fun b n z=>by
  subst z
  rcases he with r | r
  ·exact hx b n r
  ·rw[n]at r; cases r
 have hm:∀ b u,H b=some u->¬ Mut (some u)->b≠x:=fun b u q nm z=>by subst z; rw[q]at mu; exact nm mu
 refine⟨fun b u q n _ _=>k b u (hb b n) q,fun b u q n _ _=>⟨u.slots,k b u (hb b n) q⟩,fun b u q n _=>by rw[zAN (hx b n)]; exact n,fun b u q _=>?_,
  fun b xs q=>by rw[zAN (hm b _ q fun z=>z)]; exact q,fun b u xs q=>by rw[zAN (hm b _ q fun z=>z)]; exact q,fun b ps q=>⟨#[],by rw[zAN (hm b _ q fun z=>z),q]; simp⟩⟩
 by_cases hbe:b=e
 ·subst hbe; exact heo
 ·exact⟨u,k b u hbe q⟩
end
def trk (h:Heap) (H:Hp):List Addr:=(AV h.objs.size).filter fun a=>(H a).isSome
def hidT (h:Heap) (H:Hp):Heap:=PySem.W.hideAll h (trk h H)
theorem zKD(h:Heap)(H:Hp):(hidT h H).objs.size=h.objs.size:=PySem.W.hideAll_size _ _
theorem zLq{h:Heap}{H:Hp}{b:Addr}{o:Obj}(e:h.get? b=some o)(n:H b=none):(hidT h H).get? b=some o :=
 PySem.W.hideAll_get _ e fun hm=>by
  have q:(H b).isSome=true:=(Dn.mp hm).2
  rw[n]at q; simp at q
theorem zNc{h:Heap}{H:Hp}{b:Addr}{o:Obj}(e:(hidT h H).get? b=some o):h.get? b=some o/\H b=none:=by
 have e':h.get? b=some o:=PySem.W.of_hideAll (trk h H) e
 refine⟨e',?_⟩
 cases q:H b with
 | none=>rfl
 | some x =>
  have hm:b∈trk h H:=Dn.mpr ⟨Dz.mpr (AK e'),by simp[q]⟩
  have z:(hidT h H).get? b=none:=PySem.W.hideAll_none (trk h H) hm
  rw[z]at e; cases e
def allNews (g h:Heap) (L:Addr):List (Addr×Obj):=(AV h.objs.size).filterMap fun a=>if a=L\/(g.get? a).isSome=true then none else (h.get? a).map fun o=>(a,o)
def rest (g h:Heap) (L d:Addr):List (Addr×Obj):=(allNews g h L).filter fun p=>decide (p.1≠d)
structure Mod(K:AM)(mg:Str->Option AD)(base:Heap):Prop where
 kin:K.In base
 glob:base.Ns Al mg
 blt:∃ mb,base.Ns G5 mb/\∀ x:Str,x≠"__name__"->mb x=CP x
 nolimit:base.NoLimit
structure Cx where
 prog:Am
 w:A0
 K:AM
 mg:Str->Option AD
 base:Heap
 A:BJ
 N:List Str
 s₀:AG
 H₀:Hp
 env:Env
 outer:List Env
 stack:List Env
 ex:List Addr
 fn:Str->Bool
 calm:Bool
 pn:List (Addr×Obj)
 xe:AD->AG->Prop
def frs (l:List Env):List Addr:=l.filterMap (·.frame)
abbrev Cx.fs (X:Cx):List Addr:=frs X.outer
def Vis (sc:Ez) (x:Str):Prop:=sc.names.lookup x=some .local\/sc.names.lookup x=some .cell\/sc.names.lookup x=some .free
def Loc (sc:Ez) (x:Str):Prop:=sc.names.lookup x=some .local\/sc.names.lookup x=some .cell
def Look (env:Env) (h:Heap) (m:Str->Option AD) (x:Str) (u:AD):Prop :=
 (env.kindOf x=some .local/\m x=some u)\/((env.kindOf x=some .cell\/env.kindOf x=some .free)/\∃ c,env.cells.lookup x=some c/\h.IsCell c (some u))
structure Cx.Ok(X:Cx):Prop where
 mod:Mod X.K X.mg X.base
 kind:X.env.scope.kind=.function
 glob:X.env.globals=Al
 blt:X.env.builtins=G5
 above:X.s₀.heap.objs.size<=X.env.locals
 inj:∀ x y c,X.env.cells.lookup x=some c->X.env.cells.lookup y=some c->x=y
 has:∀ x,(X.env.kindOf x=some .cell\/X.env.kindOf x=some .free)->∃ c,X.env.cells.lookup x=some c
 cab:∀ x c,X.fn x=true->X.env.cells.lookup x=some c->X.s₀.heap.objs.size<=c
 hd:X.calm=true->X.A.handled=none
 frames:X.A.frames=some X.stack
 stk:X.stack=X.outer\/(X.stack=X.env::X.outer/\X.env.frame=some X.env.locals)
 exf:∀ b∈X.ex,b≠X.env.locals/\∀ x c,X.env.cells.lookup x=some c->c≠b
 bs:∀ b o,X.base.get? b=some o->X.s₀.heap.get? b=some o/\X.H₀ b=none
 bsz:X.base.objs.size<=X.s₀.heap.objs.size
 noex:∀ b o,X.base.get? b=some o->b∉X.ex
 exfs:∀ b∈X.ex,b∉X.fs
 funs:X.s₀.heap.FunFrames X.base X.outer
 frf:∀ b∈X.fs,X.H₀ b=none
structure Inv(X:Cx)(pins:List (Addr×Obj))(σ:List (Option V))(H:Hp)(s:AG):Prop where
 ok:X.Ok
 os:s.os=X.s₀.os
 bare:FC s.gens
 base:Un X.fs X.ex X.H₀ H X.s₀.heap s.heap
 loc:∃ m,s.heap.Ns X.env.locals m/\∀ (i:Nat) (x:Str) (v:V),X.N[i]?=some x->σ[i]?=some (some v)->Vis X.env.scope x->∃ u,RelV v u/\Look X.env s.heap m x u
 cell:∀ x c,X.env.cells.lookup x=some c->∃ v,s.heap.IsCell c v
 free:H X.env.locals=none
 freeC:∀ x c,X.env.cells.lookup x=some c->H c=none
 pin:∀ p∈X.pn++pins,s.heap.get? p.1=some p.2/\H p.1=none/\p.1≠X.env.locals/\p.1∉X.fs/\∀ v,p.2.data≠.cell v
 hok:HOk X.prog X.w H s.heap
 len:σ.length=X.N.length
section
variable {X:Cx}{pins:List (Addr×Obj)}{σ:List (Option V)}{H H':Hp}{s:AG}{h':Heap}
theorem Cx.Ok.nofr(ok:X.Ok){b:Addr}{o:Obj}(e:X.base.get? b=some o):b∉X.fs:=fun hb=>by
 have:=(ok.funs.mem hb).1
 rw[e]at this; cases this
theorem Inv.bs(I:Inv X pins σ H s):∀ b o,X.base.get? b=some o->s.heap.get? b=some o/\H b=none:=fun b o e =>
 ⟨I.base.keep b o (I.ok.bs b o e).1 (I.ok.bs b o e).2 (I.ok.nofr e) (I.ok.noex b o e),I.base.free b o (I.ok.bs b o e).1 (I.ok.bs b o e).2 (I.ok.noex b o e)⟩
theorem Inv.bk(I:Inv X pins σ H s):∀ b o,X.base.get? b=some o->s.heap.get? b=some o:=fun b o e=>(I.bs b o e).1
theorem Inv.mod(I:Inv X pins σ H s):Mod X.K X.mg X.base:=I.ok.mod
theorem Inv.kIn(I:Inv X pins σ H s):X.K.In s.heap:=I.ok.mod.kin.keeps I.bk
theorem Inv.lt(I:Inv X pins σ H s):X.env.locals < s.heap.objs.size:=let ⟨_,hn,_⟩:=I.loc; hn.lt
theorem Inv.sz(I:Inv X pins σ H s):X.s₀.heap.objs.size<=s.heap.objs.size:=Ai I.ok.above (Dv I.lt)
theorem Inv.nofs(I:Inv X pins σ H s){a:Addr}(h:s.heap.objs.size<=a):a∉X.fs:=fun hb=>by
 obtain⟨_,o,ho,_⟩:=I.ok.funs.mem hb
 exact absurd (AY (AK ho) (Ai I.sz h)) (BE _)
theorem Inv.cne(I:Inv X pins σ H s):∀ x c,X.env.cells.lookup x=some c->c≠X.env.locals:=fun x c e z=>by
 obtain⟨v,o,ho,hd⟩:=I.cell x c e
 obtain⟨m,⟨o',es,ep,ho',hd',_⟩,_⟩:=I.loc
 rw[z,ho']at ho; cases ho; rw[hd']at hd; cases hd
theorem Inv.funs(I:Inv X pins σ H s):s.heap.FunFrames X.base X.outer:=by
 have all:∀ (l:List Env),(∀ b∈frs l,b∈X.fs)->X.s₀.heap.FunFrames X.base l->s.heap.FunFrames X.base l:=by
  intro l
  induction l with
  | nil=>intro _ _; trivial
  | cons env r ih =>
   intro hs hl
   obtain⟨hk,⟨L,o,hf,hn,ho,hd⟩,hr⟩:=hl
   have hL:L∈X.fs:=hs L (by unfold frs; rw[FI,hf]; exact AZ)
   obtain⟨sl,e⟩:=I.base.slot L o ho (I.ok.frf L hL) hL fun z=>I.ok.exfs L z hL
   exact⟨hk,⟨L,_,hf,hn,e,hd⟩,ih (fun b hb=>hs b (by unfold frs; rw[FI,hf]; exact AR _ hb)) hr⟩
 exact all X.outer (fun _ hb=>hb) I.ok.funs
theorem Inv.stack(I:Inv X pins σ H s):s.heap.FunFrames X.base X.stack:=by
 rcases I.ok.stk with e | ⟨e,hf⟩
 ·rw[e]; exact I.funs
 ·rw[e]
  obtain⟨m,hn,_⟩:=I.loc
  refine .cons (by rw[I.ok.kind]; decide) hf hn ?_ I.funs
  exact Heap.get?_none_of_le (Ai I.ok.bsz I.ok.above)
theorem Inv.stkSub(I:Inv X pins σ H s):∀ b∈frs X.stack,b∈X.env.locals::X.fs:=fun b hb=>by
 rcases I.ok.stk with e | ⟨e,hf⟩
 ·rw[e]at hb; exact AR _ hb
 ·rw[e]at hb
  unfold frs at hb
  rw[FI,hf]at hb
  exact hb
theorem Inv.stkFree(I:Inv X pins σ H s):∀ b∈frs X.stack,H b=none:=fun b hb=>by
 rcases AH.mp (I.stkSub b hb) with e | hb
 ·rw[e]; exact I.free
 ·obtain⟨_,o,ho,_⟩:=I.ok.funs.mem hb
  exact I.base.free b o ho (I.ok.frf b hb) fun z=>I.ok.exfs b z hb
theorem Inv.step{g':Array GenState}{t':Nat}{d':Drawn}{ch:List Addr}(I:Inv X pins σ H s)
  (hch:∀ b∈ch,(b∈X.ex\/X.s₀.heap.objs.size<=b)/\b≠X.env.locals/\(∀ x c,X.env.cells.lookup x=some c->c≠b)/\∀ p∈X.pn++pins,p.1≠b)
  (keep:∀ b o,b≠X.env.locals->b∉X.fs->b∉ch->s.heap.get? b=some o->H b=none->h'.get? b=some o)
  (slot:∀ b o,b≠X.env.locals->b∈X.fs->b∉ch->s.heap.get? b=some o->H b=none->∃ sl,h'.get? b=some { o with slots:=sl }) (free:∀ b o,b∉ch->s.heap.get? b=some o->H b=none->H' b=none)
  (there:∀ b o,b∉ch->s.heap.get? b=some o->∃ o',h'.get? b=some o')
  (tups:∀ b xs,H b=some (.tup xs)->H' b=some (.tup xs)) (frzs:∀ b o u,H b=some (.frz o u)->H' b=some (.frz o u)) (tbls:∀ b ps,H b=some (.tbl ps)->∃ more,H' b=some (.tbl (ps++more)))
  (ns:∀ m,s.heap.Ns X.env.locals m->h'.Ns X.env.locals m) (hok:HOk X.prog X.w H' h') (hg:FC g') :
  Inv X pins σ H' { s with heap:=h',gens:=g',drawn:=d',toks:=t' }:=by
 have neL:∀ b o,X.s₀.heap.get? b=some o->b≠X.env.locals:=fun b o e=>Ae (AY (AK e) I.ok.above)
 have neC:∀ b o,X.s₀.heap.get? b=some o->b∉X.ex->b∉ch:=fun b o e hx hb=>by
  rcases (hch b hb).1 with z | z
  ·exact hx z
  ·exact absurd (AY (AK e) z) (BE _)
 have cellK:∀ x c,X.env.cells.lookup x=some c->∀ v,s.heap.IsCell c v->h'.IsCell c v:=fun x c e v ⟨o,ho,hd⟩=>by
  have nch:c∉ch:=fun z=>(hch c z).2.2.1 x c e rfl
  by_cases hc:c∈X.fs
  ·obtain⟨sl,q⟩:=slot c o (I.cne x c e) hc nch ho (I.freeC x c e)
   exact⟨_,q,hd⟩
  ·exact⟨o,keep c o (I.cne x c e) hc nch ho (I.freeC x c e),hd⟩
 refine⟨I.ok,I.os,hg,⟨fun b o e n hb hx=>?_,fun b o e n hb hx=>?_,fun b o e n hx=>?_,fun b o e hx=>?_,fun b xs e=>tups b xs (I.base.tups b xs e),fun b o xs e=>frzs b o xs (I.base.frzs b o xs e),fun b ps e=>?_⟩,?_,fun x c e=>?_,?_,fun x c e=>?_,fun p hp=>?_,hok,I.len⟩
 ·exact keep b o (neL b o e) hb (neC b o e hx) (I.base.keep b o e n hb hx) (I.base.free b o e n hx)
 ·obtain⟨sl,e1⟩:=I.base.slot b o e n hb hx
  obtain⟨sl',e2⟩:=slot b _ (neL b o e) hb (neC b o e hx) e1 (I.base.free b o e n hx)
  exact⟨sl',e2⟩
 ·obtain⟨o',e1⟩:=I.base.there b o e hx
  exact free b o' (neC b o e hx) e1 (I.base.free b o e n hx)
 ·obtain⟨o',e1⟩:=I.base.there b o e hx
  exact there b o' (neC b o e hx) e1
 ·obtain⟨m1,e1⟩:=I.base.tbls b ps e
  obtain⟨m2,e2⟩:=tbls b _ e1
  exact⟨m1++m2,by rw[e2,Array.append_assoc]⟩
 ·obtain⟨m,hn,hl⟩:=I.loc
  refine⟨m,ns m hn,fun i x v e1 e2 e3=>?_⟩
  obtain⟨u,r,l⟩:=hl i x v e1 e2 e3
  refine⟨u,r,?_⟩
  rcases l with l | ⟨k,c,e,z⟩
  ·exact .inl l
  ·exact .inr ⟨k,c,e,cellK x c e _ z⟩
 ·obtain⟨v,z⟩:=I.cell x c e
  exact⟨v,cellK x c e v z⟩
 ·obtain⟨m,⟨o,_,_,ho,_⟩,_⟩:=I.loc
  exact free _ o (fun z=>(hch _ z).2.1 rfl) ho I.free
 ·obtain⟨v,o,ho,hd⟩:=I.cell x c e
  exact free c o (fun z=>(hch c z).2.2.1 x c e rfl) ho (I.freeC x c e)
 ·obtain⟨e,n,ne,nf,d⟩:=I.pin p hp
  have nch:p.1∉ch:=fun z=>(hch p.1 z).2.2.2 p hp rfl
  exact⟨keep p.1 p.2 ne nf nch e n,free p.1 p.2 nch e n,ne,nf,d⟩
theorem Inv.un{t':Nat}(I:Inv X pins σ H s)(u:Un X.fs [] H H' s.heap h')(hok:HOk X.prog X.w H' h'):Inv X pins σ H' { s with heap:=h',toks:=t' }:=by
 obtain⟨m,⟨o,es,ep,ho,r⟩,_⟩:=id I.loc
 obtain⟨sl,hL⟩:=u.any ho I.free (by simp)
 exact I.step (g':=s.gens) (d':=s.drawn) (ch:=[]) (fun _ z=>nomatch z) (fun b o _ hb _ e n=>u.keep b o e n hb (by simp)) (fun b o _ hb _ e n=>u.slot b o e n hb (by simp)) (fun b o _ e n=>u.free b o e n (by simp)) (fun b o _ e=>u.there b o e (by simp)) u.tups u.frzs u.tbls (fun m' hm=>by
  obtain⟨o',es',ep',ho',r'⟩:=hm
  rw[ho]at ho'; cases ho'
  exact⟨_,es',ep',hL,r'⟩) hok I.bare
theorem Inv.call{g':Array GenState}{t':Nat}{d':Drawn}{ch:List Addr}(I:Inv X pins σ H s)(u:Un (frs X.stack) ch H H' s.heap h')(hok:HOk X.prog X.w H' h')(hg:FC g')
  (hch:∀ b∈ch,(b∈X.ex\/X.s₀.heap.objs.size<=b)/\b≠X.env.locals/\(∀ x c,X.env.cells.lookup x=some c->c≠b)/\∀ p∈X.pn++pins,p.1≠b) :
  Inv X pins σ H' { s with heap:=h',gens:=g',drawn:=d',toks:=t' }:=by
 obtain⟨m,⟨o,es,ep,ho,r⟩,_⟩:=id I.loc
 obtain⟨sl,hL⟩:=u.any ho I.free fun z=>(hch _ z).2.1 rfl
 exact I.step (ch:=ch) hch (fun b o hL hb hc e n=>u.keep b o e n (fun z=>(AH.mp (I.stkSub b z)).elim hL hb) hc) (fun b o _ _ hc e n=>u.any e n hc) (fun b o hc e n=>u.free b o e n hc) (fun b o hc e=>u.there b o e hc) u.tups u.frzs u.tbls (fun m' hm=>by
  obtain⟨o',es',ep',ho',r'⟩:=hm
  rw[ho]at ho'; cases ho'
  exact⟨_,es',ep',hL,r'⟩) hok hg
theorem Inv.turned{t':Nat}{it:Addr}(I:Inv X pins σ H s)(k:∀ b o,b≠it->s.heap.get? b=some o->h'.get? b=some o)(hn:H it=none)(hL:it≠X.env.locals)
  (h1:it∈X.ex\/X.s₀.heap.objs.size<=it) (h2:∀ x c,X.env.cells.lookup x=some c->c≠it) (h3:∀ p∈X.pn++pins,p.1≠it):Inv X pins σ H { s with heap:=h',toks:=t' }:=by
 have nit:∀ b u,H b=some u->b≠it:=fun b u e z=>by rw[z,hn]at e; cases e
 refine I.step (g':=s.gens) (d':=s.drawn) (ch:=[it]) (fun b hb=>?_) (fun b o _ _ hc e _=>k b o (fun z=>hc (by simp[z])) e) (fun b o _ _ hc e _=>⟨o.slots,k b o (fun z=>hc (by simp[z])) e⟩) (fun _ _ _ _ n=>n)
  (fun b o hc e=>⟨o,k b o (fun z=>hc (by simp[z])) e⟩) (fun _ _ e=>e) (fun _ _ _ e=>e) (fun b ps e=>⟨#[],by rw[e]; simp⟩) (fun m hm=>?_) (fun b u e=>?_) I.bare
 ·have e:b=it:=by simpa using hb
  subst e
  exact⟨h1,hL,h2,h3⟩
 ·obtain⟨o,es,ep,ho,r⟩:=hm
  exact⟨o,es,ep,k _ o (BD hL) ho,r⟩
 ·refine (I.hok b u e).stay (fun c v hc q=>k c v ?_ q) (fun _ q=>q) fun _ _ q=>q
  rcases hc with z | z
  ·rw[z]; exact nit b u e
  ·exact nit c _ z
theorem Inv.tok(I:Inv X pins σ H s)(t:Nat):Inv X pins σ H { s with toks:=t }:=I.un (h':=s.heap) (t':=t) Un.refl I.hok
theorem Inv.kept{t':Nat}(I:Inv X pins σ H s)(k:∀ b u,s.heap.get? b=some u->h'.get? b=some u):Inv X pins σ H { s with heap:=h',toks:=t' }:=I.un (Un.kept k) (I.hok.kept k)
theorem Inv.laid{a:Addr}{o:HO}{t':Nat}(I:Inv X pins σ H s)(k:∀ b u,s.heap.get? b=some u->h'.get? b=some u)(hp:s.heap.objs.size<=a)(new:ObjOk X.prog X.w (upd H a o) h' a o) :
  Inv X pins σ (upd H a o) { s with heap:=h',toks:=t' }:=I.un (Un.laid k hp (I.hok.fresh hp)) (I.hok.laid k hp new)
theorem Inv.write{x e:Addr}{o:HO}{t':Nat}(I:Inv X pins σ H s)(mu:Mut (H x))(he:e=x\/H e=some (.own x))(k:∀ b u,b≠e->s.heap.get? b=some u->h'.get? b=some u)(heo:∃ u,h'.get? e=some u)
  (new:ObjOk X.prog X.w (upd H x o) h' x o):Inv X pins σ (upd H x o) { s with heap:=h',toks:=t' }:=I.un (Un.write mu he k heo) (I.hok.write mu he k heo new)
theorem Inv.pins_of{pins':List (Addr×Obj)}(I:Inv X pins σ H s)(h:∀ p∈pins',s.heap.get? p.1=some p.2/\H p.1=none/\p.1≠X.env.locals/\p.1∉X.fs/\∀ v,p.2.data≠.cell v):Inv X pins' σ H s :=
 ⟨I.ok,I.os,I.bare,I.base,I.loc,I.cell,I.free,I.freeC,fun p hp=>(Bp.mp hp).elim (fun z=>I.pin p (Di _ z)) (h p),I.hok,I.len⟩
theorem zGp{N:List Str}(hN:N.Nodup){i j:Nat}{x:Str}(a:N[i]?=some x)(b:N[j]?=some x):i=j:=by
 obtain⟨h1,e1⟩:=Aa.mp a
 obtain⟨h2,e2⟩:=Aa.mp b
 exact (List.getElem_inj hN).mp (e1.trans e2.symm)
theorem zJ9{M:Model}{A:BJ}{E:AD->AG->Prop}{i:Nat}{x:Str}{v:V}{u:AD}{Q:Unit->AG->Prop}(I:Inv X pins σ H s)(hN:X.N.Nodup)(hi:X.N[i]?=some x)(hx:Loc X.env.scope x)(r:RelV v u)
  (h:∀ s',Inv X pins (σ.set i (some v)) H s'->(∃ a,Bd a s.heap s'.heap/\(a=X.env.locals\/X.env.cells.lookup x=some a))->Q () s') (hf:X.fn x=true\/X.env.scope.names.lookup x=some .local:=by first | exact .inl rfl | exact .inr rfl | assumption):AQ M A (storeName X.env x u) Q E s:=by
 obtain⟨m,hn,hl⟩:=id I.loc
 have hcls:(X.env.scope.kind == .class || (X.env.scope.kind == .module && X.env.locals != X.env.globals))=false:=by rw[I.ok.kind]; rfl
 have hiσ:i < σ.length:=by rw[I.len]; exact (Aa.mp hi).1
 have cne:=I.cne
 have tracked:∀ {a:Addr} {h':Heap},(∃ o,s.heap.get? a=some o/\H a=none)->Bd a s.heap h'->HOk X.prog X.w H h':=fun {a h'} ha hs b ob e=>by
  obtain⟨_,_,hfree⟩:=ha
  refine (I.hok b ob e).stay (fun c w' hc q=>(hs.2 c ?_).trans q) (fun _ q=>q) fun _ _ q=>q
  rintro rfl
  rcases hc with rfl | hc
  ·rw[hfree]at e; cases e
  ·rw[hfree]at hc; cases hc
 rcases hx with hk | hk
 ·refine wpAny_storeName_local hk hn (fun h' hn' hs=>?_) hcls
  obtain⟨oL,_,_,hoL,_⟩:=id hn
  refine h _ ⟨I.ok,I.os,I.bare,⟨fun b o e n hb hx=>?_,fun b o e n hb hx=>?_,I.base.free,fun b o e hx=>?_,I.base.tups,I.base.frzs,I.base.tbls⟩,⟨_,hn',fun j y v' e1 e2 e3=>?_⟩,fun y c e=>?_,I.free,I.freeC,fun p hp=>?_,tracked ⟨oL,hoL,I.free⟩ hs,by simpa using I.len⟩ ⟨_,hs,.inl rfl⟩
  ·exact (hs.2 b (Ae (AY (AK e) I.ok.above))).trans (I.base.keep b o e n hb hx)
  ·obtain⟨sl,e1⟩:=I.base.slot b o e n hb hx
   exact⟨sl,(hs.2 b (Ae (AY (AK e) I.ok.above))).trans e1⟩
  ·obtain⟨o',e1⟩:=I.base.there b o e hx
   exact⟨o',(hs.2 b (Ae (AY (AK e) I.ok.above))).trans e1⟩
  ·by_cases hj:j=i
   ·subst hj
    rw[hi]at e1; cases e1
    rw[As hiσ]at e2
    cases e2
    exact⟨u,r,.inl ⟨hk,by simp⟩⟩
   ·rw[Ad (BD hj)]at e2
    obtain⟨u',r',q⟩:=hl j y v' e1 e2 e3
    refine⟨u',r',?_⟩
    rcases q with ⟨k,e⟩ | ⟨k,c,e,z⟩
    ·refine .inl ⟨k,?_⟩
     have:y≠x:=fun e=>hj (zGp hN e1 (e ▸ hi))
     simp[this,e]
    ·exact .inr ⟨k,c,e,z.sameBut hs (cne y c e)⟩
  ·obtain⟨w',z⟩:=I.cell y c e
   exact⟨w',z.sameBut hs (cne y c e)⟩
  ·obtain⟨e,n,ne,nf,d⟩:=I.pin p hp
   exact⟨(hs.2 p.1 ne).trans e,n,ne,nf,d⟩
 ·have hfn:X.fn x=true:=by
   rcases hf with z | z
   ·exact z
   ·rw[z]at hk; cases hk
  obtain⟨c,hc⟩:=I.ok.has x (.inl hk)
  obtain⟨w',z⟩:=I.cell x c hc
  refine wpAny_storeName_cell I.ok.kind hk hc z (fun h' hc' hs=>?_)
  obtain⟨oc,hoc,hocd⟩:=id z
  refine h { s with heap:=h' } ⟨I.ok,I.os,I.bare,⟨fun b o e n hb hx=>?_,fun b o e n hb hx=>?_,I.base.free,fun b o e hx=>?_,I.base.tups,I.base.frzs,I.base.tbls⟩,⟨m,hn.sameBut hs (BD (cne x c hc)),fun j y v' e1 e2 e3=>?_⟩,fun y c' e=>?_,I.free,I.freeC,fun p hp=>?_,tracked ⟨oc,hoc,I.freeC x c hc⟩ hs,by simpa using I.len⟩ ⟨c,hs,.inr hc⟩
  ·exact (hs.2 b (Ae (AY (AK e) (I.ok.cab x c hfn hc)))).trans (I.base.keep b o e n hb hx)
  ·obtain⟨sl,e1⟩:=I.base.slot b o e n hb hx
   exact⟨sl,(hs.2 b (Ae (AY (AK e) (I.ok.cab x c hfn hc)))).trans e1⟩
  ·obtain⟨o',e1⟩:=I.base.there b o e hx
   exact⟨o',(hs.2 b (Ae (AY (AK e) (I.ok.cab x c hfn hc)))).trans e1⟩
  ·by_cases hj:j=i
   ·subst hj
    rw[hi]at e1; cases e1
    rw[As hiσ]at e2
    cases e2
    exact⟨u,r,.inr ⟨.inl hk,c,hc,hc'⟩⟩
   ·rw[Ad (BD hj)]at e2
    obtain⟨u',r',q⟩:=hl j y v' e1 e2 e3
    refine⟨u',r',?_⟩
    rcases q with q | ⟨k,c',e,z'⟩
    ·exact .inl q
    ·refine .inr ⟨k,c',e,z'.sameBut hs ?_⟩
     rintro rfl
     exact hj (zGp hN e1 (I.ok.inj _ _ _ e hc ▸ hi))
  ·by_cases hcc:c'=c
   ·subst hcc; exact⟨_,hc'⟩
   ·obtain⟨w2,z2⟩:=I.cell y c' e
    exact⟨w2,z2.sameBut hs hcc⟩
  ·obtain⟨e,n,ne,nf,d⟩:=I.pin p hp
   refine⟨(hs.2 p.1 ?_).trans e,n,ne,nf,d⟩
   intro q
   rw[q,hoc]at e
   have q':oc=p.2:=Ak e
   exact d w' (by rw[← q']; exact hocd)
theorem zBe{M:Model}{A:BJ}{E:AD->AG->Prop}{i:Nat}{x:Str}{v:V}{u:AD}{Q:Unit->AG->Prop}(I:Inv X pins σ H s)(hN:X.N.Nodup)(hi:X.N[i]?=some x)(hx:Loc X.env.scope x)(r:RelV v u)
  (h:∀ s',Inv X pins (σ.set i (some v)) H s'->Q () s') (hf:X.fn x=true\/X.env.scope.names.lookup x=some .local:=by first | exact .inl rfl | exact .inr rfl | assumption):AQ M A (storeName X.env x u) Q E s :=
 zJ9 I hN hi hx r (fun s' I' _=>h s' I') hf
theorem Inv.call'{s':AG}{ch:List Addr}(I:Inv X pins σ H s)(ho:s'.os=s.os)(u:Un (frs X.stack) ch H H' s.heap s'.heap)(hok:HOk X.prog X.w H' s'.heap)(hg:FC s'.gens)
  (hch:∀ b∈ch,(b∈X.ex\/X.s₀.heap.objs.size<=b)/\b≠X.env.locals/\(∀ x c,X.env.cells.lookup x=some c->c≠b)/\∀ p∈X.pn++pins,p.1≠b):Inv X pins σ H' s':=by
 obtain⟨h',g',d',t',o'⟩:=s'
 have e:o'=s.os:=ho
 subst e
 exact I.call (g':=g') (t':=t') (d':=d') u hok hg hch
end
abbrev XK:=AD->Option Addr->Hp->Prop
abbrev St:=List (Option V)
abbrev VK:=V->Hp->Prop
abbrev TE:=St->Hp->VK->Prop
abbrev TT:=St->Hp->(Bool->Hp->Prop)->Prop
abbrev TA:=St->Hp->(List V->Hp->Prop)->Prop
structure Ends where
 nx:St->Hp->Prop
 rt:VK
 bk:St->Hp->Prop:=fun _ _=>False
 ct:St->Hp->Prop:=fun _ _=>False
abbrev TS:=Ends->St->Hp->Prop
def EP (X:Cx) (pins:List (Addr×Obj)) (σ:St) (Q:VK) (u:AD) (s':AG):Prop:=∃ v H',Inv X pins σ H' s'/\RelV v u/\Q v H'
def TP (X:Cx) (pins:List (Addr×Obj)) (σ:St) (Q:Bool->Hp->Prop) (b:Bool) (s':AG):Prop:=∃ H',Inv X pins σ H' s'/\Q b H'
def AP (X:Cx) (pins:List (Addr×Obj)) (σ:St) (Q:List V->Hp->Prop) (us:List AD) (s':AG):Prop:=∃ vs H',Inv X pins σ H' s'/\Vals vs us/\Q vs H'
def SP (X:Cx) (pins:List (Addr×Obj)) (D:Ends) (f:Flow) (s':AG):Prop :=
 match f with
 | .next=>∃ σ' H',Inv X pins σ' H' s'/\D.nx σ' H'
 | .brk=>∃ σ' H',Inv X pins σ' H' s'/\D.bk σ' H'
 | .cont=>∃ σ' H',Inv X pins σ' H' s'/\D.ct σ' H'
 | .ret u=>∃ v σ' H',Inv X pins σ' H' s'/\RelV v u/\D.rt v H'
def PE (X:Cx) (e:Expr) (t:TE):Prop :=
 ∀ (pins:List (Addr×Obj)) (s:AG) (σ:St) (H:Hp) (Q:VK),Inv X pins σ H s->t σ H Q->AQ (model X.prog X.w) X.A (eval e X.env) (EP X pins σ Q) X.xe s
def PT (X:Cx) (e:Expr) (t:TT):Prop :=
 ∀ (pins:List (Addr×Obj)) (s:AG) (σ:St) (H:Hp) (Q:Bool->Hp->Prop),Inv X pins σ H s->t σ H Q->AQ (model X.prog X.w) X.A (Hm e X.env (eval e X.env)) (TP X pins σ Q) X.xe s
def PW (X:Cx) (e:Expr) (t:TT):Prop :=
 ∀ (whole:Sem AD) (pins:List (Addr×Obj)) (s:AG) (σ:St) (H:Hp) (Q:Bool->Hp->Prop),Inv X pins σ H s->t σ H Q->AQ (model X.prog X.w) X.A (Hm e X.env whole) (TP X pins σ Q) X.xe s
theorem PW.pt{X:Cx}{e:Expr}{t:TT}(h:PW X e t):PT X e t:=h _
def PA (X:Cx) (es:List Expr) (t:TA):Prop :=
 ∀ (pos:Pos) (pins:List (Addr×Obj)) (s:AG) (σ:St) (H:Hp) (Q:List V->Hp->Prop),Inv X pins σ H s->t σ H Q->AQ (model X.prog X.w) X.A (spliced (CL pos (AU es X.env))) (AP X pins σ Q) X.xe s
def PS (X:Cx) (st:Stmt) (t:TS):Prop :=
 ∀ (pins:List (Addr×Obj)) (s:AG) (σ:St) (H:Hp) (D:Ends),Inv X pins σ H s->t D σ H->AQ (model X.prog X.w) X.A (exec st X.env) (SP X pins D) X.xe s
def PSs (X:Cx) (st:List Stmt) (t:TS):Prop :=
 ∀ (pins:List (Addr×Obj)) (s:AG) (σ:St) (H:Hp) (D:Ends),Inv X pins σ H s->t D σ H->AQ (model X.prog X.w) X.A (execs st X.env) (SP X pins D) X.xe s
theorem thn{α:Type}{t:Sem α}{Q Q':α->AG->Prop}{M:Model}{A:BJ}{E:AD->AG->Prop}{s:AG}(h:AQ M A t Q E s)(hQ:∀ a s,Q a s->Q' a s):AQ M A t Q' E s:=B3 h hQ fun _ _ x=>x
section
variable {X:Cx}
theorem bin{a b:Expr}{ta tb:TE}(ha:PE X a ta)(hb:PE X b tb){pins:List (Addr×Obj)}{s:AG}{σ:St}{H:Hp}{R:V->V->Hp->Prop}(I:Inv X pins σ H s)(h:ta σ H fun x H1=>tb σ H1 fun y H2=>R x y H2)
  {α:Type} {Q:α->AG->Prop} {f:AD->AD->Sem α}
  (hf:∀ v u s2 x y H2,Inv X pins σ H2 s2->RelV x v->RelV y u->R x y H2->AQ (model X.prog X.w) X.A (f v u) Q X.xe s2) :
  AQ (model X.prog X.w) X.A (eval a X.env) (fun v s₁=>AQ (model X.prog X.w) X.A (eval b X.env) (fun u s₂=>AQ (model X.prog X.w) X.A (f v u) Q X.xe s₂) X.xe s₁) X.xe s:=by
 refine thn (ha pins s σ H _ I h) fun v s1 ⟨x,H1,I1,r1,q1⟩=>?_
 refine thn (hb pins s1 σ H1 _ I1 q1) fun u s2 ⟨y,H2,I2,r2,q2⟩=>?_
 exact hf v u s2 x y H2 I2 r1 r2 q2
def tVar (i:Nat):TE:=fun σ H Q=>∃ v,σ[i]?=some (some v)/\Q v H
def tC (v:V):TE:=fun _ H Q=>Q v H
theorem zGH{i:Nat}{x:Str}{pos:Pos}(hN:X.N[i]?=some x)(hv:Vis X.env.scope x)(hd:(x == ("__debug__":Str))=false:=by decide)(hcd:(x == ("__classdict__":Str))=false:=by decide):PE X (.Name x pos) (tVar i):=by
 intro pins s σ H Q I h
 obtain⟨v,e,h⟩:=h
 obtain⟨m,hn,hl⟩:=I.loc
 obtain⟨u,r,l⟩:=hl i x v hN e hv
 have fin:EP X pins σ Q u s:=⟨v,H,I,r,h⟩
 rcases l with ⟨hk,hm⟩ | ⟨hk,c,hc,hcell⟩
 ·exact Ic (wpAny_loadName_local I.ok.kind hk hn hm fin) hd
 ·rcases hk with hk | hk
  ·exact Ic (wpAny_loadName_cell I.ok.kind hk hc hcell fin) hd
  ·exact Ic (wpAny_loadName_free I.ok.kind hk hc hcell fin hcd) hd
theorem zOX{i j pos}:PE X (.Constant (.int i) j pos) (tC (.int i)):=fun _ _ _ H _ I h=>wpAny_Constant_int ⟨.int i,H,I.tok _,⟨_,rfl⟩,h⟩
theorem zPy{b j pos}:PE X (.Constant (.bool b) j pos) (tC (.bl b)):=fun _ _ _ H _ I h=>Constant_bool ⟨.bl b,H,I,rfl,h⟩
theorem zPH{j pos}:PE X (.Constant .none j pos) (tC .non):=fun _ _ _ H _ I h=>Constant_none ⟨.non,H,I,rfl,h⟩
theorem zJu{x j pos}:PE X (.Constant (.str x) j pos) (tC (.str x)):=fun _ _ _ H _ I h=>Calls.Constant_str ⟨.str x,H,I.tok _,⟨_,rfl⟩,h⟩
def Gl (X:Cx) (x:Str):Prop:=X.env.kindOf x=some .globalImplicit
theorem zHs{E:AD->AG->Prop}{pins:List (Addr×Obj)}{s:AG}{σ:St}{H:Hp}{x:Str}{u:AD}{pos:Pos}{Q:AD->AG->Prop}(I:Inv X pins σ H s)(hg:Gl X x)(hm:X.mg x=some u)(h:Q u s)
  (hd:(x == ("__debug__":Str))=false:=by decide):AQ (model X.prog X.w) X.A (eval (.Name x pos) X.env) Q E s :=
 GL I.ok.kind hg (Calls.loadGlobal_global (by rw[I.ok.glob]; exact I.mod.glob.keeps I.bk) hm h) hd
theorem zBH{E:AD->AG->Prop}{pins:List (Addr×Obj)}{s:AG}{σ:St}{H:Hp}{x:Str}{u:AD}{pos:Pos}{Q:AD->AG->Prop}(I:Inv X pins σ H s)(hg:Gl X x)(hm:X.mg x=none)(hv:CP x=some u)(h:Q u s)
  (hn:x≠"__name__":=by decide) (hd:(x == ("__debug__":Str))=false:=by decide):AQ (model X.prog X.w) X.A (eval (.Name x pos) X.env) Q E s:=by
 obtain⟨mb,h1,h2⟩:=I.mod.blt
 exact GL I.ok.kind hg (Calls.loadGlobal_builtin (by rw[I.ok.glob]; exact I.mod.glob.keeps I.bk) hm (by rw[I.ok.blt]; exact h1.keeps I.bk) ((h2 x hn).trans hv) h) hd
theorem zNK{x:Str}{v:V}{u:AD}{pos:Pos}(hg:Gl X x)(hm:X.mg x=some u)(r:RelV v u)(hd:(x == ("__debug__":Str))=false:=by decide):PE X (.Name x pos) (tC v) :=
 fun _ _ _ H _ I h=>zHs I hg hm ⟨v,H,I,r,h⟩ hd
theorem zMz{x:Str}{v:V}{u:AD}{pos:Pos}(hg:Gl X x)(hm:X.mg x=none)(hv:CP x=some u)(r:RelV v u)(hn:x≠"__name__":=by decide)(hd:(x == ("__debug__":Str))=false:=by decide):PE X (.Name x pos) (tC v) :=
 fun _ _ _ H _ I h=>zBH I hg hm hv ⟨v,H,I,r,h⟩ hn hd
variable {a b:Expr}{ta tb:TE}{pos:Pos}
def PC (X:Cx) (op:G6) (a b:Expr) (t:TE):Prop :=
 ∀ (pins:List (Addr×Obj)) (s:AG) (σ:St) (H:Hp) (Q:VK),Inv X pins σ H s->t σ H Q ->
  AQ (model X.prog X.w) X.A (eval a X.env) (fun v s₁=>AQ (model X.prog X.w) X.A (eval b X.env) (fun u s₂=>AQ (model X.prog X.w) X.A (BQ op v u) (EP X pins σ Q) X.xe s₂) X.xe s₁) X.xe s
variable {tA tB':TT}{rest:List Expr}
def tAnd (t u:TT):TT:=fun σ H Q=>t σ H fun c H1=>if c=true then u σ H1 Q else Q false H1
def tOr (t u:TT):TT:=fun σ H Q=>t σ H fun c H1=>if c=true then Q true H1 else u σ H1 Q
def tNot (t:TT):TT:=fun σ H Q=>t σ H fun c H1=>Q (!c) H1
theorem zMO(ha:PT X a tA):PW X (.BoolOp .And [a] pos) tA:=by
 intro wh pins s σ H Q I h
 refine isTrue_and (thn (ha pins s σ H Q I h) fun c s1 e=>?_)
 cases c with
 | true=>exact isTrue_and_nil e
 | false=>exact e
theorem zO3(ha:PT X a tA):PW X (.BoolOp .Or [a] pos) tA:=by
 intro wh pins s σ H Q I h
 refine isTrue_or (thn (ha pins s σ H Q I h) fun c s1 e=>?_)
 cases c with
 | false=>exact isTrue_or_nil e
 | true=>exact e
theorem zOu(ha:PT X a tA)(hb:PW X (.BoolOp .And (b::rest) pos) tB'):PW X (.BoolOp .And (a::b::rest) pos) (tAnd tA tB'):=by
 intro wh pins s σ H Q I h
 refine isTrue_and (thn (ha pins s σ H _ I h) fun c s1 ⟨H1,I1,q1⟩=>?_)
 cases c with
 | true=>exact hb wh pins s1 σ H1 Q I1 q1
 | false=>exact⟨H1,I1,q1⟩
theorem zPR(ha:PT X a tA)(hb:PW X (.BoolOp .Or (b::rest) pos) tB'):PW X (.BoolOp .Or (a::b::rest) pos) (tOr tA tB'):=by
 intro wh pins s σ H Q I h
 refine isTrue_or (thn (ha pins s σ H _ I h) fun c s1 ⟨H1,I1,q1⟩=>?_)
 cases c with
 | true=>exact⟨H1,I1,q1⟩
 | false=>exact hb wh pins s1 σ H1 Q I1 q1
theorem zO4(ha:PT X a tA):PT X (.UnaryOp .Not a pos) (tNot tA):=by
 intro pins s σ H Q I h
 exact isTrue_not (ha pins s σ H (fun c H1=>Q (!c) H1) I h)
def tAndV (ta tb:TE):TE:=fun σ H Q=>ta σ H fun x H1=>∃ c,x=.bl c/\if c=true then tb σ H1 Q else Q (.bl false) H1
def tOrV (ta tb:TE):TE:=fun σ H Q=>ta σ H fun x H1=>∃ c,x=.bl c/\if c=true then Q (.bl true) H1 else tb σ H1 Q
def tNotV (ta:TE):TE:=fun σ H Q=>ta σ H fun x H1=>∃ c,x=.bl c/\Q (.bl (!c)) H1
theorem zOL{op}{t:TE}(h:PE X a t):PE X (.BoolOp op [a] pos) t:=fun pins s σ H Q I hw=>BoolOp_one (h pins s σ H Q I hw)
theorem zOo(ha:PE X a ta)(hb:PE X (.BoolOp .And (b::rest) pos) tb):PE X (.BoolOp .And (a::b::rest) pos) (tAndV ta tb):=by
 intro pins s σ H Q I h
 refine BoolOp_and (thn (ha pins s σ H _ I h) fun v s1 ⟨x,H1,I1,r1,q1⟩=>?_)
 obtain⟨c,rfl,q1⟩:=q1
 cases r1
 refine Cv ?_
 cases c with
 | true=>exact hb pins s1 σ H1 Q I1 q1
 | false=>exact⟨.bl false,H1,I1,rfl,q1⟩
theorem zQA(ha:PE X a ta)(hb:PE X (.BoolOp .Or (b::rest) pos) tb):PE X (.BoolOp .Or (a::b::rest) pos) (tOrV ta tb):=by
 intro pins s σ H Q I h
 refine BoolOp_or (thn (ha pins s σ H _ I h) fun v s1 ⟨x,H1,I1,r1,q1⟩=>?_)
 obtain⟨c,rfl,q1⟩:=q1
 cases r1
 refine Cv ?_
 cases c with
 | false=>exact hb pins s1 σ H1 Q I1 q1
 | true=>exact⟨.bl true,H1,I1,rfl,q1⟩
theorem zOi(ha:PE X a ta):PE X (.UnaryOp .Not a pos) (tNotV ta):=by
 intro pins s σ H Q I h
 refine UnaryOp_ (thn (ha pins s σ H _ I h) fun v s1 ⟨x,H1,I1,r1,q1⟩=>?_)
 obtain⟨c,rfl,q1⟩:=q1
 cases r1
 exact not_of (Cv ⟨.bl (!c),H1,I1,rfl,q1⟩)
def tIf (t:TT) (ta tb:TE):TE:=fun σ H Q=>t σ H fun c H1=>if c=true then ta σ H1 Q else tb σ H1 Q
theorem zK7{c:Expr}(hc:PT X c tA)(ha:PE X a ta)(hb:PE X b tb):PE X (.IfExp c a b pos) (tIf tA ta tb):=by
 intro pins s σ H Q I h
 refine wpAny_IfExp (thn (hc pins s σ H _ I h) fun d s1 ⟨H1,I1,q1⟩=>?_)
 cases d with
 | true=>exact ha pins s1 σ H1 Q I1 q1
 | false=>exact hb pins s1 σ H1 Q I1 q1
end
def SqL (K:AM) (H:Hp) (a:Addr) (xs:List V):Prop :=
 Rd H a (.lst xs) \/
  ∃ (o:Obj) (its:Array AD) (n:Nat),K.lookup a=some o/\o.cls=.type "list"/\o.dict=none/\o.data=.seq its n/\its.size<=AB/\Vals xs its.toList
def SqT (K:AM) (H:Hp) (a:Addr) (xs:List V):Prop :=
 Rd H a (.tup xs) \/
  ∃ (o:Obj) (its:Array AD) (n:Nat),K.lookup a=some o/\o.cls=.type "tuple"/\o.data=.seq its n/\its.size<=AB/\Vals xs its.toList
def absV:AD->Option V
 | .none=>some .non
 | .bool b=>some (.bl b)
 | .int i _=>some (.int i)
 | .str x _=>some (.str x)
 | .bytes b _=>some (.byt b)
 | .float b _=>some (.flt b)
 | .ref a=>some (.ref a)
 | .type n=>some (.ty n)
 | _=>none
theorem RelV.abs{x:V}{u:AD}(r:RelV x u):absV u=some x:=by
 cases x with
 | non=>cases r; rfl
 | bl _=>cases r; rfl
 | int _=>obtain⟨t,rfl⟩:=r; rfl
 | str _=>obtain⟨t,rfl⟩:=r; rfl
 | byt _=>obtain⟨t,rfl⟩:=r; rfl
 | flt _=>obtain⟨t,rfl⟩:=r; rfl
 | ref _=>cases r; rfl
 | ty _=>cases r; rfl
theorem RelV.inj{x y:V}{u:AD}(r:RelV x u)(q:RelV y u):x=y:=Ak (r.abs.symm.trans q.abs)
theorem Vals.inj:∀ {xs ys:List V} {us:List AD},Vals xs us->Vals ys us->xs=ys
 | _,_,_,.nil,.nil=>rfl
 | _,_,_,.cons r t,.cons r' t'=>by rw[r.inj r',Vals.inj t t']
section
variable {X:Cx}{pins:List (Addr×Obj)}{σ:St}{H:Hp}{s:AG}{a:Addr}{xs ys:List V}
theorem SqL.of{K:AM}(h:H a=some (.lst xs)):SqL K H a xs:=.inl (.inl h)
theorem SqT.of{K:AM}(h:H a=some (.tup xs)):SqT K H a xs:=.inl (.inl h)
theorem Inv.list(I:Inv X pins σ H s)(h:SqL X.K H a xs):∃ its:List AD,Vals xs its/\PlainL s.heap a its.toArray/\xs.length<=AB:=by
 rcases h with h | ⟨o,its,n,hk,hc,hd,hs,hz,r⟩
 ·obtain⟨z,its,n,r,e⟩:=h.ok I.hok
  exact⟨its,r,⟨_,n,e,rfl,rfl,rfl⟩,z⟩
 ·refine⟨its.toList,r,⟨o,n,I.kIn a o hk,hc,hd,by simpa using hs⟩,?_⟩
  have e:=r.length
  simp only[FE]at e
  lia
theorem Inv.tuple(I:Inv X pins σ H s)(h:SqT X.K H a xs):∃ its:List AD,Vals xs its/\Iu s.heap a its.toArray/\xs.length<=AB:=by
 rcases h with h | ⟨o,its,n,hk,hc,hs,hz,r⟩
 ·obtain⟨z,its,r,p⟩:=h.ok I.hok
  exact⟨its,r,p.tup,z⟩
 ·refine⟨its.toList,r,⟨o,I.kIn a o hk,hc,n,by simpa using hs⟩,?_⟩
  have e:=r.length
  simp only[FE]at e
  lia
theorem Inv.list_inj(I:Inv X pins σ H s)(h:SqL X.K H a xs)(h':SqL X.K H a ys):xs=ys:=by
 obtain⟨its,r,⟨o,n,e,_,_,d⟩,_⟩:=I.list h
 obtain⟨its',r',⟨o',n',e',_,_,d'⟩,_⟩:=I.list h'
 rw[e]at e'; cases e'
 rw[d]at d'
 injection d' with d1 _
 have:its=its':=by simpa using congrArg Ie d1
 subst this
 exact r.inj r'
theorem Inv.tuple_inj(I:Inv X pins σ H s)(h:SqT X.K H a xs)(h':SqT X.K H a ys):xs=ys:=by
 obtain⟨its,r,⟨o,e,_,n,d⟩,_⟩:=I.tuple h
 obtain⟨its',r',⟨o',e',_,n',d'⟩,_⟩:=I.tuple h'
 rw[e]at e'; cases e'
 rw[d]at d'
 injection d' with d1 _
 have:its=its':=by simpa using congrArg Ie d1
 subst this
 exact r.inj r'
end
abbrev Cx.wish (X:Cx) (E:AD->AG->Prop):Cx:={ X with xe:=E }
abbrev Cx.nox (X:Cx):Cx:=X.wish fun _ _=>False
theorem Cx.Ok.wish{X:Cx}(ok:X.Ok)(E:AD->AG->Prop):(X.wish E).Ok :=
 ⟨ok.mod,ok.kind,ok.glob,ok.blt,ok.above,ok.inj,ok.has,ok.cab,ok.hd,ok.frames,ok.stk,ok.exf,ok.bs,ok.bsz,ok.noex,ok.exfs,ok.funs,ok.frf⟩
theorem Cx.Ok.unwish{X:Cx}{E:AD->AG->Prop}(ok:(X.wish E).Ok):X.Ok :=
 ⟨ok.mod,ok.kind,ok.glob,ok.blt,ok.above,ok.inj,ok.has,ok.cab,ok.hd,ok.frames,ok.stk,ok.exf,ok.bs,ok.bsz,ok.noex,ok.exfs,ok.funs,ok.frf⟩
section
variable {X:Cx}{pins:List (Addr×Obj)}{σ:St}{H:Hp}{s:AG}{E:AD->AG->Prop}
theorem Inv.wish(I:Inv X pins σ H s)(E:AD->AG->Prop):Inv (X.wish E) pins σ H s:=⟨I.ok.wish E,I.os,I.bare,I.base,I.loc,I.cell,I.free,I.freeC,I.pin,I.hok,I.len⟩
theorem Inv.unwish(I:Inv (X.wish E) pins σ H s):Inv X pins σ H s:=⟨I.ok.unwish,I.os,I.bare,I.base,I.loc,I.cell,I.free,I.freeC,I.pin,I.hok,I.len⟩
theorem SP.unwish{D:Ends}{f:Flow}{s':AG}(h:SP (X.wish E) pins D f s'):SP X pins D f s':=by
 cases f with
 | next=>obtain⟨σ',H',I,q⟩:=h; exact⟨σ',H',I.unwish,q⟩
 | brk=>obtain⟨σ',H',I,q⟩:=h; exact⟨σ',H',I.unwish,q⟩
 | cont=>obtain⟨σ',H',I,q⟩:=h; exact⟨σ',H',I.unwish,q⟩
 | ret u=>obtain⟨v,σ',H',I,r,q⟩:=h; exact⟨v,σ',H',I.unwish,r,q⟩
theorem PSs.nox{st:List Stmt}{t:TS}(h:PSs X.nox st t):PSs X st t:=fun pins s σ H D I hw =>
 B3 (h pins s σ H D (I.wish _) hw) (fun _ _ q=>q.unwish) fun _ _ z=>BU z
end
section
variable {X:Cx}{st:Stmt}{rest:List Stmt}{t u:TS}{e:Expr}{te:TE}{pos:Pos}
def tNext:TS:=fun D σ H=>D.nx σ H
def tSeq (t u:TS):TS:=fun D σ H=>t { D with nx:=u D } σ H
theorem zNV:PSs X [] tNext:=fun _ _ σ H _ I h=>FJ ⟨σ,H,I,h⟩
theorem zLN(h1:PS X st t)(h2:PSs X rest u):PSs X (st::rest) (tSeq t u):=by
 intro pins s σ H D I h
 refine JI (thn (h1 pins s σ H { D with nx:=u D } I h) fun f s1 q=>?_)
 cases f with
 | next =>
  obtain⟨σ',H',I',q⟩:=q
  exact h2 pins s1 σ' H' D I' q
 | ret v=>exact q
 | brk=>exact q
 | cont=>exact q
theorem zNG(h1:PS X st t):PSs X [st] t:=by
 intro pins s σ H D I h
 refine JI (thn (h1 pins s σ H D I h) fun f s1 q=>?_)
 cases f with
 | next=>exact FJ q
 | ret v=>exact q
 | brk=>exact q
 | cont=>exact q
theorem Inv.quiet{pins:List (Addr×Obj)}{σ:St}{H:Hp}{s:AG}(I:Inv X pins σ H s):interactive X.env=false:=by simp[interactive,I.ok.kind]
def tDrop (te:TE):TS:=fun D σ H=>te σ H fun _ H1=>D.nx σ H1
theorem zM6(he:PE X e te)(hs:Fh e none pos.line X.env=pure false:=by rfl):PS X (.Expr e pos) (tDrop te):=by
 intro pins s σ H D I h
 exact wpAny_Expr_any (thn (he pins s σ H _ I h) fun v s1 ⟨x,H1,I1,r1,q1⟩=>⟨σ,H1,I1,q1⟩) I.quiet hs
def tRet (te:TE):TS:=fun D σ H=>te σ H D.rt
theorem zOe(he:PE X e te):PS X (.Return (some e) pos) (tRet te):=by
 intro pins s σ H D I h
 exact wpAny_Return_some (thn (he pins s σ H _ I h) fun v s1 ⟨x,H1,I1,r1,q1⟩=>⟨x,σ,H1,I1,r1,q1⟩)
def tIfS (c:TT) (t u:TS):TS:=fun D σ H=>c σ H fun b H1=>if b=true then t D σ H1 else u D σ H1
theorem zQd{c:Expr}{a b:List Stmt}{tc:TT}(hc:PT X c tc)(ha:PSs X a t)(hb:PSs X b u):PS X (.If c a b pos) (tIfS tc t u):=by
 intro pins s σ H D I h
 refine wpAny_If (thn (hc pins s σ H _ I h) fun d s1 ⟨H1,I1,q1⟩=>?_)
 cases d with
 | true=>exact ha pins s1 σ H1 D I1 q1
 | false=>exact hb pins s1 σ H1 D I1 q1
end
abbrev TG:=V->St->Hp->(St->Hp->Prop)->Prop
abbrev TGs:=List V->St->Hp->(St->Hp->Prop)->Prop
def PG (X:Cx) (target:Expr) (t:TG):Prop :=
 ∀ (pins:List (Addr×Obj)) (s:AG) (σ:St) (H:Hp) (v:V) (u:AD) (Q:St->Hp->Prop),Inv X pins σ H s->RelV v u->t v σ H Q ->
  AQ (model X.prog X.w) X.A (assign target X.env u) (fun _ s'=>∃ σ' H',Inv X pins σ' H' s'/\Q σ' H') X.xe s
def PGs (X:Cx) (ts:List Expr) (t:TGs):Prop :=
 ∀ (pins:List (Addr×Obj)) (s:AG) (σ:St) (H:Hp) (vs:List V) (us:List AD) (Q:St->Hp->Prop),Inv X pins σ H s->Vals vs us->t vs σ H Q ->
  AQ (model X.prog X.w) X.A (Dt ((BS ts X.env).map (·.2)) us) (fun _ s'=>∃ σ' H',Inv X pins σ' H' s'/\Q σ' H') X.xe s
abbrev TSet:=V->V->V->Hp->(Hp->Prop)->Prop
def PSet (X:Cx) (t:TSet):Prop :=
 ∀ (pins:List (Addr×Obj)) (s:AG) (σ:St) (H:Hp) (o i v:V) (ov iv u:AD) (Q:Hp->Prop),Inv X pins σ H s->RelV o ov->RelV i iv->RelV v u->t o i v H Q ->
  AQ (model X.prog X.w) X.A (Kz ov iv u) (fun _ s'=>∃ H',Inv X pins σ H' s'/\Q H') X.xe s
section
variable {X:Cx}{pos:Pos}
def gName (i:Nat):TG:=fun v σ H Q=>Q (σ.set i (some v)) H
theorem zHt{i:Nat}{x:Str}(hN:X.N.Nodup)(hi:X.N[i]?=some x)(hx:Loc X.env.scope x)(hf:X.fn x=true\/X.env.scope.names.lookup x=some .local:=by first | exact .inl rfl | exact .inr rfl | assumption):PG X (.Name x pos) (gName i):=by
 intro pins s σ H v u Q I r h
 exact wpAny_assign_Name (zBe I hN hi hx r (fun s' I'=>⟨_,H,I',h⟩) hf)
def gNil:TGs:=fun vs σ H Q=>vs=[]/\Q σ H
def gCons (t:TG) (u:TGs):TGs:=fun vs σ H Q=>∃ v r,vs=v::r/\t v σ H fun σ' H'=>u r σ' H' Q
theorem zN9:PGs X [] gNil:=by
 intro pins s σ H vs us Q I r h
 obtain⟨e,h⟩:=h
 subst e
 cases r
 exact GM ⟨σ,H,I,h⟩
theorem zK9{e:Expr}{es:List Expr}{t:TG}{u:TGs}(h1:PG X e t)(h2:PGs X es u)
  (hs:(BS (e::es) X.env).map (·.2)=assign e X.env::(BS es X.env).map (·.2):=by rfl):PGs X (e::es) (gCons t u):=by
 intro pins s σ H vs us Q I r h
 obtain⟨v,vr,e1,h⟩:=h
 subst e1
 cases r with
 | cons r rr =>
  rw[hs]
  refine Ci (thn (h1 pins s σ H _ _ _ I r h) fun _ s1 ⟨σ1,H1,I1,q1⟩=>?_)
  exact h2 pins s1 σ1 H1 _ _ Q I1 rr q1
def gTup (K:AM) (n:Nat) (t:TGs):TG:=fun v σ H Q=>∃ a xs,v=.ref a/\SqT K H a xs/\xs.length=n/\t xs σ H Q
theorem zPJ{es:List Expr}{k:Nat}{t:TGs}{n:Nat}(hc:X.calm=true)(h:PGs X es t)
  (hn:(BS es X.env).length=n:=by rfl) (hst:(BS es X.env).findIdx? (·.1)=none:=by rfl):PG X (.Tuple es k pos) (gTup X.K n t):=by
 intro pins s σ H v u Q I r hw
 obtain⟨a,xs,e1,hq,hl,hw⟩:=hw
 subst e1
 cases r
 obtain⟨its,rv,ht,hz⟩:=I.tuple hq
 refine assign_Tuple_tuple (I.ok.hd hc) ht (by simp[hn,← hl,rv.length]) hst fun h' hx=>?_
 have I1:Inv X pins σ H { s with heap:=h' }:=I.kept (t':=s.toks) fun b o e=>hx b o (Ae (AK e)) e
 exact h pins _ σ H xs _ Q I1 (by simpa using rv) hw
def gSub (to ti:TE) (t:TSet):TG:=fun v σ H Q=>to σ H fun o H1=>ti σ H1 fun i H2=>t o i v H2 fun H3=>Q σ H3
theorem zOJ{o i:Expr}{to ti:TE}{t:TSet}(ho:PE X o to)(hi:PE X i ti)(hs:PSet X t)
  (ha:∀ v,assign (.Subscript o i pos) X.env v=(do
   let ov ← holding [v] (eval o X.env)
   let iv ← holding [v,ov] (eval i X.env)
   Iv pos
   holding [v,ov,iv] (Kz ov iv v)
   release [v,ov,iv] []):=by intro _; rfl):PG X (.Subscript o i pos) (gSub to ti t):=by
 intro pins s σ H v u Q I r h
 rw[ha]
 refine AA (Br (thn (ho pins s σ H _ I h) fun ov s1 ⟨x,H1,I1,r1,q1⟩=>?_))
 refine AA (Br (thn (hi pins s1 σ H1 _ I1 q1) fun iv s2 ⟨y,H2,I2,r2,q2⟩=>?_))
 refine AA (Du (AA (Br (thn (hs pins s2 σ H2 x y v ov iv u _ I2 r1 r2 r q2) fun _ s3 ⟨H3,I3,q3⟩=>?_))))
 exact wpAny_release ⟨σ,H3,I3,q3⟩
def tAsg (te:TE) (g:TG):TS:=fun D σ H=>te σ H fun x H1=>g x σ H1 D.nx
theorem zGc{tg e:Expr}{te:TE}{g:TG}(he:PE X e te)(hg:PG X tg g)(hs:Cp [tg] e pos.line X.env=pure false:=by rfl)(hw:Cq [tg] e X.env=pure none:=by rfl)
  (h1:(BS [tg] X.env).map (·.2)=[assign tg X.env]:=by rfl):PS X (.Assign [tg] e pos) (tAsg te g):=by
 intro pins s σ H D I h
 refine wpAny_Assign_stores (thn (he pins s σ H _ I h) fun v s1 ⟨x,H1,I1,r1,q1⟩=>?_) hs hw
 rw[h1]
 exact thn (hg pins s1 σ H1 x v _ I1 r1 q1) fun _ s2 q=>q
theorem zOa{i:Nat}{x:Str}{e:Expr}{te:TE}{pos':Pos}(hN:X.N.Nodup)(hi:X.N[i]?=some x)(hx:Loc X.env.scope x)(he:PE X e te)(hs:Fh e (some (.Name x pos')) pos.line X.env=pure false:=by rfl)(hf:X.fn x=true\/X.env.scope.names.lookup x=some .local:=by first | exact .inl rfl | exact .inr rfl | assumption) :
  PS X (.Assign [.Name x pos'] e pos) (tAsg te (gName i)):=by
 intro pins s σ H D I h
 refine wpAny_Assign_Name (thn (he pins s σ H _ I h) fun v s1 ⟨y,H1,I1,r1,q1⟩=>?_) hs
 exact zBe I1 hN hi hx r1 (fun s2 I2=>⟨_,H1,I2,q1⟩) hf
def tPar (i j:Nat) (ta:TA):TS:=fun D σ H=>ta σ H fun vs H1=>∃ v w,vs=[v,w]/\D.nx ((σ.set i (some v)).set j (some w)) H1
theorem zOE{i j:Nat}{x y:Str}{a b:Expr}{ta:TA}{px py pt:Pos}{kt k2 pt2}(hc:X.calm=true)(hN:X.N.Nodup)(hi:X.N[i]?=some x)(hj:X.N[j]?=some y)(hij:i≠j)
  (hx:X.env.scope.names.lookup x=some .local) (hy:X.env.scope.names.lookup y=some .local) (ha:PA X [a,b] ta)
  (hw:Cq [.Tuple [.Name x px,.Name y py] kt pt] (.Tuple [a,b] k2 pt2) X.env=pure (some [x,y]))
  (hs:Cp [.Tuple [.Name x px,.Name y py] kt pt] (.Tuple [a,b] k2 pt2) pos.line X.env=pure false:=by rfl) :
  PS X (.Assign [.Tuple [.Name x px,.Name y py] kt pt] (.Tuple [a,b] k2 pt2) pos) (tPar i j ta):=by
 intro pins s σ H D I h
 rw[Jh]
 refine AA (Du ?_)
 rw[hs]
 refine AA (AJ ?_)
 rw[if_neg ∅]
 refine AA (Tuple_ (thn (ha _ pins s σ H _ I h) fun us s1 ⟨vs,H1,I1,r1,q1⟩=>?_))
 obtain⟨v,w,e1,q1⟩:=q1
 subst e1
 obtain⟨u1,u2,rfl,rv,rw'⟩:∃ u1 u2,us=[u1,u2]/\RelV v u1/\RelV w u2:=by
  cases r1 with
  | cons p q =>
   cases q with
   | cons p' q' =>
    cases q'
    exact⟨_,_,rfl,p,p'⟩
 refine Au ?_ (by show 2<=AB; decide)
 have I2:Inv X pins σ H1 { s1 with heap:=s1.heap.push { cls:=.type "tuple",data:=.seq [u1,u2].toArray } }:=I1.kept (t':=s1.toks) fun b o e=>AC _ e
 rw[hw]
 refine AA (AJ ?_)
 show AQ (model X.prog X.w) X.A (do rule "assign.swapped-stores"; let items ← IJ (.ref s1.heap.objs.size) 2 none; Dt [fun v=>Dw X.env y v,fun v=>Dw X.env x v] items.reverse; pure Gv) _ _ _
 refine AA (C5 (AA (Iw (items:=#[u1,u2]) (I.ok.hd hc) (Ji s1.heap _) fun h' hx'=>?_)))
 have I3:=I2.kept (h':=h') (t':=s1.toks) fun b o e=>hx' b o (Ae (AK e)) e
 show AQ _ _ (Dt [fun v=>Dw X.env y v,fun v=>Dw X.env x v] [u2,u1] >>= fun _=>pure Gv) _ _ _
 refine AA (Ci (EK (zBe I3 hN hj (.inl hy) rw' (fun s2 I4=>?_) (.inr hy))))
 refine Ci (EK (zBe I4 hN hi (.inl hx) rv (fun s3 I5=>GM (AJ ?_)) (.inr hx)))
 rw[FN _ _ (BD hij)]at I5
 exact⟨_,H1,I5,q1⟩
end
section
variable {X:Cx}{pos:Pos}
def tWhile (c:TT) (tb:TS):TS:=fun D σ H=>∃ W:Nat->St->Hp->Prop,(∃ m,W m σ H)/\∀ m σ H,W m σ H ->
 c σ H fun b H1=>if b=true then ∃ N:St->Hp->Prop,(∀ σ' H',N σ' H'->∃ m',m' < m/\W m' σ' H')/\tb { D with nx:=N,ct:=N,bk:=D.nx } σ H1 else D.nx σ H1
theorem zLY{c:Expr}{body:List Stmt}{tc:TT}{tb:TS}(hp:Hc (model X.prog X.w) X.A X.env X.xe)(hc:PT X c tc)(hb:PSs X body tb):PS X (.While c body [] pos) (tWhile tc tb):=by
 intro pins s σ H D I h
 obtain⟨W,⟨m0,w0⟩,turn⟩:=h
 refine wpAny_While (codeAny_whileLoop (fun n s'=>∃ σ' H',Inv X pins σ' H' s'/\W n σ' H') ?_ m0 ⟨σ,H,I,w0⟩)
 rintro n s1 ⟨σ1,H1,I1,w1⟩
 refine Co hp (thn (hc pins s1 σ1 H1 _ I1 (turn n σ1 H1 w1)) fun b s2 ⟨H2,I2,q2⟩=>?_)
 cases b with
 | true =>
  obtain⟨N,hN,q2⟩:=q2
  rw[if_pos rfl]
  refine Co hp (thn (hb pins s2 σ1 H2 _ I2 q2) fun f s3 q3=>?_)
  cases f with
  | next =>
   obtain⟨σ3,H3,I3,n3⟩:=q3
   obtain⟨m',hm,w3⟩:=hN σ3 H3 n3
   exact⟨m',hm,σ3,H3,I3,w3⟩
  | cont =>
   obtain⟨σ3,H3,I3,n3⟩:=q3
   obtain⟨m',hm,w3⟩:=hN σ3 H3 n3
   exact⟨m',hm,σ3,H3,I3,w3⟩
  | brk=>exact q3
  | ret v=>exact q3
 | false =>
  rw[if_neg AO]
  exact FJ ⟨σ1,H2,I2,q2⟩
end
structure It where
 go:Nat->Hp->Prop
 yld:Nat->Hp->V->Hp->Prop
 stop:Nat->Hp->Prop
def FpOk (X:Cx) (pins:List (Addr×Obj)) (H:Hp) (b:Addr):Prop :=
 H b=none/\b≠X.env.locals/\b∉X.fs/\(b∈X.ex\/X.s₀.heap.objs.size<=b)/\(∀ x c,X.env.cells.lookup x=some c->c≠b)/\∀ p∈X.pn++pins,p.1≠b
theorem Inv.fpOk{X:Cx}{pins:List (Addr×Obj)}{σ:St}{H H':Hp}{s:AG}{b:Addr}(I:Inv X pins σ H s)(hb:s.heap.objs.size<=b)(hn:H' b=none):FpOk X pins H' b:=by
 refine⟨hn,B4 (AY I.lt hb),I.nofs hb,.inr (Ai I.sz hb),fun x c e z=>?_,fun p hp z=>?_⟩
 ·obtain⟨v,q⟩:=I.cell x c e
  exact absurd (AY q.lt (by rw[z]; exact hb)) (BE _)
 ·exact absurd (AY (AK (I.pin p hp).1) (by rw[z]; exact hb)) (BE _)
structure Turn(P:Am)(w:A0)(K:AM)(tg:Expr)(J:It)(fp:List Addr)(it:Addr)(tn:Nat->Heap->Prop):Prop where
 mem:it∈fp
 obj:∀ i h,tn i h->∀ b∈fp,∃ o,h.get? b=some o/\∀ v,o.data≠.cell v
 keep:∀ i h h',tn i h->(∀ b∈fp,∀ o,h.get? b=some o->h'.get? b=some o)->tn i h'
 item:∀ (X:Cx),X.prog=P->X.w=w->X.K=K->X.calm=true->∀ (i:Nat) (pins:List (Addr×Obj)) (s:AG) (σ:St) (H:Hp) (E:AD->AG->Prop),Inv X pins σ H s->(∀ b∈fp,FpOk X pins H b)->tn i s.heap->J.go i H ->
  AQ (model P w) X.A (D5 (.ref it)) (fun r s1=>∃ u,r=some u /\
   AQ (model P w) X.A (FK tg (.ref it) u) (fun _ s2=>∃ x H',Inv X pins σ H' s2/\RelV x u/\J.yld i H x H'/\tn (i+1) s2.heap/\∀ b∈fp,H' b=none) E s1) E s
 done:∀ (X:Cx),X.prog=P->X.w=w->X.K=K->X.calm=true->∀ (i:Nat) (pins:List (Addr×Obj)) (s:AG) (σ:St) (H:Hp) (E:AD->AG->Prop),Inv X pins σ H s->(∀ b∈fp,FpOk X pins H b)->tn i s.heap->J.stop i H ->
  AQ (model P w) X.A (D5 (.ref it)) (fun r s1=>r=none/\Inv X pins σ H s1) E s
 self:∀ (A:BJ) (i:Nat) (s:AG) (Q:AD->AG->Prop) (E:AD->AG->Prop),tn i s.heap->Q (.ref it) s->AQ (model P w) A (GB (.ref it)) Q E s
abbrev TI:=St->Hp->(It->Hp->Prop)->Prop
def PIE (X:Cx) (pins:List (Addr×Obj)) (σ:St) (tg:Expr) (R:It->Hp->Prop) (itv:AD) (s2:AG):Prop :=
 ∃ (it:Addr) (fp:List Addr) (tn:Nat->Heap->Prop) (J:It) (H':Hp),itv=.ref it/\Inv X pins σ H' s2/\Turn X.prog X.w X.K tg J fp it tn/\tn 0 s2.heap/\(∀ b∈fp,FpOk X pins H' b)/\R J H'
def PI (X:Cx) (tg iter:Expr) (wi:TI):Prop :=
 ∀ (pins:List (Addr×Obj)) (s:AG) (σ:St) (H:Hp) (R:It->Hp->Prop),Inv X pins σ H s->wi σ H R ->
  AQ (model X.prog X.w) X.A (eval iter X.env) (fun v s1=>AQ (model X.prog X.w) X.A (GB v) (PIE X pins σ tg R) X.xe s1) X.xe s
theorem zFw{M:Model}{A:BJ}{E:AD->AG->Prop}{s:AG}{tg:Expr}{it:Addr}{u:AD}{o:Obj}{n:String}{vs:Array AD}{Q:Unit->AG->Prop}(ho:s.heap.get? it=some o)(hc:o.cls=.type n)(hd:o.data=.fields vs)
  (hn:["enumerate","zip","dict_itemiterator","dict_reverseitemiterator","odict_iterator","itertools.zip_longest","itertools.pairwise"].contains n=false) (hQ:Q () s):AQ M A (FK tg (.ref it) u) Q E s:=by
 unfold FK
 cases tg <;> first
  | exact AJ hQ
  | (cases u <;> first
    | exact AJ hQ
    | (
      refine AA (Ig ho ?_)
      rw[hc,hd]
      show AQ M A (if (["enumerate","zip","dict_itemiterator","dict_reverseitemiterator","odict_iterator","itertools.zip_longest","itertools.pairwise"].contains n && vs[0]? == some (Cu _))=true then _ else _) Q E s
      rw[if_neg (by intro h; rw[hn,IR]at h; cases h)]
      exact AJ hQ))
def Itl (K:AM) (a:Addr):It :=
 ⟨fun i H=>∃ xs x,SqL K H a xs/\xs[i]?=some x,fun i H x H'=>H'=H/\∀ xs,SqL K H a xs->xs[i]?=some x,fun i H=>∃ xs,SqL K H a xs/\xs.length<=i⟩
def Itt (K:AM) (a:Addr):It :=
 ⟨fun i H=>∃ xs x,SqT K H a xs/\xs[i]?=some x,fun i H x H'=>H'=H/\∀ xs,SqT K H a xs->xs[i]?=some x,fun i H=>∃ xs,SqT K H a xs/\xs.length<=i⟩
def Itr (lo:Int) (n:Nat):It:=⟨fun i _=>i < n,fun i H x H'=>H'=H/\x=.int (lo+i),fun i _=>n<=i⟩
theorem zJk{P:Am}{w:A0}{K:AM}{tg:Expr}(a it:Addr):Turn P w K tg (Itl K a) [it] it (fun i h=>h.IsListIter it a i) where
 mem:=by simp
 obj:=fun i h st b hb=>by
  have e:b=it:=by simpa using hb
  subst e
  obtain⟨o,e,c,d⟩:=st
  exact⟨o,e,fun v z=>by rw[d]at z; cases z⟩
 keep:=fun i h h' st k=>st.at fun o e=>k it (by simp) o e
 item:=by
  intro X hP hw hK hc i pins s σ H E I hf st hg
  subst hP hw hK
  obtain⟨xs,x,hq,hx⟩:=hg
  obtain⟨its,rv,p,hz⟩:=I.list hq
  obtain⟨u,hu,ru⟩:=rv.get hx
  obtain⟨f0,f1,f2,f3,f4,f5⟩:=hf it (by simp)
  refine wpAny_pyNext_list_item st p.isList (x:=u) (by simpa using hu) fun h' st' sb=>?_
  have I1:Inv X pins σ H { s with heap:=h' }:=I.turned (t':=s.toks) (fun b o hb e=>(sb.2 b hb).trans e) f0 f1 f3 f4 f5
  obtain⟨o,e,c,d⟩:=id st'
  exact⟨u,rfl,zFw (s:={ s with heap:=h' }) e c d ∅ ⟨x,H,I1,ru,⟨rfl,fun ys hy=>by rw[I.list_inj hy hq]; exact hx⟩,st',fun b hb=>(hf b hb).1⟩⟩
 done:=by
  intro X hP hw hK hc i pins s σ H E I hf st hg
  subst hP hw hK
  obtain⟨xs,hq,hx⟩:=hg
  obtain⟨its,rv,p,hz⟩:=I.list hq
  obtain⟨f0,f1,f2,f3,f4,f5⟩:=hf it (by simp)
  have hl:=rv.length
  exact wpAny_pyNext_list_end (I.ok.hd hc) st p.isList (by simp; lia) fun h' eb=>⟨rfl,I.turned (t':=s.toks) (fun b o hb e=>eb b o hb e) f0 f1 f3 f4 f5⟩
 self:=fun _ _ _ _ _ st h=>wpAny_pyIter_listiter st h
theorem zIV{P:Am}{w:A0}{K:AM}{tg:Expr}(a it:Addr):Turn P w K tg (Itt K a) [it] it (fun i h=>h.IsTupleIter it a i) where
 mem:=by simp
 obj:=fun i h st b hb=>by
  have e:b=it:=by simpa using hb
  subst e
  obtain⟨o,e,c,d⟩:=st
  exact⟨o,e,fun v z=>by rw[d]at z; cases z⟩
 keep:=fun i h h' st k=>st.at fun o e=>k it (by simp) o e
 item:=by
  intro X hP hw hK hc i pins s σ H E I hf st hg
  subst hP hw hK
  obtain⟨xs,x,hq,hx⟩:=hg
  obtain⟨its,rv,p,hz⟩:=I.tuple hq
  obtain⟨u,hu,ru⟩:=rv.get hx
  obtain⟨f0,f1,f2,f3,f4,f5⟩:=hf it (by simp)
  refine wpAny_pyNext_tuple_item st (show s.heap.IsTuple a its.toArray from p) (x:=u) (by simpa using hu) fun h' st' sb=>?_
  have I1:Inv X pins σ H { s with heap:=h' }:=I.turned (t':=s.toks) (fun b o hb e=>(sb.2 b hb).trans e) f0 f1 f3 f4 f5
  obtain⟨o,e,c,d⟩:=id st'
  exact⟨u,rfl,zFw (s:={ s with heap:=h' }) e c d ∅ ⟨x,H,I1,ru,⟨rfl,fun ys hy=>by rw[I.tuple_inj hy hq]; exact hx⟩,st',fun b hb=>(hf b hb).1⟩⟩
 done:=by
  intro X hP hw hK hc i pins s σ H E I hf st hg
  subst hP hw hK
  obtain⟨xs,hq,hx⟩:=hg
  obtain⟨its,rv,p,hz⟩:=I.tuple hq
  obtain⟨f0,f1,f2,f3,f4,f5⟩:=hf it (by simp)
  have hl:=rv.length
  exact wpAny_pyNext_tuple_end (I.ok.hd hc) st (show s.heap.IsTuple a its.toArray from p) (by simp; lia) fun h' eb=>⟨rfl,I.turned (t':=s.toks) (fun b o hb e=>eb b o hb e) f0 f1 f3 f4 f5⟩
 self:=fun _ _ _ _ _ st h=>wpAny_pyIter_tupleiter st h
theorem zIe{P:Am}{w:A0}{K:AM}{tg:Expr}(it:Addr)(lo:Int)(n:Nat):Turn P w K tg (Itr lo n) [it] it (fun i h=>IsRangeIter h it (lo+(i:Nat) * 1) ((n:Int) - (i:Nat)) 1) where
 mem:=by simp
 obj:=fun i h st b hb=>by
  have e:b=it:=by simpa using hb
  subst e
  exact⟨_,st,fun v z=>by
   have z':Data.fields _=J8 v:=z
   cases z'⟩
 keep:=fun i h h' st k=>k it (by simp) _ st
 item:=by
  intro X hP hw hK hc i pins s σ H E I hf st hg
  subst hP hw hK
  obtain⟨f0,f1,f2,f3,f4,f5⟩:=hf it (by simp)
  have W:=Walks.range (prog:=X.prog) (w:=X.w) (I.ok.hd hc) it lo 1 n
  refine W.item i s _ _ hg st fun v h' tk hv st' kk=>?_
  obtain⟨t,rfl⟩:=hv
  have I1:Inv X pins σ H { s with heap:=h',toks:=tk }:=I.turned (fun b o hb e=>kk b o (by simpa using hb) e) f0 f1 f3 f4 f5
  refine⟨_,rfl,zFw (s:={ s with heap:=h',toks:=tk }) (n:="range_iterator") st' rfl rfl ∅ ⟨.int (lo+i),H,I1,⟨t,?_⟩,⟨rfl,rfl⟩,st',fun b hb=>(hf b hb).1⟩⟩
  rw[Int.mul_one]
 done:=by
  intro X hP hw hK hc i pins s σ H E I hf st hg
  subst hP hw hK
  obtain⟨f0,f1,f2,f3,f4,f5⟩:=hf it (by simp)
  exact wpAny_pyNext_range_end (I.ok.hd hc) st (by have:n<=i:=hg; lia) fun h' eb=>⟨rfl,I.turned (t':=s.toks) (fun b o hb e=>eb b o hb e) f0 f1 f3 f4 f5⟩
 self:=fun _ _ _ _ _ st h=>wpAny_pyIter_rangeiter st h
section
variable {X:Cx}{tg:Expr}
theorem zF9{pins:List (Addr×Obj)}{σ:St}{H:Hp}{s:AG}{R:It->Hp->Prop}{E:AD->AG->Prop}{lo hi:Int}{t u v:Tok}{tk:Nat}(I:Inv X pins σ H s)(h1:-(2 ^ 62)<=lo)(h2:lo < 2 ^ 62)(h3:-(2 ^ 62)<=hi)(h4:hi < 2 ^ 62)
  (q:R (Itr lo (hi - lo).toNat) H):AQ (model X.prog X.w) X.A (GB (.ref s.heap.objs.size)) (PIE X pins σ tg R) E { s with heap:=s.heap.push { cls:=.type "range",data:=.fields #[.int lo t,.int hi u,.int 1 v] },toks:=tk }:=by
 refine wpAny_pyIter_range (IsRange.new ..) (JJ h1 h2 h3 h4) ?_
 have I1:Inv X pins σ H { s with heap:=s.heap.push { cls:=.type "range",data:=.fields #[.int lo t,.int hi u,.int 1 v] },toks:=tk }:=I.kept fun b o e=>AC _ e
 refine⟨(s.heap.push { cls:=.type "range",data:=.fields #[.int lo t,.int hi u,.int 1 v] }).objs.size,[(s.heap.push { cls:=.type "range",data:=.fields #[.int lo t,.int hi u,.int 1 v] }).objs.size],_,_,H,rfl,
  I1.kept (t':=tk) fun b o e=>AC _ e,zIe _ lo (hi - lo).toNat,?_,fun b hb=>?_,q⟩
 ·have e1:lo+((0:Nat):Int) * 1=lo:=by simp
  have e2:(((hi - lo).toNat:Nat):Int) - ((0:Nat):Int)=CD lo hi 1:=by rw[Kb]; split <;> lia
  show IsRangeIter _ _ (lo+((0:Nat):Int) * 1) ((((hi - lo).toNat:Nat):Int) - ((0:Nat):Int)) 1
  rw[e1,e2]
  exact AI _ rfl
 ·have e:b=(s.heap.push { cls:=.type "range",data:=.fields #[.int lo t,.int hi u,.int 1 v] }).objs.size:=by simpa using hb
  subst e
  exact I1.fpOk (AF _) (I1.hok.fresh (AF _))
def iRng1 (ta:TA):TI:=fun σ H R=>ta σ H fun vs H1=>∃ j:Int,vs=[.int j]/\-(2 ^ 62)<=j/\j < 2 ^ 62/\R (Itr 0 j.toNat) H1
def iRng2 (ta:TA):TI:=fun σ H R=>ta σ H fun vs H1=>∃ i j:Int,vs=[.int i,.int j]/\(-(2 ^ 62)<=i/\i < 2 ^ 62/\-(2 ^ 62)<=j/\j < 2 ^ 62)/\R (Itr i (j - i).toNat) H1
theorem zJ1{a:Expr}{ta:TA}{p pos:Pos}(hg:Gl X "range")(hm:X.mg "range"=none)(ha:PA X [a] ta)(hs:AU [a] X.env=[(false,eval a X.env)]:=by rfl):PI X tg (.Call (.Name "range" p) [a] [] pos) (iRng1 ta):=by
 intro pins s σ H R I h
 refine Gn (zBH I hg hm boot_range (An (thn (ha pos pins s σ H _ I h) fun us s1 ⟨vs,H1,I1,r1,q1⟩=>?_) hs rfl))
 obtain⟨j,e,q1,q2,q⟩:=q1
 subst e
 cases r1 with
 | cons r rr =>
  cases rr
  obtain⟨t,rfl⟩:=r
  exact K0 (zF9 I1 ⋯ ⋯ q1 q2 (by simpa using q))
theorem zKU{a b:Expr}{ta:TA}{p pos:Pos}(hg:Gl X "range")(hm:X.mg "range"=none)(ha:PA X [a,b] ta)(hs:AU [a,b] X.env=[(false,eval a X.env),(false,eval b X.env)]:=by rfl)(hs2:AU [b] X.env=[(false,eval b X.env)]:=by rfl) :
  PI X tg (.Call (.Name "range" p) [a,b] [] pos) (iRng2 ta):=by
 intro pins s σ H R I h
 refine Gn (zBH I hg hm boot_range (An (thn (ha pos pins s σ H _ I h) fun us s1 ⟨vs,H1,I1,r1,q1⟩=>?_) (by rw[hs,hs2]) (by rw[hs2]; rfl)))
 obtain⟨i,j,e,⟨q1,q2,q3,q4⟩,q⟩:=q1
 subst e
 cases r1 with
 | cons r rr =>
  cases rr with
  | cons r' rr =>
   cases rr
   obtain⟨t,rfl⟩:=r
   obtain⟨t',rfl⟩:=r'
   exact K1 (zF9 I1 q1 q2 q3 q4 q)
def tFor (wi:TI) (g:TG) (tb:TS):TS:=fun D σ H=>wi σ H fun J H1=>∃ W:Nat->Nat->St->Hp->Prop,(∃ m,W 0 m σ H1)/\∀ i m σ H,W i m σ H ->
 (J.stop i H/\D.nx σ H)\/(J.go i H/\∃ N:St->Hp->Prop,(∀ σ' H',N σ' H'->∃ m',m' < m/\W (i+1) m' σ' H')/\∀ x H',J.yld i H x H'->g x σ H' fun σ2 H2=>tb { D with nx:=N,ct:=N,bk:=D.nx } σ2 H2)
def pinsAt (fp:List Addr) (h:Heap):List (Addr×Obj):=fp.filterMap fun b=>(h.get? b).map fun o=>(b,o)
theorem zCt{fp:List Addr}{h:Heap}{b:Addr}{o:Obj}(hb:b∈fp)(e:h.get? b=some o):(b,o)∈pinsAt fp h:=Hd.mpr ⟨b,hb,by rw[e]; rfl⟩
theorem zKm{fp:List Addr}{h:Heap}{p:Addr×Obj}(hp:p∈pinsAt fp h):p.1∈fp/\h.get? p.1=some p.2:=by
 obtain⟨b,hb,e⟩:=Hd.mp hp
 cases q:h.get? b with
 | none=>rw[q]at e; cases e
 | some o =>
  rw[q]at e
  have e':(b,o)=p:=Ak e
  subst e'
  exact⟨hb,q⟩
theorem Inv.pinned{pins:List (Addr×Obj)}{σ:St}{H:Hp}{s:AG}{fp:List Addr}(I:Inv X pins σ H s)(hf:∀ b∈fp,FpOk X pins H b)(ho:∀ b∈fp,∃ o,s.heap.get? b=some o/\∀ v,o.data≠.cell v):Inv X (pins++pinsAt fp s.heap) σ H s :=
 I.pins_of fun p hp=>(Bp.mp hp).elim (fun z=>I.pin p (Ag _ z)) fun z=>by
  obtain⟨hb,e⟩:=zKm z
  obtain⟨f0,f1,f2,_⟩:=hf p.1 hb
  obtain⟨o,e',d⟩:=ho p.1 hb
  rw[e]at e'; cases e'
  exact⟨e,f0,f1,f2,d⟩
theorem Inv.unpinned{pins pl:List (Addr×Obj)}{σ:St}{H:Hp}{s:AG}(I:Inv X (pins++pl) σ H s):Inv X pins σ H s:=I.pins_of fun p hp=>I.pin p (Ag _ (Di _ hp))
theorem zOc{iter:Expr}{body:List Stmt}{wi:TI}{g:TG}{tb:TS}{pos:Pos}(hp:Hc (model X.prog X.w) X.A X.env X.xe)(hc:X.calm=true)(hi:PI X tg iter wi)(hg:PG X tg g)(hb:PSs X body tb)
  (hs:∀ x,CQ iter X.env x=pure x:=by intro _; rfl):PS X (.For tg iter body [] pos) (tFor wi g tb):=by
 intro pins s σ H D I h
 refine wpAny_For (thn (hi pins s σ H _ I h) fun v s1 h1=>thn h1 fun itv s2 h2=>?_) hs
 obtain⟨it,fp,tn,J,H2,e,I2,T,st2,f2,W,⟨m0,w0⟩,turn⟩:=h2
 subst e
 have stat:∀ {H':Hp},(∀ b∈fp,H' b=none)->∀ b∈fp,FpOk X pins H' b:=fun hn b hb=>⟨hn b hb,(f2 b hb).2⟩
 refine codeAny_forLoop_any (fun n s'=>∃ i σ' H',Inv X pins σ' H' s'/\tn i s'.heap/\(∀ b∈fp,H' b=none)/\W i n σ' H') ?_ m0 ⟨0,σ,H2,I2,st2,fun b hb=>(f2 b hb).1,w0⟩
 rintro n s3 ⟨i,σ3,H3,I3,st3,fr3,w3⟩
 rcases turn i n σ3 H3 w3 with ⟨stop,qn⟩ | ⟨go,N,hN,step⟩
 ·refine Co hp (thn (T.done X rfl rfl rfl hc i pins s3 σ3 H3 X.xe I3 (stat fr3) st3 stop) fun r s4 ⟨hr,I4⟩=>?_)
  subst hr
  exact FJ ⟨σ3,H3,I4,qn⟩
 ·refine Co hp (thn (T.item X rfl rfl rfl hc i pins s3 σ3 H3 X.xe I3 (stat fr3) st3 go) fun r s4 ⟨u,hr,h4⟩=>?_)
  subst hr
  refine Co hp (thn h4 fun _ s5 ⟨x,H5,I5,r5,y5,st5,fr5⟩=>?_)
  have I5':=I5.pinned (stat fr5) (T.obj _ _ st5)
  refine Co hp (thn (hg _ s5 σ3 H5 x u _ I5' r5 (step x H5 y5)) fun _ s6 ⟨σ6,H6,I6,q6⟩=>?_)
  refine Co hp (thn (hb _ s6 σ6 H6 _ I6 q6) fun f s7 q7=>?_)
  have again:∀ {σ7:St} {H7:Hp},Inv X (pins++pinsAt fp s5.heap) σ7 H7 s7->N σ7 H7->∃ m,m < n/\∃ i σ' H',Inv X pins σ' H' s7/\tn i s7.heap/\(∀ b∈fp,H' b=none)/\W i m σ' H':=fun {σ7 H7} I7 n7=>by
   obtain⟨m',hm,w7⟩:=hN σ7 H7 n7
   refine⟨m',hm,i+1,σ7,H7,I7.unpinned,T.keep _ _ _ st5 fun b hb o e=>(I7.pin (b,o) (Ag _ (Ag _ (zCt hb e)))).1,fun b hb=>?_,w7⟩
   obtain⟨o,e,d⟩:=T.obj _ _ st5 b hb
   exact (I7.pin (b,o) (Ag _ (Ag _ (zCt hb e)))).2.1
  cases f with
  | next=>obtain⟨σ7,H7,I7,n7⟩:=q7; exact again I7 n7
  | cont=>obtain⟨σ7,H7,I7,n7⟩:=q7; exact again I7 n7
  | brk=>obtain⟨σ7,H7,I7,q7⟩:=q7; exact⟨σ7,H7,I7.unpinned,q7⟩
  | ret v=>obtain⟨x7,σ7,H7,I7,r7,q7⟩:=q7; exact⟨x7,σ7,H7,I7.unpinned,r7,q7⟩
end
abbrev R2:=V->V->Hp->VK->Prop
def OpR (X:Cx) (f:AD->AD->Sem AD) (r:R2):Prop :=
 ∀ (pins:List (Addr×Obj)) (s:AG) (σ:St) (H:Hp) (x y:V) (v u:AD) (Q:VK),Inv X pins σ H s->RelV x v->RelV y u->r x y H Q ->
  AQ (model X.prog X.w) X.A (f v u) (EP X pins σ Q) X.xe s
def UnR (X:Cx) (f:AD->Sem AD) (r:V->Hp->VK->Prop):Prop :=
 ∀ (pins:List (Addr×Obj)) (s:AG) (σ:St) (H:Hp) (x:V) (v:AD) (Q:VK),Inv X pins σ H s->RelV x v->r x H Q ->
  AQ (model X.prog X.w) X.A (f v) (EP X pins σ Q) X.xe s
def CallR (X:Cx) (f:AD) (r:List V->Hp->VK->Prop):Prop :=
 ∀ (pins:List (Addr×Obj)) (s:AG) (σ:St) (H:Hp) (xs:List V) (us:List AD) (Q:VK),Inv X pins σ H s->Vals xs us->r xs H Q ->
  AQ (model X.prog X.w) X.A (call f us) (EP X pins σ Q) X.xe s
def TruR (X:Cx) (r:V->Hp->(Bool->Hp->Prop)->Prop):Prop :=
 ∀ (pins:List (Addr×Obj)) (s:AG) (σ:St) (H:Hp) (x:V) (v:AD) (Q:Bool->Hp->Prop),Inv X pins σ H s->RelV x v->r x H Q ->
  AQ (model X.prog X.w) X.A (truthy v) (TP X pins σ Q) X.xe s
def tOp (r:R2) (ta tb:TE):TE:=fun σ H Q=>ta σ H fun x H1=>tb σ H1 fun y H2=>r x y H2 Q
def tUn (r:V->Hp->VK->Prop) (ta:TE):TE:=fun σ H Q=>ta σ H fun x H1=>r x H1 Q
def rI (C:Int->Int->Prop) (g:Int->Int->V):R2:=fun x y H Q=>∃ i j,x=.int i/\y=.int j/\C i j/\Q (g i j) H
def rI0 (g:Int->Int->V):R2:=fun x y H Q=>∃ i j,x=.int i/\y=.int j/\Q (g i j) H
def rU (g:Int->V):V->Hp->VK->Prop:=fun x H Q=>∃ i,x=.int i/\Q (g i) H
section
variable {X:Cx}{a b c:Expr}{ta tb tc:TE}{pos:Pos}
theorem binT(ha:PE X a ta)(hb:PE X b tb){pins:List (Addr×Obj)}{s:AG}{σ:St}{H:Hp}{R:V->V->Hp->Prop}(I:Inv X pins σ H s)
  (h:ta σ H fun x H1=>tb σ H1 fun y H2=>R x y H2) {Q:AD->AG->Prop} {f:AD->AD->Sem AD}
  (hf:∀ v u s2 x y H2,Inv X pins σ H2 s2->RelV x v->RelV y u->R x y H2->AQ (model X.prog X.w) X.A (f v u) Q X.xe s2) :
  AQ (model X.prog X.w) X.A (eval a X.env) (fun v s₁=>AQ (model X.prog X.w) X.A (eval b X.env) (fun u s₂=>AQ (model X.prog X.w) X.A (f v u) Q X.xe s₂) X.xe s₁) X.xe s:=by
 refine thn (ha pins s σ H _ I h) fun v s1 ⟨x,H1,I1,r1,q1⟩=>?_
 refine thn (hb pins s1 σ H1 _ I1 q1) fun u s2 ⟨y,H2,I2,r2,q2⟩=>?_
 exact hf v u s2 x y H2 I2 r1 r2 q2
theorem zPs{op:Operator}{r:R2}(ho:OpR X (CA op) r)(ha:PE X a ta)(hb:PE X b tb):PE X (.BinOp a op b pos) (tOp r ta tb):=by
 intro pins s σ H Q I h
 exact wpAny_BinOp (binT ha hb I h fun v u s2 x y H2 I2 rx ry q=>ho pins s2 σ H2 x y v u Q I2 rx ry q)
theorem zP2{op:UnaryOp}{r:V->Hp->VK->Prop}(ho:UnR X (unaryOp op) r)(ha:PE X a ta):PE X (.UnaryOp op a pos) (tUn r ta):=by
 intro pins s σ H Q I h
 exact UnaryOp_ (thn (ha pins s σ H _ I h) fun v s1 ⟨x,H1,I1,r1,q1⟩=>ho pins s1 σ H1 x v Q I1 r1 q1)
theorem opI{f:AD->AD->Sem AD}{C:Int->Int->Prop}{g:Int->Int->Int}
  (rule:∀ (i j:Int) (t u:Tok) (s:AG) (Q:AD->AG->Prop) (E:AD->AG->Prop),C i j->Q (.int (g i j) s.toks) { s with toks:=s.toks+1 }->AQ (model X.prog X.w) X.A (f (.int i t) (.int j u)) Q E s) :
  OpR X f (rI C fun i j=>.int (g i j)):=by
 intro pins s σ H x y v u Q I rx ry h
 obtain⟨i,j,rfl,rfl,hc,q⟩:=h
 obtain⟨t,rfl⟩:=rx
 obtain⟨t',rfl⟩:=ry
 exact rule i j t t' s _ _ hc ⟨.int (g i j),H,I.tok _,⟨_,rfl⟩,q⟩
theorem opI0{f:AD->AD->Sem AD}{g:Int->Int->Int}
  (rule:∀ (i j:Int) (t u:Tok) (s:AG) (Q:AD->AG->Prop) (E:AD->AG->Prop),Q (.int (g i j) s.toks) { s with toks:=s.toks+1 }->AQ (model X.prog X.w) X.A (f (.int i t) (.int j u)) Q E s) :
  OpR X f (rI0 fun i j=>.int (g i j)):=by
 intro pins s σ H x y v u Q I rx ry h
 obtain⟨i,j,rfl,rfl,q⟩:=h
 obtain⟨t,rfl⟩:=rx
 obtain⟨t',rfl⟩:=ry
 exact rule i j t t' s _ _ ⟨.int (g i j),H,I.tok _,⟨_,rfl⟩,q⟩
theorem opB0{f:AD->AD->Sem AD}{g:Int->Int->Bool}
  (rule:∀ (i j:Int) (t u:Tok) (s:AG) (Q:AD->AG->Prop) (E:AD->AG->Prop),Q (.bool (g i j)) s->AQ (model X.prog X.w) X.A (f (.int i t) (.int j u)) Q E s) :
  OpR X f (rI0 fun i j=>.bl (g i j)):=by
 intro pins s σ H x y v u Q I rx ry h
 obtain⟨i,j,rfl,rfl,q⟩:=h
 obtain⟨t,rfl⟩:=rx
 obtain⟨t',rfl⟩:=ry
 exact rule i j t t' s _ _ ⟨.bl (g i j),H,I,rfl,q⟩
def CDiv (i j:Int):Prop:=0 < j/\j < 1073741824
def CPow (i j:Int):Prop:=0<=j/\j<=1000000/\i.natAbs < 2 ^ 64
def CMul (i j:Int):Prop:=(-(2 ^ 64) < i/\i < 2 ^ 64)\/(-(2 ^ 64) < j/\j < 2 ^ 64)
theorem CMul.ok{i j:Int}(h:CMul i j):IntMulOk i j:=by
 rcases h with ⟨h1,h2⟩ | ⟨h1,h2⟩
 ·exact .of_left (Kc h1 h2)
 ·exact .of_right (Kc h1 h2)
theorem zOV:OpR X (CA .Add) (rI0 fun i j=>.int (i+j)):=opI0 fun _ _ _ _ _ _ _ q=>add_int q
theorem zOH:OpR X (CA .Sub) (rI0 fun i j=>.int (i - j)):=opI0 fun _ _ _ _ _ _ _ q=>sub_int q
theorem zOn:OpR X (CA .Mult) (rI CMul fun i j=>.int (i * j)):=opI fun _ _ _ _ _ _ _ hc q=>mul_int q hc.ok
theorem zNJ:OpR X (CA .FloorDiv) (rI CDiv fun i j=>.int (i / j)):=opI fun i j _ _ _ _ _ hc q=>by
 have h1:(0:Int) < j:=hc.1
 have h2:j < 1073741824:=hc.2
 exact floordiv_int (by omega) (by rw[Int.fdiv_eq_ediv_of_nonneg i (by omega)]; exact q) (.inl (PyProof.noPylong_small (by omega)))
theorem zO2:OpR X (CA .Mod) (rI (fun _ j=>0 < j) fun i j=>.int (i % j)):=opI fun i j _ _ _ _ _ hc q=>by
 have h1:(0:Int) < j:=hc
 exact mod_int' ⋯ (by rw[Int.fmod_eq_emod_of_nonneg i ⋯]; exact q)
theorem zOP:OpR X (CA .Pow) (rI CPow fun i j=>.int (i ^ j.toNat)):=opI fun _ _ _ _ _ _ _ hc q=>pow_int_small hc.1 hc.2.1 hc.2.2 q
theorem unI{f:AD->Sem AD}{g:Int->Int}
  (rule:∀ (i:Int) (t:Tok) (s:AG) (Q:AD->AG->Prop) (E:AD->AG->Prop),Q (.int (g i) s.toks) { s with toks:=s.toks+1 }->AQ (model X.prog X.w) X.A (f (.int i t)) Q E s) :
  UnR X f (rU fun i=>.int (g i)):=by
 intro pins s σ H x v Q I rx h
 obtain⟨i,rfl,q⟩:=h
 obtain⟨t,rfl⟩:=rx
 exact rule i t s _ _ ⟨.int (g i),H,I.tok _,⟨_,rfl⟩,q⟩
theorem zOv:UnR X (unaryOp .USub) (rU fun i=>.int (-i)):=unI fun _ _ _ _ _ q=>neg_int q
end
def skd:V->Nat
 | .non=>1 | .int _=>2 | .bl _=>3 | .str _=>4 | .byt _=>5 | _=>0
def sct (a b:Nat):Bool:=Nat.beq a b && Nat.ble 1 a || Nat.ble 1 (a*b) && Nat.ble a 4 && Nat.ble b 4 && !Nat.beq (a*b) 6
def scal (x y:V):Bool:=sct (skd x) (skd y)
theorem scis:scal (.int i) (.str w)=true:=(rfl)
def rEq:R2:=fun x y H Q=>scal x y=true/\Q (.bl (decide (x=y))) H
def rNe:R2:=fun x y H Q=>scal x y=true/\Q (.bl (!decide (x=y))) H
theorem zHp{i j:Int}:decide (V.int i=V.int j)=(i == j):=by
 rw[DB]
 simp
theorem zKN{i j:Bool}:decide (V.bl i=V.bl j)=(i == j):=by
 rw[DB]
 simp
theorem zHV{i j:Str}:decide (V.str i=V.str j)=(i == j):=by
 rw[DB]
 simp
theorem zHa{i j:Array UInt8}:decide (V.byt i=V.byt j)=(i.toList == j.toList):=by
 rw[DB]
 cases i
 cases j
 simp
section
variable {X:Cx}{a b c:Expr}{ta tb tc:TE}{pos:Pos}
theorem zAa{pins:List (Addr×Obj)}{σ:St}{H:Hp}{s:AG}{Q:VK}{k k':Bool}(I:Inv X pins σ H s)(q:Q (.bl k) H)(e:k=k'):EP X pins σ Q (.bool k') s:=by
 subst e
 exact⟨.bl k,H,I,rfl,q⟩
theorem zQq:OpR X (BQ .Eq) rEq:=by
 intro pins s σ H x y v u Q I rx ry h
 obtain⟨hs,q⟩:=h
 cases x with
 | non =>
  cases rx
  cases y with
  | non=>cases ry; exact Jj (zAa I q (by simp))
  | bl j=>cases ry; exact Jk (zAa I q (by simp))
  | int j=>obtain⟨t',rfl⟩:=ry; exact Jl (zAa I q (by simp))
  | str j=>obtain⟨t',rfl⟩:=ry; exact Jm (zAa I q (by simp))
  | _=>exact absurd (show false=true from hs) AO
 | bl i =>
  cases rx
  cases y with
  | non=>cases ry; exact Jn (zAa I q (by simp))
  | bl j=>cases ry; exact eq_bool (zAa I q zKN)
  | str j=>obtain⟨t',rfl⟩:=ry; exact JK (zAa I q (by simp))
  | _=>exact absurd (show false=true from hs) AO
 | int i =>
  obtain⟨t,rfl⟩:=rx
  cases y with
  | non=>cases ry; exact Jo (zAa I q (by simp))
  | int j=>obtain⟨t',rfl⟩:=ry; exact eq_int (zAa I q zHp)
  | str j=>obtain⟨t',rfl⟩:=ry; exact JL (zAa I q (by simp))
  | _=>exact absurd (show false=true from hs) AO
 | str i =>
  obtain⟨t,rfl⟩:=rx
  cases y with
  | non=>cases ry; exact Jp (zAa I q (by simp))
  | bl j=>cases ry; exact JM (zAa I q (by simp))
  | int j=>obtain⟨t',rfl⟩:=ry; exact JN (zAa I q (by simp))
  | str j=>obtain⟨t',rfl⟩:=ry; exact eq_str (zAa I q zHV)
  | _=>exact absurd (show false=true from hs) AO
 | byt i =>
  obtain⟨t,rfl⟩:=rx
  cases y with
  | byt j=>obtain⟨t',rfl⟩:=ry; exact PySem.W.eq_bytes (zAa I q zHa)
  | _=>exact absurd (show false=true from hs) AO
 | _=>cases y <;> exact absurd (show false=true from hs) AO
theorem zQo:OpR X (BQ .NotEq) rNe:=by
 intro pins s σ H x y v u Q I rx ry h
 obtain⟨hs,q⟩:=h
 cases x with
 | non =>
  cases rx
  cases y with
  | non=>cases ry; exact Jq (zAa I q (by simp))
  | bl j=>cases ry; exact Jr (zAa I q (by simp))
  | int j=>obtain⟨t',rfl⟩:=ry; exact Js (zAa I q (by simp))
  | str j=>obtain⟨t',rfl⟩:=ry; exact Jt (zAa I q (by simp))
  | _=>exact absurd (show false=true from hs) AO
 | bl i =>
  cases rx
  cases y with
  | non=>cases ry; exact Ju (zAa I q (by simp))
  | bl j=>cases ry; exact ne_bool (zAa I q (congrArg not zKN))
  | str j=>obtain⟨t',rfl⟩:=ry; exact JO (zAa I q (by simp))
  | _=>exact absurd (show false=true from hs) AO
 | int i =>
  obtain⟨t,rfl⟩:=rx
  cases y with
  | non=>cases ry; exact Jv (zAa I q (by simp))
  | int j=>obtain⟨t',rfl⟩:=ry; exact ne_int (zAa I q (congrArg not zHp))
  | str j=>obtain⟨t',rfl⟩:=ry; exact JP (zAa I q (by simp))
  | _=>exact absurd (show false=true from hs) AO
 | str i =>
  obtain⟨t,rfl⟩:=rx
  cases y with
  | non=>cases ry; exact Jw (zAa I q (by simp))
  | bl j=>cases ry; exact JQ (zAa I q (by simp))
  | int j=>obtain⟨t',rfl⟩:=ry; exact JR (zAa I q (by simp))
  | str j=>obtain⟨t',rfl⟩:=ry; exact ne_str (zAa I q (congrArg not zHV))
  | _=>exact absurd (show false=true from hs) AO
 | byt i =>
  obtain⟨t,rfl⟩:=rx
  cases y with
  | byt j=>obtain⟨t',rfl⟩:=ry; exact PySem.W.ne_bytes (zAa I q (congrArg not zHa))
  | _=>exact absurd (show false=true from hs) AO
 | _=>cases y <;> exact absurd (show false=true from hs) AO
theorem zQn:OpR X (BQ .Lt) (rI0 fun i j=>.bl (decide (i < j))):=opB0 fun _ _ _ _ _ _ _ q=>lt_int q
theorem zQK:OpR X (BQ .Gt) (rI0 fun i j=>.bl (decide (j < i))):=opB0 fun _ _ _ _ _ _ _ q=>gt_int q
theorem zPr:OpR X (BQ .GtE) (rI0 fun i j=>.bl (decide (j<=i))):=opB0 fun _ _ _ _ _ _ _ q=>ge_int q
theorem zO6:OpR X (BQ .Is) (fun x y H Q=>y=.non/\Q (.bl (decide (x=.non))) H):=by
 intro pins s σ H x y v u Q I rx ry h
 obtain⟨rfl,q⟩:=h
 cases ry
 refine is_none_gen (zAa I q ?_)
 cases x <;> first
  | (cases rx; rfl)
  | (obtain⟨t,rfl⟩:=rx; rfl)
theorem OpR.or{f:AD->AD->Sem AD}{r r':R2}(h:OpR X f r)(h':OpR X f r'):OpR X f (fun x y H Q=>r x y H Q\/r' x y H Q):=by
 intro pins s σ H x y v u Q I rx ry q
 rcases q with q | q
 ·exact h pins s σ H x y v u Q I rx ry q
 ·exact h' pins s σ H x y v u Q I rx ry q
theorem nomark(b:Expr){op:G6}(h:op≠.In:=by decide)(h2:op≠.NotIn:=by decide):Cr op b=false:=by
 have e1:(op == CmpOp.In)=false:=by cases op <;> first | rfl | exact absurd rfl h
 have e2:(op == CmpOp.NotIn)=false:=by cases op <;> first | rfl | exact absurd rfl h2
 cases b <;> simp[Cr,e1,e2]
theorem zMt{op:G6}{r:R2}(ho:OpR X (BQ op) r)(ha:PE X a ta)(hb:PE X b tb)(hm:Cr op b=false):PE X (.Compare a [op] [b] pos) (tOp r ta tb):=by
 intro pins s σ H Q I h
 exact wpAny_Compare1 (binT ha hb I h fun v u s2 x y H2 I2 rx ry q=>ho pins s2 σ H2 x y v u Q I2 rx ry q) hm
def tTest (t:TE):TT:=fun σ H Q=>t σ H fun x H'=>∃ k,x=.bl k/\Q k H'
theorem zMs{op:G6}{r:R2}(ho:OpR X (BQ op) r)(ha:PE X a ta)(hb:PE X b tb)(hm:Cr op b=false):PT X (.Compare a [op] [b] pos) (tTest (tOp r ta tb)):=by
 intro pins s σ H Q I h
 refine wpAny_isTrue_Compare1 (thn (ha pins s σ H _ I h) fun v s1 ⟨x,H1,I1,r1,q1⟩=>thn (hb pins s1 σ H1 _ I1 q1) fun u s2 ⟨y,H2,I2,r2,q2⟩ =>
  thn (ho pins s2 σ H2 x y v u _ I2 r1 r2 q2) fun c s3 ⟨z,H3,I3,r3,k,e,q3⟩=>?_) hm
 subst e
 cases r3
 exact Cv ⟨H3,I3,q3⟩
def TruV (K:AM) (x:V) (H:Hp) (k:Bool):Prop :=
 match x with
 | .non=>k=false
 | .bl b=>k=b
 | .int i=>k=(i != 0)
 | .str y=>y.length<=AB/\k=((y.length:Int) != 0)
 | .byt y=>y.size<=AB/\k=((y.size:Int) != 0)
 | .ref p=>(∃ xs,SqL K H p xs/\k=!xs.isEmpty)\/(∃ xs,SqT K H p xs/\k=!xs.isEmpty)\/∃ kvs,H p=some (.dK kvs)/\k=!kvs.isEmpty
 | _=>False
theorem zHy{κ:Type}{kvs:List (κ×V)}{vs:List (κ×AD)}(r:KV kvs vs):(!vs.isEmpty)=!kvs.isEmpty:=by
 cases r <;> rfl
theorem zED{xs:List V}{its:List AD}(r:Vals xs its):(!its.toArray.isEmpty)=!xs.isEmpty:=by
 cases r <;> simp
theorem line63:(AB:Nat) < 2 ^ 63:=by rw[Be]; decide
theorem zOI:TruR X (fun x H Q=>∃ k,TruV X.K x H k/\Q k H):=by
 intro pins s σ H x v Q I rx h
 obtain⟨k,e,q⟩:=h
 have hl:=line63
 have hs:AB=16777216:=Be
 cases x with
 | non =>
  cases rx
  have e':k=false:=e
  subst e'
  exact truthy_none ⟨H,I,q⟩
 | bl b =>
  cases rx
  have e':k=b:=e
  subst e'
  exact Cv ⟨H,I,q⟩
 | int i =>
  obtain⟨t,rfl⟩:=rx
  have e':k=(i != 0):=e
  subst e'
  exact PySem.P.truthy_int ⟨H,I,q⟩
 | str y =>
  obtain⟨t,rfl⟩:=rx
  obtain⟨hy,e'⟩:y.length<=AB/\k=((y.length:Int) != 0):=e
  subst e'
  exact PySem.P.truthy_str ⋯ ⟨H,I.tok _,q⟩
 | byt y =>
  obtain⟨t,rfl⟩:=rx
  obtain⟨hy,e'⟩:y.size<=AB/\k=((y.size:Int) != 0):=e
  subst e'
  exact PySem.W.truthy_bytes ⋯ ⟨H,I.tok _,q⟩
 | ref p =>
  cases rx
  have e':(∃ xs,SqL X.K H p xs/\k=!xs.isEmpty)\/(∃ xs,SqT X.K H p xs/\k=!xs.isEmpty)\/∃ kvs,H p=some (.dK kvs)/\k=!kvs.isEmpty:=e
  rcases e' with ⟨xs,hx,e'⟩ | ⟨xs,hx,e'⟩ | ⟨kvs,hx,e'⟩
  ·subst e'
   obtain⟨its,r,pl,hz⟩:=I.list hx
   have hlen:=r.length
   exact wpAny_truthy_list pl.isList (by simp only[AL]; lia) ⟨H,I.tok _,by rw[zED r]; exact q⟩
  ·subst e'
   obtain⟨its,r,pl,hz⟩:=I.tuple hx
   have hlen:=r.length
   exact truthy_tuple pl (by simp only[AL]; lia) ⟨H,I.tok _,by rw[zED r]; exact q⟩
  ·subst e'
   obtain⟨hz,hS,vs,r,m⟩:kvs.length<=AB/\(p == C4)=false/\∃ vs,KV kvs vs/\s.heap.DictOf (mixKind X.prog X.w) p vs:=I.hok p _ hx
   have hlen:kvs.length=vs.length:=GU r
   exact wpAny_truthy_dict hS m ⋯ ⟨H,I.tok _,by rw[zHy r]; exact q⟩
 | _=>exact (show False from e).elim
theorem zK4(ha:PE X a ta)(he:∀ whole,Hm a X.env whole=(do let v ← whole; Iv a.pos; holding [v] (truthy v))) :
  PT X a (fun σ H Q=>ta σ H fun x H'=>∃ k,TruV X.K x H' k/\Q k H'):=by
 intro pins s σ H Q I h
 exact isTrue_plain (thn (ha pins s σ H _ I h) fun v s1 ⟨x,H1,I1,r1,q1⟩=>zOI pins s1 σ H1 x v Q I1 r1 q1) (he _)
theorem zH9:OpR X (CA .Add) (fun x y H Q=>∃ i j,x=.str i/\y=.str j/\i.length+j.length<=AB/\Q (.str (i++j)) H):=by
 intro pins s σ H x y v u Q I rx ry h
 obtain⟨i,j,rfl,rfl,hz,q⟩:=h
 obtain⟨t,rfl⟩:=rx
 obtain⟨t',rfl⟩:=ry
 exact add_str (fun t' tk=>⟨.str (i++j),H,I.tok _,⟨_,rfl⟩,q⟩) hz
theorem vals1{x:V}{us:List AD}(r:Vals [x] us):∃ u,us=[u]/\RelV x u:=by
 cases r with
 | cons r1 r2=>cases r2; exact⟨_,rfl,r1⟩
theorem vals2{x y:V}{us:List AD}(r:Vals [x,y] us):∃ u w',us=[u,w']/\RelV x u/\RelV y w':=by
 cases r with
 | cons r1 r2 =>
  cases r2 with
  | cons r3 r4=>cases r4; exact⟨_,_,rfl,r1,r3⟩
theorem zJ0(hc:X.calm=true):CallR X (.builtin "max") (fun xs H Q=>∃ i j,xs=[.int i,.int j]/\Q (.int (if j > i then j else i)) H):=by
 intro pins s σ H xs us Q I r h
 obtain⟨i,j,rfl,q⟩:=h
 obtain⟨u,w',rfl,⟨t,rfl⟩,⟨t',rfl⟩⟩:=vals2 r
 refine max_two_ints (I.ok.hd hc) fun h' tk k=>⟨_,H,I.kept k,?_,q⟩
 by_cases hj:j > i
 ·rw[if_pos hj,if_pos hj]; exact⟨_,rfl⟩
 ·rw[if_neg hj,if_neg hj]; exact⟨_,rfl⟩
theorem zJV:CallR X (.type "int") (fun xs H Q=>(∃ i,xs=[.int i]/\Q (.int i) H)\/∃ k,xs=[.bl k]/\Q (.int (if k then 1 else 0)) H):=by
 intro pins s σ H xs us Q I r h
 rcases h with ⟨i,rfl,q⟩ | ⟨k,rfl,q⟩
 ·obtain⟨u,rfl,t,rfl⟩:=vals1 r
  exact call_int_int ⟨.int i,H,I,⟨_,rfl⟩,q⟩
 ·obtain⟨u,rfl,r1⟩:=vals1 r
  cases r1
  exact call_int_bool ⟨.int (if k then 1 else 0),H,I.tok _,⟨_,rfl⟩,q⟩
end
structure Room(k:Nat)(A:BJ):Prop where
 hd:A.handled=none
 dp:A.depth+3 * k+5 < J9
 un:A.units+16 * k+200 < cLine
 gd:A.guards=some []
theorem Room.mono{j k:Nat}{A:BJ}(r:Room k A)(h:j<=k):Room j A:=⟨r.hd,by have:=r.dp; lia,by have:=r.un; lia,r.gd⟩
theorem Room.deeper{k:Nat}{A:BJ}(r:Room (k+1) A)(env:Env):Room k (A.deeper env) :=
 ⟨r.hd,by have:=r.dp; show A.depth+1+3 * k+5 < _; lia,by have:=r.un; show A.units+3+16 * k+200 < _; lia,r.gd⟩
theorem Room.depth{k:Nat}{A:BJ}(r:Room k A):A.depth < J9:=by have:=r.dp; lia
def tNil:TA:=fun _ H Q=>Q [] H
def tCons (ta:TE) (tr:TA):TA:=fun σ H Q=>ta σ H fun x H1=>tr σ H1 fun xs H2=>Q (x::xs) H2
section
variable {X:Cx}{e:Expr}{es:List Expr}{te:TE}{t:TA}{pos:Pos}
theorem zFy:PA X [] tNil:=fun _ _ _ _ H Q I h=>DK ⟨[],H,I,.nil,h⟩
theorem zEr(ha:PE X e te)(hr:PA X es t)(hs:AU (e::es) X.env=(false,eval e X.env)::AU es X.env:=by rfl):PA X (e::es) (tCons te t):=by
 intro pos pins s σ H Q I h
 rw[hs]
 show AQ _ _ (spliced ((false,eval e X.env)::CL pos (AU es X.env))) _ _ s
 refine Dx (thn (ha pins s σ H _ I h) fun u s1 ⟨x,H1,I1,r1,q1⟩=>?_)
 exact thn (hr pos pins s1 σ H1 _ I1 q1) fun us s2 ⟨xs,H2,I2,r2,q2⟩=>⟨x::xs,H2,I2,.cons r1 r2,q2⟩
def tTup (t:TA):TE:=fun σ H Q=>t σ H fun xs H1=>xs.length<=AB/\∀ p,H1 p=none->Q (.ref p) (upd H1 p (.tup xs))
def tLst (t:TA):TE:=fun σ H Q=>t σ H fun xs H1=>xs.length<=AB/\∀ p,H1 p=none->Q (.ref p) (upd H1 p (.lst xs))
theorem zPI{x1}(h:PA X es t):PE X (.Tuple es x1 pos) (tTup t):=by
 intro pins s σ H Q I hq
 refine wpAny_Tuple_spliced (thn (h pos pins s σ H _ I hq) fun us s1 ⟨xs,H1,I1,r,z,q⟩=>⟨by rw[← r.length]; exact z,?_⟩)
 have hf:H1 s1.heap.objs.size=none:=I1.hok.fresh (AF _)
 refine⟨.ref s1.heap.objs.size,upd H1 s1.heap.objs.size (.tup xs),I1.laid (t':=s1.toks) (fun b u e=>AC _ e) (AF _) ?_,rfl,q _ hf⟩
 exact⟨z,us,r,⟨_,AI _ rfl,rfl,⟨_,rfl⟩,rfl⟩⟩
theorem zOO(h:PA X es t):PE X (.List es pos) (tLst t):=by
 intro pins s σ H Q I hq
 refine wpAny_List_spliced (thn (h pos pins s σ H _ I hq) fun us s1 ⟨xs,H1,I1,r,z,q⟩=>⟨by rw[← r.length]; exact z,?_⟩)
 have hf:H1 s1.heap.objs.size=none:=I1.hok.fresh (AF _)
 refine⟨.ref s1.heap.objs.size,upd H1 s1.heap.objs.size (.lst xs),I1.laid (t':=s1.toks) (fun b u e=>AC _ e) (AF _) ?_,rfl,q _ hf⟩
 exact⟨z,us,0,r,AI _ rfl⟩
end
abbrev Sp:=List V->Hp->VK->XK->Prop
abbrev CXT:=List Env->Hp->AG->XK->AD->AG->Prop
structure Env0(P:Am)(w:A0)(K:AM)(mg:Str->Option AD)(base:Heap)(A:BJ)(outer:List Env)(s:AG)(H:Hp):Prop where
 frames:A.frames=some outer
 mod:Mod K mg base
 bs:∀ b o,base.get? b=some o->s.heap.get? b=some o/\H b=none
 bsz:base.objs.size<=s.heap.objs.size
 funs:s.heap.FunFrames base outer
 frf:∀ b∈frs outer,H b=none
 hok:HOk P w H s.heap
 bare:FC s.gens
def CE (outer:List Env) (P:Am) (w:A0) (H:Hp) (s:AG) (Q:VK) (u:AD) (s':AG):Prop :=
 ∃ v H',s'.os=s.os/\FC s'.gens/\Un (frs outer) [] H H' s.heap s'.heap/\HOk P w H' s'.heap/\RelV v u/\Q v H'
def CR (CX:CXT) (outer:List Env) (P:Am) (w:A0) (H:Hp) (s:AG) (Q:VK) (E:XK) (r:Result) (s':AG):Prop :=
 match r with
 | .ok (.ret u)=>CE outer P w H s Q u s'
 | .ok _=>False
 | .error e=>CX outer H s E e s'
structure FnOk(P:Am)(w:A0)(K:AM)(mg:Str->Option AD)(base:Heap)(CX:CXT)(k:Nat)(f:Addr)(fd:C6)(ps:List Str)(sp:Sp):Prop where
 len:∀ vs H Q E,sp vs H Q E->vs.length=ps.length
 run:∀ (A:BJ) (outer:List Env) (s:AG) (H:Hp) (args:Args) (us:List AD) (vs:List V) (Q:VK) (E:XK),Room k A->Env0 P w K mg base A outer s H->Gz s fd args (ps.zip us)->Vals vs us->sp vs H Q E ->
  Ee (model P w) A (.call (.ref f) args) (CR CX outer P w H s Q E) s
theorem FnOk.mono{P:Am}{w:A0}{K:AM}{mg:Str->Option AD}{base:Heap}{CX:CXT}{j k:Nat}{f:Addr}{fd:C6}{ps:List Str}{sp:Sp}(F:FnOk P w K mg base CX j f fd ps sp)(h:j<=k) :
  FnOk P w K mg base CX k f fd ps sp:=⟨F.len,fun A outer s H args us vs Q E hr=>F.run A outer s H args us vs Q E (hr.mono h)⟩
section
variable {X:Cx}{pins:List (Addr×Obj)}{σ:St}{H:Hp}{s s':AG}
theorem Inv.env0(I:Inv X pins σ H s):Env0 X.prog X.w X.K X.mg X.base X.A X.stack s H :=
 ⟨I.ok.frames,I.ok.mod,I.bs,Ai I.ok.bsz I.sz,I.stack,I.stkFree,I.hok,I.bare⟩
theorem Inv.after{Q:VK}{u:AD}(I:Inv X pins σ H s)(h:CE X.stack X.prog X.w H s Q u s'):EP X pins σ Q u s':=by
 obtain⟨v,H',os,bare,un,hok,r,q⟩:=h
 obtain⟨hh,g,d,t,os'⟩:=s'
 obtain rfl:os'=s.os:=os
 exact⟨v,H',I.call (h':=hh) (g':=g) (d':=d) (t':=t) (ch:=[]) un hok bare (fun b z=>absurd z (by simp)),r,q⟩
end
def tCall (sp:Sp) (dvs:List V) (E:XK) (t:TA):TE:=fun σ H Q=>t σ H fun vs H1=>sp (vs++dvs) H1 Q E
def Binds (K:AM) (fd:C6) (ps:List Str) (ds:List AD):Prop :=
 ∀ (s:AG) (us:List AD),K.In s.heap->(us++ds).length=ps.length->Gz s fd ⟨us,[]⟩ (ps.zip (us++ds))
theorem Binds.all{K:AM}{fd:C6}{ps:List Str}(h:∀ us:List AD,us.length=ps.length->bindArgs fd ⟨us,[]⟩=pure (ps.zip us)):Binds K fd ps []:=fun s us _ hl=>by
 rw[Do]at hl ⊢
 exact .of_eq (h us hl)
def Passes (CX:CXT) (X:Cx) (E:XK):Prop:=∀ (pins:List (Addr×Obj)) (σ:St) (H:Hp) (s:AG) (e:AD) (s':AG),Inv X pins σ H s->CX X.stack H s E e s'->X.xe e s'
section
variable {X:Cx}{CX:CXT}{k:Nat}{f C:Addr}{fd:C6}{ps:List Str}{sp:Sp}{dvs:List V}{ds:List AD}{E:XK}{x m:Str}{p pos apos:Pos}{e o:Expr}{es:List Expr}{ta:TE}{t:TA}
theorem zKp{pins:List (Addr×Obj)}{σ:St}{H:Hp}{s:AG}{Q:VK}{us:List AD}{vs:List V}(F:FnOk X.prog X.w X.K X.mg X.base CX k f fd ps sp)(hr:Room k X.A)(hb:Binds X.K fd ps ds)(hd:Vals dvs ds)(hx:Passes CX X E)
  (I:Inv X pins σ H s) (r:Vals vs us) (h:sp (vs++dvs) H Q E):AQ (model X.prog X.w) X.A (call (.ref f) us) (EP X pins σ Q) X.xe s:=by
 have r2:Vals (vs++dvs) (us++ds):=r.append hd
 have hl:(us++ds).length=ps.length:=by rw[← r2.length]; exact F.len _ _ _ _ h
 refine wpAny_call (FG (F.run X.A X.stack s H ⟨us,[]⟩ (us++ds) (vs++dvs) Q E hr I.env0 (hb s us I.kIn hl) r2 h) fun r s' hq=>?_)
 cases r with
 | error e=>exact hx pins σ H s e s' I hq
 | ok fl =>
  cases fl with
  | ret u=>exact I.after hq
  | next=>exact BU hq
  | brk=>exact BU hq
  | cont=>exact BU hq
theorem zMv(F:FnOk X.prog X.w X.K X.mg X.base CX k f fd ps sp)(hr:Room k X.A)(hg:Gl X x)(hm:X.mg x=some (.ref f))(hk:Cj X.K (.ref f)=true)(hb:Binds X.K fd ps ds)(hd:Vals dvs ds)(hx:Passes CX X E)
  (ha:PA X (e::es) t) (hdb:(x == ("__debug__":Str))=false:=by decide) (he:AU (e::es) X.env=(false,eval e X.env)::AU es X.env:=by rfl) (hpl:(CL pos (AU es X.env)).any (·.1)=false:=by rfl) :
  PE X (.Call (.Name x p) (e::es) [] pos) (tCall sp dvs E t):=by
 intro pins s σ H Q I h
 refine EL (zHs I hg hm ?_ hdb)
 refine G7 (h₀:=X.base) I.ok.mod.kin hk (thn (ha pos pins s σ H _ I h) fun us s1 ⟨vs,H1,I1,r,q⟩=>⟨I1.kIn,?_⟩) he hpl
 exact zKp F hr hb hd hx I1 r q
end
structure FnScope(N P:List Str)(sc:Ez):Prop where
 kind:sc.kind=.function
 co:sc.isCoroutine=false
 gen:sc.isGenerator=false
 nd:N.Nodup
 pre:N.take P.length=P
 par:∀ x∈P,sc.names.lookup x=some .local\/sc.names.lookup x=some .cell
 nofree:∀ y∈sc.names,y.2≠.free
theorem zFT{D6:Str->Option CS}{x:Str}:∀ {binds:List (Str×AD)} {m:Str->Option AD},(∀ v,(x,v)∉binds)->He D6 binds m x=m x
 | [],_,_=>rfl
 | (n,v)::r,m,h=>by
  unfold He
  rw[zFT fun w hw=>h w (AR _ hw)]
  split
  ·have:x≠n:=by rintro rfl; exact h v AZ
   simp[this]
  ·rfl
theorem zFF{D6:Str->Option CS}{x:Str}:∀ {binds:List (Str×AD)} {m:Str->Option AD},(∀ v,(x,v)∉binds)->Hf D6 binds m x=m x
 | [],_,_=>rfl
 | (n,v)::r,m,h=>by
  unfold Hf
  rw[zFF fun w hw=>h w (AR _ hw)]
  split
  ·rfl
  ·have:x≠n:=by rintro rfl; exact h v AZ
   simp[this]
theorem zFM{D6:Str->Option CS}{x:Str}{v:AD}:∀ {P:List Str} {vs:List AD} {i:Nat} {m:Str->Option AD},P.Nodup->P[i]?=some x->vs[i]?=some v->D6 x=some .local ->
  He D6 (P.zip vs) m x=some v
 | [],_,_,_,_,h,_,_=>by simp at h
 | _::_,[],_,_,_,_,h,_=>by simp at h
 | p::P,w::vs,0,m,nd,h1,h2,hk=>by
  simp at h1 h2; subst h1; subst h2
  show He D6 ((p,w)::P.zip vs) m p=_
  unfold He
  rw[zFT fun v hv=>(Bf.mp nd).1 (GE hv).1,if_pos hk]
  simp
 | p::P,w::vs,i+1,m,nd,h1,h2,hk=>by
  show He D6 ((p,w)::P.zip vs) m x=_
  unfold He
  exact zFM (i:=i) (Bf.mp nd).2 (by simpa using h1) (by simpa using h2) hk
theorem zFW{D6:Str->Option CS}{x:Str}{v:AD}:∀ {P:List Str} {vs:List AD} {i:Nat} {m:Str->Option AD},P.Nodup->P[i]?=some x->vs[i]?=some v->D6 x≠some .local ->
  Hf D6 (P.zip vs) m x=some v
 | [],_,_,_,_,h,_,_=>by simp at h
 | _::_,[],_,_,_,_,h,_=>by simp at h
 | p::P,w::vs,0,m,nd,h1,h2,hk=>by
  simp at h1 h2; subst h1; subst h2
  show Hf D6 ((p,w)::P.zip vs) m p=_
  unfold Hf
  rw[zFF fun v hv=>(Bf.mp nd).1 (GE hv).1,if_neg hk]
  simp
 | p::P,w::vs,i+1,m,nd,h1,h2,hk=>by
  show Hf D6 ((p,w)::P.zip vs) m x=_
  unfold Hf
  exact zFW (i:=i) (Bf.mp nd).2 (by simpa using h1) (by simpa using h2) hk
def start (N:List Str) (vs:List V):St:=vs.map some++AN (N.length - vs.length) none
def cxOf (CX:CXT) (P:Am) (w:A0) (K:AM) (mg:Str->Option AD) (base:Heap) (N:List Str) (qual:Str) (scope:Ez) (f:Addr) (cd:AD) (A:BJ) (outer:List Env) (s:AG) (H:Hp) (E:XK):Cx where
 prog:=P
 w:=w
 K:=K
 mg:=mg
 base:=base
 A:=A.deeper (GC qual scope s.heap.objs.size f cd)
 N:=N
 s₀:=s
 H₀:=H
 env:=GC qual scope s.heap.objs.size f cd
 outer:=outer
 stack:=GC qual scope s.heap.objs.size f cd::outer
 ex:=[]
 calm:=true
 fn:=fun _=>true
 pn:=[]
 xe:=fun e s'=>AQ (model P w) (A.deeper (GC qual scope s.heap.objs.size f cd)) (leaving (GC qual scope s.heap.objs.size f cd) e) (fun _ s''=>CX outer H s E e s'') (fun e' s''=>CX outer H s E e' s'') s'
theorem zGe{sc:Ez}{n:Nat}{x:Str}(h:sc.names.lookup x=some .cell):∃ c,(BG n sc.names []).lookup x=some c:=by
 have q:=DH sc.names n [] (.inl h)
 exact C3.mp q
theorem zJ5{CX:CXT}{P:Am}{w:A0}{K:AM}{mg:Str->Option AD}{base:Heap}{N ps:List Str}{qual:Str}{scope:Ez}{f:Addr}{cd:AD}{A:BJ}{outer:List Env}{s s1:AG}{H:Hp}{E:XK}{us:List AD}{vs:List V}
  (S:FnScope N ps scope) (hd:A.handled=none) (e0:Env0 P w K mg base A outer s H) (hl:vs.length=ps.length) (r:Vals vs us)
  (x:InCallC s s.heap.objs.size (He (GC qual scope s.heap.objs.size f cd).kindOf (ps.zip us) fun _=>none) (BG (s.heap.objs.size+1) scope.names []) (Hf (GC qual scope s.heap.objs.size f cd).kindOf (ps.zip us) fun _=>none) s1) :
  Inv (cxOf CX P w K mg base N qual scope f cd A outer s H E) [] (start N vs) H s1:=by
 have hpl:ps.length<=N.length:=by have:=congrArg JS S.pre; rw[Bt]at this; lia
 obtain⟨h1,tk,rfl,hk⟩:=x.done
 have noA:∀ b:Addr,b∉(cxOf CX P w K mg base N qual scope f cd A outer s H E).ex:=fun b z=>absurd (show b∈([]:List Addr) from z) (by simp)
 refine⟨⟨e0.mod,S.kind,rfl,rfl,AF _,fun y z c h1 h2=>?_,fun y hy=>?_,fun y c _ h=>?_,fun _=>hd,Around.frames_deeper e0.frames,.inr ⟨rfl,rfl⟩,fun b z=>absurd z (noA b),e0.bs,e0.bsz,fun b _ _=>noA b,fun b z=>absurd z (noA b),e0.funs,e0.frf⟩,
  rfl,e0.bare,Un.kept hk,⟨_,x.toInCall.ns,fun i y v h1 h2 h3=>?_⟩,fun y c h=>⟨_,x.cell y c h⟩,e0.hok.fresh (AF _),fun y c h=>?_,fun p hp=>absurd (show p∈([]:List (Addr×Obj)) from hp) (by simp),e0.hok.kept hk,?_⟩
 ·exact name_of_addr x.apart (BV h1) (BV h2)
 ·have hy:scope.names.lookup y=some .cell\/scope.names.lookup y=some .free:=hy
  rcases hy with hy | hy
  ·exact zGe hy
  ·exact absurd rfl (S.nofree _ (BV hy))
 ·exact Dv (x.above y c (BV h))
 ·have hi:i < vs.length:=by
   unfold start at h2
   by_cases hi:i < vs.length
   ·exact hi
   ·rw[Cs (by simpa using hi)]at h2
    rw[Gw]at h2
    split at h2 <;> cases h2
  have ha:vs[i]?=some v:=by
   unfold start at h2
   rw[BI (by simpa using hi),Ah]at h2
   cases e:vs[i]? with
   | none=>rw[e]at h2; cases h2
   | some a=>rw[e]at h2; cases h2; rfl
  obtain⟨u,hu,rv⟩:=r.get ha
  have hp:ps[i]?=some y:=by
   rw[← S.pre,List.getElem?_take_of_lt ⋯]; exact h1
  have ndP:ps.Nodup:=by rw[← S.pre]; exact S.nd.sublist (List.take_sublist _ _)
  refine⟨u,rv,?_⟩
  rcases S.par y (Ct hp) with k | k
  ·exact .inl ⟨k,zFM ndP hp hu k⟩
  ·obtain⟨c,e⟩:=zGe (n:=s.heap.objs.size+1) k
   refine .inr ⟨.inl k,c,e,?_⟩
   have q:=x.cell y c e
   rw[zFW ndP hp hu (by show scope.names.lookup y≠_; rw[k]; decide)]at q
   exact q
 ·exact e0.hok.fresh (Dv (x.above y c (BV h)))
 ·unfold start
  show _=N.length
  rw[Ax,Bg,Es]
  lia
theorem zP1{CX:CXT}{P:Am}{w:A0}{K:AM}{mg:Str->Option AD}{base:Heap}{k:Nat}{f:Addr}{name qual:Str}{params:Arguments}{body:List Stmt}{scope:Ez}{dV kV doc pm cdv ct oc:AD}{an od:Option Addr}
  {osl:Array (Option AD)} {N ps:List Str} {sp:Sp} (lk:K.lookup f=some ⟨oc,od,.func (Dm name qual params body scope dV kV doc pm an cdv ct),osl⟩) (hcd:Dp K cdv qual=true) (S:FnScope N ps scope)
  (len:∀ vs H Q E,sp vs H Q E->vs.length=ps.length)
  (hbody:∀ (A:BJ) (outer:List Env) (s:AG) (H:Hp) (vs:List V) (Q:VK) (E:XK),Room k (A.deeper (GC qual scope s.heap.objs.size f cdv))->sp vs H Q E ->
   ∃ t,PSs (cxOf CX P w K mg base N qual scope f cdv A outer s H E) body t/\t { nx:=fun _ H'=>Q .non H',rt:=Q } (start N vs) H) :
  FnOk P w K mg base CX (k+1) f (Dm name qual params body scope dV kV doc pm an cdv ct) ps sp:=by
 refine⟨len,fun A outer s H args us vs Q E hr e0 hb r hsp=>?_⟩
 have hl:=len _ _ _ _ hsp
 have KX:K.In s.heap:=e0.mod.kin.keeps fun b o e=>(e0.bs b o e).1
 have lim:s.heap.NoLimit:=e0.mod.nolimit.keeps fun b o e=>(e0.bs b o e).1
 have hkind:∀ y∈ps.zip us,scope.names.lookup y.1=some .local\/(scope.names.lookup y.1=some .cell/\((BG (s.heap.objs.size+1) scope.names []).lookup y.1).isSome=true):=fun ⟨n,v⟩ hy=>by
  rcases S.par n (GE hy).1 with q | q
  ·exact .inl q
  ·exact .inr ⟨q,DH _ _ _ (.inl q)⟩
 refine codeAny_call_function hr.depth (KX _ _ lk) rfl S.co S.gen rfl (PySem.W.codeRec_of KX hcd) (hb _ _ _ _ ?_)
 refine wpAny_newFunctionEnv_cells S.kind hkind fun env he s1 x=>?_
 subst he
 refine⟨lim.keeps x.toInCall.keep,codeAny_func ?_⟩
 obtain⟨t,ht,hq⟩:=hbody A outer s H vs Q E (hr.deeper _) hsp
 have I:Inv (cxOf CX P w K mg base N qual scope f cdv A outer s H E) [] (start N vs) H s1:=zJ5 S hr.hd e0 hl r x
 refine B3 (ht [] s1 (start N vs) H _ I hq) (fun fl s' hs=>?_) fun e s' hs=>hs
 have fin:∀ {σ':St} {H':Hp} {v:V} {u:AD},Inv (cxOf CX P w K mg base N qual scope f cdv A outer s H E) [] σ' H' s'->RelV v u->Q v H'->CE outer P w H s Q u s' :=
  fun {σ' H' v u} J rv q=>⟨v,H',J.os,J.bare,J.base,J.hok,rv,q⟩
 cases fl with
 | ret u =>
  obtain⟨v,σ',H',J,rv,q⟩:=hs
  exact fin J rv q
 | next =>
  obtain⟨σ',H',J,q⟩:=hs
  exact fin (v:=V.non) (u:=CY) J rfl q
 | brk =>
  obtain⟨_,_,_,q⟩:=hs
  exact BU q
 | cont =>
  obtain⟨_,_,_,q⟩:=hs
  exact BU q
section
variable {X:Cx}{x:Str}{p pos:Pos}{e:Expr}{es:List Expr}{t:TA}{id T:String}{r:List V->Hp->VK->Prop}
def tCB (r:List V->Hp->VK->Prop) (t:TA):TE:=fun σ H Q=>t σ H fun vs H1=>r vs H1 Q
theorem zL7(hc:CallR X (.builtin id) r)(hg:Gl X x)(hm:X.mg x=none)(hv:CP x=some (.builtin id))(ha:PA X (e::es) t)(hn:x≠"__name__":=by decide)(hdb:(x == ("__debug__":Str))=false:=by decide)
  (he:AU (e::es) X.env=(false,eval e X.env)::AU es X.env:=by rfl) (hpl:(CL pos (AU es X.env)).any (·.1)=false:=by rfl):PE X (.Call (.Name x p) (e::es) [] pos) (tCB r t):=by
 intro pins s σ H Q I h
 refine EL (zBH I hg hm hv ?_ hn hdb)
 exact Jx (thn (ha pos pins s σ H _ I h) fun us s1 ⟨vs,H1,I1,r1,q1⟩=>hc pins s1 σ H1 vs us Q I1 r1 q1) he hpl
theorem zB2(hc:CallR X (.type T) r)(hg:Gl X x)(hm:X.mg x=none)(hv:CP x=some (.type T))(ha:PA X (e::es) t)(hn:x≠"__name__":=by decide)(hdb:(x == ("__debug__":Str))=false:=by decide)
  (he:AU (e::es) X.env=(false,eval e X.env)::AU es X.env:=by rfl) (hpl:(CL pos (AU es X.env)).any (·.1)=false:=by rfl):PE X (.Call (.Name x p) (e::es) [] pos) (tCB r t):=by
 intro pins s σ H Q I h
 refine EL (zBH I hg hm hv ?_ hn hdb)
 exact An (thn (ha pos pins s σ H _ I h) fun us s1 ⟨vs,H1,I1,r1,q1⟩=>hc pins s1 σ H1 vs us Q I1 r1 q1) he hpl
end
end L2
namespace HT
open PySem PyProof.Rows
section
open PySem.SeqAt
open PySem.AutoSeq1 (wpAny_loadPart')
open PySem.MeetsSeq PySem.MeetsSeq2 PySem.MeetsSeq3
end
section
variable {prog:Am}{w:A0}{A:BJ}{E:AD->AG->Prop}{s:AG}
theorem cat_tup{t b:Addr}{vs ws:List AD}{Q:AD->AG->Prop}(ht:Iu s.heap t vs.toArray)(hb:Iu s.heap b ws.toArray)(hv:vs≠[])
  (h1:ws=[]->Q (.ref t) s) (h2:ws≠[]->Q (.ref s.heap.objs.size) { s with heap:=s.heap.push { cls:=.type "tuple",data:=.seq (vs++ws).toArray } })
  (hsz:vs.length+ws.length<=AB):AQ (model prog w) A (CA .Add (.ref t) (.ref b)) Q E s:=by
 obtain⟨⟨cls,dd,data,sl⟩,ho,hc,n,hd⟩:=id ht
 obtain⟨⟨cls2,dd2,data2,sl2⟩,ho2,hc2,n2,hd2⟩:=id hb
 simp only at hc hd hc2 hd2
 subst hc hd hc2 hd2
 have e:vs.toArray++ws.toArray=(vs++ws).toArray:=by simp
 by_cases hw:ws=[]
 ·exact Hn ⟨_,ho,rfl⟩ ⟨_,ho2,rfl⟩ Gf HS EM EF (D7 _ _)
   (tuple_addW1 t b vs.toArray ws.toArray n n2 dd dd2 sl sl2 (by simpa using hv) (by simp[hw])) ⟨ho,ho2,h1 hw⟩
 ·refine Hn ⟨_,ho,rfl⟩ ⟨_,ho2,rfl⟩ Gf HS EM EF (D7 _ _)
   (tuple_addW2 t b vs.toArray ws.toArray n n2 dd dd2 sl sl2 (by simpa using hv) (by simpa using hw) (by rw[AL,AL]; exact hsz)) ⟨ho,ho2,?_⟩
  rw[e]
  exact h2 hw
def sIx (n d:Nat):Option Int->Nat
 | none=>d
 | some v=>if v < 0 then (v+(n:Int)).toNat else min v.toNat n
theorem sIx_none(n d:Nat):sIx n d none=d:=rfl
theorem sIx_nat(n d k:Nat):sIx n d (some (k:Int))=min k n:=by
 show (if (k:Int) < 0 then ((k:Int)+(n:Int)).toNat else min (k:Int).toNat n)=min k n
 rw[if_neg ⋯,Bn]
theorem zOx(n d:Nat)(hd:d<=n)(o:Option Int):sIx n d o<=n:=by
 cases o with
 | none=>exact hd
 | some v =>
  show (if v < 0 then (v+(n:Int)).toNat else min v.toNat n)<=n
  by_cases hv:v < 0
  ·rw[if_pos hv]; lia
  ·rw[if_neg hv]; exact Nat.min_le_right _ _
theorem zHi(v:Int)(n d:Nat):(if v < 0 then max (v+(n:Int)) 0 else min v (n:Int))=((sIx n d (some v):Nat):Int):=by
 show (if v < 0 then max (v+(n:Int)) 0 else min v (n:Int))=(((if v < 0 then (v+(n:Int)).toNat else min v.toNat n):Nat):Int)
 by_cases hv:v < 0
 ·simp only[if_pos hv]; lia
 ·simp only[if_neg hv]; lia
theorem zIT(lo hi:Option Int)(n:Nat):Dd lo hi 1 (n:Int)=(((sIx n 0 lo:Nat):Int),((sIx n n hi:Nat):Int)):=by
 have h1:¬ ((1:Int) < 0):=by lia
 unfold Dd
 simp only[h1,if_false]
 refine Prod.ext ?_ ?_
 ·cases lo with
  | none=>rfl
  | some v=>exact zHi v n 0
 ·cases hi with
  | none=>rfl
  | some v=>exact zHi v n n
theorem zI4(i j:Nat):Cd (i:Int) (j:Int) 1=j - i:=by
 unfold Cd
 have h1:(1:Int) > 0:=by lia
 simp only[h1,if_true,Int.ediv_one]
 split <;> lia
theorem zEN{v:AD}{o:Option Int}{Q:Option Int->AG->Prop}(p:FT v o)(h:Q o s):AQ (model prog w) A (JT v) Q E s:=by
 cases p with
 | none=>exact KA h
 | int i t=>exact slicePart_int h
theorem sliceApplied_gen{sl:Addr}{vl vu:AD}{lo hi:Option Int}{n:Nat}{Q:Int×Int×Nat->AG->Prop}(hs:s.heap.IsSliceOf sl vl vu .none)(pl:FT vl lo)(pu:FT vu hi)
  (h:Q (((sIx n 0 lo:Nat):Int),1,sIx n n hi - sIx n 0 lo) s):AQ (model prog w) A (FO (.ref sl) (pure (n:Int))) Q E s:=by
 obtain⟨os,hos,hcs,hds⟩:=id hs
 unfold FO JU
 refine AA (AA (Ap hos hds (x:=vl) rfl (AA (Ap hos hds (x:=vu) rfl (AA (Ap hos hds (x:=.none) rfl (AJ ?_)))))))
 refine AA (KA ?_)
 show AQ _ _ (if ((1:Int) == 0)=true then _ else _) _ _ s
 rw[if_neg ∅]
 refine AA (zEN pl (AA (zEN pu (AA (AJ ?_)))))
 show AQ _ _ (match Dd lo hi 1 (n:Int) with | (lo,hi)=>pure (lo,(1:Int),Cd lo hi 1)) _ _ s
 rw[zIT lo hi n]
 show AQ _ _ (pure (((sIx n 0 lo:Nat):Int),(1:Int),Cd ((sIx n 0 lo:Nat):Int) ((sIx n n hi:Nat):Int) 1)) _ _ s
 rw[zI4]
 exact AJ h
theorem zLo(xs:Array AD)(i k:Nat):((AV k).filterMap fun (m:Nat)=>xs[((i:Int)+(m:Int) * 1).toNat]?).toArray=((xs.toList.drop i).take k).toArray:=by
 have e:(fun (m:Nat)=>xs[((i:Int)+(m:Int) * 1).toNat]?)=fun m=>xs[i+m]?:=by
  funext m
  have:((i:Int)+(m:Int) * 1).toNat=i+m:=by lia
  rw[this]
 rw[e]
 have:=pick_run xs i k
 rw[List.filterMap_map]at this
 have e2:((fun x=>xs[x]?) ∘ fun x=>i+x)=fun m=>xs[i+m]?:=rfl
 rw[e2]at this
 rw[this]
theorem qY{t sl:Addr}{items:Array AD}{vl vu:AD}{lo hi:Option Int}{Q:AD->AG->Prop}(ht:Iu s.heap t items)(hs:s.heap.IsSliceOf sl vl vu .none)(pl:FT vl lo)(pu:FT vu hi)
  (hw:¬ (sIx items.size 0 lo=0/\sIx items.size items.size hi=items.size))
  (h:Q (.ref s.heap.objs.size) { s with heap:=s.heap.push { cls:=.type "tuple",data:=.seq ((items.toList.drop (sIx items.size 0 lo)).take (sIx items.size items.size hi - sIx items.size 0 lo)).toArray } })
  (hsz:items.size<=AB):AQ (model prog w) A (GN (.ref t) (.ref sl)) Q E s:=by
 have htake:sizeOk (.seq ((items.toList.drop (sIx items.size 0 lo)).take (sIx items.size items.size hi - sIx items.size 0 lo)).toArray):=by
  show ((items.toList.drop (sIx items.size 0 lo)).take (sIx items.size items.size hi - sIx items.size 0 lo)).toArray.size<=AB
  rw[AL,Bt,B6,FE]
  omega
 have hj:sIx items.size items.size hi<=items.size:=zOx _ _ (AF _) hi
 obtain⟨os,hos,hcs,hds⟩:=id hs
 have hTs:s.TypeIs (.ref sl) "slice":=⟨os,hos,hcs⟩
 unfold GN
 try with_reducible refine Br ?_
 first | refine AA (AJ ?_) | skip
 refine AA (Iy ht.typeIs ∅ ?_)
 refine AA (Aq (name:=Bi "__getitem__") ht.typeIs Bk
  (A6 Bk ht.typeIs IS ?_ (Ih _ _)))
 show AQ _ _ (FP (.ref t) >>= _) _ _ s
 refine AA (Kd ht ?_)
 refine AA (EG hTs ?_)
 rw[if_pos ∅]
 refine AA (sliceApplied_gen hs pl pu ?_)
 have hno:¬ ((((sIx items.size 0 lo:Nat):Int) == 0 && (1:Int) == 1 && (sIx items.size items.size hi - sIx items.size 0 lo) == items.size)=true):=by
  intro q
  rw[AW,AW]at q
  have q1:((sIx items.size 0 lo:Nat):Int)=0:=eq_of_beq q.1.1
  have q2:sIx items.size items.size hi - sIx items.size 0 lo=items.size:=eq_of_beq q.2
  exact hw ⟨by omega,by omega⟩
 show AQ _ _ (if (((sIx items.size 0 lo:Nat):Int) == 0 && (1:Int) == 1 && (sIx items.size items.size hi - sIx items.size 0 lo) == items.size)=true then _ else _) _ _ s
 rw[if_neg hno,zLo]
 first
  | exact AA (m:=BH _) (Au (AJ ⟨_,rfl,AJ h⟩) htake)
  | exact AA (m:=BH _) (Au (AA (AJ (AJ ⟨_,rfl,AJ h⟩))) htake)
  | exact AA (AA (m:=BH _) (Au (AJ (AJ ⟨_,rfl,AJ h⟩)) htake))
  | exact AA (AA (m:=BH _) (Au (AJ ⟨_,rfl,AJ h⟩) htake))
end
end HT
namespace L2
open PySem PySem.Spec PyProof.Rows
abbrev TO:=St->Hp->(Option Int->Hp->Prop)->Prop
def PO (X:Cx) (e:Option Expr) (t:TO):Prop :=
 ∀ (pins:List (Addr×Obj)) (s:AG) (σ:St) (H:Hp) (Q:Option Int->Hp->Prop),Inv X pins σ H s->t σ H Q ->
  AQ (model X.prog X.w) X.A (evalPart e X.env) (fun u s'=>∃ o H',Inv X pins σ H' s'/\FT u o/\Q o H') X.xe s
def tNoPart:TO:=fun _ H Q=>Q none H
def tPart (t:TE):TO:=fun σ H Q=>t σ H fun x H1=>∃ i,x=.int i/\Q (some i) H1
theorem zIK{ns:List Int}:∀ {us:List AD},Vals (ns.map V.int) us->FH us ns:=by
 induction ns with
 | nil=>intro us r; rw[A7]at r; cases r; exact .nil
 | cons n ns ih =>
  intro us r
  rw[Ab]at r
  cases r with
  | cons r1 r2 =>
   obtain⟨t,e⟩:=r1
   subst e
   exact .cons n t (ih r2)
section
variable {X:Cx}{e:Expr}{te:TE}{lo hi:Option Expr}{tl th:TO}{pos p2:Pos}
theorem zNN:PO X none tNoPart:=by
 intro pins s σ H Q I h
 rw[Ke]
 exact AJ ⟨none,H,I,.none,h⟩
theorem zN2(h:PE X e te):PO X (some e) (tPart te):=by
 intro pins s σ H Q I hw
 rw[evalPart_some]
 refine thn (h pins s σ H _ I hw) fun u s1 ⟨x,H1,I1,r1,q1⟩=>?_
 obtain⟨i,rfl,q⟩:=q1
 obtain⟨t,rfl⟩:=r1
 exact⟨some i,H1,I1,.int i t,q⟩
def SlR (X:Cx) (r:V->Option Int->Option Int->Hp->VK->Prop):Prop :=
 ∀ (pins:List (Addr×Obj)) (s:AG) (σ:St) (H:Hp) (x:V) (v vl vu:AD) (lo hi:Option Int) (sl:Addr) (Q:VK),Inv X pins σ H s->RelV x v->s.heap.IsSliceOf sl vl vu .none->FT vl lo->FT vu hi->r x lo hi H Q ->
  ∃ T id,typeLookup (.type T) "__getitem__"=pure (some (.builtin id))/\s.TypeIs v T/\AQ (model X.prog X.w) X.A (GN v (.ref sl)) (EP X pins σ Q) X.xe s
theorem SlR.or{r r':V->Option Int->Option Int->Hp->VK->Prop}(h:SlR X r)(h':SlR X r'):SlR X (fun x lo hi H Q=>r x lo hi H Q\/r' x lo hi H Q):=by
 intro pins s σ H x v vl vu lo hi sl Q I rx hs pl pu q
 rcases q with q | q
 ·exact h pins s σ H x v vl vu lo hi sl Q I rx hs pl pu q
 ·exact h' pins s σ H x v vl vu lo hi sl Q I rx hs pl pu q
def tSl (r:V->Option Int->Option Int->Hp->VK->Prop) (te:TE) (tl th:TO):TE:=fun σ H Q=>te σ H fun x H1=>tl σ H1 fun l H2=>th σ H2 fun u H3=>r x l u H3 Q
theorem zLT{r:V->Option Int->Option Int->Hp->VK->Prop}(hr:SlR X r)(he:PE X e te)(hl:PO X lo tl)(hu:PO X hi th):PE X (.Subscript e (.Slice lo hi none p2) pos) (tSl r te tl th):=by
 intro pins s σ H Q I h
 refine Subscript_ (thn (he pins s σ H _ I h) fun v s1 ⟨x,H1,I1,r1,q1⟩=>?_)
 refine wpAny_Slice (thn (hl pins s1 σ H1 _ I1 q1) fun vl s2 ⟨l,H2,I2,pl,q2⟩=>thn (hu pins s2 σ H2 _ I2 q2) fun vu s3 ⟨u,H3,I3,pu,q3⟩=>?_)
 rw[Ke]
 refine AJ ?_
 have I4:Inv X pins σ H3 { s3 with heap:=s3.heap.push { cls:=.type "slice",data:=.fields #[vl,vu,.none] } }:=I3.kept (t':=s3.toks) fun b ob q=>AC _ q
 obtain⟨T,id,hT,ht,hg⟩:=hr pins { s3 with heap:=s3.heap.push { cls:=.type "slice",data:=.fields #[vl,vu,.none] } } σ H3 x v vl vu l u s3.heap.objs.size Q I4 r1 (Iz ..) pl pu q3
 show AQ (model X.prog X.w) X.A (Kh e (.Slice lo hi none p2) v (.ref s3.heap.objs.size)) (EP X pins σ Q) X.xe { s3 with heap:=s3.heap.push { cls:=.type "slice",data:=.fields #[vl,vu,.none] } }
 exact tail_any (ops:=[.ref s3.heap.objs.size,v]) ht hT hg (by with_unfolding_all rfl)
def cutV (xs:List V) (lo hi:Option Int):List V:=(xs.drop (HT.sIx xs.length 0 lo)).take (HT.sIx xs.length xs.length hi - HT.sIx xs.length 0 lo)
theorem zDp(xs:List V)(lo hi:Option Int):(cutV xs lo hi).length<=xs.length:=by
 unfold cutV
 rw[Bt,B6]
 omega
end
def ixN (n:Nat) (i:Int):Option Nat:=if 0<=i then (if i < n then some i.toNat else none) else if -(n:Int)<=i then some (i+n).toNat else none
def atI {α:Type} (xs:List α) (i:Int):Option α:=(ixN xs.length i).bind fun j=>xs[j]?
theorem zEq{n:Nat}{i:Int}{j:Nat}(h:ixN n i=some j):Fi i n=some j/\j < n/\-(n:Int)<=i/\i < n:=by
 unfold ixN at h
 by_cases h0:0<=i
 ·rw[if_pos h0]at h
  by_cases h1:i < n
  ·rw[if_pos h1]at h
   have e:i.toNat=j:=Ak h
   exact⟨by rw[Gp h0 h1,e],by lia,by lia,h1⟩
  ·rw[if_neg h1]at h; cases h
 ·rw[if_neg h0]at h
  by_cases h1:-(n:Int)<=i
  ·rw[if_pos h1]at h
   have e:(i+n).toNat=j:=Ak h
   exact⟨by rw[Ho ⋯ h1,e],by lia,h1,by lia⟩
  ·rw[if_neg h1]at h; cases h
theorem zEy{α:Type}{xs:List α}{i:Int}{v:α}(h:atI xs i=some v):∃ j,Fi i xs.length=some j/\xs[j]?=some v/\j < xs.length/\-(xs.length:Int)<=i/\i < xs.length:=by
 unfold atI at h
 cases e:ixN xs.length i with
 | none=>rw[e]at h; cases h
 | some j =>
  rw[e]at h
  obtain⟨h1,h2,h3,h4⟩:=zEq e
  exact⟨j,h1,h,h2,h3,h4⟩
theorem zHe{α:Type}{xs:List α}{j:Nat}{v:α}(h:xs[j]?=some v):atI xs (j:Int)=some v:=by
 have hj:j < xs.length:=(Aa.mp h).1
 have e:ixN xs.length (j:Int)=some j:=by
  unfold ixN
  rw[if_pos ⋯,if_pos ⋯]; simp
 unfold atI; rw[e]; exact h
def PlainIx (b:Expr):Prop:=∀ o i,subscripted b false o i=operate [o,i] (GN o i)
def IxR (X:Cx) (r:R2):Prop :=
 ∀ (value slice:Expr) (pins:List (Addr×Obj)) (s:AG) (σ:St) (H:Hp) (x y:V) (v u:AD) (Q:VK),Inv X pins σ H s->RelV x v->RelV y u->r x y H Q ->
  subscripted slice false v u=operate [v,u] (GN v u)->AQ (model X.prog X.w) X.A (Kh value slice v u) (EP X pins σ Q) X.xe s
def MtR (X:Cx) (id:String) (r:V->List V->Hp->VK->Prop):Prop :=
 ∀ (pins:List (Addr×Obj)) (s:AG) (σ:St) (H:Hp) (x:V) (xs:List V) (v:AD) (us:List AD) (Q:VK),Inv X pins σ H s->RelV x v->Vals xs us->r x xs H Q ->
  AQ (model X.prog X.w) X.A (call (.builtin id) (v::us)) (EP X pins σ Q) X.xe s
section
variable {X:Cx}{a b:Expr}{ta tb:TE}{pos:Pos}
theorem IxR.or{r r':R2}(h:IxR X r)(h':IxR X r'):IxR X (fun x y H Q=>r x y H Q\/r' x y H Q):=by
 intro value slice pins s σ H x y v u Q I rx ry q hs
 rcases q with q | q
 ·exact h value slice pins s σ H x y v u Q I rx ry q hs
 ·exact h' value slice pins s σ H x y v u Q I rx ry q hs
theorem zQT{r:R2}(hr:IxR X r)(ha:PE X a ta)(hb:PE X b tb)(hs:PlainIx b):PE X (.Subscript a b pos) (tOp r ta tb):=by
 intro pins s σ H Q I h
 exact Subscript_ (binT ha hb I h fun v u s2 x y H2 I2 rx ry q=>hr a b pins s2 σ H2 x y v u Q I2 rx ry q (hs _ _))
def rIxL (K:AM):R2:=fun x y H Q=>∃ p xs i v,x=.ref p/\y=.int i/\SqL K H p xs/\atI xs i=some v/\Q v H
def rIxT (K:AM):R2:=fun x y H Q=>∃ p xs i v,x=.ref p/\y=.int i/\SqT K H p xs/\atI xs i=some v/\Q v H
def rIxS:R2:=fun x y H Q=>∃ z i c,x=.str z/\y=.int i/\z.length<=AB/\atI z.cps.toList i=some c/\Q (.str ⟨#[c]⟩) H
theorem zNv:IxR X (rIxL X.K):=by
 intro value slice pins s σ H x y v u Q I rx ry h hs
 obtain⟨p,xs,i,z,rfl,rfl,hq,he,q⟩:=h
 cases rx
 obtain⟨t,rfl⟩:=ry
 obtain⟨its,r,pl,hz⟩:=I.list hq
 obtain⟨j,h1,h2,h3,h4,h5⟩:=zEy he
 obtain⟨w,ew,rw'⟩:=r.get h2
 have hl:=r.length
 have hn:=line63
 have fin:EP X pins σ Q w s:=⟨z,H,I,rw',q⟩
 by_cases h0:0<=i
 ·have hj:i.toNat=j:=by
   rw[Gp h0 h5]at h1
   exact Ak h1
  exact item_listR pl.isList h0 ⋯ (by rw[hj]; simpa using ew) fin hs
 ·have hj:(i+(its.toArray.size:Int)).toNat=j:=by
   rw[Ho ⋯ h4]at h1
   rw[AL,← hl]
   exact Ak h1
  exact Hq (x:=w) pl.isList.typeIs I0.lookup
   (wpAny_getItem_list_neg (Q:=fun r s'=>r=w/\EP X pins σ Q r s') pl.isList ⋯ (by rw[AL] <;> lia) ⋯ (by rw[hj]; simpa using ew) ⟨rfl,fin⟩) hs
theorem zO5:IxR X (rIxT X.K):=by
 intro value slice pins s σ H x y v u Q I rx ry h hs
 obtain⟨p,xs,i,z,rfl,rfl,hq,he,q⟩:=h
 cases rx
 obtain⟨t,rfl⟩:=ry
 obtain⟨its,r,pl,hz⟩:=I.tuple hq
 obtain⟨j,h1,h2,h3,h4,h5⟩:=zEy he
 obtain⟨w,ew,rw'⟩:=r.get h2
 have hl:=r.length
 have hn:=line63
 have fin:EP X pins σ Q w s:=⟨z,H,I,rw',q⟩
 exact Hq (x:=w) pl.typeIs slot_tuple_getitem.lookup
  (getItem_tuple (j:=j) (Q:=fun r s'=>r=w/\EP X pins σ Q r s') pl ⋯ ⋯ (by rw[AL,← hl]; exact h1) (by simpa using ew) ⟨rfl,fin⟩) hs
theorem zOm:IxR X rIxS:=by
 intro value slice pins s σ H x y v u Q I rx ry h hs
 obtain⟨z,i,c,rfl,rfl,hz,he,q⟩:=h
 obtain⟨t,rfl⟩:=rx
 obtain⟨t',rfl⟩:=ry
 obtain⟨j,h1,h2,h3,h4,h5⟩:=zEy he
 have hl:z.cps.toList.length=z.length:=by simp[Str.length]
 rw[hl]at h1 h4 h5
 have hn:=line63
 exact tail_any (typeIs_str s z t) slot_str_getitem.lookup (getItem_str (c:=c) (by
  have e1:decide (i < -(2 ^ 63:Int))=false:=decide_eq_false ⋯
  have e2:decide (i ≥ 2 ^ 63)=false:=decide_eq_false ⋯
  rw[e1,e2,Ii]) (by rw[h1]; simpa using h2) ⟨.str ⟨#[c]⟩,H,I.tok _,⟨_,rfl⟩,q⟩) hs
def rIx (K:AM):R2:=fun x y H Q=>rIxL K x y H Q\/rIxT K x y H Q\/rIxS x y H Q
theorem zOq:IxR X (rIx X.K):=zNv.or (zO5.or zOm)
theorem zHz(its:List AD)(n j:Nat)(u:AD):DJ (·.setIfInBounds j u) { cls:=.type "list",data:=.seq its.toArray n }={ cls:=.type "list",data:=.seq (its.set j u).toArray n }:=by
 simp[DJ]
theorem Inv.lst{pins:List (Addr×Obj)}{σ:St}{H:Hp}{s:AG}{p:Addr}{xs:List V}(I:Inv X pins σ H s)(h:H p=some (.lst xs)) :
  ∃ (its:List AD) (n:Nat),Vals xs its/\s.heap.get? p=some { cls:=.type "list",data:=.seq its.toArray n }/\xs.length<=AB:=by
 obtain⟨z,its,n,r,e⟩:=I.hok p _ h
 exact⟨its,n,r,e,z⟩
theorem Inv.lstUpd{pins:List (Addr×Obj)}{σ:St}{H:Hp}{s:AG}{p:Addr}{xs ys:List V}{its its':List AD}{n n':Nat}{f:Obj->Obj}(I:Inv X pins σ H s)(h:H p=some (.lst xs))
  (ho:s.heap.get? p=some { cls:=.type "list",data:=.seq its.toArray n }) (hf:f { cls:=.type "list",data:=.seq its.toArray n }={ cls:=.type "list",data:=.seq its'.toArray n' }) (r:Vals ys its') (hz:ys.length<=AB) (t:Nat) :
  Inv X pins σ (upd H p (.lst ys)) { s with heap:=s.heap.update p f,toks:=t }:=by
 have e:(s.heap.update p f).get? p=some { cls:=.type "list",data:=.seq its'.toArray n' }:=by
  rw[Cg f ho (by rw[hf] <;> rfl),hf]
 refine I.write (x:=p) (e:=p) (by rw[h]; trivial) (.inl rfl) (fun b u hb q=>(Bm _ _ (BD hb)).trans q) ⟨_,e⟩ ?_
 exact⟨hz,its',n',r,e⟩
def rSetL:V->V->V->Hp->(Hp->Prop)->Prop:=fun o i v H Q=>∃ p xs k j,o=.ref p/\i=.int k/\H p=some (.lst xs)/\ixN xs.length k=some j/\Q (upd H p (.lst (xs.set j v)))
theorem zLP:PSet X rSetL:=by
 intro pins s σ H o i v ov iv u Q I ro ri rv h
 obtain⟨p,xs,k,j,rfl,rfl,hp,hj,q⟩:=h
 cases ro
 obtain⟨t,rfl⟩:=ri
 obtain⟨its,n,r,ho,hz⟩:=I.lst hp
 obtain⟨h1,h2,h3,h4⟩:=zEq hj
 have hl:=r.length
 have hn:=line63
 have I':Inv X pins σ (upd H p (.lst (xs.set j v))) { s with heap:=s.heap.update p (DJ (·.setIfInBounds j u)) } :=
  I.lstUpd hp ho (zHz its n j u) (r.set rv j) (by rw[List.length_set]; exact hz) s.toks
 by_cases h0:0<=k
 ·have hk:k.toNat=j:=by
   rw[Gp h0 h4]at h1
   exact Ak h1
  exact PySem.W.ki_setAt ho h0 ⋯ (by rw[AL,← hl]; exact h4) (by rw[hk]; exact⟨_,I',q⟩)
 ·have hk:(k+(its.toArray.size:Int)).toNat=j:=by
   rw[Ho ⋯ h3]at h1
   rw[AL,← hl]
   exact Ak h1
  exact PySem.W.ki_setBack ho ⋯ (by rw[AL,← hl]; exact h3) ⋯ (by rw[hk]; exact⟨_,I',q⟩)
theorem zGU(lo hi:Option Int)(n:Nat):(Dy lo hi none n).1=((HT.sIx n 0 lo:Nat):Int)/\(Dy lo hi none n).2.1=((HT.sIx n n hi:Nat):Int)/\(Dy lo hi none n).2.2=1:=by
 refine⟨?_,?_,rfl⟩
 ·cases lo with
  | none=>simp[Dy,HT.sIx]
  | some i =>
   simp only[Dy,HT.sIx,Hg,show (1:Int) > 0 by decide,if_true]
   by_cases h:i < 0
   ·simp only[h,if_true] <;> lia
   ·simp only[h,if_false] <;> lia
 ·cases hi with
  | none=>simp[Dy,HT.sIx]
  | some i =>
   simp only[Dy,HT.sIx,Hg,show (1:Int) > 0 by decide,if_true]
   by_cases h:i < 0
   ·simp only[h,if_true] <;> lia
   ·simp only[h,if_false] <;> lia
theorem zFj(its:List AD)(lo hi:Option Int):slicePick its.toArray lo hi none=((its.drop (HT.sIx its.length 0 lo)).take (HT.sIx its.length its.length hi - HT.sIx its.length 0 lo)).toArray:=by
 obtain⟨h1,h2,h3⟩:=zGU lo hi its.toArray.size
 unfold slicePick
 rw[h1,h2,h3]
 simp only[sliceRange_one,pick_run,AL] <;> rfl
def rSlL (K:AM):V->Option Int->Option Int->Hp->VK->Prop:=fun x lo hi H Q=>∃ a xs,x=.ref a/\SqL K H a xs/\∀ p,H p=none->Q (.ref p) (upd H p (.lst (cutV xs lo hi)))
theorem zNU:SlR X (rSlL X.K):=by
 intro pins s σ H x v vl vu lo hi sl Q I rx hs pl pu h
 obtain⟨a,xs,rfl,hx,q⟩:=h
 cases rx
 obtain⟨its,r,ht,hz⟩:=I.list hx
 have hlen:=r.length
 refine⟨"list",_,I0.lookup,ht.isList.typeIs,?_⟩
 refine wpAny_getItem_list_slice ht.isList hs pl pu .none (by simp) ?_ (by rw[AL] <;> lia)
 rw[zFj,← hlen]
 refine⟨.ref s.heap.objs.size,_,I.laid (t':=s.toks) (o:=.lst (cutV xs lo hi)) (fun b ob q=>AC _ q) (AF _) ?_,rfl,q _ (I.hok.fresh (AF _))⟩
 exact⟨Ai (zDp xs lo hi) hz,_,0,(r.drop (HT.sIx xs.length 0 lo)).take (HT.sIx xs.length xs.length hi - HT.sIx xs.length 0 lo),AI _ rfl⟩
def flatV:V->Bool
 | .non=>true
 | .bl _=>true
 | .int _=>true
 | .str _=>true
 | _=>false
def eqV:V->V->Bool
 | .non,.non=>true
 | .bl a,.bl b=>a == b
 | .bl a,.int b=>(if a then 1 else 0) == b
 | .int a,.bl b=>a == (if b then 1 else 0)
 | .int a,.int b=>a == b
 | .str a,.str b=>a == b
 | _,_=>false
theorem zON{A:BJ}{s:AG}{y x:V}{u v:AD}(ry:RelV y u)(rx:RelV x v)(fy:flatV y=true)(fx:flatV x=true):HU A s u v (eqV y x):=by
 cases y with
 | non =>
  cases ry
  cases x with
  | non=>cases rx; exact Ki _
  | bl b=>cases rx; exact Kj b
  | int b=>obtain⟨t,rfl⟩:=rx; exact Kk b t
  | str b=>obtain⟨t,rfl⟩:=rx; exact Kl b t
  | _=>exact absurd (show false=true from fx) AO
 | bl a =>
  cases ry
  cases x with
  | non=>cases rx; exact Km a
  | bl b=>cases rx; exact Kn a b
  | int b=>obtain⟨t,rfl⟩:=rx; exact Ko a b t
  | str b=>obtain⟨t,rfl⟩:=rx; exact Kp a b t
  | _=>exact absurd (show false=true from fx) AO
 | int a =>
  obtain⟨t',rfl⟩:=ry
  cases x with
  | non=>cases rx; exact Kq a t'
  | bl b=>cases rx; exact Kr a t' b
  | int b=>obtain⟨t,rfl⟩:=rx; exact Ks a t' b t
  | str b=>obtain⟨t,rfl⟩:=rx; exact Gk a t' b t
  | _=>exact absurd (show false=true from fx) AO
 | str a =>
  obtain⟨t',rfl⟩:=ry
  cases x with
  | non=>cases rx; exact Kt a t'
  | bl b=>cases rx; exact Ku a t' b
  | int b=>obtain⟨t,rfl⟩:=rx; exact Gm a t' b t
  | str b=>obtain⟨t,rfl⟩:=rx; exact Kv a t' b t
  | _=>exact absurd (show false=true from fx) AO
 | _=>exact absurd (show false=true from fy) AO
def eqU (x:V) (u:AD):Bool:=match u with
 | .none=>eqV .non x
 | .bool b=>eqV (.bl b) x
 | .int i _=>eqV (.int i) x
 | .str z _=>eqV (.str z) x
 | _=>false
theorem zGC{x y:V}{u:AD}(r:RelV y u)(f:flatV y=true):eqU x u=eqV y x:=by
 cases y with
 | non=>cases r; rfl
 | bl b=>cases r; rfl
 | int i=>obtain⟨t,rfl⟩:=r; rfl
 | str z=>obtain⟨t,rfl⟩:=r; rfl
 | _=>exact absurd (show false=true from f) AO
theorem zCj{x:V}:∀ {xs:List V} {us:List AD},Vals xs us->xs.all flatV=true->us.any (eqU x)=xs.any fun y=>eqV y x
 | _,_,.nil,_=>rfl
 | y::xs,u::us,.cons r t,f=>by
  rw[Gq,AW]at f
  rw[C7,C7,zGC r f.1,zCj t f.2]
theorem zBv{A:BJ}{s:AG}{x:V}{v:AD}(rx:RelV x v)(fx:flatV x=true):∀ {xs:List V} {us:List AD},Vals xs us->xs.all flatV=true->∀ u∈us,HU A s u v (eqU x u)
 | _,_,.nil,_=>fun u hu=>by cases hu
 | y::xs,u::us,.cons r t,f=>fun u' hu=>by
  rw[Gq,AW]at f
  rcases AH.mp hu with rfl | hu
  ·rw[zGC r f.1]; exact zON r rx f.1 fx
  ·exact zBv rx fx t f.2 u' hu
def inV (x:V) (xs:List V):Bool:=xs.any fun y=>eqV y x
def rIn (K:AM) (neg:Bool):R2:=fun x y H Q=>∃ p xs,y=.ref p/\(SqL K H p xs\/SqT K H p xs)/\flatV x=true/\xs.all flatV=true/\Q (.bl (if neg then !inV x xs else inV x xs)) H
theorem zJ7:OpR X (BQ .In) (rIn X.K false):=by
 intro pins s σ H x y v u Q I rx ry h
 obtain⟨p,xs,rfl,hq,fx,fs,q⟩:=h
 cases ry
 rcases hq with hq | hq
 ·obtain⟨its,r,pl,hz⟩:=I.list hq
  refine SeqAt.in_listAt (eqU x) pl.isList (fun w hw=>zBv rx fx r fs w (by simpa using hw)) ⟨.bl _,H,I,rfl,?_⟩
  rw[show its.toArray.any (eqU x)=its.any (eqU x) by simp,zCj r fs]
  exact q
 ·obtain⟨its,r,pl,hz⟩:=I.tuple hq
  refine SeqAt.in_tupleAt (eqU x) pl (fun w hw=>zBv rx fx r fs w (by simpa using hw)) ⟨.bl _,H,I,rfl,?_⟩
  rw[show its.toArray.any (eqU x)=its.any (eqU x) by simp,zCj r fs]
  exact q
theorem zGK:OpR X (BQ .NotIn) (rIn X.K true):=by
 intro pins s σ H x y v u Q I rx ry h
 obtain⟨p,xs,rfl,hq,fx,fs,q⟩:=h
 cases ry
 rcases hq with hq | hq
 ·obtain⟨its,r,pl,hz⟩:=I.list hq
  refine SeqAt.notIn_listAt (eqU x) pl.isList (fun w hw=>zBv rx fx r fs w (by simpa using hw)) ⟨.bl _,H,I,rfl,?_⟩
  rw[show its.toArray.any (eqU x)=its.any (eqU x) by simp,zCj r fs]
  exact q
 ·obtain⟨its,r,pl,hz⟩:=I.tuple hq
  refine SeqAt.notIn_tupleAt (eqU x) pl (fun w hw=>zBv rx fx r fs w (by simpa using hw)) ⟨.bl _,H,I,rfl,?_⟩
  rw[show its.toArray.any (eqU x)=its.any (eqU x) by simp,zCj r fs]
  exact q
theorem zGs:CallR X (.builtin "len") (fun xs H Q=>∃ p ys,xs=[.ref p]/\(SqL X.K H p ys\/SqT X.K H p ys)/\Q (.int ys.length) H):=by
 intro pins s σ H xs us Q I r h
 obtain⟨p,ys,rfl,hq,q⟩:=h
 obtain⟨u,rfl,rx⟩:=vals1 r
 cases rx
 have hn:=line63
 rcases hq with hq | hq
 ·obtain⟨its,r',pl,hz⟩:=I.list hq
  have hlen:=r'.length
  exact Calls.call_len_list pl.isList (by simp only[AL] <;> lia) ⟨.int ys.length,H,I.tok _,⟨s.toks+1,by rw[AL,hlen]⟩,q⟩
 ·obtain⟨its,r',pl,hz⟩:=I.tuple hq
  have hlen:=r'.length
  exact JV pl (by simp only[AL] <;> lia) ⟨.int ys.length,H,I.tok _,⟨s.toks+1,by rw[AL,hlen]⟩,q⟩
theorem zGT:CallR X (.builtin "len") (fun xs H Q=>∃ z,xs=[.str z]/\z.length<=AB/\Q (.int z.length) H):=by
 intro pins s σ H xs us Q I r h
 obtain⟨z,rfl,hz,q⟩:=h
 obtain⟨u,rfl,t,rfl⟩:=vals1 r
 have hn:=line63
 exact len_str ⋯ ⟨.int z.length,H,I.tok _,⟨_,rfl⟩,q⟩
theorem CallR.or{f:AD}{r r':List V->Hp->VK->Prop}(h:CallR X f r)(h':CallR X f r'):CallR X f (fun xs H Q=>r xs H Q\/r' xs H Q):=by
 intro pins s σ H xs us Q I rs q
 rcases q with q | q
 ·exact h pins s σ H xs us Q I rs q
 ·exact h' pins s σ H xs us Q I rs q
theorem zFf:CallR X (.type "tuple") (fun xs H Q=>∃ p ys,xs=[.ref p]/\((SqL X.K H p ys/\∀ l,H l=none->Q (.ref l) (upd H l (.tup ys)))\/(SqT X.K H p ys/\Q (.ref p) H))):=by
 intro pins s σ H xs us Q I r h
 obtain⟨p,ys,rfl,h⟩:=h
 obtain⟨u,rfl,rx⟩:=vals1 r
 cases rx
 rcases h with ⟨hq,q⟩ | ⟨hq,q⟩
 ·obtain⟨its,r',pl,hz⟩:=I.list hq
  have hlen:=r'.length
  refine call_tuple_list pl.isList (fun h' kp=>?_) (by simp only[AL] <;> lia)
  have I1:Inv X pins σ H { s with heap:=h' }:=I.kept (t':=s.toks) kp
  have I2:Inv X pins σ (upd H h'.objs.size (.tup ys)) { s with heap:=h'.push { cls:=.type "tuple",data:=.seq its.toArray } } :=
   I1.laid (t':=s.toks) (fun b o e=>AC _ e) (AF _) (show ObjOk X.prog X.w _ _ _ (.tup ys) from ⟨hz,its,r',TupD.new _ _⟩)
  exact⟨.ref h'.objs.size,_,I2,rfl,q _ (I1.hok.fresh (AF _))⟩
 ·obtain⟨its,r',pl,hz⟩:=I.tuple hq
  exact call_tuple_same pl ⟨.ref p,H,I,rfl,q⟩
def tyV (K:AM) (T:String) (x:V) (H:Hp):Prop:=match x with
 | .str _=>T="str"
 | .int _=>T="int"
 | .ref p=>(T="list"/\∃ xs,SqL K H p xs)\/(T="tuple"/\∃ o,K.lookup p=some o/\o.cls=.type "tuple"/\o.dict=none) \/
   (T="dict"/\((∃ kvs,H p=some (.dK kvs))\/∃ kvs,H p=some (.dT kvs)))\/(T="set"/\∃ S n,H p=some (.set S n))
 | _=>False
theorem zKT{pins:List (Addr×Obj)}{σ:St}{H:Hp}{s:AG}{T:String}{x:V}{v:AD}(I:Inv X pins σ H s)(r:RelV x v)(ty:tyV X.K T x H) :
  s.TypeIs v T/\∀ a,v=.ref a->∃ ob,s.heap.get? a=some ob/\ob.dict=none:=by
 cases x with
 | str z =>
  obtain⟨t,rfl⟩:=r
  cases (show T="str" from ty)
  exact⟨typeIs_str s z t,fun _ e=>nomatch e⟩
 | int i =>
  obtain⟨t,rfl⟩:=r
  cases (show T="int" from ty)
  exact⟨DX s i t,fun _ e=>nomatch e⟩
 | ref p =>
  cases r
  rcases ty with ⟨rfl,xs,hq⟩ | ⟨rfl,o,hk,hc,hd⟩ | ⟨rfl,hk⟩ | ⟨rfl,S,n,hk⟩
  ·obtain⟨its,_,pl,_⟩:=I.list hq
   refine⟨pl.isList.typeIs,fun a e=>?_⟩
   cases e
   obtain⟨o,n,e,c,hd,_⟩:=pl
   exact⟨o,e,hd⟩
  ·refine⟨⟨o,I.kIn p o hk,hc⟩,fun a e=>?_⟩
   cases e
   exact⟨o,I.kIn _ o hk,hd⟩
  ·have z:∃ o,s.heap.get? p=some o/\o.ExactDict:=by
    rcases hk with ⟨kvs,hk⟩ | ⟨kvs,hk⟩
    ·obtain⟨_,_,_,_,o,_,_,e,ex,_⟩:=I.hok p _ hk
     exact⟨o,e,ex⟩
    ·obtain⟨_,_,_,_,o,_,_,e,ex,_⟩:=I.hok p _ hk
     exact⟨o,e,ex⟩
   obtain⟨o,e,ex⟩:=z
   refine⟨⟨o,e,ex.1⟩,fun a e2=>?_⟩
   cases e2
   exact⟨o,e,ex.2.1⟩
  ·obtain⟨o,_,_,_,e,ex,_⟩:=I.hok p _ hk
   refine⟨⟨o,e,ex.1⟩,fun a e2=>?_⟩
   cases e2
   exact⟨o,e,ex.2.1⟩
 | _=>exact BU ty
def tBM0 (K:AM) (T:String) (r:V->List V->Hp->VK->Prop) (to:TE):TE:=fun σ H Q=>to σ H fun x H1=>tyV K T x H1/\r x [] H1 Q
def tBM (K:AM) (T:String) (r:V->List V->Hp->VK->Prop) (to:TE) (t:TA):TE:=fun σ H Q=>to σ H fun x H1=>tyV K T x H1/\t σ H1 fun xs H2=>r x xs H2 Q
variable {o e:Expr}{es:List Expr}{to:TE}{t:TA}{name:Str}{apos cpos:Pos}{T id:String}{r:V->List V->Hp->VK->Prop}
theorem zOD(pa:PlainAttrs T)(slot:Slot T name id)(hty:Ij (.builtin id)=pure (.type "method_descriptor"))(hm:MtR X id r)(ho:PE X o to)
  (hbase:DM o name X.env (eval o X.env)=eval o X.env:=by rfl) (hline:(apos.endLine == cpos.line)=true:=by rfl):PE X (.Call (.Attribute o name apos) [] [] cpos) (tBM0 X.K T r to):=by
 intro pins s σ H Q I h
 refine wpAny_Call_method0_late hbase hline (thn (ho pins s σ H _ I h) fun v s1 ⟨x,H1,I1,r1,ty,q1⟩=>?_)
 obtain⟨h1,h2⟩:=zKT I1 r1 ty
 exact⟨T,id,pa,slot,hty,h1,h2,DN rfl (PySem.evalArgs_none (hm pins s1 σ H1 x [] v [] Q I1 r1 .nil q1))⟩
theorem zQr(pa:PlainAttrs T)(slot:Slot T name id)(hty:Ij (.builtin id)=pure (.type "method_descriptor"))(hm:MtR X id r)(ho:PE X o to)(ha:PA X (e::es) t)
  (hbase:DM o name X.env (eval o X.env)=eval o X.env:=by rfl)
  (hfew:((CL cpos (AU (e::es) X.env)).all (fun x=>!x.1) && (G8 cpos (FU [] X.env)).all (fun x=>x.1.isSome)
   && decide ((e::es).length+([]:List Ef).length+(if ([]:List Ef).isEmpty then 0 else 1) < 30))=true:=by rfl)
  (hline:(apos.endLine == cpos.line)=true:=by rfl) (hs:AU (e::es) X.env=(false,eval e X.env)::AU es X.env:=by rfl) (hplain:(CL cpos (AU es X.env)).any (·.1)=false:=by rfl) :
  PE X (.Call (.Attribute o name apos) (e::es) [] cpos) (tBM X.K T r to t):=by
 intro pins s σ H Q I h
 refine Hr hbase hfew hline rfl (thn (ho pins s σ H _ I h) fun v s1 ⟨x,H1,I1,r1,ty,q1⟩=>?_)
 obtain⟨h1,h2⟩:=zKT I1 r1 ty
 refine⟨T,id,pa,slot,hty,h1,h2,?_⟩
 have hA:=ha cpos pins s1 σ H1 _ I1 q1
 rw[hs]at hA ⊢
 refine DN (by show (false || (CL cpos (AU es X.env)).any (·.1))=false; rw[hplain] <;> rfl) (E1 ?_)
 exact thn hA fun us s2 ⟨vs,H2,I2,r2,q2⟩=>hm pins s2 σ H2 x vs v us Q I2 r1 r2 q2
end
def MtM (X:Cx) (id:String) (r:V->List V->Hp->VK->Prop):Prop :=
 ∀ (pins:List (Addr×Obj)) (s:AG) (σ:St) (H:Hp) (x:V) (xs:List V) (v:AD) (us:List AD) (Q:VK),Inv X pins σ H s->RelV x v->Vals xs us->r x xs H Q ->
  AQ (model X.prog X.w) X.A (call (.builtin id) (v::us)) (EP X pins σ Q) X.xe s
theorem Vals.one:∀ {x:V} {us:List AD},Vals [x] us->∃ u,us=[u]/\RelV x u
 | _,_,.cons r .nil=>⟨_,rfl,r⟩
theorem Vals.zero:∀ {us:List AD},Vals [] us->us=[]
 | _,.nil=>rfl
theorem Vals.dropLast{xs:List V}{us:List AD}(h:Vals xs us):Vals xs.dropLast us.dropLast:=by
 induction h with
 | nil=>exact .nil
 | cons r t ih =>
  cases t with
  | nil=>exact .nil
  | cons q t'=>exact .cons r ih
theorem Vals.eraseIdx:∀ {xs:List V} {us:List AD} (i:Nat),Vals xs us->Vals (xs.eraseIdx i) (us.eraseIdx i)
 | _,_,_,.nil=>.nil
 | _,_,0,.cons _ t=>t
 | _,_,i+1,.cons r t=>.cons r (Vals.eraseIdx i t)
theorem Vals.rep{xs:List V}{us:List AD}(h:Vals xs us):∀ k:Nat,Vals (AN k xs).flatten (AN k us).flatten
 | 0=>.nil
 | k+1=>by
  rw[BW,BW,Ck,Ck]
  exact Vals.append h (Vals.rep h k)
theorem zIb{α:Type}(l:List α):l.eraseIdx (l.length - 1)=l.dropLast:=by
 induction l with
 | nil=>rfl
 | cons a r ih =>
  cases r with
  | nil=>rfl
  | cons b r =>
   have e:(a::b::r).length - 1=((b::r).length - 1)+1:=by
    have h1:(a::b::r).length=r.length+2:=rfl
    have h2:(b::r).length=r.length+1:=rfl
    lia
   rw[e,List.eraseIdx_cons_succ,ih]
   all_goals rfl
theorem zFR{α:Type}:∀ (l:List α) (i:Nat),(l.eraseIdx i).length<=l.length
 | [],_=>AF _
 | _::_,0=>HV _
 | _::r,i+1=>Nat.succ_le_succ (zFR r i)
theorem zFY(its:List AD):∀ (k:Nat) (acc:List AD),
  Hh (fun x1 x2=>x1++x2) acc.toArray (AN k its.toArray)=(acc++(AN k its).flatten).toArray
 | 0,acc=>by simp
 | k+1,acc=>by
  have e:acc.toArray++its.toArray=(acc++its).toArray:=by simp
  have e2:(acc++its)++(AN k its).flatten=acc++(AN (k+1) its).flatten:=by
   rw[BW,Ck,By]
  rw[← e2,← zFY its k (acc++its),← e,BW,GF]
section
variable {X:Cx}{pins:List (Addr×Obj)}{σ:St}{H:Hp}{s:AG}{l b:Addr}{xs ys zs:List V}
theorem Inv.lset{its its':List AD}{n:Nat}{f:Array AD->Array AD}{t':Nat}(I:Inv X pins σ H s)(hH:H l=some (.lst xs))
  (e:s.heap.get? l=some { cls:=.type "list",data:=.seq its.toArray n }) (hf:f its.toArray=its'.toArray) (hv:Vals ys its') (hz:ys.length<=AB) :
  Inv X pins σ (upd H l (.lst ys)) { s with heap:=s.heap.update l (DJ f),toks:=t' }:=by
 have q:=K2 e f
 rw[hf]at q
 refine I.write (x:=l) (e:=l) (by rw[hH]; exact trivial) (.inl rfl) (fun b' u hb hu=>(Bm s.heap (DJ f) (BD hb)).trans hu) ⟨_,q⟩ ?_
 exact⟨hz,its',_,hv,q⟩
theorem Inv.lnew{its:List AD}{t':Nat}(I:Inv X pins σ H s)(hv:Vals ys its)(hz:ys.length<=AB) :
  Inv X pins σ (upd H s.heap.objs.size (.lst ys)) { s with heap:=s.heap.push { cls:=.type "list",data:=.seq its.toArray },toks:=t' } :=
 I.laid (fun _ _ q=>AC _ q) (AF _) ⟨hz,its,0,hv,AI _ rfl⟩
theorem Inv.fresh(I:Inv X pins σ H s):H s.heap.objs.size=none:=I.hok.fresh (AF _)
theorem Inv.lstM(I:Inv X pins σ H s)(hH:H l=some (.lst xs)):xs.length<=AB/\∃ (its:List AD) (n:Nat),Vals xs its/\xs.length=its.length/\s.heap.get? l=some { cls:=.type "list",data:=.seq its.toArray n }:=by
 obtain⟨z,its,n,r,e⟩:=I.hok l _ hH
 exact⟨z,its,n,r,r.length,e⟩
theorem notLongL{n:Nat}(h:n<=AB):Bo n=false:=by
 unfold Bo
 exact decide_eq_false ⋯
end
section
variable {X:Cx}
def rAppend:V->List V->Hp->VK->Prop:=fun x vs H Q=>∃ l xs y,x=.ref l/\vs=[y]/\H l=some (.lst xs)/\xs.length < AB/\Q .non (upd H l (.lst (xs++[y])))
theorem zBB:MtM X "list.append" rAppend:=by
 intro pins s σ H x vs v us Q I rx rv h
 obtain⟨l,xs,y,rfl,rfl,hH,hz,q⟩:=h
 cases rx
 obtain⟨u,rfl,ru⟩:=rv.one
 obtain⟨z,its,n,r,hl,e⟩:=I.lstM hH
 refine Bw F.slot_list_append ⟨_,e,rfl⟩ F.entry_list_append (F.args_list_append_2 _ _) (PySem.list_append l its.toArray n u (by rw[AL]; lia)) ⟨e,?_⟩
 refine⟨.non,_,I.lset (its':=its++[u]) hH e (by simp) (r.append (.cons ru .nil)) ?_,rfl,q⟩
 rw[Ax,Et]
 lia
def rExtend:V->List V->Hp->VK->Prop:=fun x vs H Q=>∃ l b xs zs,x=.ref l/\vs=[.ref b]/\H l=some (.lst xs)/\H b=some (.lst zs)/\xs.length+zs.length<=AB/\Q .non (upd H l (.lst (xs++zs)))
theorem zDR:MtM X "list.extend" rExtend:=by
 intro pins s σ H x vs v us Q I rx rv h
 obtain⟨l,b,xs,zs,rfl,rfl,hH,hB,hz,q⟩:=h
 cases rx
 obtain⟨u,rfl,ru⟩:=rv.one
 cases ru
 obtain⟨z,its,n,r,hl,e⟩:=I.lstM hH
 obtain⟨z2,its2,n2,r2,hl2,e2⟩:=I.lstM hB
 have hsz:its.toArray.size+its2.toArray.size<=AB:=by rw[AL,AL]; lia
 have hlong:¬ (!its.toArray.isEmpty && Bo (its.toArray.size+its2.toArray.size))=true:=by
  rw[notLongL hsz,IT]
  exact AO
 refine Bw F.slot_list_extend ⟨_,e,rfl⟩ F.entry_list_extend (F.args_list_extend_2 _ _)
  (AutoSeq1.list_extend_list_list_0 l its.toArray n b its2.toArray n2 hlong (by rw[AL]; lia) ⋯) ⟨e,e2,?_⟩
 refine⟨.non,_,I.lset (its':=its++its2) hH e (by simp) (r.append r2) ?_,rfl,q⟩
 rw[Ax]
 lia
def rPop:V->List V->Hp->VK->Prop:=fun x vs H Q=>∃ l xs y,x=.ref l/\vs=[]/\H l=some (.lst xs)/\xs[xs.length - 1]?=some y/\Q y (upd H l (.lst xs.dropLast))
theorem zFx:MtM X "list.pop" rPop:=by
 intro pins s σ H x vs v us Q I rx rv h
 obtain⟨l,xs,y,rfl,rfl,hH,hy,q⟩:=h
 cases rx
 have hus:=rv.zero
 subst hus
 obtain⟨z,its,n,r,hl,e⟩:=I.lstM hH
 obtain⟨u,hu,ru⟩:=r.get hy
 have hy':its.toArray[its.toArray.size - 1]?=some u:=by
  show its.toArray[its.length - 1]?=some u
  rw[← G0,← hl]
  exact hu
 refine Bw JA ⟨_,e,rfl⟩ Ik (F.args_list_pop_1 _) (MeetsSeq.list_pop_last l its.toArray n u hy' (by rw[AL]; omega)) ⟨e,?_⟩
 refine⟨y,_,I.lset (its':=its.dropLast) hH e ?_ r.dropLast ?_,ru,q⟩
 ·show its.toArray.eraseIdxIfInBounds (its.toArray.size - 1)=its.dropLast.toArray
  rw[AL,Fu,zIb]
 ·rw[HJ]
  omega
def rPopAt:V->List V->Hp->VK->Prop:=fun x vs H Q=>∃ l xs i k y,x=.ref l/\vs=[.int i]/\H l=some (.lst xs)/\-(2 ^ 63)<=i/\i < 2 ^ 63/\Fi i xs.length=some k/\xs[k]?=some y/\Q y (upd H l (.lst (xs.eraseIdx k)))
theorem zLu:MtM X "list.pop" rPopAt:=by
 intro pins s σ H x vs v us Q I rx rv h
 obtain⟨l,xs,i,k,y,rfl,rfl,hH,h1,h2,hk,hy,q⟩:=h
 cases rx
 obtain⟨u,rfl,ru⟩:=rv.one
 obtain⟨t,rfl⟩:=ru
 obtain⟨z,its,n,r,hl,e⟩:=I.lstM hH
 obtain⟨w,hw,rw'⟩:=r.get hy
 refine Bw JA ⟨_,e,rfl⟩ Ik (F.args_list_pop_2 _ _)
  (MeetsSeq.list_pop_at l its.toArray n i t k w (KB h1 h2) (by rw[AL,← hl]; exact hk) (by rw[← G0]; exact hw) (by rw[AL]; lia)) ⟨e,?_⟩
 refine⟨y,_,I.lset (its':=its.eraseIdx k) hH e ?_ (r.eraseIdx k) ?_,rw',q⟩
 ·show its.toArray.eraseIdxIfInBounds k=(its.eraseIdx k).toArray
  rw[Fu]
 ·have:=zFR xs k
  lia
def rCat:R2:=fun x y H Q=>∃ l b xs zs,x=.ref l/\y=.ref b/\H l=some (.lst xs)/\H b=some (.lst zs)/\xs.length+zs.length<=AB/\∀ p,H p=none->Q (.ref p) (upd H p (.lst (xs++zs)))
theorem zOM:OpR X (CA .Add) rCat:=by
 intro pins s σ H x y v u Q I rx ry h
 obtain⟨l,b,xs,zs,rfl,rfl,hH,hB,hz,q⟩:=h
 cases rx
 cases ry
 obtain⟨z,its,n,r,hl,e⟩:=I.lstM hH
 obtain⟨z2,its2,n2,r2,hl2,e2⟩:=I.lstM hB
 refine PySem.P.add_list e e2 ?_ (by rw[AL,AL]; lia)
 have ea:its.toArray++its2.toArray=(its++its2).toArray:=by simp
 rw[ea]
 exact⟨.ref _,_,I.lnew (t':=s.toks) (r.append r2) (by rw[Ax]; lia),rfl,q _ I.fresh⟩
def rRep:R2:=fun x y H Q=>∃ l k xs,x=.ref l/\y=.int k/\H l=some (.lst xs)/\-(2 ^ 63)<=k/\k < 2 ^ 63/\xs.length * k.toNat<=AB /\
 ∀ p,H p=none->Q (.ref p) (upd H p (.lst (AN k.toNat xs).flatten))
theorem zMq{α:Type}(xs:List α)(k:Nat):(AN k xs).flatten.length=k * xs.length:=by
 induction k with
 | zero=>simp
 | succ k ih=>rw[BW,Ck,Ax,ih,Nat.succ_mul,Nat.add_comm]
theorem zOQ:OpR X (CA .Mult) rRep:=by
 intro pins s σ H x y v u Q I rx ry h
 obtain⟨l,k,xs,rfl,rfl,hH,h1,h2,hz,q⟩:=h
 cases rx
 obtain⟨t,rfl⟩:=ry
 obtain⟨z,its,n,r,hl,e⟩:=I.lstM hH
 have hlen:its.toArray.size * k.toNat<=AB:=by rw[AL,← hl]; exact hz
 have hcap:¬ its.toArray.size * k.toNat > (2 ^ 63 - 1) / 8:=by
  have:(AB:Nat)<=(2 ^ 63 - 1) / 8:=by decide
  omega
 have hfit:¬ (!Builtin.List.listFitsIndex k)=true:=by
  rw[KB h1 h2]
  exact AO
 have hlong:¬ Bo (its.toArray.size * k.toNat)=true:=by
  rw[notLongL hlen]
  exact AO
 have hnew:Hh (fun x1 x2=>x1++x2) #[] (AN (if its.toArray.isEmpty=true then 0 else k.toNat) its.toArray)=(AN k.toNat its).flatten.toArray:=by
  have f0:∀ m:Nat,Hh (fun x1 x2=>x1++x2) #[] (AN m its.toArray)=(AN m its).flatten.toArray:=fun m=>by
   have:=zFY its m []
   rw[Ce]at this
   exact this
  rw[f0]
  cases its with
  | nil=>simp
  | cons a r'=>rw[if_neg (by simp)]
 refine DC (T:="list") (U:="int") ∅ ⟨_,e,rfl⟩ (fun s'=>DX s' k t) noFill_list_mul E6 CJ repeat_list Ej.lookup
  (Bw CJ (DX s k t) Ek (ET _ _) (int___rmul___int_list k t l its.toArray n)
   ⟨e,rfl,⟨_,e,rfl⟩,Bw F.slot_list_mul ⟨_,e,rfl⟩ F.entry_list_mul (F.args_list_mul_2 _ _) (K3 l its.toArray n k t hfit hcap hlong) ⟨e,?_⟩⟩)
 rw[hnew]
 exact⟨.ref _,_,I.lnew (t':=s.toks) (r.rep k.toNat) (by rw[zMq,Nat.mul_comm]; exact hz),rfl,q _ I.fresh⟩
end
end L2
namespace Att
open PySem PySem.W PySem.Calls PyProof.Rows
theorem zEd{P:KD}{h:Heap}:∀ (ns:List Int) (vs:List AD),WellAll P h vs (ns.map WData.int)->FH vs ns:=by
 intro ns
 induction ns with
 | nil =>
  intro vs w
  rw[A7]at w
  cases w
  exact .nil
 | cons n ns ih =>
  intro vs w
  rw[Ab]at w
  cases w with
  | cons a b =>
   cases a
   exact .cons _ _ (ih _ b)
theorem zKl{l:OpenLaw}{n:Nat}(hn:l.most=some n){P:KD}{h:Heap}{args:List WData}{vals:List AD}
  (hpre:l.row.toRowW.claim.pre args=true) (hwl:WellAll P h vals args) :
  ∃ a vs ns,vals=[Bl a]/\args=[WData.list (ns.map WData.int)]/\h.get? a=some { cls:=.type "list",data:=.seq vs.toArray }/\FH vs ns/\ns.length<=n:=by
 have hsh:WShape.hasAll [] args [.list .int]=true:=(pre_splitW hpre).1
 have hc:l.pre.holds [] { args:=args }=true:=(pre_splitW hpre).2
 obtain⟨d,r,rfl,h1,h2⟩:=hasAllW_cons hsh
 obtain rfl:=hasAllW_nil h2
 obtain⟨xs,rfl,h3⟩:=hasW_list h1
 obtain⟨ns,rfl⟩:=items_int h3
 have hlen:ns.length<=n:=by
  unfold OpenLaw.pre at hc
  have h4:(WTm.not (.lt (.lit (.int (n:Int))) (.len (.arg 0)))).holds [] { args:=[.list (ns.map .int)] }=true:=by
   have h4:=(holds_andW hc).1
   rw[hn]at h4
   exact h4
  have h5:=condW_of h4 (w_not (w_lt w_lit (w_len_list (w_arg rfl))))
  rw[Bg]at h5
  refine Nat.le_of_not_lt fun q=>?_
  have q':(n:Int) < ((ns.length:Nat):Int):=by omega
  first
   | (rw[decide_eq_true q']at h5; exact absurd h5 ∅)
   | (simp at h5; omega)
 cases hwl with
 | cons w1 w2 =>
  cases w2
  cases w1 with
  | list ho hall=>exact⟨_,_,ns,rfl,rfl,ho,zEd ns _ hall,hlen⟩
theorem zJ6(l:OpenLaw)(args:List WData):l.row.toRowW.claim.post args (.bool true) args=true :=
 postW_of (r:=l.row.toRowW) (X:=(true == true))
  (show WShape.has [] (.bool true) .bool=true by first | rfl | decide | simp[WShape.has,WShape.arms,WShape.armsAll])
  (show (WTm.eq .res (.lit (.bool true))).value [] { args:=args,res:=some (.bool true),after:=args }=some (.bool (true == true)) from w_eq_bool (w_res rfl) w_lit) rfl
theorem attach_call{l:OpenLaw}{n:Nat}{q:Am}{loose:List Str}{XP:(Str->Option AD)->Heap->Prop}{YP:A0->Heap->Prop}{d:DefRec}
  (hn:l.most=some n) (hdf:d.params.defaults=[])
  (call:∀ (w:A0) (s₀ s₁:AG) (mg mb:Str->Option AD) (fa:Addr) (o:Obj) (pm cd doc:AD) (a:Addr) (vs:List AD) (ns:List Int),
   Ground q loose [] XP w s₀ mg mb s₁.heap->YP w s₁.heap ->
   s₁.heap.get? fa=some o->o.data=.func (docDef d.name d.params d.body d.scope pm cd doc)->s₁.heap.CodeRec cd d.name->mg d.name=some (.ref fa) ->
   s₁.heap.get? a=some { cls:=.type "list",data:=.seq vs.toArray }->FH vs ns->ns.length<=n->s₁.gens=#[] ->
   Ee (model l.prog w) GO (.call (.ref fa) ⟨[.ref a],[]⟩) (fun r s'=>r=.ok (.ret (.bool true))/\OldK s₁.heap s'.heap/\s'.os=s₁.os/\FC s'.gens) s₁) :
  WalkO q loose XP YP l.row.toRowW d [] (fun f vs=>HW f vs):=by
 intro w s₀ s₁ mg mb G Y fa o pm cd doc dV kV ho hd hcd hD hmg hg args vals as hpre hlay hrd hwl hlo
 obtain rfl:dV=.none:=Dflts.none hD hdf
 obtain rfl:kV=.none:=Dflts.noKw hD
 obtain⟨a,vs,ns,rfl,rfl,hobj,hints,hlen⟩:=zKl hn hpre hwl
 refine enter_call (FG (call w s₀ s₁ mg mb fa o pm cd doc a vs ns G Y ho (fd_plain hd) hcd hmg hobj hints hlen hg) fun r s' hq=>?_)
 obtain⟨rfl,h2,h3,h4⟩:=hq
 exact⟨.inl ⟨.bool true,.bool true,[],rfl,fun _=>rfl,.bool true,zJ6 l _,fun _=>⟨JW,fun _ hm=>(nomatch hm)⟩⟩,h2,h3,h4⟩
end Att
namespace L2
open PySem PySem.Spec PyProof.Rows
theorem zFV:∀ {vs:List AD} {ns:List Int},FH vs ns->Vals (ns.map V.int) vs
 | _,_,.nil=>.nil
 | _,_,.cons n t h=>.cons ⟨t,rfl⟩ (zFV h)
def Only (H:Hp):Prop:=∀ b,H b=none\/∃ o xs,H b=some (.frz o (.lst xs))
theorem zLH{P:Am}{w:A0}{K:AM}{mg mb:Str->Option AD}{CX:CXT}{k:Nat}{fa a:Addr}{fd:C6}{x:Str}{sp:Sp}{s₁:AG}{vs:List AD}{ns:List Int}
  (KX:K.In s₁.heap) (hns:s₁.heap.Ns Al mg) (hb:s₁.heap.Ns G5 mb) (hbb:∀ x:Str,x≠"__name__"->mb x=CP x) (hlim:s₁.heap.NoLimit) (hg:s₁.gens=#[])
  (ha:s₁.heap.get? a=some { cls:=.type "list",data:=.seq vs.toArray }) (hi:FH vs ns) (hl:ns.length<=AB) (hr:Room k GO)
  (F:∀ base:Heap,K.In base->base.Ns Al mg->FnOk P w K mg base CX k fa fd [x] sp) (hbind:∀ (s:AG) (u:AD),Gz s fd ⟨[u],[]⟩ [(x,u)])
  (hsp:∀ H:Hp,Only H->SqL K H a (ns.map V.int)->sp [.ref a] H (fun v _=>v=.bl true) fun _ _ _=>False)
  (hCX:∀ H e s',CX [] H s₁ (fun _ _ _=>False) e s'->False) :
  Ee (model P w) GO (.call (.ref fa) ⟨[.ref a],[]⟩) (fun r s'=>r=.ok (.ret (.bool true))/\OldK s₁.heap s'.heap/\s'.os=s₁.os/\FC s'.gens) s₁:=by
 have rv:=zFV hi
 have lenV:=hi.length
 have core:∀ H:Hp,Only H->SqL K H a (ns.map V.int)->HOk P w H s₁.heap->(∀ b,H b≠none->b=a)->(H a≠none->K.lookup a=none) ->
   Ee (model P w) GO (.call (.ref fa) ⟨[.ref a],[]⟩) (fun r s'=>r=.ok (.ret (.bool true))/\OldK s₁.heap s'.heap/\s'.os=s₁.os/\FC s'.gens) s₁:=by
  intro H hO hS hok hA hK
  have base_of:∀ {b:Addr} {o:Obj},s₁.heap.get? b=some o->H b=none->(hidT s₁.heap H).get? b=some o:=fun e n=>zLq e n
  have noA:∀ {b:Addr} {o:Obj} {es:Array DictEntry} {ep:Nat},s₁.heap.get? b=some o->o.data=.dict es ep->H b=none:=fun {b o es ep} e d=>by
   cases q:H b with
   | none=>rfl
   | some u =>
    have e':b=a:=hA b (by rw[q]; simp)
    subst e'
    rw[ha]at e; cases e
    have d':Data.seq vs.toArray _=Data.dict es ep:=d
    cases d'
  have nsK:∀ {b:Addr} {m:Str->Option AD},s₁.heap.Ns b m->(hidT s₁.heap H).Ns b m:=fun {b m} ⟨o,es,ep,e,d,r⟩=>⟨o,es,ep,base_of e (noA e d),d,r⟩
  have hKb:K.In (hidT s₁.heap H):=fun b o e=>base_of (KX b o e) (by
   cases q:H b with
   | none=>rfl
   | some u =>
    have e':b=a:=hA b (by rw[q]; simp)
    subst e'
    rw[hK (by rw[q]; simp)]at e; cases e)
  have hM:Mod K mg (hidT s₁.heap H):=⟨hKb,nsK hns,⟨mb,nsK hb,hbb⟩,let ⟨mc,h1,h2⟩:=hlim; ⟨mc,nsK h1,h2⟩⟩
  have e0:Env0 P w K mg (hidT s₁.heap H) GO [] s₁ H:=⟨rfl,hM,fun b o e=>zNc e,Nat.le_of_eq (zKD _ _),trivial,fun b hb=>absurd (show b∈([]:List Addr) from hb) (by simp),hok,.of_eq hg⟩
  refine FG ((F _ hKb (nsK hns)).run GO [] s₁ H ⟨[.ref a],[]⟩ [.ref a] [.ref a] _ _ hr e0 (hbind s₁ (.ref a)) (.cons rfl .nil) (hsp H hO hS)) fun r s' h=>?_
  cases r with
  | error e=>exact (hCX H e s' h).elim
  | ok fl =>
   cases fl with
   | next=>exact BU h
   | brk=>exact BU h
   | cont=>exact BU h
   | ret u =>
    obtain⟨v,H',os,bare,un,hok',r',q⟩:=h
    have q':v=.bl true:=q
    subst q'
    obtain rfl:u=GK true:=r'
    refine⟨rfl,OldK.of_keep fun b o e=>?_,os,bare⟩
    cases q:H b with
    | none=>exact un.keep b o e q (by intro z; exact absurd (show b∈([]:List Addr) from z) (by simp)) (by simp)
    | some u =>
     rcases hO b with z | ⟨ob,xs,z⟩
     ·rw[q]at z; cases z
     ·have z2:=un.frzs b ob _ z
      obtain⟨e1,_⟩:=hok b _ z
      obtain⟨e2,_⟩:=hok' b _ z2
      rw[e]at e1; cases e1
      exact e2
 cases hk:K.lookup a with
 | some o =>
  have e:=KX a o hk
  rw[ha]at e
  cases e
  refine core (fun _=>none) (fun _=>.inl rfl) (.inr ⟨_,vs.toArray,_,hk,rfl,rfl,rfl,by rw[AL,lenV]; exact hl,by simpa using rv⟩) (fun b u z=>by have z':(none:Option HO)=some u:=z; cases z') (fun b z=>absurd rfl z) fun z=>absurd rfl z
 | none =>
  refine core (fun b=>if b=a then some (.frz { cls:=.type "list",data:=.seq vs.toArray } (.lst (ns.map V.int))) else none) (fun b=>?_) (.inl (.inr ⟨{ cls:=.type "list",data:=.seq vs.toArray },if_pos rfl⟩)) (fun b u z=>?_) (fun b z=>?_) fun _=>hk
  ·by_cases hb:b=a
   ·exact .inr ⟨_,_,if_pos hb⟩
   ·exact .inl (if_neg hb)
  ·by_cases hb:b=a
   ·have z':=(if_pos hb).symm.trans z
    cases z'
    subst hb
    exact⟨ha,by rw[Bg]; exact hl,vs,_,rv,ha⟩
   ·have z':=(if_neg hb).symm.trans z
    cases z'
  ·by_cases hb:b=a
   ·exact hb
   ·exact absurd (if_neg hb) z
theorem walk_of{l:Fv}{n k:Nat}{q:Am}{loose:List Str}{XP:(Str->Option AD)->Heap->Prop}{YP:A0->Heap->Prop}{d:DefRec}{K:KD->AM}{CX:A0->CXT}{sp:A0->Sp}{x:Str}
  (hn:l.most=some n) (hn2:n<=AB) (hdf:d.params.defaults=[]) (hr:Room k GO)
  (hY:∀ (w:A0) (h:Heap),YP w h->(K w.params).In h)
  (F:∀ (w:A0) (mg:Str->Option AD) (fa:Addr) (h:Heap),(K w.params).In h->h.Ns Al mg->mg d.name=some (.ref fa) ->
   ∃ fd:C6,(∀ (s:AG) (u:AD),Gz s fd ⟨[u],[]⟩ [(x,u)]) /\
    ∀ base:Heap,(K w.params).In base->base.Ns Al mg->FnOk l.prog w (K w.params) mg base (CX w) k fa fd [x] (sp w))
  (hsp:∀ (w:A0) (H:Hp) (a:Addr) (ns:List Int),ns.length<=n->Only H->SqL (K w.params) H a (ns.map V.int)->sp w [.ref a] H (fun v _=>v=.bl true) fun _ _ _=>False)
  (hCX:∀ (w:A0) (H:Hp) (s:AG) (e:AD) (s':AG),CX w [] H s (fun _ _ _=>False) e s'->False) :
  IF q loose XP YP l.row.toRowW d [] (fun f vs=>HW f vs):=by
 refine Att.attach_call hn hdf fun w s₀ s₁ mg mb fa o pm cd doc a vs ns G Y ho hd hcd hmg hobj hints hlen hg=>?_
 have KX:=hY w _ Y
 obtain⟨fd,hb,hF⟩:=F w mg fa _ KX G.T.g hmg
 exact zLH KX G.T.g G.T.b G.T.builtins G.T.nolimit hg hobj hints (Ai hlen hn2) hr hF hb (fun H hO hS=>hsp w H a ns hlen hO hS) fun H e s'=>hCX w H s₁ e s'
def defArgs (s:Stmt):Arguments:=match s with
 | .FunctionDef _ a _ _ _ _ _ _ _ _=>a
 | _=>{ posonlyargs:=[],args:=[],vararg:=none,kwonlyargs:=[],kw_defaults:=[],kwarg:=none,defaults:=[] }
def defBody (s:Stmt):List Stmt:=match s with
 | .FunctionDef _ _ b _ _ _ _ _ _ _=>b
 | _=>[]
def defScope (s:Stmt):Ez:=match s with
 | .FunctionDef _ _ _ _ _ _ sc _ _ _=>sc
 | _=>{ kind:=.function,names:=[],isGenerator:=false,isCoroutine:=false }
abbrev CX0:CXT:=fun _ _ _ _ _ _=>False
abbrev E0:XK:=fun _ _ _=>False
theorem pass0{X:Cx}:Passes CX0 X E0:=fun _ _ _ _ _ _ _ h=>h.elim
structure Fun(K:AM)(x qual:Str)(st:Stmt)(f:Addr)(fd:C6):Prop where
 ex:∃ (oc:AD) (od:Option Addr) (kV doc pm:AD) (an:Option Addr) (cdv ct:AD) (osl:Array (Option AD)),
  fd=Dm x qual (defArgs st) (defBody st) (defScope st) .none kV doc pm an cdv ct/\K.lookup f=some ⟨oc,od,.func fd,osl⟩/\Dp K cdv qual=true
 kp:Cj K (.ref f)=true
section
variable {P:Am}{w:A0}{K:AM}{mg:Str->Option AD}{base:Heap}
theorem Fun.ok{x qual:Str}{st:Stmt}{f:Addr}{fd:C6}{N ps:List Str}{k:Nat}{sp:Sp}(F:Fun K x qual st f fd)(S:FnScope N ps (defScope st))(len:∀ vs H Q E,sp vs H Q E->vs.length=ps.length)
  (hbody:∀ (cdv:AD) (A:BJ) (outer:List Env) (s:AG) (H:Hp) (vs:List V) (Q:VK) (E:XK),Room k (A.deeper (GC qual (defScope st) s.heap.objs.size f cdv))->sp vs H Q E ->
   ∃ t,PSs (cxOf CX0 P w K mg base N qual (defScope st) f cdv A outer s H E).nox (defBody st) t/\t { nx:=fun _ H'=>Q .non H',rt:=Q } (start N vs) H):FnOk P w K mg base CX0 (k+1) f fd ps sp:=by
 obtain⟨oc,od,kV,doc,pm,an,cdv,ct,osl,rfl,lk,hcd⟩:=F.ex
 refine zP1 lk hcd S len fun A outer s H vs Q E hr hsp=>?_
 obtain⟨t,h,q⟩:=hbody cdv A outer s H vs Q E hr hsp
 exact⟨t,h.nox,q⟩
theorem Fun.binds{x qual:Str}{st:Stmt}{f:Addr}{fd:C6}{ps:List Str}(F:Fun K x qual st f fd)
  (h:∀ (kV doc pm:AD) (an:Option Addr) (cdv ct:AD) (us:List AD),us.length=ps.length->bindArgs (Dm x qual (defArgs st) (defBody st) (defScope st) .none kV doc pm an cdv ct) ⟨us,[]⟩=pure (ps.zip us)):Binds K fd ps []:=by
 obtain⟨oc,od,kV,doc,pm,an,cdv,ct,osl,rfl,lk,hcd⟩:=F.ex
 exact .all (h kV doc pm an cdv ct)
theorem zKF{x qual:Str}{st:Stmt}{f:Addr}{oc:AD}{od an:Option Addr}{osl:Array (Option AD)}{kV doc pm cdv ct:AD}(l:K.lookup f=some ⟨oc,od,.func (Dm x qual (defArgs st) (defBody st) (defScope st) .none kV doc pm an cdv ct),osl⟩)
  (c:Dp K cdv qual=true) (k:Cj K (.ref f)=true):Fun K x qual st f (Dm x qual (defArgs st) (defBody st) (defScope st) .none kV doc pm an cdv ct):=⟨⟨oc,od,kV,doc,pm,an,cdv,ct,osl,rfl,l,c⟩,k⟩
end
def Same (H H':Hp):Prop:=∀ b o,H b=some o->H' b=some o
theorem Same.refl(H:Hp):Same H H:=fun _ _ h=>h
end L2
set_option maxHeartbeats 4000000
namespace L2
open PySem PySem.Spec PyProof.Rows
def cloOf (cells:List (Str×Addr)):List (Str×CS)->List (Str×Addr)->List (Str×Addr)
 | [],acc=>acc
 | (n,k)::r,acc=>if k == .free then cloOf cells r ((n,(cells.lookup n).getD 0)::acc) else cloOf cells r acc
theorem zFb(h:∀ x∈scope.names,x.2=.free->∃ c,env.cells.lookup x.1=some c):closureFor scope env=pure (cloOf env.cells scope.names []):=by
 have go:∀ (names:List (Str×CS)) (acc:List (Str×Addr)),(∀ x∈names,x.2=.free->∃ c,env.cells.lookup x.1=some c) ->
   (forIn names acc fun (x:Str×CS) (cs:List (Str×Addr))=>if (x.2 == BO)=true then (do let c ← cellOf env x.1; pure (Cw ((x.1,c)::cs))) else (pure (Cw cs):Sem _))=(pure (cloOf env.cells names acc):Sem _):=by
  intro names
  induction names with
  | nil=>intro acc _; rfl
  | cons x r ih =>
   intro acc hx
   obtain⟨n,k⟩:=x
   rw[GG]
   have hr:=fun acc=>ih acc fun y hy=>hx y (AR _ hy)
   unfold cloOf
   by_cases hk:(k == BO)=true
   ·obtain⟨c,hc⟩:=hx (n,k) AZ (by simpa using hk)
    have hc':env.cells.lookup n=some c:=hc
    have e:cellOf env n=pure c:=by unfold cellOf; rw[hc']
    simp only[hk,if_true,e,hc',Hi,pure_bind]
    exact hr _
   ·simp only[hk,if_false,pure_bind]
    exact hr _
 unfold closureFor
 have:=go scope.names [] h
 simp only[bind_pure]
 exact this
theorem zBl:∀ (names:List (Str×CS)) (acc:List (Str×Addr)),(cloOf cells names acc).lookup x=some c->((x,BO)∈names/\c=(cells.lookup x).getD 0)\/acc.lookup x=some c
 | [],acc,h=>.inr h
 | (n,k)::r,acc,h=>by
  unfold cloOf at h
  by_cases hk:(k == BO)=true
  ·rw[if_pos hk]at h
   have hk':k=.free:=by simpa using hk
   subst hk'
   rcases zBl r _ h with ⟨a,b⟩ | h'
   ·exact .inl ⟨AR _ a,b⟩
   ·clear h
    rw[CU]at h'
    cases e:x == n with
    | true =>
         rw[e]at h'; have q:x=n:=by simpa using e
         subst q
         have q2:(cells.lookup x).getD 0=c:=Ak h'
         exact .inl ⟨AZ,q2.symm⟩
    | false=>rw[e]at h'; exact .inr h'
  ·rw[if_neg hk]at h
   rcases zBl r _ h with ⟨a,b⟩ | h
   ·exact .inl ⟨AR _ a,b⟩
   ·exact .inr h
theorem zCy:∀ (names:List (Str×CS)) (acc:List (Str×Addr)),((x,BO)∈names\/(acc.lookup x).isSome=true)->((cloOf cells names acc).lookup x).isSome=true
 | [],acc,h=>h.elim (fun z=>nomatch z) id
 | (n,k)::r,acc,h=>by
  unfold cloOf
  by_cases hk:(k == BO)=true
  ·rw[if_pos hk]
   refine zCy r _ ?_
   by_cases e:x=n
   ·subst e; exact .inr (by simp)
   ·rcases h with h | h
    ·rcases AH.mp h with h | h
     ·cases h; exact absurd rfl e
     ·exact .inl h
    ·refine .inr ?_
     rw[CU]
     have:(x == n)=false:=by simpa using e
     rw[this]; exact h
  ·rw[if_neg hk]
   refine zCy r _ ?_
   rcases h with h | h
   ·rcases AH.mp h with h | h
    ·cases h; exact absurd rfl hk
    ·exact .inl h
   ·exact .inr h
theorem zB4:∀ (names:List (Str×CS)) (n:Nat) (acc:List (Str×Addr)),(BG n names acc).lookup x=some c->(n<=c/\(x,Bj)∈names)\/acc.lookup x=some c
 | [],_,acc,h=>.inr h
 | (y,k)::r,n,acc,h=>by
  unfold BG at h
  by_cases hk:(k == Bj)=true
  ·rw[if_pos hk]at h
   have hk':k=.cell:=by simpa using hk
   subst hk'
   rcases zB4 r _ _ h with ⟨a,b⟩ | h'
   ·exact .inl ⟨by lia,AR _ b⟩
   ·clear h
    rw[CU]at h'
    cases e:x == y with
    | true =>
         rw[e]at h'; have q:x=y:=by simpa using e
         have q2:n=c:=Ak h'
         subst q q2; exact .inl ⟨AF _,AZ⟩
    | false=>rw[e]at h'; exact .inr h'
  ·rw[if_neg hk]at h
   rcases zB4 r _ _ h with ⟨a,b⟩ | h
   ·exact .inl ⟨a,AR _ b⟩
   ·exact .inr h
theorem zF2:∀ (names:List (Str×CS)) (n:Nat) (acc:List (Str×Addr)),(x,c)∈BG n names acc->n<=c\/(x,c)∈acc
 | [],_,acc,h=>.inr h
 | (y,k)::r,n,acc,h=>by
  unfold BG at h
  by_cases hk:(k == Bj)=true
  ·rw[if_pos hk]at h
   rcases zF2 r _ _ h with a | h
   ·exact .inl ⋯
   ·rcases AH.mp h with h | h
    ·cases h; exact .inl (AF _)
    ·exact .inr h
  ·rw[if_neg hk]at h
   exact zF2 r _ _ h
theorem zGV:∀ (names:List (Str×CS)) (n:Nat) (acc:List (Str×Addr)),(∀ p∈acc,p.2 < n)->n<=c->(x,c)∈BG n names acc->(y,c)∈BG n names acc->x=y
 | [],n,acc,ha,hc,h1,_=>by have q:c < n:=ha _ h1; exact absurd (AY q hc) (BE _)
 | (z,k)::r,n,acc,ha,hc,h1,h2=>by
  unfold BG at h1 h2
  by_cases hk:(k == Bj)=true
  ·rw[if_pos hk]at h1 h2
   have ha':∀ p∈(z,n)::acc,p.2 < n+1:=fun p hp=>by
    rcases AH.mp hp with h | h
    ·subst h; exact CW _
    ·exact DY (ha p h)
   by_cases hcn:n+1<=c
   ·exact zGV r _ _ ha' hcn h1 h2
   ·have hcn':c=n:=Nat.le_antisymm (Nat.not_lt.mp hcn) hc
    subst hcn'
    have g:∀ w,(w,c)∈BG (c+1) r ((z,c)::acc)->w=z:=fun w hw=>by
     rcases zF2 r _ _ hw with a | a
     ·exact absurd a (Nat.not_succ_le_self _)
     ·rcases AH.mp a with a | a
      ·cases a; rfl
      ·have:=ha _ a; exact absurd this (BE _)
    rw[g x h1,g y h2]
  ·rw[if_neg hk]at h1 h2
   exact zGV r _ _ ha hc h1 h2
theorem zEu:∀ (names:List (Str×CS)) (h:Heap) (acc:List (Str×Addr)),(∀ p∈acc,∃ v,h.IsCell p.2 v)->(x,c)∈BG h.objs.size names acc->∃ v,(E2 h names).IsCell c v
 | [],_,acc,ha,hm=>ha _ hm
 | (z,k)::r,h,acc,ha,hm=>by
  unfold BG at hm
  unfold E2
  by_cases hk:(k == Bj)=true
  ·rw[if_pos hk]at hm ⊢
   refine zEu r (h.push { cls:=.type "cell",data:=.cell none }) ((z,h.objs.size)::acc) (fun p hp=>?_) (by rw[A5]; exact hm)
   rcases AH.mp hp with e | e
   ·subst e; exact⟨none,_,AI _ rfl,rfl⟩
   ·obtain⟨v,q⟩:=ha p e
    exact⟨v,q.keeps fun b o e=>AC _ e⟩
  ·rw[if_neg hk]at hm ⊢
   exact zEu r h acc ha hm
theorem zHG
  (hQ:Q (newEnv scope s.heap.objs.size globals (BG (s.heap.objs.size+1) scope.names cl) qual none .none (some env) G5) { s with heap:=E2 (s.heap.push { cls:=.type "dict",data:=.dict #[] }) scope.names }) :
  AQ M A (KE scope globals cl [] qual none .none (some env)) Q E s:=by
 simp only[KE,HK,if_true]
 refine AA (wpAny_alloc ?_)
 refine AA (wpAny_layCells _ (fun name kind cells=>by cases hkc:kind == Bj <;> simp[hkc]) _ _ _ _ ?_)
 rw[show ({ s with heap:=s.heap.push { cls:=.type "dict",data:=.dict #[] } }:AG).heap.objs.size=s.heap.objs.size+1 from A5 ..]
 refine AA ?_
 rw[GV]
 exact AJ (AJ hQ)
def compOk (N N':List Str) (ix:List (Option Nat)) (outer names:List (Str×CS)):Bool :=
 decide (N'.length=ix.length) && ((N'.zip ix).all fun p=>match p.2 with | none=>true | some j=>decide (N[j]?=some p.1) && names.contains (p.1,BO)) &&
 (names.all fun p=>(p.2 != .free || outer.lookup p.1 == some .cell || outer.lookup p.1 == some .free) && (p.2 != .local || names.lookup p.1 == some .local) && (p.2 != .cell || names.lookup p.1 == some .cell) && (p.2 != .free || names.lookup p.1 == some .free))
def frm (ix:List (Option Nat)) (σ:St):St:=ix.map fun o=>o.bind fun j=>(σ[j]?).join
def cxC (X:Cx) (N:List Str) (scope:Ez) (C:Addr) (cs:List (Str×Addr)) (s:AG) (H:Hp) (ex:List Addr):Cx where
 prog:=X.prog
 w:=X.w
 K:=X.K
 mg:=X.mg
 base:=X.base
 A:=X.A
 N:=N
 s₀:=s
 H₀:=H
 env:=FV scope cs C X.env
 outer:=X.stack
 stack:=X.stack
 ex:=ex
 fn:=fun x=>scope.names.lookup x == some .cell
 calm:=X.calm
 pn:=[]
 xe:=fun _ _=>False
structure CompOk(X:Cx)(N':List Str)(ix:List (Option Nat))(scope:Ez):Prop where
 kind:scope.kind=.function
 ok:compOk X.N N' ix X.env.scope.names scope.names=true
section
variable {X:Cx}{N':List Str}{ix:List (Option Nat)}{scope:Ez}
theorem CompOk.len(S:CompOk X N' ix scope):N'.length=ix.length:=by
 have h:=S.ok; unfold compOk at h; simp only[AW,decide_eq_true_eq]at h; exact h.1.1
theorem CompOk.name(S:CompOk X N' ix scope)(hp:p∈scope.names) :
  (p.2=.free->X.env.scope.names.lookup p.1=some .cell\/X.env.scope.names.lookup p.1=some .free)/\(p.2=.local->scope.names.lookup p.1=some .local)/\(p.2=.cell->scope.names.lookup p.1=some .cell)/\(p.2=.free->scope.names.lookup p.1=some .free):=by
 have h:=S.ok; unfold compOk at h; simp only[AW]at h
 have q:=Aw.mp h.2 p hp
 simp only[AW,El,bne_iff_ne,beq_iff_eq,ne_eq]at q
 obtain⟨⟨⟨a,b⟩,c⟩,d⟩:=q
 refine⟨fun e=>?_,fun e=>?_,fun e=>?_,fun e=>?_⟩
 ·rcases a with (a | a) | a
  ·exact absurd e a
  ·exact .inl a
  ·exact .inr a
 ·exact b.resolve_left fun z=>z e
 ·exact c.resolve_left fun z=>z e
 ·exact d.resolve_left fun z=>z e
theorem CompOk.at(S:CompOk X N' ix scope){i j:Nat}{x:Str}(h1:N'[i]?=some x)(h2:ix[i]?=some (some j)):X.N[j]?=some x/\(x,BO)∈scope.names:=by
 have h:=S.ok; unfold compOk at h; simp only[AW]at h
 have hz:(x,some j)∈N'.zip ix:=by
  have:(N'.zip ix)[i]?=some (x,some j):=by rw[EC]; exact⟨h1,h2⟩
  exact Ct this
 have q:=Aw.mp h.1.2 _ hz
 simp only[AW,decide_eq_true_eq,List.contains_iff_mem]at q
 exact q
theorem zPG{σ:St}{i:Nat}{v:V}(h:(frm ix σ)[i]?=some (some v)):∃ j,ix[i]?=some (some j)/\σ[j]?=some (some v):=by
 unfold frm at h
 rw[Ah]at h
 cases e:ix[i]? with
 | none=>rw[e]at h; cases h
 | some o =>
  rw[e]at h
  cases o with
  | none=>cases h
  | some j =>
   have h':(σ[j]?).join=some v:=Ak h
   refine⟨j,rfl,?_⟩
   cases e2:σ[j]? with
   | none=>rw[e2]at h'; cases h'
   | some w=>rw[e2]at h'; rw[show w=some v from h']
theorem zCp{env:Env}:∀ (names:List (Str×CS)) (x:Str),
  (names.map fun (n,k)=>if (k == BO && env.scope.kind == .function && env.kindOf n == some .cell) then (n,Bj) else (n,k)).lookup x =
   match names.lookup x with
   | some .free=>if (env.scope.kind == .function && env.kindOf x == some .cell) then some Bj else some .free
   | o=>o
 | [],_=>rfl
 | (n,k)::r,x=>by
  have ih:=zCp (env:=env) r x
  rw[Ab]
  show JX x ((if (k == BO && env.scope.kind == .function && env.kindOf n == some .cell)=true then (n,Bj) else (n,k))::_)=_
  cases hx:x == n with
  | true =>
   have e:x=n:=by simpa using hx
   subst e
   simp only[CU,beq_self_eq_true]
   cases k <;> by_cases hc:(env.scope.kind == .function && env.kindOf x == some .cell)=true <;> simp[CU,hc] <;> simp_all
  | false =>
   simp only[CU,hx]
   rw[← ih]
   split <;> simp only[CU,hx]
theorem kindC(x:Str):(FV scope cs C X.env).kindOf x =
   match scope.names.lookup x with
   | some .free=>if (X.env.scope.kind == .function && X.env.kindOf x == some .cell) then some Bj else some .free
   | o=>o:=zCp scope.names x
end
theorem zLe{X:Cx}{N':List Str}{ix:List (Option Nat)}{scope:Ez}(S:CompOk X N' ix scope){pins:List (Addr×Obj)}{σ:St}{H:Hp}{s:AG}{fp:List Addr}{D:Addr}{o:Obj}
  (I:Inv X pins σ H s) (hf:∀ b∈fp,FpOk X pins H b) (ho:∀ b∈fp,∃ o,s.heap.get? b=some o) (hc:X.calm=true) {h3:Heap} {C:Addr} (hk3:∀ b u,s.heap.get? b=some u->h3.get? b=some u) (hC:C=h3.objs.size) (hs3:s.heap.objs.size<=h3.objs.size) {h4:Heap}
  (h4e:h4=E2 (h3.push { cls:=.type "dict",data:=.dict #[] }) scope.names) {t4:Nat} :
  Inv (cxC X N' scope C (BG (C+1) scope.names (cloOf X.env.cells scope.names [])) s H fp) [] (frm ix σ) H { s with heap:=h4,toks:=t4 }:=by
 have hsz:s.heap.objs.size<=C:=by rw[hC]; exact hs3
 have hk4:∀ b u,h3.get? b=some u->h4.get? b=some u:=fun b u e=>by rw[h4e]; exact FL _ _ b u (AC _ e)
 have hk:∀ b u,s.heap.get? b=some u->h4.get? b=some u:=fun b u e=>hk4 b u (hk3 b u e)
 have hpC:(h3.push { cls:=.type "dict",data:=.dict #[] }).objs.size=C+1:=by rw[hC,A5]
 have clo:∀ x c,(cloOf X.env.cells scope.names []).lookup x=some c->X.env.cells.lookup x=some c:=fun x c h=>by
  rcases zBl scope.names [] h with ⟨hm,e⟩ | h
  ·obtain⟨c',hc'⟩:=I.ok.has x ((S.name hm).1 rfl)
   rw[hc']at e ⊢
   rw[e]; rfl
  ·cases h
 have cloM:∀ p∈cloOf X.env.cells scope.names [],∃ x,(x,BO)∈scope.names/\p.1=x/\X.env.cells.lookup x=some p.2:=by
  have go:∀ (names:List (Str×CS)) (acc:List (Str×Addr)),(∀ q∈names,q∈scope.names)->(∀ p∈acc,∃ x,(x,BO)∈scope.names/\p.1=x/\X.env.cells.lookup x=some p.2) ->
    ∀ p∈cloOf X.env.cells names acc,∃ x,(x,BO)∈scope.names/\p.1=x/\X.env.cells.lookup x=some p.2:=by
   intro names
   induction names with
   | nil=>intro acc _ ha; exact ha
   | cons q r ih =>
    intro acc hn ha
    obtain⟨n,k⟩:=q
    unfold cloOf
    by_cases hkf:(k == BO)=true
    ·rw[if_pos hkf]
     have e:k=.free:=by simpa using hkf
     subst e
     refine ih _ (fun q hq=>hn q (AR _ hq)) fun p hp=>?_
     rcases AH.mp hp with e | hp
     ·subst e
      have hm:=hn (n,.free) AZ
      obtain⟨c',hc'⟩:=I.ok.has n ((S.name hm).1 rfl)
      refine⟨n,hm,rfl,?_⟩
      show JX n X.env.cells=some ((X.env.cells.lookup n).getD 0)
      rw[hc']; rfl
     ·exact ha p hp
    ·rw[if_neg hkf]
     exact ih _ (fun q hq=>hn q (AR _ hq)) ha
  exact go scope.names [] (fun _ h=>h) fun p hp=>nomatch hp
 have cellLt:∀ x c,X.env.cells.lookup x=some c->c < s.heap.objs.size:=fun x c h=>by
  obtain⟨v,q⟩:=I.cell x c h; exact q.lt
 have split:∀ x c,(BG (C+1) scope.names (cloOf X.env.cells scope.names [])).lookup x=some c->(C+1<=c/\(x,Bj)∈scope.names)\/X.env.cells.lookup x=some c:=fun x c h=>by
  rcases zB4 scope.names _ _ h with h | h
  ·exact .inl h
  ·exact .inr (clo x c h)
 have cells4:∀ x c,(BG (C+1) scope.names (cloOf X.env.cells scope.names [])).lookup x=some c->∃ v,h4.IsCell c v:=fun x c h=>by
  rw[h4e]
  refine zEu (x:=x) scope.names _ (cloOf X.env.cells scope.names []) (fun p hp=>?_) (by rw[hpC]; exact BV h)
  obtain⟨y,_,_,e⟩:=cloM p hp
  obtain⟨v,q⟩:=I.cell y p.2 e
  exact⟨v,q.keeps fun b u e=>AC _ (hk3 b u e)⟩
 have bLt:∀ b∈fp,b < s.heap.objs.size:=fun b hb=>by obtain⟨u,e⟩:=ho b hb; exact AK e
 have nfree:∀ b,s.heap.objs.size<=b->H b=none:=fun b hb=>I.hok.fresh hb
 have HC:C < h4.objs.size:=by
  have:h4.get? C=some { cls:=.type "dict",data:=.dict #[] }:=by
   rw[h4e]; refine FL _ _ _ _ ?_
   rw[hC]; exact AI _ rfl
  exact AK this
 refine⟨⟨I.ok.mod,?_,I.ok.glob,I.ok.blt,hsz,fun x y c h1 h2=>?_,fun x hx=>?_,fun x c hx h=>?_,fun h=>I.ok.hd hc,I.ok.frames,.inl rfl,fun b hb=>⟨?_,fun x c h=>?_⟩,fun b u e=>I.bs b u e,Ai I.ok.bsz I.sz,fun b u e hb=>?_,fun b hb hz=>?_,I.stack,I.stkFree⟩,
  rfl,I.bare,Un.kept hk,⟨fun _=>none,?_,fun i x v h1 h2 h3=>?_⟩,cells4,?_,fun x c h=>?_,fun p hp=>absurd (show p∈([]:List (Addr×Obj)) from hp) (by simp),I.hok.kept hk,?_⟩
 ·exact S.kind
 ·-- injective
  have m1:=BV h1
  have m2:=BV h2
  rcases split x c h1 with ⟨a,_⟩ | a
  ·exact zGV scope.names (C+1) _ (fun p hp=>by obtain⟨y,_,_,e⟩:=cloM p hp; exact DY (AY (cellLt y _ e) hsz)) a m1 m2
  ·rcases split y c h2 with ⟨b,_⟩ | b
   ·exact absurd (AY (cellLt x c a) (Ai hsz (EJ b))) (BE _)
   ·exact I.ok.inj x y c a b
 ·-- has
  have hx':(FV scope (BG (C+1) scope.names (cloOf X.env.cells scope.names [])) C X.env).kindOf x=some .cell\/(FV scope (BG (C+1) scope.names (cloOf X.env.cells scope.names [])) C X.env).kindOf x=some .free:=hx
  rw[kindC]at hx'
  have key:scope.names.lookup x=some .cell\/scope.names.lookup x=some .free:=by
   cases e:scope.names.lookup x with
   | none=>rw[e]at hx'; rcases hx' with z | z <;> cases z
   | some k =>
    rw[e]at hx'
    cases k <;> first | exact .inl rfl | exact .inr rfl | (rcases hx' with z | z <;> cases z)
  refine C3.mp (DH scope.names _ _ ?_)
  rcases key with k | k
  ·exact .inl k
  ·exact .inr (zCy scope.names [] (.inl (BV k)))
 ·-- own cells are new
  have hx':(scope.names.lookup x == some Bj)=true:=hx
  have hx'':scope.names.lookup x=some .cell:=by simpa using hx'
  rcases zB4 scope.names _ _ h with ⟨a,_⟩ | a
  ·exact Ai hsz (EJ a)
  ·rcases zBl scope.names [] a with ⟨hm,_⟩ | z
   ·have:=(S.name hm).2.2.2 rfl
    rw[hx'']at this; cases this
   ·cases z
 ·exact Ae (AY (bLt b hb) hsz)
 ·rcases split x c h with ⟨a,_⟩ | a
  ·exact B4 (AY (bLt b hb) (Ai hsz (EJ a)))
  ·exact (hf b hb).2.2.2.2.1 x c a
 ·rcases (hf b hb).2.2.2.1 with z | z
  ·exact I.ok.noex b u e z
  ·exact absurd (AY (AK e) (Ai I.ok.bsz z)) (BE _)
 ·rcases AH.mp (I.stkSub b hz) with e | e
  ·exact (hf b hb).2.1 e
  ·exact (hf b hb).2.2.1 e
 ·-- the block's names
  rw[h4e]
  show (E2 (h3.push { cls:=.type "dict",data:=.dict #[] }) scope.names).Ns C (fun _=>none)
  rw[hC]
  exact (Heap.Ns.new h3 (.type "dict")).keeps (FL _ _)
 ·obtain⟨j,e1,e2⟩:=zPG h2
  obtain⟨hn,hm⟩:=S.at h1 e1
  have hkx:=(S.name hm).2.2.2 rfl
  have hox:=(S.name hm).1 rfl
  obtain⟨m,hns,hl⟩:=I.loc
  have vis:Vis X.env.scope x:=by rcases hox with z | z; exact .inr (.inl z); exact .inr (.inr z)
  obtain⟨u,r,l⟩:=hl j x v hn e2 vis
  refine⟨u,r,.inr ⟨?_,?_⟩⟩
  ·show (FV scope _ C X.env).kindOf x=some .cell\/(FV scope _ C X.env).kindOf x=some .free
   rw[kindC,hkx]
   dsimp only
   split
   ·exact .inl rfl
   ·exact .inr rfl
  ·rcases l with ⟨k,_⟩ | ⟨_,c,hc',hcell⟩
   ·have k':X.env.scope.names.lookup x=some .local:=k
    rcases hox with z | z <;> rw[z]at k' <;> cases k'
   ·have hs:((BG (C+1) scope.names (cloOf X.env.cells scope.names [])).lookup x).isSome=true:=DH scope.names _ _ (.inr (zCy scope.names [] (.inl hm)))
    obtain⟨c',e'⟩:=C3.mp hs
    have:c'=c:=by
     rcases split x c' e' with ⟨_,q⟩ | q
     ·have:=(S.name q).2.2.1 rfl
      rw[show scope.names.lookup x=some .free from hkx]at this; cases this
     ·rw[hc']at q; exact (Ak q).symm
    subst this
    exact⟨c',e',hcell.keeps hk⟩
 ·exact nfree C hsz
 ·rcases split x c h with ⟨a,_⟩ | a
  ·exact nfree c (Ai hsz (EJ a))
  ·exact I.freeC x c a
 ·show (frm ix σ).length=N'.length
  unfold frm; rw[Bg,S.len]
theorem zGN(I:Nat->AG->Prop)
  (turn:∀ n s,I n s->AQ (model prog w) A (D5 it) (fun r s₁=>match r with
   | none=>R (.ok .next) s₁
   | some v=>AQ (model prog w) A (FK target it v) (fun _ s₁'=>AQ (model prog w) A (assign target env v) (fun _ s₂ =>
     AQ (model prog w) A (forIn ifs true fun c r=>if r=true then do let ok ← Hm c env (eval c env); pure (Cw ok) else pure (Cw r)) (fun ok s₃ =>
      if ok=true then AQ (model prog w) A (eval elt env) (fun x s₄ =>
       AQ (model prog w) A (call (.builtin "list.append") [acc,x]) (fun _ s₅=>∃ m,m < n/\I m s₅) (fun _ _=>False) s₄) (fun _ _=>False) s₃
      else ∃ m,m < n/\I m s₃) (fun _ _=>False) s₂) (fun _ _=>False) s₁') (fun _ _=>False) s₁) (fun _ _=>False) s)
  (n:Nat) (h:I n s) :
  Ee (model prog w) A (.compLoop (.ListComp elt [⟨target,iter,ifs,0⟩] scope pos) 0 it acc env) R s:=by
 refine codeAny_loop rfl I (fun n s hI=>?_) n h
 show AQ _ A ((compTurn (.ListComp elt [⟨target,iter,ifs,0⟩] scope pos) 0 it acc env).onRaise (fun x=>do noteFrame x env; theTreesLotGoes x)) _ _ s
 refine wpAny_noted ?_
 rw[compTurn_list]
 refine AA (Du (AA (B3 (turn n s hI) (fun r s₁ h₁=>?_) fun _ _ h'=>h'.elim)))
 cases r with
 | none=>exact AJ h₁
 | some v =>
  refine AA (B3 h₁ (fun _ s₁' h₁'=>?_) fun _ _ h'=>h'.elim)
  refine AA (B3 h₁' (fun _ s₂ h₂=>AA (B3 h₂ (fun ok s₃ h₃=>?_) fun _ _ h'=>h'.elim)) fun _ _ h'=>h'.elim)
  cases ok with
  | false=>exact AJ ⟨rfl,h₃⟩
  | true =>
   exact AA (AA (B3 h₃ (fun x s₄ h₄=>AA (B3 h₄ (fun _ s₅ h₅=>AJ (AJ ⟨rfl,h₅⟩)) fun _ _ h'=>h'.elim)) fun _ _ h'=>h'.elim))
def PTs (X:Cx) (ifs:List Expr) (t:TT):Prop :=
 ∀ (pins:List (Addr×Obj)) (s:AG) (σ:St) (H:Hp) (Q:Bool->Hp->Prop),Inv X pins σ H s->t σ H Q ->
  AQ (model X.prog X.w) X.A (forIn ifs true fun c r=>if r=true then do let ok ← Hm c X.env (eval c X.env); pure (Cw ok) else pure (Cw r)) (TP X pins σ Q) X.xe s
def tYes:TT:=fun _ H Q=>Q true H
theorem zN8:PTs X [] tYes:=fun _ _ _ H _ I h=>wpAny_tests_nil ⟨H,I,h⟩
theorem zNe(h:PT X c t):PTs X [c] t:=fun pins s σ H Q I hw=>wpAny_tests_one (h pins s σ H Q I hw)
def CompW (J:It) (ix:List (Option Nat)) (g:TG) (tc:TT) (te:TE) (σ:St) (H1:Hp) (Q:VK):Prop:=∃ W:Nat->Nat->List V->St->Hp->Prop,(∃ m,W 0 m [] (frm ix σ) H1) /\
 ∀ i m ys σ' H',W i m ys σ' H' ->
  (J.stop i H'/\ys.length<=AB/\∀ D,H' D=none->Q (.ref D) (upd H' D (.lst ys))) \/
  (J.go i H'/\ys.length < AB/\∃ N:List V->St->Hp->Prop,(∀ ys' σ2 H2,N ys' σ2 H2->∃ m',m' < m/\W (i+1) m' ys' σ2 H2) /\
   ∀ x H2,J.yld i H' x H2->g x σ' H2 fun σ2 H3=>tc σ2 H3 fun b H4=>if b=true then te σ2 H4 fun v H5=>N (ys++[v]) σ2 H5 else N ys σ2 H4)
def tComp (wi:TI) (ix:List (Option Nat)) (g:TG) (tc:TT) (te:TE):TE:=fun σ H Q=>wi σ H fun J H1=>CompW J ix g tc te σ H1 Q
theorem HOk.adopt(x:HOk P w H h)(hn:H a=none)(new:ObjOk P w (upd H a o) h a o):HOk P w (upd H a o) h:=fun b u e=>by
 by_cases hb:b=a
 ·subst hb; rw[zAj]at e; cases e; exact new
 ·rw[zAN hb]at e
  exact (x b u e).stay (fun c v _ q=>q) (fun c q=>by rw[zAN (zAW q hn)]; exact q) fun c xs q=>by rw[zAN (zAW q hn)]; exact q
section
variable {X:Cx}{N':List Str}{ix:List (Option Nat)}{scope:Ez}{elt tg iter:Expr}{ifs:List Expr}{pos:Pos}{wi:TI}{g:TG}{tc:TT}{te:TE}
theorem zFS(S:CompOk X N' ix scope)(hc:X.calm=true)(hi:PI X tg iter wi)
  (hg:∀ C cs s H ex,PG (cxC X N' scope C cs s H ex) tg g) (ht:∀ C cs s H ex,PTs (cxC X N' scope C cs s H ex) ifs tc) (he:∀ C cs s H ex,PE (cxC X N' scope C cs s H ex) elt te) (I:Inv X pins σ H s) (hw:tComp wi ix g tc te σ H Q)
  (fin:∀ (D C:Addr) (o:Obj) (H':Hp) (s':AG),Inv X (pins++[(C,o)]) σ H' s'->(∃ m,s'.heap.Ns C m)->(X.s₀.heap.objs.size<=C)->(∀ x c,X.env.cells.lookup x=some c->c≠C)->(∀ p∈X.pn++pins,p.1≠C)->Q (.ref D) H'->KG (model X.prog X.w) X.A X.xe use QQ (.ref D) C (.ok .next) s')
  (hs:∀ x,CQ iter X.env x=pure x:=by intro _; rfl) :
  AQ (model X.prog X.w) X.A (comprehension (.ListComp elt [⟨tg,iter,ifs,0⟩] scope pos) scope X.env (firstIterPos [⟨tg,iter,ifs,0⟩] pos) (JB []) false (eval iter X.env) use) QQ X.xe s:=by
 refine wpAny_comprehension_free (cl:=cloOf X.env.cells scope.names []) rfl hs (zFb fun x hx hk=>I.ok.has x.1 ((S.name hx).1 hk)) S.kind (fun x hx hl=>(S.name hx).2.1 hl) ?_
 refine thn (hi pins s σ H _ I hw) fun v s1 h1=>thn h1 fun itv s2 h2=>?_
 obtain⟨it,fp,tn,J,H2,e,I2,T,st2,f2,W,⟨m0,w0⟩,turn⟩:=h2
 subst e
 refine Au ?_
 refine zHG ?_
 generalize hH3:s2.heap.push { cls:=.type "list",dict:=none,data:=.seq ([]:List AD).toArray }=h3
 have hD3:h3.get? s2.heap.objs.size=some { cls:=.type "list",dict:=none,data:=.seq ([]:List AD).toArray }:=by rw[← hH3]; exact AI _ rfl
 have hk3:∀ b u,s2.heap.get? b=some u->h3.get? b=some u:=fun b u e=>by rw[← hH3]; exact AC _ e
 have hz3:h3.objs.size=s2.heap.objs.size+1:=by rw[← hH3,A5]
 have ho2:∀ b∈fp,∃ o,s2.heap.get? b=some o:=fun b hb=>by obtain⟨o,e,_⟩:=T.obj _ _ st2 b hb; exact⟨o,e⟩
 show Ee (model X.prog X.w) X.A (.compStart (.ListComp elt [⟨tg,iter,ifs,0⟩] scope pos) 0 (.ref it) (.ref s2.heap.objs.size) (FV scope (BG (h3.objs.size+1) scope.names (cloOf X.env.cells scope.names [])) h3.objs.size X.env)) (KG (model X.prog X.w) X.A X.xe use QQ (.ref s2.heap.objs.size) h3.objs.size) { s2 with heap:=E2 (h3.push { cls:=.type "dict",data:=.dict #[] }) scope.names }
 generalize hD:s2.heap.objs.size=D at hD3 hz3 ⊢
 generalize hC:h3.objs.size=C at hz3 ⊢
 generalize h4e:E2 (h3.push { cls:=.type "dict",data:=.dict #[] }) scope.names=h4
 have hk4:∀ b u,h3.get? b=some u->h4.get? b=some u:=fun b u e=>by rw[← h4e]; exact FL _ _ b u (AC _ e)
 have I4:Inv (cxC X N' scope C (BG (C+1) scope.names (cloOf X.env.cells scope.names [])) s2 H2 fp) [] (frm ix σ) H2 { s2 with heap:=h4,toks:=s2.toks } :=
  zLe (D:=D) (o:={ cls:=.none,data:=.dict #[] }) S I2 f2 ho2 hc hk3 hC.symm (by rw[hC,hz3,hD]; exact HV _) h4e.symm
 have hcellD:∀ x c,(BG (C+1) scope.names (cloOf X.env.cells scope.names [])).lookup x=some c->c≠D:=fun x c h z=>by
  rcases zB4 scope.names _ _ h with ⟨a,_⟩ | a
  ·rw[z,hz3]at a; lia
  ·rcases zBl scope.names [] a with ⟨hm,e⟩ | a
   ·obtain⟨c',hc'⟩:=I2.ok.has x ((S.name hm).1 rfl)
    rw[hc']at e
    obtain⟨v,q⟩:=I2.cell x c' hc'
    have e':c=c':=e
    rw[← e',z,← hD]at q
    exact absurd q.lt (BE _)
   ·cases a
 have hDC:D≠C:=by rw[hz3]; exact Ae (CW _)
 have hDfp:D∉fp:=fun hb=>by obtain⟨o,e⟩:=ho2 D hb; exact absurd (hD ▸ AK e) (BE _)
 generalize hX':cxC X N' scope C (BG (C+1) scope.names (cloOf X.env.cells scope.names [])) s2 H2 fp=X' at I4
 have hfpX:∀ {H':Hp} {oD:Obj},(∀ b∈fp,H' b=none)->∀ b∈fp,FpOk X' [(D,oD)] H' b:=fun {H' oD} hn b hb=>by
  rw[← hX']
  refine⟨hn b hb,fun z=>?_,fun z=>?_,.inl hb,fun x c h z=>?_,fun p hp=>?_⟩
  rotate_right
  ·have hp':p∈[(D,oD)]:=hp
   have e:p=(D,oD):=by simpa using hp'
   subst e
   exact fun z=>hDfp (by rw[show D=b from z]; exact hb)
  ·obtain⟨o,e⟩:=ho2 b hb
   have z':b=C:=z
   have q:=AK e
   rw[z',hz3,hD]at q
   exact absurd (JY (CW D) q) (BE _)
  ·have z':b∈frs X.stack:=z
   rcases AH.mp (I2.stkSub b z') with e | e
   ·exact (f2 b hb).2.1 e
   ·exact (f2 b hb).2.2.1 e
  ·rw[← hX']at I4
   exact (I4.ok.exf b hb).2 x c h z
 have HDnone:H2 D=none:=I2.hok.fresh (by rw[hD]; exact AF _)
 have key:∀ (s':AG),s'={ s2 with heap:=h4,toks:=s2.toks } ->
   Ee (model X.prog X.w) X.A (.compLoop (.ListComp elt [⟨tg,iter,ifs,0⟩] scope pos) 0 (.ref it) (.ref D) X'.env) (KG (model X.prog X.w) X.A X.xe use QQ (.ref D) C) s':=by
  rintro s' rfl
  refine zGN (fun n s'=>∃ i ys σ' H' its,Inv X' [] σ' H' s'/\tn i s'.heap/\(∀ b∈fp,H' b=none)/\H' D=none/\s'.heap.PlainList D its/\Vals ys its.toList/\W i n ys σ' H') ?_ m0
   ⟨0,[],frm ix σ,H2,#[],I4,T.keep _ _ _ st2 fun b hb o e=>hk4 b o (hk3 b o e),fun b hb=>(f2 b hb).1,HDnone,⟨_,hk4 _ _ hD3⟩,.nil,w0⟩
  rintro n s3 ⟨i,ys,σ3,H3,its,I3,st3,fr3,hD3n,hpl,hv,w3⟩
  have hc':X'.calm=true:=by rw[← hX']; exact hc
  have xe':∀ e s,X'.xe e s->False:=by rw[← hX']; exact fun _ _ z=>z
  have pr:X'.prog=X.prog:=by rw[← hX']; rfl
  have pw:X'.w=X.w:=by rw[← hX']; rfl
  have pK:X'.K=X.K:=by rw[← hX']; rfl
  have pA:X'.A=X.A:=by rw[← hX']; rfl
  have p0:X'.s₀=s2:=by rw[← hX']; rfl
  have pH:X'.H₀=H2:=by rw[← hX']; rfl
  have px:X'.ex=fp:=by rw[← hX']; rfl
  have pf:X'.fs=frs X.stack:=by rw[← hX']; rfl
  have pL:X'.env.locals=C:=by rw[← hX']; rfl
  have pn0:X'.pn=[]:=by rw[← hX']; rfl
  have pcs:X'.env.cells=BG (C+1) scope.names (cloOf X.env.cells scope.names []):=by rw[← hX']; rfl
  obtain⟨nD,hoD⟩:=id hpl
  have Dfs:D∉X'.fs:=fun z=>by
   rw[pf]at z
   rcases AH.mp (I2.stkSub D z) with e | e
   ·have q:=I2.lt; rw[← e,hD]at q; exact BE _ q
   ·exact I2.nofs (by rw[hD]; exact AF _) e
  have I3':Inv X' [(D,_)] σ3 H3 s3:=I3.pins_of fun p hp=>by
   have e:p=(D,_):=AE.mp hp
   subst e
   exact⟨hoD,hD3n,by rw[pL]; exact hDC,Dfs,fun v z=>by cases z⟩
  have hg':PG X' tg g:=hX' ▸ hg _ _ _ _ _
  have ht':PTs X' ifs tc:=hX' ▸ ht _ _ _ _ _
  have he':PE X' elt te:=hX' ▸ he _ _ _ _ _
  have hsizes:its.toList.length=ys.length:=hv.length.symm
  rcases turn i n ys σ3 H3 w3 with ⟨stop,hlen,qn⟩ | ⟨go,hlt,N,hN,step⟩
  ·-- the end
   have T':=T.done X' pr pw pK hc' i _ s3 σ3 H3 (fun _ _=>False) I3' (hfpX fr3) st3 stop
   rw[pA]at T'
   refine thn T' fun r s4 ⟨hr,I5⟩=>?_
   subst hr
   obtain⟨gD,nDn,_,_,_⟩:=I5.pin (D,_) (Ag _ (AE.mpr rfl))
   have gD':s4.heap.get? D=some { cls:=.type "list",data:=.seq its nD }:=gD
   obtain⟨m,hns,_⟩:=I5.loc
   rw[pL]at hns
   obtain⟨oC,es,ep,hoC,hdC,_⟩:=id hns
   have ub:Un (frs X.stack) fp H2 H3 s2.heap s4.heap:=by
    have q:=I5.base
    rw[px,pH,p0]at q
    rw[← pf]; exact q
   have bLt:∀ b u,s2.heap.get? b=some u->b≠D:=fun b u e z=>by have q:=AK e; rw[z,hD]at q; exact BE _ q
   have u':Un (frs X.stack) fp H2 (upd H3 D (.lst ys)) s2.heap s4.heap :=
    ⟨ub.keep,ub.slot,fun b o e n hx=>by rw[zAN (bLt b o e)]; exact ub.free b o e n hx,ub.there,fun b xs e=>by rw[zAN (zAW (ub.tups b xs e) hD3n)]; exact ub.tups b xs e,
     fun b o u e=>by rw[zAN (zAW (ub.frzs b o u e) hD3n)]; exact ub.frzs b o u e,fun b ps e=>by obtain⟨more,q⟩:=ub.tbls b ps e; exact⟨more,by rw[zAN (zAW q hD3n)]; exact q⟩⟩
   have hok':HOk X.prog X.w (upd H3 D (.lst ys)) s4.heap:=by
    have q:=I5.hok
    rw[pr,pw]at q
    exact q.adopt hD3n ⟨hlen,its.toList,nD,hv,by simpa using gD'⟩
   have os':s4.os=s2.os:=by have q:=I5.os; rw[p0]at q; exact q
   have Iend:Inv X pins σ (upd H3 D (.lst ys)) s4:=I2.call' (ch:=fp) os' u' hok' I5.bare fun b hb=>⟨(f2 b hb).2.2.2.1,(f2 b hb).2.1,(f2 b hb).2.2.2.2.1,(f2 b hb).2.2.2.2.2⟩
   have hsC:s2.heap.objs.size<=C:=by rw[hz3,hD]; exact HV _
   have freeC:upd H3 D (.lst ys) C=none:=by rw[zAN (BD hDC)]; have q:=I5.free; rw[pL]at q; exact q
   have Iend':Inv X (pins++[(C,oC)]) σ (upd H3 D (.lst ys)) s4:=Iend.pins_of fun p hp=>by
    rcases Bp.mp hp with hp | hp
    ·exact Iend.pin p (Ag _ hp)
    ·have e:p=(C,oC):=AE.mp hp
     subst e
     exact⟨hoC,freeC,B4 (AY I2.lt hsC),I2.nofs hsC,fun v z=>by rw[show oC.data=J8 v from z]at hdC; cases hdC⟩
   exact fin D C oC _ s4 Iend' ⟨m,hns⟩ (Ai I2.sz hsC) (fun x c h z=>by obtain⟨v,q⟩:=I2.cell x c h; exact absurd (AY q.lt hsC) (by rw[z]; exact BE _))
    (fun p hp z=>by have q:=AK (I2.pin p hp).1; exact absurd (AY q hsC) (by rw[z]; exact BE _)) (qn D hD3n)
  ·have T':=T.item X' pr pw pK hc' i _ s3 σ3 H3 (fun _ _=>False) I3' (hfpX fr3) st3 go
   rw[pA]at T'
   refine thn T' fun r s4 ⟨u,hr,h4'⟩=>?_
   subst hr
   refine thn h4' fun _ s5 ⟨x,H5,I5,r5,y5,st5,fr5⟩=>?_
   have I5':=I5.pinned (hfpX fr5) (T.obj _ _ st5)
   have A1:=hg' _ s5 σ3 H5 x u _ I5' r5 (step x H5 y5)
   rw[pr,pw,pA]at A1
   refine B3 A1 (fun _ s6 ⟨σ6,H6,I6,q6⟩=>?_) xe'
   have A2:=ht' _ s6 σ6 H6 _ I6 q6
   rw[pr,pw,pA]at A2
   refine B3 A2 (fun b s7 ⟨H7,I7,q7⟩=>?_) xe'
   have pinD:∀ {σ':St} {H':Hp} {s':AG},Inv X' ([(D,{ cls:=.type "list",data:=.seq its nD })]++pinsAt fp s5.heap) σ' H' s'->s'.heap.get? D=some { cls:=.type "list",data:=.seq its nD }/\H' D=none/\(∀ b∈fp,∀ o,s5.heap.get? b=some o->s'.heap.get? b=some o/\H' b=none):=fun {σ' H' s'} J=>by
    obtain⟨a1,a2,_⟩:=J.pin (D,_) (Ag _ (Di _ (AE.mpr rfl)))
    refine⟨a1,a2,fun b hb o e=>?_⟩
    obtain⟨b1,b2,_⟩:=J.pin (b,o) (Ag _ (Ag _ (zCt hb e)))
    exact⟨b1,b2⟩
   have frOf:∀ {σ':St} {H':Hp} {s':AG},Inv X' ([(D,{ cls:=.type "list",data:=.seq its nD })]++pinsAt fp s5.heap) σ' H' s'->∀ b∈fp,H' b=none:=fun {σ' H' s'} J b hb=>by
    obtain⟨o,e,_⟩:=T.obj _ _ st5 b hb
    exact ((pinD J).2.2 b hb o e).2
   have bare:∀ {σ':St} {H':Hp} {s':AG},Inv X' ([(D,{ cls:=.type "list",data:=.seq its nD })]++pinsAt fp s5.heap) σ' H' s'->Inv X' [] σ' H' s':=fun {σ' H' s'} J=>J.pins_of fun p hp=>nomatch hp
   cases b with
   | false =>
    obtain⟨m',hm,w'⟩:=hN ys σ6 H7 q7
    exact⟨m',hm,i+1,ys,σ6,H7,its,bare I7,T.keep _ _ _ st5 fun b hb o e=>((pinD I7).2.2 b hb o e).1,frOf I7,(pinD I7).2.1,⟨nD,(pinD I7).1⟩,hv,w'⟩
   | true =>
    have A3:=he' _ s7 σ6 H7 _ I7 q7
    rw[pr,pw,pA]at A3
    refine B3 A3 (fun v s8 ⟨x8,H8,I8,r8,q8⟩=>?_) xe'
    refine wpAny_list_append_plain (items:=its) ⟨nD,(pinD I8).1⟩ (fun h9 hl9 hs9=>?_) (by
     have:its.size=its.toList.length:=by simp
     rw[this,hsizes]; exact Dv hlt)
    obtain⟨m',hm,w'⟩:=hN (ys++[x8]) σ6 H8 q8
    have I9:Inv X' [] σ6 H8 { s8 with heap:=h9,toks:=s8.toks }:=(bare I8).turned (t':=s8.toks) (it:=D) (fun b o hb e=>(hs9.2 b hb).trans e) (pinD I8).2.1 (by rw[pL]; exact hDC) (.inr (by rw[p0,hD]; exact AF _)) (by rw[pcs]; exact hcellD) (fun p hp=>by rw[pn0]at hp; exact nomatch hp)
    refine⟨m',hm,i+1,ys++[x8],σ6,H8,its.push v,I9,T.keep _ _ _ st5 fun b hb o e=>(hs9.2 b fun z=>hDfp (z ▸ hb)).trans ((pinD I8).2.2 b hb o e).1,frOf I8,(pinD I8).2.1,hl9,?_,w'⟩
    rw[Array.toList_push]
    exact hv.append (.cons r8 .nil)
 rw[← hX']at key
 exact codeAny_compStart_list (key _ rfl) (T.self _ 0 _ _ _ (T.keep _ _ _ st2 fun b hb o e=>hk4 b o (hk3 b o e)) (key _ rfl))
theorem zMy(S:CompOk X N' ix scope)(hc:X.calm=true)(hi:PI X tg iter wi)
  (hg:∀ C cs s H ex,PG (cxC X N' scope C cs s H ex) tg g) (ht:∀ C cs s H ex,PTs (cxC X N' scope C cs s H ex) ifs tc) (he:∀ C cs s H ex,PE (cxC X N' scope C cs s H ex) elt te)
  (hs:∀ x,CQ iter X.env x=pure x:=by intro _; rfl):PE X (.ListComp elt [⟨tg,iter,ifs,0⟩] scope pos) (tComp wi ix g tc te):=by
 intro pins s σ H Q I h
 rw[eval_ListComp]
 refine zFS (use:=none) (QQ:=EP X pins σ Q) S hc hi hg ht he I h (fun D C o H' s' I' hns h1 h2 h3 q=>?_) hs
 obtain⟨m,hns⟩:=hns
 refine⟨m,hns,fun h' hs'=>⟨.ref D,H',?_,rfl,q⟩⟩
 obtain⟨a1,a2,a3,a4,_⟩:=I'.pin (C,o) (Ag _ (Ag _ (AE.mpr rfl)))
 exact I'.unpinned.turned (t':=s'.toks) (it:=C) (fun b u hb e=>(hs'.2 b hb).trans e) a2 a3 (.inr h1) h2 h3
theorem zMi(hN:X.N.Nodup)(hi':X.N[i]?=some x)(hx:Loc X.env.scope x)(S:CompOk X N' ix scope)(hc:X.calm=true)(hi:PI X tg iter wi)
  (hg:∀ C cs s H ex,PG (cxC X N' scope C cs s H ex) tg g) (ht:∀ C cs s H ex,PTs (cxC X N' scope C cs s H ex) ifs tc) (he:∀ C cs s H ex,PE (cxC X N' scope C cs s H ex) elt te)
  (hsw:Fh (.ListComp elt [⟨tg,iter,ifs,0⟩] scope pos) (some (.Name x pos')) spos.line X.env=pure true:=by rfl)
  (hf:X.fn x=true\/X.env.scope.names.lookup x=some .local:=by first | exact .inl rfl | exact .inr rfl | assumption)
  (hs:∀ x,CQ iter X.env x=pure x:=by intro _; rfl):PS X (.Assign [.Name x pos'] (.ListComp elt [⟨tg,iter,ifs,0⟩] scope pos) spos) (tAsg (tComp wi ix g tc te) (gName i)):=by
 intro pins s σ H D I h
 rw[exec_Assign_Name_used _ _ _ _ hsw]
 refine AA (Du (AA ?_))
 show AQ _ X.A (do let _ ← comprehension (.ListComp elt [⟨tg,iter,ifs,0⟩] scope pos) scope X.env _ (JB []) false (eval iter X.env) (some (assign (.Name x pos') X.env))) _ _ s
 refine AA (thn (zFS (use:=some (assign (.Name x pos') X.env)) (QQ:=fun _ s'=>SP X pins D .next s') S hc hi hg ht he I h (fun E C o H' s' I' hns h1 h2 h3 q=>?_) hs) fun _ s' q=>AJ (AJ q))
 obtain⟨m,hns⟩:=hns
 have P:=zHt (pos:=pos') hN hi' hx hf
 refine thn (P _ s' σ H' (.ref E) (.ref E) _ I' rfl q) fun _ s2 ⟨σ2,H2,I2,q2⟩=>?_
 obtain⟨a1,_⟩:=I'.pin (C,o) (Ag _ (Ag _ (AE.mpr rfl)))
 obtain⟨b1,b2,b3,b4,_⟩:=I2.pin (C,o) (Ag _ (Ag _ (AE.mpr rfl)))
 refine⟨m,?_,fun h' hs'=>⟨σ2,H2,I2.unpinned.turned (t':=s2.toks) (it:=C) (fun b u hb e=>(hs'.2 b hb).trans e) b2 b3 (.inr h1) h2 h3,q2⟩⟩
 obtain⟨oC,es,ep,hoC,r⟩:=hns
 have e:oC=o:=by
  have q:=hoC.symm.trans a1
  exact Ak q
 subst e
 exact⟨oC,es,ep,b1,r⟩
end
structure Drawer(prog:Am)(w:A0)(it l:Addr)(xs:Array AD)(St:Nat->Heap->Prop):Prop where
 keep:∀ k h h',St k h->(∀ o,h.get? it=some o->h'.get? it=some o)->(∀ o,h.get? l=some o->h'.get? l=some o)->St k h'
 live:∀ k h,St k h->∃ o,h.get? it=some o/\∀ v,o.data≠.cell v
 item:∀ (A:BJ) (k:Nat) (s:AG) (x:AD) (Q:AD->AG->Prop) (E:AD->AG->Prop),St k s.heap->xs[k]?=some x ->
  (∀ h',St (k+1) h'->Bd it s.heap h'->Q x { s with heap:=h' })->AQ (model prog w) A (Ar (.ref it)) Q E s
 fini:∀ (A:BJ) (k:Nat) (s:AG) (Q:AD->AG->Prop) (E:AD->AG->Prop),A.handled=none->St k s.heap->xs[k]?=none ->
  (∀ h' e,GD it s.heap h'->(∃ o,h'.get? e=some o/\o.cls=.type "StopIteration")->E (.ref e) { s with heap:=h' })->AQ (model prog w) A (Ar (.ref it)) Q E s
section
variable {prog:Am}{w:A0}{A:BJ}{E:AD->AG->Prop}{s:AG}
theorem zG6(it l:Addr)(xs:Array AD)(hne:l≠it):Drawer prog w it l xs (fun k h=>h.IsListIter it l k/\h.IsList l xs) where
 keep:=fun k h h' st k1 k2=>⟨st.1.at k1,st.2.at k2⟩
 live:=fun k h st=>by obtain⟨⟨o,e,_,d⟩,_⟩:=st; exact⟨o,e,fun v z=>by rw[d]at z; cases z⟩
 item:=fun A k s x Q E st hx hQ=>wpAny_nextOf_list_item st.1 st.2 hx fun h' st' sb=>hQ h' ⟨st',st.2.extBut sb.extBut hne⟩ sb
 fini:=fun A k s Q E hh st hx hE=>wpAny_nextOf_list_end hh st.1 st.2 hx hE
theorem zIm(hit:s.heap.IsTupleIter it t i)(ht:s.heap.IsTuple t items)(hx:items[i]?=some x)
  (hQ:∀ h',h'.IsTupleIter it t (i+1)->Bd it s.heap h'->Q x { s with heap:=h' }):AQ (model prog w) A (Ar (.ref it)) Q E s:=by
 obtain⟨oi,hoi,hci,hdi⟩:=id hit; obtain⟨ot,hot,_,nt,hdt⟩:=ht
 unfold Ar; refine AA (Aq (name:=Bi "__next__") hit.typeIs Cz (A6 Cz hit.typeIs Gr ?_ (Gg _)))
 show AQ _ _ (field (.ref it) 0 >>= _) _ _ s; refine AA (Ap hoi hdi (x:=.ref t) rfl ?_)
 show AQ _ _ (if (Bl t == CY)=true then _ else _) _ _ s; rw[if_neg (show ¬ ((Bl t == CY)=true) from AO)]
 show AQ _ _ (field (.ref it) 1 >>= _) _ _ s; refine AA (Ap hoi hdi (x:=.int i 0) rfl ?_)
 show AQ _ _ (seqItems? (.ref t) >>= _) _ _ s; refine AA (CG hot hdt ?_); simp only[Bn,hx]
 refine AA (KH hoi hdi (by simp) (AJ ⟨x,rfl,AJ (hQ _ ?_ (GP ..))⟩))
 exact⟨_,Cg _ hoi (Obj.isFreed_of_fields (Hs hdi _)),(Obj.cls_mapFields ..).trans hci,by rw[Hs hdi]; simp[Cu]⟩
theorem zFh(hh:A.handled=none)(hit:s.heap.IsTupleIter it t i)(ht:s.heap.IsTuple t items)(hx:items[i]?=none)
  (hE:∀ h' e,GD it s.heap h'->(∃ o,h'.get? e=some o/\o.cls=.type "StopIteration")->E (.ref e) { s with heap:=h' }):AQ (model prog w) A (Ar (.ref it)) Q E s:=by
 obtain⟨oi,hoi,hci,hdi⟩:=id hit; obtain⟨ot,hot,_,nt,hdt⟩:=ht
 unfold Ar; refine AA (Aq (name:=Bi "__next__") hit.typeIs Cz (A6 Cz hit.typeIs Gr ?_ (Gg _)))
 show AQ _ _ (field (.ref it) 0 >>= _) _ _ s; refine AA (Ap hoi hdi (x:=.ref t) rfl ?_)
 show AQ _ _ (if (Bl t == CY)=true then _ else _) _ _ s; rw[if_neg (show ¬ ((Bl t == CY)=true) from AO)]
 show AQ _ _ (field (.ref it) 1 >>= _) _ _ s; refine AA (Ap hoi hdi (x:=.int i 0) rfl ?_)
 show AQ _ _ (seqItems? (.ref t) >>= _) _ _ s; refine AA (CG hot hdt ?_); simp only[Bn,hx]
 refine AA (C5 (AA (KH hoi hdi (by simp) ?_))); show AQ _ _ (KI (.type "StopIteration") [] >>= _) _ _ _
 refine AA ?_; simp only[KI,KJ]; refine AA (Au ?_ (by size_fits)); refine AA (m:=FW _ _) (Bz (a:=CY) (by first | rfl | (simp only[FW]; rfl)) ?_)
 refine Au ?_ (by size_fits); simp only[raiseNew]; refine AA (Kw ?_); (first | rw[show A.in1.handled=none from hh] | rw[hh]); refine AA (AJ (wpAny_throw ?_))
 exact hE _ _ (((GP ..).extBut.push _).push _) ⟨_,AI _ rfl,rfl⟩
theorem zHw(it l:Addr)(xs:Array AD)(hne:l≠it):Drawer prog w it l xs (fun k h=>h.IsTupleIter it l k/\h.IsTuple l xs) where
 keep:=fun k h h' st k1 k2=>⟨let ⟨o,e,r⟩:=st.1; ⟨o,k1 o e,r⟩,let ⟨o,e,r⟩:=st.2; ⟨o,k2 o e,r⟩⟩
 live:=fun k h st=>by obtain⟨⟨o,e,_,d⟩,_⟩:=st; exact⟨o,e,fun v z=>by rw[d]at z; cases z⟩
 item:=fun A k s x Q E st hx hQ=>zIm st.1 st.2 hx fun h' st' sb=>hQ h' ⟨st',st.2.extBut sb.extBut hne⟩ sb
 fini:=fun A k s Q E hh st hx hE=>zFh hh st.1 st.2 hx hE
structure ZAp(z TI TO i1 i2 l1 l2:Addr):Prop where
 a:ZipApart z TI TO i1 i2 l1 l2
 l1TI:l1≠TI
 l2TI:l2≠TI
structure ZSt(z TI TO i1 i2:Addr)(S1 S2:Nat->Heap->Prop)(k:Nat)(f0:AD)(h:Heap):Prop where
 z:GQ h z TI TO f0
 ti:Dq h TI (.ref i1) (.ref i2)
 to:∃ a b,Dq h TO a b
 s1:S1 k h
 s2:S2 k h
variable {z TI TO i1 i2 l1 l2:Addr}{S1 S2:Nat->Heap->Prop}{xs ys:Array AD}{k:Nat}
theorem zEF{x y:AD}{Q:AD->AG->Prop}(D:ZAp z TI TO i1 i2 l1 l2)(D1:Drawer prog w i1 l1 xs S1)(D2:Drawer prog w i2 l2 ys S2)(st:ZSt z TI TO i1 i2 S1 S2 k .none s.heap)(hx:xs[k]?=some x)(hy:ys[k]?=some y)
  (hQ:∀ h',ZSt z TI TO i1 i2 S1 S2 (k+1) (Cu s.heap.objs.size) h'->Dq h' s.heap.objs.size x y ->
   (∀ c o,c≠z->c≠TO->c≠i1->c≠i2->s.heap.get? c=some o->h'.get? c=some o)->Q (.ref s.heap.objs.size) { s with heap:=h' }) :
  AQ (model prog w) A (Builtin.«zip.__next__» ⟨[.ref z],[]⟩) (fun fin s'=>∃ v,fin=.done (.ret v)/\Q v s') E s:=by
 obtain⟨hz,hTI,⟨a,b,hTO⟩,st1,st2⟩:=st
 obtain⟨⟨TIz,TOz,i1z,i2z,TITO,TIi1,TIi2,TOi1,TOi2,i12,l1z,l1TO,l1i1,l1i2,l2z,l2TO,l2i1,l2i2⟩,_,_⟩:=D
 show AQ _ _ (field (.ref z) 2 >>= _) _ _ _; refine AA (Ap hz rfl (x:=.bool false) rfl ?_)
 show AQ _ _ (field (.ref z) 3 >>= _) _ _ _; refine AA (Ap hz rfl (x:=.ref TI) rfl (AA (CG hTI rfl ?_)))
 show AQ _ _ (A8 (.ref z) >>= _) _ _ _; refine AA ?_; unfold A8
 refine AA (Ap hz rfl (x:=.none) rfl (AJ ?_)); simp only[if_true]
 refine AA (C5 (AA (Ap hz rfl (x:=.ref TO) rfl (AA (Ay hz (by simp) fun h1 z1 b1=>?_)))))
 have z1':GQ h1 z TI TO .ellipsis:=z1
 refine AA ?_; simp only[EU,GH,GG,GV]
 refine AA (AA (Fy ?_)); show AQ _ _ (Ar (.ref i1) >>= _) _ _ _
 refine AA (D1.item _ k _ x _ _ (D1.keep _ _ _ st1 (fun o e=>b1.extBut _ _ i1z e) fun o e=>b1.extBut _ _ l1z e) hx fun h2 t1 b2=>AJ ?_)
 have o2:Dq h2 TO a b:=b2.extBut _ _ TOi1 (b1.extBut _ _ TOz hTO)
 refine AA (CG o2 rfl (AA (FX o2 fun h3 o3 b3=>?_)))
 have o3':Dq h3 TO x b:=o3
 refine AA (FY (AJ (AA (AA (Fy ?_))))); show AQ _ _ (Ar (.ref i2) >>= _) _ _ _
 have s2':S2 k h3:=D2.keep _ _ _ st2 (fun o e=>b3.extBut _ _ TOi2.symm (b2.extBut _ _ i12.symm (b1.extBut _ _ i2z e))) fun o e=>b3.extBut _ _ l2TO (b2.extBut _ _ l2i1 (b1.extBut _ _ l2z e))
 refine AA (D2.item _ k _ y _ _ s2' hy fun h4 t2 b4=>AJ ?_)
 have o4:Dq h4 TO x b:=b4.extBut _ _ TOi2 o3'
 refine AA (CG o4 rfl (AA (FX o4 fun h5 o5 b5=>?_)))
 have o5':Dq h5 TO x y:=o5
 refine AA (FY (AJ (AJ (AA (CG o5' rfl (AA (KM ?_)))))))
 have hsz:h5.objs.size=s.heap.objs.size:=by rw[b5.1,b4.1,b3.1,b2.1,b1.1]
 have z5:GQ h5 z TI TO .ellipsis:=b5.extBut _ _ TOz.symm (b4.extBut _ _ i2z.symm (b3.extBut _ _ TOz.symm (b2.extBut _ _ i1z.symm z1')))
 have k5:∀ c o,c≠z->c≠TO->c≠i1->c≠i2->s.heap.get? c=some o->h5.get? c=some o:=fun c o c1 c2 c3 c4 e=>b5.extBut _ _ c2 (b4.extBut _ _ c4 (b3.extBut _ _ c2 (b2.extBut _ _ c3 (b1.extBut _ _ c1 e))))
 have t1':S1 (k+1) h5:=D1.keep _ _ _ t1 (fun o e=>b5.extBut _ _ TOi1.symm (b4.extBut _ _ i12 (b3.extBut _ _ TOi1.symm e))) fun o e=>b5.extBut _ _ l1TO (b4.extBut _ _ l1i2 (b3.extBut _ _ l1TO e))
 have t2':S2 (k+1) h5:=D2.keep _ _ _ t2 (fun o e=>b5.extBut _ _ TOi2.symm e) fun o e=>b5.extBut _ _ l2TO e
 have hzlt:z < h5.objs.size:=AK z5
 show AQ _ _ (Bs (.ref z) (.ref h5.objs.size) >>= _) _ _ _; refine AA ?_; unfold Bs
 have z6:GQ (h5.push { cls:=.type "tuple",data:=.seq #[x,y] }) z TI TO .ellipsis:=AC _ z5
 refine AA (Ay z6 (by simp) fun h7 z7 b7=>?_)
 have z7':GQ h7 z TI TO (Cu h5.objs.size):=z7
 refine Ay z7' (by simp) fun h8 z8 b8=>?_
 have z8':GQ h8 z TI TO (Cu h5.objs.size):=z8
 have up:∀ c o,c≠z->h5.get? c=some o->h8.get? c=some o:=fun c o c1 e=>b8.extBut _ _ c1 (b7.extBut _ _ c1 (AC _ e))
 have p8:Dq h8 h5.objs.size x y:=b8.extBut _ _ (B4 hzlt) (b7.extBut _ _ (B4 hzlt) (AI _ rfl))
 rw[hsz]at z8' p8
 refine AJ ⟨_,rfl,?_⟩
 show Q (.ref h5.objs.size) _
 rw[hsz]
 have uu:∀ c o,c≠z->c≠TO->c≠i1->c≠i2->s.heap.get? c=some o->h8.get? c=some o:=fun c o c1 c2 c3 c4 e=>up c o c1 (k5 c o c1 c2 c3 c4 e)
 exact hQ h8 ⟨z8',uu _ _ TIz TITO TIi1 TIi2 hTI,⟨x,y,up _ _ TOz o5'⟩,D1.keep _ _ _ t1' (fun o e=>up _ o i1z e) (fun o e=>up _ o l1z e),D2.keep _ _ _ t2' (fun o e=>up _ o i2z e) (fun o e=>up _ o l2z e)⟩ p8 uu
theorem zFN(hh:A.handled=none)(D:ZAp z TI TO i1 i2 l1 l2)(D1:Drawer prog w i1 l1 xs S1)(D2:Drawer prog w i2 l2 ys S2)(st:ZSt z TI TO i1 i2 S1 S2 k .none s.heap)(hend:xs[k]?=none\/ys[k]?=none)
  (hE:∀ h' e,(∀ c o,c≠z->c≠TO->c≠i1->c≠i2->s.heap.get? c=some o->h'.get? c=some o)->(∃ o,h'.get? e=some o/\o.cls=.type "StopIteration")->E (.ref e) { s with heap:=h' }) :
  AQ (model prog w) A (Builtin.«zip.__next__» ⟨[.ref z],[]⟩) Q E s:=by
 obtain⟨hz,hTI,⟨a,b,hTO⟩,st1,st2⟩:=st
 obtain⟨⟨TIz,TOz,i1z,i2z,TITO,TIi1,TIi2,TOi1,TOi2,i12,l1z,l1TO,l1i1,l1i2,l2z,l2TO,l2i1,l2i2⟩,_,_⟩:=D
 show AQ _ _ (field (.ref z) 2 >>= _) _ _ _; refine AA (Ap hz rfl (x:=.bool false) rfl ?_)
 show AQ _ _ (field (.ref z) 3 >>= _) _ _ _; refine AA (Ap hz rfl (x:=.ref TI) rfl (AA (CG hTI rfl ?_)))
 show AQ _ _ (A8 (.ref z) >>= _) _ _ _; refine AA ?_; unfold A8
 refine AA (Ap hz rfl (x:=.none) rfl (AJ ?_)); simp only[if_true]
 refine AA (C5 (AA (Ap hz rfl (x:=.ref TO) rfl (AA (Ay hz (by simp) fun h1 z1 b1=>?_)))))
 have z1':GQ h1 z TI TO .ellipsis:=z1
 refine AA ?_; simp only[EU,GH,GG,GV]
 refine AA (AA (Fy ?_)); show AQ _ _ (Ar (.ref i1) >>= _) _ _ _
 have s1':S1 k h1:=D1.keep _ _ _ st1 (fun o e=>b1.extBut _ _ i1z e) fun o e=>b1.extBut _ _ l1z e
 cases hx:xs[k]? with
 | none =>
  refine AA (D1.fini _ k _ _ _ hh s1' hx fun h2 e b2 he=>?_)
  obtain⟨oe,hoe,hce⟩:=he
  have z2:GQ h2 z TI TO .ellipsis:=b2 _ _ i1z.symm z1'
  have ez:e≠z:=fun q=>by subst q; rw[z2]at hoe; cases hoe; simp at hce
  exact Ay z2 (by simp) fun h3 _ b3=>hE h3 e (fun c o c1 _ c3 _ q=>b3.extBut _ _ c1 (b2 _ _ c3 (b1.extBut _ _ c1 q))) ⟨oe,b3.extBut _ _ ez hoe,hce⟩
 | some x =>
  have hy:ys[k]?=none:=by rcases hend with q | q; (rw[hx]at q; cases q); exact q
  refine AA (D1.item _ k _ x _ _ s1' hx fun h2 t1 b2=>AJ ?_)
  have o2:Dq h2 TO a b:=b2.extBut _ _ TOi1 (b1.extBut _ _ TOz hTO)
  refine AA (CG o2 rfl (AA (FX o2 fun h3 o3 b3=>?_)))
  refine AA (FY (AJ (AA (AA (Fy ?_))))); show AQ _ _ (Ar (.ref i2) >>= _) _ _ _
  have s2':S2 k h3:=D2.keep _ _ _ st2 (fun o e=>b3.extBut _ _ TOi2.symm (b2.extBut _ _ i12.symm (b1.extBut _ _ i2z e))) fun o e=>b3.extBut _ _ l2TO (b2.extBut _ _ l2i1 (b1.extBut _ _ l2z e))
  refine AA (D2.fini _ k _ _ _ hh s2' hy fun h4 e b4 he=>?_)
  obtain⟨oe,hoe,hce⟩:=he
  have z4:GQ h4 z TI TO .ellipsis:=b4 _ _ i2z.symm (b3.extBut _ _ TOz.symm (b2.extBut _ _ i1z.symm z1'))
  have ez:e≠z:=fun q=>by subst q; rw[z4]at hoe; cases hoe; simp at hce
  exact Ay z4 (by simp) fun h5 _ b5=>hE h5 e (fun c o c1 c2 c3 c4 q=>b5.extBut _ _ c1 (b4 _ _ c4 (b3.extBut _ _ c2 (b2.extBut _ _ c3 (b1.extBut _ _ c1 q))))) ⟨oe,b5.extBut _ _ ez hoe,hce⟩
end
def Sq (b:Bool) (K:AM) (H:Hp) (a:Addr) (xs:List V):Prop:=if b then SqT K H a xs else SqL K H a xs
def SIt (b:Bool) (it l:Addr) (k:Nat) (h:Heap):Prop:=if b then h.IsTupleIter it l k else h.IsListIter it l k
def SOb (b:Bool) (l:Addr) (its:Array AD) (h:Heap):Prop:=if b then h.IsTuple l its else h.IsList l its
theorem SIt.keep(st:SIt b it l k h)(e:∀ o,h.get? it=some o->h'.get? it=some o):SIt b it l k h':=by
 cases b with
 | false=>exact (show h.IsListIter it l k from st).at e
 | true=>obtain⟨o,q,r⟩:=(show h.IsTupleIter it l k from st); exact⟨o,e o q,r⟩
theorem SIt.live(st:SIt b it l k h):∃ o,h.get? it=some o/\∀ v,o.data≠.cell v:=by
 cases b with
 | false=>obtain⟨o,q,_,d⟩:=(show h.IsListIter it l k from st); exact⟨o,q,fun v z=>by rw[d]at z; cases z⟩
 | true=>obtain⟨o,q,_,d⟩:=(show h.IsTupleIter it l k from st); exact⟨o,q,fun v z=>by rw[d]at z; cases z⟩
theorem zA3(b:Bool)(it l:Addr)(xs:Array AD)(hne:l≠it):Drawer prog w it l xs (fun k h=>SIt b it l k h/\SOb b l xs h):=by
 cases b with
 | false=>exact zG6 it l xs hne
 | true=>exact zHw it l xs hne
section
variable {X:Cx}{pins:List (Addr×Obj)}{σ:St}{H:Hp}{s:AG}
theorem Inv.sq(I:Inv X pins σ H s)(h:Sq b X.K H a xs):∃ its:List AD,Vals xs its/\SOb b a its.toArray s.heap/\xs.length<=AB:=by
 cases b with
 | false=>obtain⟨its,r,p,z⟩:=I.list h; exact⟨its,r,p.isList,z⟩
 | true=>obtain⟨its,r,p,z⟩:=I.tuple h; exact⟨its,r,p,z⟩
theorem Inv.sq_inj(I:Inv X pins σ H s)(h:Sq b X.K H a xs)(h':Sq b X.K H a ys):xs=ys:=by
 cases b with
 | false=>exact I.list_inj h h'
 | true=>exact I.tuple_inj h h'
end
def Itz (b:Bool) (K:AM) (a1 a2:Addr):It :=
 ⟨fun i H=>∃ xs ys x y,Sq b K H a1 xs/\Sq b K H a2 ys/\xs[i]?=some x/\ys[i]?=some y,
  fun i H v H'=>∃ T x y,v=.ref T/\H T=none/\H'=upd H T (.tup [x,y])/\(∀ xs,Sq b K H a1 xs->xs[i]?=some x)/\∀ ys,Sq b K H a2 ys->ys[i]?=some y,
  fun i H=>∃ xs ys,Sq b K H a1 xs/\Sq b K H a2 ys/\(xs.length<=i\/ys.length<=i)⟩
structure ZTn(b:Bool)(z TI TO i1 i2 a1 a2:Addr)(k:Nat)(h:Heap):Prop where
 z:GQ h z TI TO .none
 ti:Dq h TI (.ref i1) (.ref i2)
 to:∃ a b,Dq h TO a b
 s1:SIt b i1 a1 k h
 s2:SIt b i2 a2 k h
theorem zLp{P:Am}{w:A0}{K:AM}{elts:List Expr}{x1:Nat}{tp:Pos}(b:Bool){z TI TO i1 i2 a1 a2:Addr}(D:ZAp z TI TO i1 i2 a1 a2) :
  Turn P w K (.Tuple elts x1 tp) (Itz b K a1 a2) [z,TI,TO,i1,i2] z (ZTn b z TI TO i1 i2 a1 a2) where
 mem:=by simp
 obj:=fun i h st c hc=>by
  simp only[AH,AS,or_false]at hc
  rcases hc with e | e | e | e | e
  ·exact⟨_,e ▸ st.z,fun v z=>by cases z⟩
  ·exact⟨_,e ▸ st.ti,fun v z=>by cases z⟩
  ·obtain⟨a,b,q⟩:=st.to; exact⟨_,e ▸ q,fun v z=>by cases z⟩
  ·obtain⟨o,q,d⟩:=st.s1.live; exact⟨o,e ▸ q,d⟩
  ·obtain⟨o,q,d⟩:=st.s2.live; exact⟨o,e ▸ q,d⟩
 keep:=fun i h h' st k=>⟨k z (by simp) _ st.z,k TI (by simp) _ st.ti,(let ⟨a,b,q⟩:=st.to; ⟨a,b,k TO (by simp) _ q⟩),st.s1.keep fun o e=>k i1 (by simp) o e,st.s2.keep fun o e=>k i2 (by simp) o e⟩
 item:=by
  intro X hP hw hK hc i pins s σ H E I hf st hg
  subst hP hw hK
  obtain⟨xs,ys,x,y,h1,h2,hx,hy⟩:=hg
  obtain⟨its1,v1,o1,z1⟩:=I.sq h1
  obtain⟨its2,v2,o2,z2⟩:=I.sq h2
  obtain⟨u1,e1,r1⟩:=v1.get hx
  obtain⟨u2,e2,r2⟩:=v2.get hy
  have hT:s.TypeIs (.ref z) "zip":=⟨_,st.z,rfl⟩
  have nH:∀ c∈[z,TI,TO,i1,i2],H c=none:=fun c hc=>(hf c hc).1
  unfold D5
  refine AA (CC (Aq (name:=Bi "__next__") hT CK (A6 CK hT Em
   (zEF D (zA3 b i1 a1 its1.toArray D.a.l1i1) (zA3 b i2 a2 its2.toArray D.a.l2i2) ⟨st.z,st.ti,st.to,⟨st.s1,o1⟩,⟨st.s2,o2⟩⟩ (by simpa using e1) (by simpa using e2) fun h' st' hp hk=>AJ ?_) (EV _))))
  refine⟨_,rfl,?_⟩
  have fT:H s.heap.objs.size=none:=I.hok.fresh (AF _)
  have hk':∀ c o,c∉[z,TO,i1,i2]->s.heap.get? c=some o->h'.get? c=some o:=fun c o hc e=>by
   simp only[AH,AS,or_false,not_or]at hc
   exact hk c o hc.1 hc.2.1 hc.2.2.1 hc.2.2.2 e
  have sub:∀ c∈[z,TO,i1,i2],c∈[z,TI,TO,i1,i2]:=fun c hc=>by
   simp only[AH,AS,or_false]at hc ⊢
   rcases hc with e | e | e | e <;> simp[e]
  have trk:∀ c u,H c=some u->c∉[z,TO,i1,i2]:=fun c u e hc=>by rw[nH c (sub c hc)]at e; cases e
  have nT:∀ c o,s.heap.get? c=some o->c≠s.heap.objs.size:=fun c o e=>Ae (AK e)
  have hok1:HOk X.prog X.w H h':=fun c u e=>(I.hok c u e).stay (fun d v hd q=>hk' d v (by
   rcases hd with rfl | hd
   ·exact trk d u e
   ·exact trk d _ hd) q) (fun _ q=>q) fun _ _ q=>q
  have I1:Inv X pins σ (upd H s.heap.objs.size (.tup [x,y])) { s with heap:=h',toks:=s.toks }:=by
   refine I.step (g':=s.gens) (d':=s.drawn) (t':=s.toks) (ch:=[z,TO,i1,i2]) (fun c hc=>?_) (fun c o _ _ hc e _=>hk' c o hc e) (fun c o _ _ hc e _=>⟨o.slots,hk' c o hc e⟩)
    (fun c o _ e n=>by rw[zAN (nT c o e)]; exact n) (fun c o hc e=>⟨o,hk' c o hc e⟩) (fun c xs e=>by rw[zAN (zAW e fT)]; exact e) (fun c o u e=>by rw[zAN (zAW e fT)]; exact e)
    (fun c ps e=>⟨#[],by rw[zAN (zAW e fT),e]; simp⟩) (fun m hm=>?_) (hok1.adopt fT ⟨by show 2<=AB; decide,[u1,u2],.cons r1 (.cons r2 .nil),_,hp,rfl,⟨0,rfl⟩,rfl⟩) I.bare
   ·obtain⟨_,f1,f2,f3,f4,f5⟩:=hf c (sub c hc); exact⟨f3,f1,f4,f5⟩
   ·obtain⟨o,es,ep,ho,r⟩:=hm
    exact⟨o,es,ep,hk' _ o (fun hc=>(hf _ (sub _ hc)).2.1 rfl) ho,r⟩
  refine HL st'.z fun h9 hz2 hs2=>?_
  obtain⟨_,f1,f2,f3,f4,f5⟩:=hf z (by simp)
  have nz:upd H s.heap.objs.size (.tup [x,y]) z=none:=by rw[zAN (nT z _ st.z)]; exact nH z (by simp)
  have I2:Inv X pins σ (upd H s.heap.objs.size (.tup [x,y])) { s with heap:=h9,toks:=s.toks }:=by
   have q:=I1.turned (h':=h9) (t':=s.toks) (it:=z) (fun c o hc e=>(hs2.2 c hc).trans e) nz f1 f3 f4 f5
   exact q
  refine⟨.ref s.heap.objs.size,_,I2,rfl,⟨s.heap.objs.size,x,y,rfl,fT,rfl,fun xs' q=>by rw[I.sq_inj q h1]; exact hx,fun ys' q=>by rw[I.sq_inj q h2]; exact hy⟩,?_,fun c hc=>?_⟩
  ·have up:∀ c o,c≠z->h'.get? c=some o->h9.get? c=some o:=fun c o hc e=>(hs2.2 c hc).trans e
   exact⟨hz2,up _ _ D.a.TIz st'.ti,(let ⟨a,b,q⟩:=st'.to; ⟨a,b,up _ _ D.a.TOz q⟩),st'.s1.1.keep fun o e=>up _ o D.a.i1z e,st'.s2.1.keep fun o e=>up _ o D.a.i2z e⟩
  ·obtain⟨o,e,_⟩:∃ o,s.heap.get? c=some o/\True:=by
    simp only[AH,AS,or_false]at hc
    rcases hc with e | e | e | e | e
    ·exact⟨_,e ▸ st.z,trivial⟩
    ·exact⟨_,e ▸ st.ti,trivial⟩
    ·obtain⟨a,b,q⟩:=st.to; exact⟨_,e ▸ q,trivial⟩
    ·obtain⟨o,q,d⟩:=st.s1.live; exact⟨o,e ▸ q,trivial⟩
    ·obtain⟨o,q,d⟩:=st.s2.live; exact⟨o,e ▸ q,trivial⟩
   rw[zAN (nT c o e)]; exact nH c hc
 done:=by
  intro X hP hw hK hc i pins s σ H E I hf st hg
  subst hP hw hK
  obtain⟨xs,ys,h1,h2,hl⟩:=hg
  obtain⟨its1,v1,o1,z1⟩:=I.sq h1
  obtain⟨its2,v2,o2,z2⟩:=I.sq h2
  have l1:=v1.length
  have l2:=v2.length
  have hT:s.TypeIs (.ref z) "zip":=⟨_,st.z,rfl⟩
  unfold D5
  refine AA (CC (Aq (name:=Bi "__next__") hT CK (A6 CK hT Em
   (zFN (I.ok.hd hc) D (zA3 b i1 a1 its1.toArray D.a.l1i1) (zA3 b i2 a2 its2.toArray D.a.l2i2) ⟨st.z,st.ti,st.to,⟨st.s1,o1⟩,⟨st.s2,o2⟩⟩
    (hl.imp (fun q=>by simp; lia) fun q=>by simp; lia) fun h' e hk he=>?_) (EV _))))
  obtain⟨o,ho,hcl⟩:=he
  refine AA (Cb (T:="StopIteration") (b:=true) ⟨o,ho,hcl⟩ FZ (AJ ⟨rfl,?_⟩))
  have hk':∀ c o,c∉[z,TO,i1,i2]->s.heap.get? c=some o->h'.get? c=some o:=fun c o hc e=>by
   simp only[AH,AS,or_false,not_or]at hc
   exact hk c o hc.1 hc.2.1 hc.2.2.1 hc.2.2.2 e
  have sub:∀ c∈[z,TO,i1,i2],c∈[z,TI,TO,i1,i2]:=fun c hc=>by
   simp only[AH,AS,or_false]at hc ⊢
   rcases hc with e | e | e | e <;> simp[e]
  have trk:∀ c u,H c=some u->c∉[z,TO,i1,i2]:=fun c u e hc=>by rw[(hf c (sub c hc)).1]at e; cases e
  refine I.step (g':=s.gens) (d':=s.drawn) (t':=s.toks) (ch:=[z,TO,i1,i2]) (fun c hc=>?_) (fun c o _ _ hc e _=>hk' c o hc e) (fun c o _ _ hc e _=>⟨o.slots,hk' c o hc e⟩)
   (fun c o _ e n=>n) (fun c o hc e=>⟨o,hk' c o hc e⟩) (fun c xs e=>e) (fun c o u e=>e) (fun c ps e=>⟨#[],by rw[e]; simp⟩) (fun m hm=>?_) (fun c u e=>(I.hok c u e).stay (fun d v hd q=>hk' d v (by
    rcases hd with rfl | hd
    ·exact trk d u e
    ·exact trk d _ hd) q) (fun _ q=>q) fun _ _ q=>q) I.bare
  ·obtain⟨_,f1,f2,f3,f4,f5⟩:=hf c (sub c hc); exact⟨f3,f1,f4,f5⟩
  ·obtain⟨o,es,ep,ho,r⟩:=hm
   exact⟨o,es,ep,hk' _ o (fun hc=>(hf _ (sub _ hc)).2.1 rfl) ho,r⟩
 self:=fun _ _ _ _ _ st h=>E3 st.z h
section
variable {prog:Am}{w:A0}{A:BJ}{E:AD->AG->Prop}{s:AG}
abbrev zT1 (h:Heap) (l1:Addr):Heap:=h.push { cls:=.type "tuple_iterator",data:=.fields #[.ref l1,.int 0 0] }
abbrev zT2 (h:Heap) (l1 l2:Addr):Heap:=(zT1 h l1).push { cls:=.type "tuple_iterator",data:=.fields #[.ref l2,.int 0 0] }
abbrev zT3 (h:Heap) (l1 l2:Addr):Heap:=(zT2 h l1 l2).push { cls:=.type "tuple",data:=.seq #[.ref h.objs.size,.ref (zT1 h l1).objs.size] }
abbrev zT4 (h:Heap) (l1 l2:Addr):Heap:=(zT3 h l1 l2).push { cls:=.type "tuple",data:=.seq #[.none,.none] }
abbrev zT5 (h:Heap) (l1 l2:Addr):Heap:=(zT4 h l1 l2).push { cls:=.type "zip",data:=.fields #[.none,.bool false,.bool false,.ref (zT2 h l1 l2).objs.size,.ref (zT3 h l1 l2).objs.size] }
theorem zH5(l1 l2:Addr)(xs ys:Array AD) :
  Fc (Builtin.«zip.__new__» ⟨[.type "zip",.ref l1,.ref l2],[]⟩) (fun _ R s=>s.heap.IsTuple l1 xs/\s.heap.IsTuple l2 ys/\R (.ok (.ret (.ref (zT4 s.heap l1 l2).objs.size))) { s with heap:=zT5 s.heap l1 l2 }) :=
 .of_wp fun prog w A R s h=>by
  obtain⟨hp,g,d,tk,os⟩:=s; obtain⟨hl1,hl2,h⟩:=h
  have sub0:=sub_zip
  have T1:Fj (Eu ⟨hp,g,d,tk,os⟩) l1 xs:=hl1
  have T2:Fj (Eu ⟨hp.push { cls:=.type "tuple_iterator",data:=.fields #[.ref l1,.int 0 0] },g,d,tk,os⟩) l2 ys:=Gh hl2 _
  wp_walk using Bx T1,Bx T2
  exact⟨_,rfl,h⟩
theorem zKG(hl1:s.heap.IsTuple l1 xs)(hl2:s.heap.IsTuple l2 ys)
  (h:∀ h',ZTn true (s.heap.objs.size+4) (s.heap.objs.size+2) (s.heap.objs.size+3) s.heap.objs.size (s.heap.objs.size+1) l1 l2 0 h'->(∀ c o,s.heap.get? c=some o->h'.get? c=some o)->Q (.ref (s.heap.objs.size+4)) { s with heap:=h' }) :
  AQ (model prog w) A (call (.type "zip") [.ref l1,.ref l2]) Q E s:=by
 refine EH KN ∅ (Il _ _) (JC _ _) (fun obj=>Ht obj _ _) JD (zH5 l1 l2 xs ys) ⟨hl1,hl2,?_⟩
 have z1:(zT1 s.heap l1).objs.size=s.heap.objs.size+1:=A5 ..
 have z2:(zT2 s.heap l1 l2).objs.size=s.heap.objs.size+2:=by rw[A5,z1]
 have z3:(zT3 s.heap l1 l2).objs.size=s.heap.objs.size+3:=by rw[A5,z2]
 have z4:(zT4 s.heap l1 l2).objs.size=s.heap.objs.size+4:=by rw[A5,z3]
 have up:∀ c o,(zT4 s.heap l1 l2).get? c=some o->(zT5 s.heap l1 l2).get? c=some o:=fun c o e=>AC _ e
 have g5:(zT5 s.heap l1 l2).get? (zT4 s.heap l1 l2).objs.size=some _:=AI _ rfl
 have g4:(zT5 s.heap l1 l2).get? (zT3 s.heap l1 l2).objs.size=some _:=up _ _ (AI _ rfl)
 have g3:(zT5 s.heap l1 l2).get? (zT2 s.heap l1 l2).objs.size=some _:=up _ _ (AC _ (AI _ rfl))
 have g2:(zT5 s.heap l1 l2).get? (zT1 s.heap l1).objs.size=some _:=up _ _ (AC _ (AC _ (AI _ rfl)))
 have g1:(zT5 s.heap l1 l2).get? s.heap.objs.size=some _:=up _ _ (AC _ (AC _ (AC _ (AI _ rfl))))
 show _/\_
 rw[z2,z3,z4]at g5
 rw[z1,z2]at g3
 rw[z3]at g4
 rw[z1]at g2
 rw[z4]
 exact⟨⟨_,g5,rfl⟩,h _ ⟨g5,g3,⟨_,_,g4⟩,⟨_,g1,rfl,rfl⟩,⟨_,g2,rfl,rfl⟩⟩ fun c o x=>up _ _ (AC _ (AC _ (AC _ (AC _ x))))⟩
end
open AutoSeq1 (wpAny_loadPart')
def rngV (lo:Int) (n:Nat):List V:=(AV n).map fun (i:Nat)=>V.int (lo+(i:Int))
theorem zEA(lo:Int)(n:Nat):(rngV lo n).length=n:=by simp[rngV]
theorem zGw{lo:Int}{n:Nat}{acc:Array AD}(h:De (fun i v=>∃ t,v=.int (lo+i * 1) t) acc n):Vals (rngV lo n) acc.toList:=by
 obtain⟨hn,hi⟩:=h
 have key:∀ (xs:List V) (us:List AD),xs.length=us.length->(∀ (i:Nat) (x:V) (u:AD),xs[i]?=some x->us[i]?=some u->RelV x u)->Vals xs us:=by
  intro xs
  induction xs with
  | nil=>intro us hl _; cases us with
   | nil=>exact .nil
   | cons _ _=>cases hl
  | cons x xs ih=>intro us hl hr; cases us with
   | nil=>cases hl
   | cons u us=>exact .cons (hr 0 x u rfl rfl) (ih us (by simpa using hl) fun i y v e1 e2=>hr (i+1) y v (by simpa using e1) (by simpa using e2))
 refine key _ _ (by rw[zEA]; simp[hn]) fun i x u e1 e2=>?_
 unfold rngV at e1
 rw[Ah]at e1
 cases e3:(AV n)[i]? with
 | none=>rw[e3]at e1; cases e1
 | some j =>
  rw[e3]at e1
  have hj:j=i/\i < n:=by
   obtain⟨h1,h2⟩:=Aa.mp e3
   rw[List.getElem_range]at h2
   exact⟨h2.symm,by simpa using h1⟩
  obtain⟨rfl,hjn⟩:=hj
  have e1':x=V.int (lo+(j:Int)):=(Ak e1).symm
  subst e1'
  obtain⟨t,ht⟩:=hi j u (by simpa using e2)
  exact⟨t,by rw[ht]; simp⟩
section
variable {prog:Am}{w:A0}{A:BJ}{E:AD->AG->Prop}{s:AG}
theorem zG4{Q:List AD->AG->Prop}{r:Addr}{a b c:Int}{t u v:Tok}{n:Nat}(hh:A.handled=none)(hr:K4 s.heap r a b c t u v)(hsmall:EN a b c=true)(hn:CD a b c=n)(hlen:n<=2 ^ 24)
  (hQ:∀ h' tk acc,(∀ b o,s.heap.get? b=some o->h'.get? b=some o)->De (fun i v=>∃ t,v=.int (a+i * c) t) acc n->Q acc.toList { s with heap:=h',toks:=tk }) :
  AQ (model prog w) A (collect (.ref r)) Q E s:=by
 unfold collect
 refine AA (KO (D8 F.entry_proto_collect ?_)); rw[Cn F.plain_proto_collect _]
 show AQ _ A.in1 (JB [] >>= fun l=>again (.builtin "list.__iadd__" ⟨[l,.ref r],[]⟩)) _ _ s
 refine AA (Au (AJ ⟨Eo IU _,D8 F.entry_list_iadd ?_⟩)); rw[Cn IU _]
 show AQ _ A.in1 (Ba (.ref s.heap.objs.size) (.ref r) (.ref s.heap.objs.size)) _ _ _
 have hS:(s.heap.push { cls:=.type "list",data:=.seq ([]:List AD).toArray }).get? s.heap.objs.size=some { cls:=.type "list",data:=.seq ([]:List AD).toArray }:=AI _ rfl
 have hr2:K4 (s.heap.push { cls:=.type "list",data:=.seq ([]:List AD).toArray }) r a b c t u v:=AC _ hr
 let RR:Result->AG->Prop:=fun r s'=>match r with
  | .ok (.ret v)=>v=.ref s.heap.objs.size/\∃ h' tk acc c',s'={ s with heap:=h',toks:=tk }/\(∀ b o,s.heap.get? b=some o->h'.get? b=some o)/\h'.get? s.heap.objs.size=some { cls:=.type "list",dict:=none,data:=.seq acc c',slots:=#[] }/\De (fun i v=>∃ t,v=.int (a+i * c) t) acc n
  | _=>False
 have go:∀ (v:AD) (s':AG),RR (.ok (.ret v)) s'->AQ (model prog w) A (match v with | .ref a=>(do match (← load a).data with | .seq xs _=>pure xs.toList | _=>unsupported "internal:collect") | _=>unsupported "internal:collect") Q E s':=fun v s' hR=>by
  obtain⟨rfl,h',tk,acc,c',rfl,hk,hS',hacc⟩:=hR
  show AQ _ A (load s.heap.objs.size >>= _) _ _ _
  exact AA (Ig hS' (AJ (hQ h' tk acc hk hacc)))
 have base:=wpAny_extend_range (prog:=prog) (w:=w) (A:=A) (R:=RR) (s:={ s with heap:=s.heap.push { cls:=.type "list",data:=.seq ([]:List AD).toArray } }) hh hr2 hsmall hn hlen _ (.ref s.heap.objs.size) _ hS fun h' tk acc' c' hk hS' hacc =>
  ⟨rfl,h',tk,acc',c',rfl,fun b o e=>hk b o (Ae (AK e)) (AC _ e),hS',hacc⟩
 refine B3 base (fun fin s' h=>?_) (fun e s' h=>BU h)
 cases fin with
 | done f=>cases f with
  | ret v=>exact go v s' h
  | next=>exact BU h
  | brk=>exact BU h
  | cont=>exact BU h
 | again c' =>
  refine⟨h.1,FG h.2 fun r s'' hr=>?_⟩
  cases r with
  | error e=>exact BU hr
  | ok f=>cases f with
   | ret v=>exact go v s'' hr
   | next=>exact BU hr
   | brk=>exact BU hr
   | cont=>exact BU hr
theorem zGf(r:Addr){a b c:Int}{t u v:Tok}{n:Nat}(hsmall:EN a b c=true)(hn:CD a b c=n)(hlen:n<=2 ^ 24) :
  Fc (Builtin.«tuple.__new__» ⟨[.type "tuple",.ref r],[]⟩) (fun A R s=>A.handled=none/\s.heap.get? r=some { cls:=.type "range",data:=.fields #[.int a t,.int b u,.int c v] }/\∀ (h':Heap) (tk:Nat) (acc:Array AD),(∀ b o,s.heap.get? b=some o->h'.get? b=some o) ->
   De (fun i v=>∃ t,v=.int (a+i * c) t) acc n->R (.ok (.ret (.ref h'.objs.size))) { s with heap:=h'.push { cls:=.type "tuple",data:=.seq acc },toks:=tk }) :=
 .of_wp fun prog w A R s h=>by
  obtain⟨hh,hr,h⟩:=h
  have s1:=KP
  have s2:=JE
  have s3:=KQ
  have hT:s.TypeIs (.ref r) "range":=⟨_,hr,rfl⟩
  have hh1:A.in1.handled=none:=hh
  have hr':K4 s.heap r a b c t u v:=hr
  wp_walk using EG hT,zG4 hh1 hr' hsmall hn hlen
  intro h' tk acc hk hacc
  show AQ _ _ (BH acc.toList.toArray >>= fun v=>ret v) _ _ _; unfold BH
  refine AA (Au ?_ (show acc.toList.toArray.size<=AB by simp only[Df]; rw[hacc.1,Be]; omega)); refine AJ ⟨_,rfl,?_⟩
  rw[show acc.toList.toArray=acc by simp]
  exact h h' tk acc hk hacc
theorem zG5{Q:AD->AG->Prop}{r:Addr}{a b c:Int}{t u v:Tok}{n:Nat}(hh:A.handled=none)(hr:s.heap.get? r=some { cls:=.type "range",data:=.fields #[.int a t,.int b u,.int c v] })(hsmall:EN a b c=true)
  (hn:CD a b c=n) (hlen:n<=2 ^ 24)
  (h:∀ (h':Heap) (tk:Nat) (acc:Array AD),(∀ b o,s.heap.get? b=some o->h'.get? b=some o)->De (fun i v=>∃ t,v=.int (a+i * c) t) acc n->Q (.ref h'.objs.size) { s with heap:=h'.push { cls:=.type "tuple",data:=.seq acc },toks:=tk }) :
  AQ (model prog w) A (call (.type "tuple") [.ref r]) Q E s :=
 EH F.called_tuple ∅ (F.typeCall_tuple_1 _) (F.newCall_tuple_1 _) (fun obj=>Ds obj _) F.entry_tuple_new (zGf r hsmall hn hlen) ⟨hh,hr,fun h' tk acc hk hacc=>⟨⟨_,AI _ rfl,rfl⟩,h h' tk acc hk hacc⟩⟩
end
section
variable {X:Cx}
theorem zJQ:CallR X (.type "range") (fun xs H Q=>∃ j:Int,xs=[.int j]/\∀ p,H p=none->Q (.ref p) (upd H p (.rng 0 j))):=by
 intro pins s σ H xs us Q I r h
 obtain⟨j,rfl,q⟩:=h
 obtain⟨u,rfl,t,rfl⟩:=vals1 r
 refine K0 ⟨.ref s.heap.objs.size,_,I.laid (fun b o e=>AC _ e) (AF _) (show ObjOk X.prog X.w _ _ _ (.rng 0 j) from ⟨_,_,_,AI _ rfl⟩),rfl,q _ (I.hok.fresh (AF _))⟩
theorem zJN:CallR X (.type "range") (fun xs H Q=>∃ i j:Int,xs=[.int i,.int j]/\∀ p,H p=none->Q (.ref p) (upd H p (.rng i j))):=by
 intro pins s σ H xs us Q I r h
 obtain⟨i,j,rfl,q⟩:=h
 obtain⟨u,u',rfl,⟨t,rfl⟩,⟨t',rfl⟩⟩:=vals2 r
 refine K1 ⟨.ref s.heap.objs.size,_,I.laid (fun b o e=>AC _ e) (AF _) (show ObjOk X.prog X.w _ _ _ (.rng i j) from ⟨_,_,_,AI _ rfl⟩),rfl,q _ (I.hok.fresh (AF _))⟩
theorem rsz{lo hi:Int}:CD lo hi 1=(((hi - lo).toNat:Nat):Int):=by rw[Kb]; split <;> omega
theorem zGG(hc:X.calm=true):CallR X (.type "list") (fun xs H Q=>∃ p lo hi,xs=[.ref p]/\H p=some (.rng lo hi)/\(-(2 ^ 62)<=lo/\lo < 2 ^ 62/\-(2 ^ 62)<=hi/\hi < 2 ^ 62)/\(hi - lo).toNat<=2 ^ 24/\∀ l,H l=none->Q (.ref l) (upd H l (.lst (rngV lo (hi - lo).toNat)))):=by
 intro pins s σ H xs us Q I r h
 obtain⟨p,lo,hi,rfl,hp,⟨b1,b2,b3,b4⟩,hl,q⟩:=h
 obtain⟨u,rfl,rx⟩:=vals1 r
 cases rx
 obtain⟨t,t',t'',ho⟩:=(show ObjOk X.prog X.w H s.heap p (.rng lo hi) from I.hok p _ hp)
 refine call_list_range (n:=(hi - lo).toNat) (I.ok.hd hc) ho (JJ b1 b2 b3 b4) rsz hl fun h' tk acc c' hk e hacc=>?_
 exact⟨.ref s.heap.objs.size,_,I.laid hk (AF _) (show ObjOk X.prog X.w _ h' _ (.lst _) from ⟨by rw[zEA,Be]; omega,acc.toList,c',zGw hacc,by simpa using e⟩),rfl,q _ (I.hok.fresh (AF _))⟩
theorem zFc(hc:X.calm=true):CallR X (.type "tuple") (fun xs H Q=>∃ p lo hi,xs=[.ref p]/\H p=some (.rng lo hi)/\(-(2 ^ 62)<=lo/\lo < 2 ^ 62/\-(2 ^ 62)<=hi/\hi < 2 ^ 62)/\(hi - lo).toNat<=2 ^ 24/\∀ l,H l=none->Q (.ref l) (upd H l (.tup (rngV lo (hi - lo).toNat)))):=by
 intro pins s σ H xs us Q I r h
 obtain⟨p,lo,hi,rfl,hp,⟨b1,b2,b3,b4⟩,hl,q⟩:=h
 obtain⟨u,rfl,rx⟩:=vals1 r
 cases rx
 obtain⟨t,t',t'',ho⟩:=(show ObjOk X.prog X.w H s.heap p (.rng lo hi) from I.hok p _ hp)
 refine zG5 (n:=(hi - lo).toNat) (I.ok.hd hc) ho (JJ b1 b2 b3 b4) rsz hl fun h' tk acc hk hacc=>?_
 have I1:Inv X pins σ H { s with heap:=h',toks:=tk }:=I.kept hk
 exact⟨.ref h'.objs.size,_,I1.laid (t':=tk) (fun b o e=>AC _ e) (AF _) (show ObjOk X.prog X.w _ _ _ (.tup _) from ⟨by rw[zEA,Be]; omega,acc.toList,zGw hacc,by simpa using TupD.new h' acc⟩),rfl,q _ (I1.hok.fresh (AF _))⟩
theorem zIU{bs:List Bool}:∀ {us:List AD},Vals (bs.map V.bl) us->LSm.BoolsAre us bs:=by
 induction bs with
 | nil=>intro us h; cases h; exact .nil
 | cons b bs ih=>intro us h; cases h with
  | cons r t=>cases r; exact .cons b (ih t)
theorem zLE(hc:X.calm=true):CallR X (.builtin "all") (fun xs H Q=>∃ (p:Addr) (bs:List Bool),xs=[.ref p]/\SqL X.K H p (bs.map V.bl)/\Q (.bl (bs.all id)) H):=by
 intro pins s σ H xs us Q I r h
 obtain⟨p,bs,rfl,hq,q⟩:=h
 obtain⟨u,rfl,rx⟩:=vals1 r
 cases rx
 obtain⟨its,rv,pl,hz⟩:=I.list hq
 have hb:=zIU rv
 have hl:=pl.isList
 have hlt:p < s.heap.objs.size:=by obtain⟨_,e,_⟩:=hl; exact AK e
 refine call_all_walk (Eg hl ?_)
 refine⟨s.heap.objs.size,[s.heap.objs.size,p],[s.heap.objs.size],its.toArray.size,_,_,fun i=>(bs[i]?).getD true,rfl,JZ (A:=X.A.in1) (I.ok.hd hc) _ p (Ae hlt) its.toArray,⟨⟨_,AI _ rfl,rfl,rfl⟩,hl.push _⟩,fun i v s' Q' E' hP hQ=>?_,fun h' tk hk=>?_⟩
 ·obtain⟨b,e,rfl⟩:=hb.get i v (by simpa using hP)
  simp only[e,Hi]at hQ
  exact Cv hQ
 ·have e:((AV its.toArray.size).all fun i=>(bs[i]?).getD true)=bs.all id:=by rw[AL,hb.length]; exact LSm.range_all bs
  rw[e]
  exact⟨.bl (bs.all id),H,I.kept (Gx hk),rfl,q⟩
end
theorem zE8(t:Addr)(items:Array AD)(n:Nat)(dd:Option Addr)(sl:Array (Option AD))(x:AD)(e:AD->Bool)(j:Nat)(hj:j < items.size)(hit:e items[j]=true)(hno:∀ m (hm:m < items.size),m < j->e items[m]=false) :
  Fc (Builtin.«tuple.index» ⟨[.ref t,x],[]⟩) (fun A R s=>s.heap.get? t=some { cls:=.type "tuple",dict:=dd,data:=.seq items n,slots:=sl }/\(∀ y,y∈items->HU A.in1 s y x (e y))/\R (.ok (.ret (.int j s.toks))) { s with toks:=s.toks+1 }) :=
 .of_wp fun prog w A R s h=>by
  obtain⟨hp,g,d,tk,os⟩:=s; obtain⟨hl,he,h⟩:=h
  wp_walk using CM hl
  show AQ _ _ (forIn (m:=Sem) (β:=Option Fin×PUnit) [:min items.size items.size] (none,()) _) _ _ _
  rw[IV]
  refine wpAny_forIn_list _ (fun rest b s'=>b=(none,())/\s'=⟨hp,g,d,tk,os⟩/\∃ i,i<=j/\rest=E7 i (items.size - i) 1) _ ?_ ?_ _ _ ?_
  ·rintro i rest b s' ⟨rfl,rfl,k,hk,hr⟩
   have hlt:k < items.size:=by lia
   obtain⟨m,hm⟩:∃ m,items.size - k=m+1:=⟨items.size - k - 1,by lia⟩
   rw[hm,IG]at hr
   injection hr with h1 h2
   subst h1
   have hi:items[i]?=some items[i]:=by simp[hlt]
   simp only[hi]
   refine AA (he items[i] (Array.getElem_mem hlt) prog w _ _ ?_)
   by_cases hij:i=j
   ·subst hij
    rw[hit]
    simp only[if_true]
    refine AA ?_
    show AQ _ _ (do let v ← mkInt i; ret v) _ _ _
    exact AA (Gs (AJ (AJ (AJ ⟨_,rfl,h⟩))))
   ·rw[hno i hlt ⋯]
    simp only[D3,if_false]
    exact AJ ⟨rfl,rfl,i+1,by lia,by rw[h2]; congr 1; lia⟩
  ·rintro b s' ⟨rfl,rfl,k,hk,hr⟩
   have q:items.size - k=0:=by have q:=congrArg JS hr; simp at q; lia
   lia
  ·refine⟨rfl,rfl,0,Ca _,?_⟩
   simp[IW]
section
variable {X:Cx}
def rTupIndex (K:AM):V->List V->Hp->VK->Prop:=fun x vs H Q=>∃ t xs y j,x=.ref t/\vs=[y]/\SqT K H t xs/\flatV y=true/\xs.all flatV=true/\(xs.findIdx? fun z=>eqV z y)=some j/\Q (.int (j:Nat)) H
theorem zHC:MtM X "tuple.index" (rTupIndex X.K):=by
 intro pins s σ H x vs v us Q I rx rv h
 obtain⟨t,xs,y,j,rfl,rfl,hq,fy,fx,hj,q⟩:=h
 cases rx
 obtain⟨u,rfl,ru⟩:=rv.one
 obtain⟨its,r,⟨⟨cls,dd,data,sl⟩,ho,hc,n,hd⟩,hz⟩:=I.tuple hq
 simp only at hc hd
 subst hc hd
 have hlen:=r.length
 obtain⟨hjl,hjt,hjn⟩:=Fd.mp hj
 have hiU:∀ m (hm:m < its.length),eqU y its[m]=eqV (xs[m]'(by omega)) y:=fun m hm=>by
  have e1:xs[m]?=some (xs[m]'(by omega)):=by simp
  obtain⟨u',hu',ru'⟩:=r.get e1
  have e2:its[m]=u':=by rw[Bb hm]at hu'; exact Ak hu'
  rw[e2]
  exact zGC ru' (Aw.mp fx _ (B7 _))
 refine Bw F.slot_tuple_index ⟨_,ho,rfl⟩ F.entry_tuple_index (F.args_tuple_index_2 _ _)
  (zE8 t its.toArray n dd sl u (eqU y) j (by simp; omega) (by show eqU y its[j]=true; rw[hiU j (by omega)]; exact hjt) (fun m hm hmj=>by
   show eqU y its[m]=false
   rw[hiU m (by simpa using hm)]
   exact Cm.mpr (hjn m hmj))) ⟨ho,?_,?_⟩
 ·intro z hzm
  exact zBv ru fy r fx z (by simpa using hzm)
 ·exact⟨.int (j:Nat),H,I.tok _,⟨_,rfl⟩,q⟩
end
section
variable {X:Cx}
theorem Same.upd(h:H p=none):Same H (upd H p o):=fun b u e=>by rw[zAN (zAW e h)]; exact e
end
theorem zPv(hg:Gl X x)(hm:X.mg x=none)(hv:CP x=some (.type T))(hn:x≠"__name__":=by decide)(hd:(x == ("__debug__":Str))=false:=by decide):PE X (.Name x pos) (tC (.ty T)):=zMz (v:=.ty T) hg hm hv rfl hn hd
theorem zNw(K:AM)(hK:X.K=K)(hc:X.calm=true)(h:PGs X es t)(hn:(BS es X.env).length=n:=by rfl)(hst:(BS es X.env).findIdx? (·.1)=none:=by rfl):PG X (.Tuple es k pos) (gTup K n t):=by
 subst hK
 exact zPJ hc h hn hst
section
variable {prog:Am}{w:A0}{A:BJ}{E:AD->AG->Prop}{s:AG}
theorem zIS(hT:T="list"\/T="tuple")(ho:s.heap.get? it=some o)(hc:o.cls=.type T)(hd:o.data=.seq vs.toArray n)(hI:FH vs ns)(h64:vs.length < 64)
  (h:∀ (h1 h':Heap) (out:Array AD) (e:Nat) (ns':List Int),(∀ b o,s.heap.get? b=some o->h1.get? b=some o)->(∀ b o,h1.get? b=some o->h'.get? b=some o)->h'.get? h1.objs.size=some (Io "list" out e)->FH out.toList ns'->ns'.Perm ns->ns'.Pairwise (·<=·)->Q (.ref h1.objs.size) { s with heap:=h' }) :
  AQ (model prog w) A (call (.builtin "sorted") [.ref it]) Q E s:=by
 refine Calls.call_function_entry kind_sorted plain_sorted entry_sorted (args_sorted1 _) ?_; unfold Builtin.«sorted»; refine AA (m:=checkCount "sorted" 1 1 _) (AJ ?_)
 refine AA (wpAny_collect_seq it hT ho hc hd (fun h1 hk1=>?_) (by rw[AL,Be]; omega))
 refine AA (wpAny_newList ?_)
 have hoL:(h1.push (Io "list" vs.toArray 0)).get? h1.objs.size=some (Io "list" vs.toArray 0):=AI _ rfl
 show AQ _ _ _ _ _ { s with heap:=h1.push (Io "list" vs.toArray 0) }
 refine AA (Br (A6 slot_list_sort ⟨_,hoL,rfl⟩ entry_list_sort (list_sort_tree hoL hI h64 fun out ns' a1 a2 a3=>⟨_,rfl,?_⟩) (args_list_sort _)))
 obtain⟨e,he⟩:=sortedHeap_at (out:=out) hoL
 refine AJ ⟨_,rfl,h h1 _ out e ns' hk1 (fun b ob q=>?_) he a1 a2 a3⟩
 have hlt:=AK q
 rw[sortedHeap_old (Ae hlt) (by rw[size_push']; exact DY hlt)]
 exact AC _ q
end
theorem zDa:∀ {us:List AD} {ns:List Int},FH us ns->Vals (ns.map V.int) us
 | _,_,.nil=>.nil
 | _,_,.cons _ t r=>.cons ⟨t,rfl⟩ (zDa r)
section
variable {X:Cx}
theorem zHB:CallR X (.builtin "sorted") (fun xs H Q=>∃ (p:Addr) (ns:List Int),xs=[.ref p]/\(SqL X.K H p (ns.map V.int)\/SqT X.K H p (ns.map V.int))/\ns.length < 64/\∀ (l:Addr) (ns':List Int),H l=none->ns'.Perm ns->ns'.Pairwise (·<=·)->Q (.ref l) (upd H l (.lst (ns'.map V.int)))):=by
 intro pins s σ H xs us Q I r h
 obtain⟨p,ns,rfl,hq,hl,q⟩:=h
 obtain⟨u,rfl,rx⟩:=vals1 r
 cases rx
 have go:∀ (T:String) (o:Obj) (its:List AD) (n:Nat),(T="list"\/T="tuple")->s.heap.get? p=some o->o.cls=.type T->o.data=.seq its.toArray n->Vals (ns.map V.int) its->AQ (model X.prog X.w) X.A (call (.builtin "sorted") [.ref p]) (EP X pins σ Q) X.xe s:=fun T o its n hT ho hc hd rv=>by
  have hlen:=rv.length
  rw[Bg]at hlen
  refine zIS hT ho hc hd (zIK rv) ⋯ fun h1 h' out e ns' k1 k2 he hI hp hs=>?_
  have I1:Inv X pins σ H { s with heap:=h1 }:=I.kept (t':=s.toks) k1
  have hl':ns'.length < 64:=by rw[hp.length_eq]; exact hl
  exact⟨.ref h1.objs.size,_,I1.laid (t':=s.toks) k2 (AF _) (show ObjOk X.prog X.w _ h' _ (.lst _) from ⟨by rw[Bg,Be]; lia,out.toList,e,zDa hI,by simpa [Io] using he⟩),rfl,q _ ns' (I1.hok.fresh (AF _)) hp hs⟩
 rcases hq with hq | hq
 ·obtain⟨its,rv,⟨o,n,e,c,_,d⟩,_⟩:=I.list hq
  exact go "list" o its n (.inl rfl) e c d rv
 ·obtain⟨its,rv,⟨o,e,c,n,d⟩,_⟩:=I.tuple hq
  exact go "tuple" o its n (.inr rfl) e c d rv
end
section
variable {prog:Am}{w:A0}{A:BJ}{E:AD->AG->Prop}{s:AG}
theorem zDB{t sl:Addr}{items:Array AD}{vl vu:AD}{lo hi:Option Int}{Q:AD->AG->Prop}(ht:Iu s.heap t items)(hs:s.heap.IsSliceOf sl vl vu .none)(pl:FT vl lo)(pu:FT vu hi)
  (hw:HT.sIx items.size 0 lo=0/\HT.sIx items.size items.size hi=items.size) (h:Q (.ref t) s):AQ (model prog w) A (GN (.ref t) (.ref sl)) Q E s:=by
 obtain⟨os,hos,hcs,hds⟩:=id hs
 have hTs:s.TypeIs (.ref sl) "slice":=⟨os,hos,hcs⟩
 unfold GN; try with_reducible refine Br ?_
 first | refine AA (AJ ?_) | skip
 refine AA (Iy ht.typeIs ∅ ?_); refine AA (Aq (name:=Bi "__getitem__") ht.typeIs Bk (A6 Bk ht.typeIs IS ?_ (Ih _ _)))
 show AQ _ _ (FP (.ref t) >>= _) _ _ s; refine AA (Kd ht ?_); refine AA (EG hTs ?_)
 rw[if_pos ∅]; refine AA (HT.sliceApplied_gen hs pl pu ?_)
 have hyes:((((HT.sIx items.size 0 lo:Nat):Int) == 0 && (1:Int) == 1 && (HT.sIx items.size items.size hi - HT.sIx items.size 0 lo) == items.size)=true):=by
  rw[hw.1,hw.2]; simp
 show AQ _ _ (if (((HT.sIx items.size 0 lo:Nat):Int) == 0 && (1:Int) == 1 && (HT.sIx items.size items.size hi - HT.sIx items.size 0 lo) == items.size)=true then _ else _) _ _ s
 rw[if_pos hyes]
 refine AA ?_
 unfold Ja
 refine AA (EG ht.typeIs (AJ ?_))
 rw[if_pos ∅]
 exact AA (C5 (AJ ⟨_,rfl,AJ h⟩))
end
end L2
namespace D
open PySem L2
abbrev Fg:=AM
inductive T where
 | a (v:V)
 | t (xs:List T)
 | l (xs:List T)
 | f (n:Str)
 | x (c:Str) (fs:List (Str×V))
abbrev Dk:=Sum (List (Key×T)) (List (List Key×T))
inductive G where
 | v (t:T)
 | l (xs:List T)
 | r (xs:List T)
 | k (xs:List T)
 | d (kvs:Dk)
 | e (kvs:Dk)
noncomputable def isMut:G->Bool
 | .l _=>true
 | .d _=>true
 | _=>false
inductive S where
 | v (t:T)
 | l (xs:List T)
 | s (i:Nat)
 | d (kvs:Dk)
abbrev En:=List (Option G)
abbrev DE:=En->Option (S×En)
abbrev DT:=En->Option (Bool×En)
abbrev DA:=En->Option (List S×En)
inductive O where
 | nx (g:En) | rt (s:S) (g:En) | bk (g:En) | ct (g:En)
abbrev DS:=En->Option O
noncomputable def cOk:List V->Bool
 | .int _::_=>true
 | .ref _::_=>true
 | [.str x]=>decide (x="yes") || decide (x="no")
 | _=>false
def KT (K:Fg) (a:Addr) (xs:List V):Prop:=∃ (o:Obj) (its:Array AD) (n:Nat),K.lookup a=some o/\o.cls=.type "tuple"/\o.dict=none/\o.data=.seq its n/\its.size<=AB/\Vals xs its.toList/\cOk xs=true
def Tp (K:Fg) (H:Hp) (p:Addr) (vs:List V):Prop:=H p=some (.tup vs)\/KT K p vs
theorem Tp.sq(h:Tp K H p vs):SqT K H p vs:=by
 rcases h with h | ⟨o,its,n,a,b,c,d,e,f,_⟩
 ·exact SqT.of h
 ·exact .inr ⟨o,its,n,a,b,d,e,f⟩
theorem Tp.of(h:H p=some (.tup vs)):Tp K H p vs:=.inl h
def KL (K:Fg) (a:Addr) (xs:List V):Prop:=∃ (o:Obj) (its:Array AD) (n:Nat),K.lookup a=some o/\o.cls=.type "list"/\o.dict=none/\o.data=.seq its n/\its.size<=AB/\Vals xs its.toList
def KF (K:Fg) (H:Hp) (p:Addr) (vs:List V):Prop:=(∃ o,H p=some (.frz o (.lst vs)))\/KL K p vs
def XOk (K:Fg) (H:Hp) (p:Addr) (c:Str) (fs:List (Str×V)):Prop:=∃ (C:Addr) (d:Option Addr),EO K Al c=some (some (.ref C)) /\
 H p=some (.ext fun h=>∃ o,h.get? p=some o/\o.cls=.ref C/\o.dict=d/\PySem.W.notCls o=true)/\((d=none/\fs=[])\/∃ dx,d=some dx/\H dx=some (.xd fs))
def FOk (K:Fg) (v:V) (n:Str):Prop:=∃ p,v=.ref p/\EO K Al n=some (some (.ref p))
mutual
def Im (K:Fg) (H:Hp):V->T->Prop
 | v,.a u=>v=u
 | v,.t ts=>∃ p vs,v=.ref p/\Tp K H p vs/\Ims K H vs ts
 | v,.l ts=>∃ p vs,v=.ref p/\KF K H p vs/\Ims K H vs ts
 | v,.f n=>FOk K v n
 | v,.x c fs=>∃ p,v=.ref p/\XOk K H p c fs
def Ims (K:Fg) (H:Hp):List V->List T->Prop
 | vs,[]=>vs=[]
 | vs,t::ts=>∃ v r,vs=v::r/\Im K H v t/\Ims K H r ts
end
structure W where
 L:List Addr
 R:Addr->Prop
structure Fr where
 H0:Hp
 fx:List Addr
 pins:List (Nat×Addr)
def Evo (L:List Addr) (H H':Hp):Prop:=∀ b o,H b=some o->b∉L->H' b=some o
noncomputable def Mu:HO->Prop
 | .lst _=>True
 | .dK _=>True
 | .dT _=>True
 | _=>False
def LL (L:List Addr) (H:Hp):Prop:=∀ p∈L,∃ o,H p=some o/\Mu o
theorem Evo.refl:Evo L H H:=fun _ _ h _=>h
theorem Evo.trans(a:Evo L H H1)(b:Evo L H1 H2):Evo L H H2:=fun c o h n=>b c o (a c o h n) n
theorem Evo.wide(a:Evo L' H H')(h:∀ p∈L',p∈L):Evo L H H':=fun c o e n=>a c o e fun z=>n (h c z)
theorem Evo.new(h:H p=none):Evo L H (upd H p o):=fun b u e _=>by rw[zAN (zAW e h)]; exact e
theorem Evo.of_same(h:Same H H'):Evo L H H':=fun b u e _=>h b u e
theorem zCn(e:Evo L H H')(hL:LL L H)(h:Tp K H p vs):Tp K H' p vs:=by
 rcases h with h | h
 ·refine .inl (e _ _ h fun z=>?_)
  obtain⟨o,q,m⟩:=hL p z
  rw[h]at q; cases q; exact m
 ·exact .inr h
theorem KF.evo(e:Evo L H H')(hL:LL L H)(h:KF K H p vs):KF K H' p vs:=by
 rcases h with ⟨o,h⟩ | h
 ·refine .inl ⟨o,e _ _ h fun z=>?_⟩
  obtain⟨o,q,m⟩:=hL p z
  rw[h]at q; cases q; exact m
 ·exact .inr h
theorem XOk.evo(e:Evo L H H')(hL:LL L H)(h:XOk K H p c fs):XOk K H' p c fs:=by
 obtain⟨C,d,h1,h2,h3⟩:=h
 refine⟨C,d,h1,e _ _ h2 fun z=>?_,h3.imp id fun ⟨dx,a,b⟩=>⟨dx,a,e _ _ b fun z=>?_⟩⟩
 ·obtain⟨o,q,m⟩:=hL p z
  rw[h2]at q; cases q; exact m
 ·obtain⟨o,q,m⟩:=hL dx z
  rw[b]at q; cases q; exact m
mutual
theorem Im.evo(e:Evo L H H')(hL:LL L H):∀ {v:V} {t:T},Im K H v t->Im K H' v t
 | _,.a _,h=>h
 | _,.t _,h=>by
  unfold Im at h ⊢
  obtain⟨p,vs,rfl,hs,hi⟩:=h
  exact⟨p,vs,rfl,zCn e hL hs,Ims.evo e hL hi⟩
 | _,.l _,h=>by
  unfold Im at h ⊢
  obtain⟨p,vs,rfl,hs,hi⟩:=h
  exact⟨p,vs,rfl,hs.evo e hL,Ims.evo e hL hi⟩
 | _,.f _,h=>by
  unfold Im at h ⊢
  exact h
 | _,.x _ _,h=>by
  unfold Im at h ⊢
  obtain⟨p,rfl,hs⟩:=h
  exact⟨p,rfl,hs.evo e hL⟩
theorem Ims.evo(e:Evo L H H')(hL:LL L H):∀ {vs:List V} {ts:List T},Ims K H vs ts->Ims K H' vs ts
 | _,[],h=>h
 | _,_::_,h=>by
  unfold Ims at h ⊢
  obtain⟨v,r,rfl,h1,h2⟩:=h
  exact⟨v,r,rfl,Im.evo e hL h1,Ims.evo e hL h2⟩
end
section
variable {K:Fg}{H H':Hp}
theorem Ims.nil:Ims K H [] []:=by unfold Ims; rfl
theorem Ims.cons(h:Im K H v t)(hs:Ims K H vs ts):Ims K H (v::vs) (t::ts):=by unfold Ims; exact⟨v,vs,rfl,h,hs⟩
theorem Ims.inv(h:Ims K H vs (t::ts)):∃ v r,vs=v::r/\Im K H v t/\Ims K H r ts:=by unfold Ims at h; exact h
theorem Ims.inv0(h:Ims K H vs []):vs=[]:=by unfold Ims at h; exact h
theorem Ims.len:∀ {vs:List V} {ts:List T},Ims K H vs ts->vs.length=ts.length
 | _,[],h=>by rw[h.inv0]; rfl
 | _,_::_,h=>by obtain⟨v,r,rfl,_,h2⟩:=h.inv; simp[h2.len]
theorem Ims.app:∀ {vs us:List V} {ts ss:List T},Ims K H vs ts->Ims K H us ss->Ims K H (vs++us) (ts++ss)
 | _,_,[],_,h,h'=>by rw[h.inv0]; exact h'
 | _,_,_::_,_,h,h'=>by obtain⟨v,r,rfl,h1,h2⟩:=h.inv; exact .cons h1 (h2.app h')
theorem Ims.one(h:Im K H v t):Ims K H [v] [t]:=.cons h .nil
theorem Ims.get:∀ {vs:List V} {ts:List T} {i:Nat} {t:T},Ims K H vs ts->ts[i]?=some t->∃ v,vs[i]?=some v/\Im K H v t
 | _,[],_,_,_,e=>by simp at e
 | _,_::_,0,_,h,e=>by obtain⟨v,r,rfl,h1,h2⟩:=h.inv; simp at e; subst e; exact⟨v,rfl,h1⟩
 | _,_::_,i+1,_,h,e=>by obtain⟨v,r,rfl,h1,h2⟩:=h.inv; simpa using h2.get (i:=i) (by simpa using e)
theorem Ims.take:∀ (n:Nat) {vs:List V} {ts:List T},Ims K H vs ts->Ims K H (vs.take n) (ts.take n)
 | 0,_,_,_=>by simp; exact .nil
 | _+1,_,[],h=>by rw[h.inv0]; exact .nil
 | n+1,_,_::_,h=>by obtain⟨v,r,rfl,h1,h2⟩:=h.inv; exact .cons h1 (h2.take n)
theorem Ims.drop:∀ (n:Nat) {vs:List V} {ts:List T},Ims K H vs ts->Ims K H (vs.drop n) (ts.drop n)
 | 0,_,_,h=>h
 | _+1,_,[],h=>by rw[h.inv0]; exact .nil
 | n+1,_,_::_,h=>by obtain⟨v,r,rfl,h1,h2⟩:=h.inv; exact h2.drop n
theorem Ims.set:∀ {vs:List V} {ts:List T} (i:Nat) {v:V} {t:T},Ims K H vs ts->Im K H v t->Ims K H (vs.set i v) (ts.set i t)
 | _,[],_,_,_,h,_=>by rw[h.inv0]; exact .nil
 | _,_::_,0,_,_,h,h'=>by obtain⟨v,r,rfl,h1,h2⟩:=h.inv; exact .cons h' h2
 | _,_::_,i+1,_,_,h,h'=>by obtain⟨v,r,rfl,h1,h2⟩:=h.inv; exact .cons h1 (h2.set i h')
theorem Ims.erase:∀ {vs:List V} {ts:List T} (i:Nat),Ims K H vs ts->Ims K H (vs.eraseIdx i) (ts.eraseIdx i)
 | _,[],_,h=>by rw[h.inv0]; exact .nil
 | _,_::_,0,h=>by obtain⟨v,r,rfl,h1,h2⟩:=h.inv; exact h2
 | _,_::_,i+1,h=>by obtain⟨v,r,rfl,h1,h2⟩:=h.inv; exact .cons h1 (h2.erase i)
theorem Ims.rev:∀ {vs:List V} {ts:List T},Ims K H vs ts->Ims K H vs.reverse ts.reverse
 | _,[],h=>by rw[h.inv0]; exact .nil
 | _,_::_,h=>by obtain⟨v,r,rfl,h1,h2⟩:=h.inv; simp only[DQ]; exact h2.rev.app (.one h1)
theorem Ims.atoms:∀ (vs:List V),Ims K H vs (vs.map T.a)
 | []=>.nil
 | v::r=>.cons (by unfold Im; rfl) (Ims.atoms r)
theorem Ims.of_atoms:∀ {vs:List V} {us:List V},Ims K H vs (us.map T.a)->vs=us
 | _,[],h=>h.inv0
 | _,_::_,h=>by obtain⟨v,r,rfl,h1,h2⟩:=h.inv; unfold Im at h1; rw[h1,Ims.of_atoms h2]
theorem Im.atom:Im K H v (.a v):=by unfold Im; rfl
theorem Im.tup(h:H p=some (.tup vs))(hs:Ims K H vs ts):Im K H (.ref p) (.t ts):=by unfold Im; exact⟨p,vs,rfl,Tp.of h,hs⟩
theorem Im.inv(h:Im K H v (.t ts)):∃ p vs,v=.ref p/\Tp K H p vs/\Ims K H vs ts:=by unfold Im at h; exact h
theorem Im.invl(h:Im K H v (.l ts)):∃ p vs,v=.ref p/\KF K H p vs/\Ims K H vs ts:=by unfold Im at h; exact h
theorem Im.fn(h:FOk K v n):Im K H v (.f n):=by unfold Im; exact h
theorem Im.invf(h:Im K H v (.f n)):FOk K v n:=by unfold Im at h; exact h
theorem Im.invx(h:Im K H v (.x c fs)):∃ p,v=.ref p/\XOk K H p c fs:=by unfold Im at h; exact h
theorem Im.inva(h:Im K H v (.a u)):v=u:=by unfold Im at h; exact h
end
theorem KF.sq(h:KF K H p vs):SqL K H p vs:=by
 rcases h with h | h
 ·exact .inl (.inr h)
 ·exact .inr h
theorem KF.of(h:SqL K H p vs)(n:∀ us,H p≠some (.lst us)):KF K H p vs:=by
 rcases h with (h | h) | h
 ·exact absurd h (n vs)
 ·exact .inl h
 ·exact .inr h
def DOk (K:Fg) (H:Hp):HO->Dk->Prop
 | .dK l,.inl kvs=>FB (fun (a:Key×V) (b:Key×T)=>a.1=b.1/\Im K H a.2 b.2) l kvs
 | .dT l,.inr kvs=>FB (fun (a:List Key×V) (b:List Key×T)=>a.1=b.1/\Im K H a.2 b.2) l kvs
 | _,_=>False
theorem DOk.mu(h:DOk K H o kvs):Mu o:=by
 unfold DOk at h
 split at h
 ·trivial
 ·trivial
 ·exact h.elim
theorem DOk.evo(e:Evo L H H')(hL:LL L H)(h:DOk K H o kvs):DOk K H' o kvs:=by
 unfold DOk at h ⊢
 split at h
 ·exact Paired.mapP h fun _ _ z=>⟨z.1,z.2.evo e hL⟩
 ·exact Paired.mapP h fun _ _ z=>⟨z.1,z.2.evo e hL⟩
 ·exact h.elim
def GOk (K:Fg) (w:W) (H:Hp) (v:V):G->Prop
 | .v t=>Im K H v t
 | .l xs=>∃ p vs,v=.ref p/\p∈w.L/\H p=some (.lst vs)/\Ims K H vs xs
 | .r xs=>∃ p vs,v=.ref p/\Ims K H vs xs/\H p=some (.lst vs)/\p∉w.L/\w.R p
 | .k xs=>∃ p vs,v=.ref p/\Ims K H vs xs/\KF K H p vs
 | .d kvs=>∃ p o,v=.ref p/\p∈w.L/\H p=some o/\DOk K H o kvs
 | .e kvs=>∃ p o,v=.ref p/\DOk K H o kvs/\H p=some o/\p∉w.L/\w.R p
theorem GOk.own(m:isMut g=true)(h:GOk K w H v g):∃ p,v=.ref p/\p∈w.L:=by
 cases g with
 | l xs=>obtain⟨p,vs,e,m,_⟩:=h; exact⟨p,e,m⟩
 | d xs=>obtain⟨p,vs,e,m,_⟩:=h; exact⟨p,e,m⟩
 | v _=>cases m
 | r _=>cases m
 | k _=>cases m
 | e _=>cases m
def Ow (C:Fr) (p:Addr):Prop:=p∈C.fx\/C.H0 p=none
structure Rep(K:Fg)(C:Fr)(w:W)(Γ:En)(σ:St)(H:Hp):Prop where
 len:σ.length=Γ.length
 val:∀ (i:Nat) g,Γ[i]?=some (some g)->∃ v,σ[i]?=some (some v)/\GOk K w H v g
 apart:∀ (i j:Nat) p g g',isMut g=true->isMut g'=true->Γ[i]?=some (some g)->Γ[j]?=some (some g')->σ[i]?=some (some (.ref p))->σ[j]?=some (some (.ref p))->i=j
 lst:LL w.L H
 own:∀ p∈w.L,Ow C p
 ra:∀ p,w.R p->∃ o,H p=some o
 rl:∀ p,w.R p->p∉w.L
 frame:∀ b o,C.H0 b=some o->b∉C.fx->H b=some o
 pin:∀ q∈C.pins,σ[q.1]?=some (some (.ref q.2))/\∃ xs,Γ[q.1]?=some (some (.l xs))
def SOk (K:Fg) (C:Fr) (w:W) (σ:St) (H:Hp) (v:V):S->Prop
 | .v t=>Im K H v t
 | .l xs=>∃ p vs,v=.ref p/\p∉w.L/\¬ w.R p/\Ow C p/\H p=some (.lst vs)/\Ims K H vs xs
 | .s i=>σ[i]?=some (some v)
 | .d kvs=>∃ p o,v=.ref p/\p∉w.L/\¬ w.R p/\Ow C p/\H p=some o/\DOk K H o kvs
section
variable {K:Fg}{C:Fr}{w:W}{Γ Γ':En}{σ:St}{H H':Hp}
theorem GOk.evo(e:Evo w.L H H')(hL:LL w.L H)(hl:isMut g=false)(h:GOk K w H v g):GOk K w H' v g:=by
 cases g with
 | v t=>exact Im.evo e hL h
 | l xs=>cases hl
 | d xs=>cases hl
 | e kvs =>
  obtain⟨p,o,rfl,hi,h⟩:=h
  exact⟨p,o,rfl,hi.evo e hL,e _ _ h.1 h.2.1,h.2⟩
 | r xs =>
  obtain⟨p,vs,rfl,hi,h⟩:=h
  exact⟨p,vs,rfl,hi.evo e hL,e _ _ h.1 h.2.1,h.2⟩
 | k xs =>
  obtain⟨p,vs,rfl,hi,h⟩:=h
  exact⟨p,vs,rfl,hi.evo e hL,h.evo e hL⟩
theorem SOk.evo(e:Evo w.L H H')(hL:LL w.L H)(h:SOk K C w σ H v s):SOk K C w σ H' v s:=by
 cases s with
 | v t=>exact Im.evo e hL h
 | l xs =>
  obtain⟨p,vs,rfl,n1,n2,o,h1,h2⟩:=h
  exact⟨p,vs,rfl,n1,n2,o,e _ _ h1 n1,h2.evo e hL⟩
 | s i=>exact h
 | d kvs =>
  obtain⟨p,o,rfl,n1,n2,ow,h1,h2⟩:=h
  exact⟨p,o,rfl,n1,n2,ow,e _ _ h1 n1,h2.evo e hL⟩
theorem SOk.atom:SOk K C w σ H v (.v (.a v)):=by show Im K H v (.a v); exact Im.atom
theorem SOk.inva(h:SOk K C w σ H v (.v (.a u))):v=u:=by
 have h':Im K H v (.a u):=h
 exact h'.inva
theorem SOk.invt(h:SOk K C w σ H v (.v (.t ts))):∃ p vs,v=.ref p/\Tp K H p vs/\Ims K H vs ts:=by
 have h':Im K H v (.t ts):=h
 exact h'.inv
theorem Rep.evo0(r:Rep K C w Γ σ H)(e:∀ b o,H b=some o->H' b=some o):Rep K C w Γ σ H' where
 len:=r.len
 val:=fun i g h=>by
  obtain⟨v,e1,e2⟩:=r.val i g h
  refine⟨v,e1,?_⟩
  cases g with
  | l xs =>
   obtain⟨p,vs,rfl,hp,h1,h2⟩:=e2
   exact⟨p,vs,rfl,hp,e _ _ h1,h2.evo (L:=w.L) (fun b o h _=>e b o h) r.lst⟩
  | d xs =>
   obtain⟨p,o,rfl,hp,h1,h2⟩:=e2
   exact⟨p,o,rfl,hp,e _ _ h1,h2.evo (L:=w.L) (fun b o h _=>e b o h) r.lst⟩
  | v t=>exact GOk.evo (fun b o h _=>e b o h) r.lst rfl e2
  | r xs=>exact GOk.evo (fun b o h _=>e b o h) r.lst rfl e2
  | k xs=>exact GOk.evo (fun b o h _=>e b o h) r.lst rfl e2
  | e xs=>exact GOk.evo (fun b o h _=>e b o h) r.lst rfl e2
 apart:=r.apart
 lst:=fun p hp=>by obtain⟨o,h,m⟩:=r.lst p hp; exact⟨o,e _ _ h,m⟩
 own:=r.own
 ra:=fun p hp=>by obtain⟨o,h⟩:=r.ra p hp; exact⟨o,e _ _ h⟩
 rl:=r.rl
 frame:=fun b o h n=>e _ _ (r.frame b o h n)
 pin:=r.pin
theorem Rep.same(r:Rep K C w Γ σ H)(e:Same H H'):Rep K C w Γ σ H':=r.evo0 e
theorem Rep.new(r:Rep K C w Γ σ H)(h:H p=none):Rep K C w Γ σ (upd H p o):=r.evo0 fun b u e=>by rw[zAN (zAW e h)]; exact e
theorem Rep.fresh(r:Rep K C w Γ σ H)(h:H p=none):p∉w.L/\¬ w.R p/\Ow C p:=by
 refine⟨fun z=>?_,fun z=>?_,?_⟩
 ·obtain⟨vs,e,_⟩:=r.lst p z; rw[h]at e; cases e
 ·obtain⟨o,e⟩:=r.ra p z; rw[h]at e; cases e
 ·by_cases q:p∈C.fx
  ·exact .inl q
  ·refine .inr ?_
   cases e:C.H0 p with
   | none=>rfl
   | some o=>rw[r.frame p o e q]at h; cases h
theorem Rep.newl(r:Rep K C w Γ σ H)(h:H p=none)(hi:Ims K H vs ts):SOk K C w σ (upd H p (.lst vs)) (.ref p) (.l ts):=by
 obtain⟨a,b,c⟩:=r.fresh h
 exact⟨p,vs,rfl,a,b,c,zAj,hi.evo (Evo.new h) r.lst⟩
theorem Rep.newt(r:Rep K C w Γ σ H)(h:H p=none)(hi:Ims K H vs ts):SOk K C w σ (upd H p (.tup vs)) (.ref p) (.v (.t ts)):=by
 exact Im.tup zAj (hi.evo (L:=w.L) (Evo.new h) r.lst)
theorem Rep.put3(r:Rep K C w Γ σ H)(m0:isMut g0=true)(m1:isMut g1=true)(hpin:∀ xs,g0=.l xs->∃ ys,g1=.l ys)(hi:Γ[i]?=some (some g0))(hp:σ[i]?=some (some (.ref p)))(ev1:Evo [p] H H')(hp':H' p=some ob)(mb:Mu ob)(hq:p∈w.L)(hu:GOk K w H' (.ref p) g1) :
  Rep K C w (Γ.set i (some g1)) σ H'/\Evo w.L H H':=by
 have hiΓ:i < Γ.length:=(Aa.mp hi).1
 have ev:Evo w.L H H':=ev1.wide fun q hq'=>AE.mp hq' ▸ hq
 have ne:∀ {c:Addr} {o:HO},c≠p->H c=some o->H' c=some o:=fun n e=>ev1 _ _ e fun z=>n (AE.mp z)
 refine⟨⟨by simpa using r.len,fun j g h=>?_,fun j k c g g' mg mg' h1 h2 h3 h4=>?_,fun c hc=>?_,r.own,fun c hc=>?_,r.rl,fun b o h n=>?_,fun c hc=>?_⟩,ev⟩
 ·by_cases hj:j=i
  ·subst hj
   rw[As hiΓ]at h
   cases h
   exact⟨_,hp,hu⟩
  ·rw[Ad (BD hj)]at h
   obtain⟨v,e1,e2⟩:=r.val j g h
   refine⟨v,e1,?_⟩
   cases g with
   | l zs =>
    obtain⟨c,vs',rfl,hc,h1,h2⟩:=e2
    have:c≠p:=fun z=>hj (r.apart j i p _ _ rfl m0 h hi (z ▸ e1) hp)
    exact⟨c,vs',rfl,hc,ne this h1,h2.evo ev r.lst⟩
   | d zs =>
    obtain⟨c,vs',rfl,hc,h1,h2⟩:=e2
    have:c≠p:=fun z=>hj (r.apart j i p _ _ rfl m0 h hi (z ▸ e1) hp)
    exact⟨c,vs',rfl,hc,ne this h1,h2.evo ev r.lst⟩
   | v t=>exact GOk.evo ev r.lst rfl e2
   | r zs=>exact GOk.evo ev r.lst rfl e2
   | k zs=>exact GOk.evo ev r.lst rfl e2
   | e zs=>exact GOk.evo ev r.lst rfl e2
 ·have back:∀ (m:Nat) (g:G),isMut g=true->(Γ.set i (some g1))[m]?=some (some g)->∃ g',isMut g'=true/\Γ[m]?=some (some g'):=fun m g mg h=>by
   by_cases hm:m=i
   ·subst hm; exact⟨g0,m0,hi⟩
   ·rw[Ad (BD hm)]at h; exact⟨g,mg,h⟩
  obtain⟨z1,y1,g1⟩:=back j g mg h1
  obtain⟨z2,y2,g2⟩:=back k g' mg' h2
  exact r.apart j k c z1 z2 y1 y2 g1 g2 h3 h4
 ·by_cases hcp:c=p
  ·subst hcp; exact⟨ob,hp',mb⟩
  ·obtain⟨o,e,m⟩:=r.lst c hc; exact⟨o,ne hcp e,m⟩
 ·have:c≠p:=fun z=>r.rl c hc (z ▸ hq)
  obtain⟨o,e⟩:=r.ra c hc
  exact⟨o,ne this e⟩
 ·by_cases hb:b=p
  ·subst hb
   rcases r.own b hq with z | z
   ·exact absurd z n
   ·rw[z]at h; cases h
  ·exact ne hb (r.frame b o h n)
 ·obtain⟨h1,zs,h2⟩:=r.pin c hc
  refine⟨h1,?_⟩
  by_cases hm:c.1=i
  ·rw[hm,hi]at h2
   cases h2
   obtain⟨ys,e⟩:=hpin zs rfl
   exact⟨ys,by rw[hm,As hiΓ,e]⟩
  ·exact⟨zs,by rw[Ad (BD hm)]; exact h2⟩
theorem Rep.put2(r:Rep K C w Γ σ H)(hi:Γ[i]?=some (some (.l xs)))(hp:σ[i]?=some (some (.ref p)))(ev1:Evo [p] H H')(hp':H' p=some (.lst us))(hu:Ims K H' us ys) :
  Rep K C w (Γ.set i (some (.l ys))) σ H'/\Evo w.L H H':=by
 obtain⟨v,e1,q,vs,rfl,hq,hv,_⟩:=r.val i _ hi
 rw[hp]at e1; cases e1
 exact r.put3 rfl rfl (fun _ _=>⟨ys,rfl⟩) hi hp ev1 hp' trivial hq ⟨p,us,rfl,hq,hp',hu⟩
theorem Rep.put(r:Rep K C w Γ σ H)(hi:Γ[i]?=some (some (.l xs)))(hp:σ[i]?=some (some (.ref p)))(hu:Ims K H us ys) :
  Rep K C w (Γ.set i (some (.l ys))) σ (upd H p (.lst us))/\Evo w.L H (upd H p (.lst us)):=by
 obtain⟨v,e1,q,vs,rfl,hq,hv,_⟩:=r.val i _ hi
 rw[hp]at e1; cases e1
 have ev1:Evo [p] H (upd H p (.lst us)):=fun b o e n=>by rw[zAN (show b≠p from fun z=>n (AE.mpr z))]; exact e
 exact r.put2 hi hp ev1 zAj (hu.evo (ev1.wide fun q hq'=>AE.mp hq' ▸ hq) r.lst)
theorem Rep.temp(r:Rep K C w Γ σ H)(n1:p∉w.L)(n2:¬ w.R p)(ow:Ow C p)(hl:∃ o,H p=some o/\Mu o)(ev1:Evo [p] H H'):Rep K C w Γ σ H':=by
 have ne:∀ {c:Addr} {o:HO},c≠p->H c=some o->H' c=some o:=fun n e=>ev1 _ _ e fun z=>n (AE.mp z)
 have hL:LL [p] H:=fun q hq=>by rw[AE.mp hq]; exact hl
 refine⟨r.len,fun j g h=>?_,r.apart,fun c hc=>?_,r.own,fun c hc=>?_,r.rl,fun b o h n=>?_,r.pin⟩
 ·obtain⟨v,e1,e2⟩:=r.val j g h
  refine⟨v,e1,?_⟩
  cases g with
  | v t=>exact Im.evo ev1 hL e2
  | l zs =>
   obtain⟨c,vs',rfl,hc,h1,h2⟩:=e2
   exact⟨c,vs',rfl,hc,ne (fun z=>n1 (z ▸ hc)) h1,h2.evo ev1 hL⟩
  | r zs =>
   obtain⟨c,vs',rfl,h1,h2⟩:=e2
   exact⟨c,vs',rfl,h1.evo ev1 hL,ne (fun z=>n2 (z ▸ h2.2.2)) h2.1,h2.2⟩
  | k zs =>
   obtain⟨c,vs',rfl,h1,h2⟩:=e2
   exact⟨c,vs',rfl,h1.evo ev1 hL,h2.evo ev1 hL⟩
  | d zs =>
   obtain⟨c,vs',rfl,hc,h1,h2⟩:=e2
   exact⟨c,vs',rfl,hc,ne (fun z=>n1 (z ▸ hc)) h1,h2.evo ev1 hL⟩
  | e zs =>
   obtain⟨c,vs',rfl,h1,h2⟩:=e2
   exact⟨c,vs',rfl,h1.evo ev1 hL,ne (fun z=>n2 (z ▸ h2.2.2)) h2.1,h2.2⟩
 ·obtain⟨o,e,m⟩:=r.lst c hc; exact⟨o,ne (fun z=>n1 (z ▸ hc)) e,m⟩
 ·obtain⟨o,e⟩:=r.ra c hc; exact⟨o,ne (fun z=>n2 (z ▸ hc)) e⟩
 ·by_cases hb:b=p
  ·subst hb
   rcases ow with z | z
   ·exact absurd z n
   ·rw[z]at h; cases h
  ·exact ne hb (r.frame b o h n)
theorem Rep.setv(r:Rep K C w Γ σ H)(hg:isMut g=false)(h:GOk K w H v g)(hn:∀ q∈C.pins,q.1≠i):Rep K C w (Γ.set i (some g)) (σ.set i (some v)) H where
 len:=by simpa using r.len
 val:=fun j g' hj=>by
  by_cases hji:j=i
  ·subst hji
   have hjl:j < Γ.length:=by
    rcases C0 j Γ.length with z | z
    ·exact z
    ·rw[BN (by simpa using z)]at hj; cases hj
   rw[As hjl]at hj
   cases hj
   exact⟨v,by rw[As (by rw[r.len]; exact hjl)],h⟩
  ·rw[Ad (BD hji)]at hj
   rw[Ad (BD hji)]
   exact r.val j g' hj
 apart:=fun j k p ga gb ma mb h1 h2 h3 h4=>by
  have ne:∀ (m:Nat) (gc:G),isMut gc=true->(Γ.set i (some g))[m]?=some (some gc)->m≠i/\Γ[m]?=some (some gc):=fun m gc mc hm=>by
   by_cases e:m=i
   ·subst e
    rcases C0 m Γ.length with z | z
    ·rw[As z]at hm; cases hm; rw[hg]at mc; cases mc
    ·rw[BN (by simpa using z)]at hm; cases hm
   ·rw[Ad (BD e)]at hm; exact⟨e,hm⟩
  obtain⟨n1,g1⟩:=ne j ga ma h1
  obtain⟨n2,g2⟩:=ne k gb mb h2
  rw[Ad (BD n1)]at h3
  rw[Ad (BD n2)]at h4
  exact r.apart j k p ga gb ma mb g1 g2 h3 h4
 lst:=r.lst
 own:=r.own
 ra:=r.ra
 rl:=r.rl
 frame:=r.frame
 pin:=fun q hq=>by
  obtain⟨h1,xs,h2⟩:=r.pin q hq
  have:=hn q hq
  exact⟨by rw[Ad (BD this)]; exact h1,xs,by rw[Ad (BD this)]; exact h2⟩
theorem Rep.setm(r:Rep K C w Γ σ H)(mg:isMut g=true)(n1:p∉w.L)(n2:¬ w.R p)(ow:Ow C p)(hp:H p=some ob)(mb:Mu ob)(hv:GOk K ⟨p::w.L,w.R⟩ H (.ref p) g)(hn:∀ q∈C.pins,q.1≠i) :
  Rep K C ⟨p::w.L,w.R⟩ (Γ.set i (some g)) (σ.set i (some (.ref p))) H where
 len:=by simpa using r.len
 val:=fun j g' hj=>by
  by_cases hji:j=i
  ·subst hji
   have hjl:j < Γ.length:=by
    rcases C0 j Γ.length with z | z
    ·exact z
    ·rw[BN (by simpa using z)]at hj; cases hj
   rw[As hjl]at hj
   cases hj
   exact⟨_,by rw[As (by rw[r.len]; exact hjl)],hv⟩
  ·rw[Ad (BD hji)]at hj
   rw[Ad (BD hji)]
   obtain⟨v,e1,e2⟩:=r.val j g' hj
   refine⟨v,e1,?_⟩
   cases g' with
   | v t=>exact e2
   | l ys=>obtain⟨c,us,rfl,hc,h1,h2⟩:=e2; exact⟨c,us,rfl,AR _ hc,h1,h2⟩
   | d ys=>obtain⟨c,us,rfl,hc,h1,h2⟩:=e2; exact⟨c,us,rfl,AR _ hc,h1,h2⟩
   | r ys =>
    obtain⟨c,us,rfl,hi,h⟩:=e2
    refine⟨c,us,rfl,hi,h.1,fun z=>?_,h.2.2⟩
    rcases AH.mp z with z | z
    ·exact n2 (z ▸ h.2.2)
    ·exact h.2.1 z
   | e ys =>
    obtain⟨c,us,rfl,hi,h⟩:=e2
    refine⟨c,us,rfl,hi,h.1,fun z=>?_,h.2.2⟩
    rcases AH.mp z with z | z
    ·exact n2 (z ▸ h.2.2)
    ·exact h.2.1 z
   | k ys=>exact e2
 apart:=fun j k c ga gb ma mb' h1 h2 h3 h4=>by
  have ne:∀ (m:Nat) (gc:G),isMut gc=true->m≠i->(Γ.set i (some g))[m]?=some (some gc)->(σ.set i (some (.ref p)))[m]?=some (some (.ref c))->Γ[m]?=some (some gc)/\σ[m]?=some (some (.ref c))/\c≠p:=fun m gc mc e h h'=>by
   rw[Ad (BD e)]at h
   rw[Ad (BD e)]at h'
   refine⟨h,h',fun z=>?_⟩
   obtain⟨v,e1,hg⟩:=r.val m _ h
   obtain⟨q,rfl,hq⟩:=hg.own mc
   rw[h']at e1; cases e1
   exact n1 (z ▸ hq)
  have at_i:∀ (m:Nat),m=i->(σ.set i (some (.ref p)))[m]?=some (some (.ref c))->c=p:=fun m e h=>by
   subst e
   rcases C0 m σ.length with z | z
   ·rw[As z]at h; cases h; rfl
   ·rw[BN (by simpa using z)]at h; cases h
  by_cases e1:j=i
  ·by_cases e2:k=i
   ·rw[e1,e2]
   ·obtain⟨_,_,n⟩:=ne k gb mb' e2 h2 h4
    exact absurd (at_i j e1 h3) n
  ·obtain⟨g1,s1,n⟩:=ne j ga ma e1 h1 h3
   by_cases e2:k=i
   ·exact absurd (at_i k e2 h4) n
   ·obtain⟨g2,s2,_⟩:=ne k gb mb' e2 h2 h4
    exact r.apart j k c ga gb ma mb' g1 g2 s1 s2
 lst:=fun c hc=>by
  rcases AH.mp hc with e | e
  ·subst e; exact⟨ob,hp,mb⟩
  ·exact r.lst c e
 own:=fun c hc=>by
  rcases AH.mp hc with e | e
  ·subst e; exact ow
  ·exact r.own c e
 ra:=r.ra
 rl:=fun c hc z=>by
  rcases AH.mp z with e | e
  ·subst e; exact n2 hc
  ·exact r.rl c hc e
 frame:=r.frame
 pin:=fun q hq=>by
  obtain⟨h1,xs',h2⟩:=r.pin q hq
  have:=hn q hq
  exact⟨by rw[Ad (BD this)]; exact h1,xs',by rw[Ad (BD this)]; exact h2⟩
theorem Rep.setl(r:Rep K C w Γ σ H)(n1:p∉w.L)(n2:¬ w.R p)(ow:Ow C p)(hp:H p=some (.lst vs))(hv:Ims K H vs xs)(hn:∀ q∈C.pins,q.1≠i) :
  Rep K C ⟨p::w.L,w.R⟩ (Γ.set i (some (.l xs))) (σ.set i (some (.ref p))) H :=
 r.setm rfl n1 n2 ow hp trivial ⟨p,vs,rfl,AZ,hp,hv⟩ hn
theorem Rep.setd(r:Rep K C w Γ σ H)(n1:p∉w.L)(n2:¬ w.R p)(ow:Ow C p)(hp:H p=some ob)(hv:DOk K H ob kvs)(hn:∀ q∈C.pins,q.1≠i) :
  Rep K C ⟨p::w.L,w.R⟩ (Γ.set i (some (.d kvs))) (σ.set i (some (.ref p))) H :=
 r.setm rfl n1 n2 ow hp hv.mu ⟨p,ob,rfl,AZ,hp,hv⟩ hn
end
def SOks (K:Fg) (C:Fr) (w:W) (σ:St) (H:Hp):List V->List S->Prop
 | [],[]=>True
 | v::vs,s::ss=>SOk K C w σ H v s/\SOks K C w σ H vs ss
 | _,_=>False
noncomputable def Nw (H:Hp) (v:V):S->Prop
 | .l _=>∃ p,v=.ref p/\H p=none
 | .d _=>∃ p,v=.ref p/\H p=none
 | _=>True
def Nws (H:Hp):List V->List S->Prop
 | v::vs,s::ss=>Nw H v s/\Nws H vs ss
 | _,_=>True
theorem zA4{L:List Addr}{H H':Hp}{p:Addr}(e:Evo L H H')(hL:LL L H')(h:H' p=none):H p=none:=by
 cases q:H p with
 | none=>rfl
 | some o =>
  by_cases z:p∈L
  ·obtain⟨vs,u,_⟩:=hL p z; rw[h]at u; cases u
  ·rw[e p o q z]at h; cases h
theorem Nw.back{L:List Addr}{H H':Hp}{v:V}{s:S}(n:Nw H' v s)(e:Evo L H H')(hL:LL L H'):Nw H v s:=by
 cases s with
 | l xs=>obtain⟨p,a,b⟩:=n; exact⟨p,a,zA4 e hL b⟩
 | d xs=>obtain⟨p,a,b⟩:=n; exact⟨p,a,zA4 e hL b⟩
 | v t=>trivial
 | s i=>trivial
theorem Nws.back{L:List Addr}{H H':Hp}(e:Evo L H H')(hL:LL L H'):∀ {vs:List V} {ss:List S},Nws H' vs ss->Nws H vs ss
 | [],[],_=>trivial
 | [],_::_,_=>trivial
 | _::_,[],_=>trivial
 | _::_,_::_,h=>⟨h.1.back e hL,Nws.back e hL h.2⟩
theorem Nws.get{H:Hp}:∀ {vs:List V} {ss:List S} {k:Nat} {v:V} {s:S},Nws H vs ss->vs[k]?=some v->ss[k]?=some s->Nw H v s
 | [],_,_,_,_,_,e,_=>by simp at e
 | _::_,[],_,_,_,_,_,e=>by simp at e
 | _::_,_::_,0,_,_,h,e,e'=>by simp at e e'; subst e e'; exact h.1
 | _::_,_::_,k+1,_,_,h,e,e'=>Nws.get (k:=k) h.2 (by simpa using e) (by simpa using e')
def SimE (K:Fg) (te:TE) (f:DE):Prop:=∀ (C:Fr) (w:W) (Γ:En) (σ:St) (H:Hp) (s:S) (Γ':En) (Q:VK),Rep K C w Γ σ H->f Γ=some (s,Γ') ->
 (∀ v H',Rep K C w Γ' σ H'->Evo w.L H H'->SOk K C w σ H' v s->Nw H v s->Q v H')->te σ H Q
def SimT (K:Fg) (tt:TT) (f:DT):Prop:=∀ (C:Fr) (w:W) (Γ:En) (σ:St) (H:Hp) (b:Bool) (Γ':En) (Q:Bool->Hp->Prop),Rep K C w Γ σ H->f Γ=some (b,Γ') ->
 (∀ H',Rep K C w Γ' σ H'->Evo w.L H H'->Q b H')->tt σ H Q
def SimA (K:Fg) (ta:TA) (f:DA):Prop:=∀ (C:Fr) (w:W) (Γ:En) (σ:St) (H:Hp) (ss:List S) (Γ':En) (Q:List V->Hp->Prop),Rep K C w Γ σ H->f Γ=some (ss,Γ') ->
 (∀ vs H',Rep K C w Γ' σ H'->Evo w.L H H'->SOks K C w σ H' vs ss->Nws H vs ss->Q vs H')->ta σ H Q
def OkO (K:Fg) (C:Fr) (D:Ends):O->Prop
 | .nx Γ=>∀ w σ H,Rep K C w Γ σ H->D.nx σ H
 | .rt s Γ=>∀ w σ H v,Rep K C w Γ σ H->SOk K C w σ H v s->D.rt v H
 | .bk Γ=>∀ w σ H,Rep K C w Γ σ H->D.bk σ H
 | .ct Γ=>∀ w σ H,Rep K C w Γ σ H->D.ct σ H
def SimS (K:Fg) (ip:Option Nat) (ts:TS) (g:DS):Prop:=∀ (C:Fr) (w:W) (Γ:En) (σ:St) (H:Hp) (D:Ends) (o:O),C.pins.map (·.1)=ip.toList->Rep K C w Γ σ H->g Γ=some o->OkO K C D o->ts D σ H
def SimR2 (K:Fg) (r:R2) (h:En->S->S->Option S):Prop:=∀ (C:Fr) (w:W) (Γ:En) (σ:St) (H:Hp) (x y:V) (a b s:S) (Q:VK),Rep K C w Γ σ H->SOk K C w σ H x a->SOk K C w σ H y b->h Γ a b=some s ->
 (∀ v H',Rep K C w Γ σ H'->Evo w.L H H'->SOk K C w σ H' v s->Nw H v s->Q v H')->r x y H Q
def SimR1 (K:Fg) (r:V->Hp->VK->Prop) (h:En->S->Option S):Prop:=∀ (C:Fr) (w:W) (Γ:En) (σ:St) (H:Hp) (x:V) (a s:S) (Q:VK),Rep K C w Γ σ H->SOk K C w σ H x a->h Γ a=some s ->
 (∀ v H',Rep K C w Γ σ H'->Evo w.L H H'->SOk K C w σ H' v s->Nw H v s->Q v H')->r x H Q
def SimRs (K:Fg) (r:List V->Hp->VK->Prop) (h:En->List S->Option S):Prop:=∀ (C:Fr) (w:W) (Γ:En) (σ:St) (H:Hp) (xs:List V) (as:List S) (s:S) (Q:VK),Rep K C w Γ σ H->SOks K C w σ H xs as->h Γ as=some s ->
 (∀ v H',Rep K C w Γ σ H'->Evo w.L H H'->SOk K C w σ H' v s->Nw H v s->Q v H')->r xs H Q
noncomputable def jV (i:Nat):DE:=fun Γ=>match Γ[i]? with
 | some (some (.v t))=>some (.v t,Γ)
 | some (some (.l _))=>some (.s i,Γ)
 | some (some (.r _))=>some (.s i,Γ)
 | some (some (.k _))=>some (.s i,Γ)
 | some (some (.d _))=>some (.s i,Γ)
 | some (some (.e _))=>some (.s i,Γ)
 | _=>none
noncomputable def dC (v:V):DE:=fun Γ=>some (.v (.a v),Γ)
noncomputable def dOp (h:En->S->S->Option S) (fa fb:DE):DE:=fun Γ=>(fa Γ).bind fun p=>(fb p.2).bind fun q=>(h q.2 p.1 q.1).map fun s=>(s,q.2)
noncomputable def dUn (h:En->S->Option S) (fa:DE):DE:=fun Γ=>(fa Γ).bind fun p=>(h p.2 p.1).map fun s=>(s,p.2)
noncomputable def dCB (h:En->List S->Option S) (fa:DA):DE:=fun Γ=>(fa Γ).bind fun p=>(h p.2 p.1).map fun s=>(s,p.2)
noncomputable def qQ:DA:=fun Γ=>some ([],Γ)
noncomputable def jW (fa:DE) (fr:DA):DA:=fun Γ=>(fa Γ).bind fun p=>(fr p.2).bind fun q=>some (p.1::q.1,q.2)
noncomputable def S.tree:S->Option T
 | .v t=>some t
 | _=>none
def trees:List S->Option (List T)
 | []=>some []
 | s::r=>s.tree.bind fun t=>(trees r).map fun ts=>t::ts
noncomputable def gd {α:Type} (n:Nat) (x:α):Option α:=if n<=AB then some x else none
theorem zBP{α:Type}{n:Nat}{x y:α}(h:gd n x=some y):n<=AB/\x=y:=by
 unfold gd at h; split at h
 ·exact⟨by assumption,Ak h⟩
 ·cases h
def dTup (fa:DA):DE:=fun Γ=>(fa Γ).bind fun p=>(trees p.1).bind fun ts=>gd ts.length (.v (.t ts),p.2)
def dLst (fa:DA):DE:=fun Γ=>(fa Γ).bind fun p=>(trees p.1).bind fun ts=>gd ts.length (.l ts,p.2)
noncomputable def dTest (f:DE):DT:=fun Γ=>(f Γ).bind fun p=>match p.1 with
 | .v (.a (.bl b))=>some (b,p.2)
 | _=>none
noncomputable def dAnd (f g:DT):DT:=fun Γ=>(f Γ).bind fun p=>if p.1=true then g p.2 else some (false,p.2)
noncomputable def dOr (f g:DT):DT:=fun Γ=>(f Γ).bind fun p=>if p.1=true then some (true,p.2) else g p.2
noncomputable def dNot (f:DT):DT:=fun Γ=>(f Γ).bind fun p=>some (!p.1,p.2)
def dAndV (f g:DE):DE:=fun Γ=>(dTest f Γ).bind fun p=>if p.1=true then g p.2 else some (.v (.a (.bl false)),p.2)
def dOrV (f g:DE):DE:=fun Γ=>(dTest f Γ).bind fun p=>if p.1=true then some (.v (.a (.bl true)),p.2) else g p.2
def dNotV (f:DE):DE:=fun Γ=>(dTest f Γ).bind fun p=>some (.v (.a (.bl !p.1)),p.2)
noncomputable def dIfE (c:DT) (f g:DE):DE:=fun Γ=>(c Γ).bind fun p=>if p.1=true then f p.2 else g p.2
section
variable {K:Fg}{ip:Option Nat}
theorem bind_some{α β:Type}{x:Option α}{f:α->Option β}{y:β}(h:x.bind f=some y):∃ a,x=some a/\f a=some y:=by
 cases x with
 | none=>cases h
 | some a=>exact⟨a,rfl,h⟩
theorem zAI{α β:Type}{x:Option α}{f:α->β}{y:β}(h:x.map f=some y):∃ a,x=some a/\f a=y:=by
 cases x with
 | none=>cases h
 | some a=>exact⟨a,rfl,Ak h⟩
theorem zNM{i:Nat}:SimE K (tVar i) (jV i):=by
 intro C w Γ σ H s Γ' Q R h k
 unfold jV at h
 split at h
 ·rename_i t e
  cases h
  obtain⟨v,e1,e2⟩:=R.val i _ e
  exact⟨v,e1,k v H R .refl e2 trivial⟩
 ·rename_i xs e
  cases h
  obtain⟨v,e1,e2⟩:=R.val i _ e
  exact⟨v,e1,k v H R .refl e1 trivial⟩
 ·rename_i xs e
  cases h
  obtain⟨v,e1,e2⟩:=R.val i _ e
  exact⟨v,e1,k v H R .refl e1 trivial⟩
 ·rename_i xs e
  cases h
  obtain⟨v,e1,e2⟩:=R.val i _ e
  exact⟨v,e1,k v H R .refl e1 trivial⟩
 ·rename_i xs e
  cases h
  obtain⟨v,e1,e2⟩:=R.val i _ e
  exact⟨v,e1,k v H R .refl e1 trivial⟩
 ·rename_i xs e
  cases h
  obtain⟨v,e1,e2⟩:=R.val i _ e
  exact⟨v,e1,k v H R .refl e1 trivial⟩
 ·cases h
theorem zES{v:V}:SimE K (tC v) (dC v):=by
 intro C w Γ σ H s Γ' Q R h k
 cases h
 exact k v H R .refl SOk.atom trivial
theorem zER{r:R2}{h:En->S->S->Option S}{ta tb:TE}{fa fb:DE}(hr:SimR2 K r h)(ha:SimE K ta fa)(hb:SimE K tb fb):SimE K (tOp r ta tb) (dOp h fa fb):=by
 intro C w Γ σ H s Γ' Q R e k
 obtain⟨p,e1,e⟩:=bind_some e
 obtain⟨q,e2,e⟩:=bind_some e
 obtain⟨z,e3,e⟩:=zAI e
 cases e
 refine ha C w Γ σ H p.1 p.2 _ R e1 fun v1 H1 R1 ev1 o1 n1=>?_
 refine hb C w p.2 σ H1 q.1 q.2 _ R1 e2 fun v2 H2 R2 ev2 o2 n2=>?_
 exact hr C w q.2 σ H2 v1 v2 _ _ _ Q R2 (o1.evo ev2 R1.lst) o2 e3 fun v H3 R3 ev3 o3 n3=>k v H3 R3 ((ev1.trans ev2).trans ev3) o3 (n3.back (ev1.trans ev2) R2.lst)
theorem zPF{r:V->Hp->VK->Prop}{h:En->S->Option S}{ta:TE}{fa:DE}(hr:SimR1 K r h)(ha:SimE K ta fa):SimE K (tUn r ta) (dUn h fa):=by
 intro C w Γ σ H s Γ' Q R e k
 obtain⟨p,e1,e⟩:=bind_some e
 obtain⟨z,e3,e⟩:=zAI e
 cases e
 refine ha C w Γ σ H p.1 p.2 _ R e1 fun v1 H1 R1 ev1 o1 n1=>?_
 exact hr C w p.2 σ H1 v1 _ _ Q R1 o1 e3 fun v H3 R3 ev3 o3 n3=>k v H3 R3 (ev1.trans ev3) o3 (n3.back ev1 R1.lst)
theorem zKj{r:List V->Hp->VK->Prop}{h:En->List S->Option S}{ta:TA}{fa:DA}(hr:SimRs K r h)(ha:SimA K ta fa):SimE K (tCB r ta) (dCB h fa):=by
 intro C w Γ σ H s Γ' Q R e k
 obtain⟨p,e1,e⟩:=bind_some e
 obtain⟨z,e3,e⟩:=zAI e
 cases e
 refine ha C w Γ σ H p.1 p.2 _ R e1 fun v1 H1 R1 ev1 o1 n1=>?_
 exact hr C w p.2 σ H1 v1 _ _ Q R1 o1 e3 fun v H3 R3 ev3 o3 n3=>k v H3 R3 (ev1.trans ev3) o3 (n3.back ev1 R1.lst)
theorem zHh:SimA K tNil qQ:=by
 intro C w Γ σ H s Γ' Q R e k
 cases e
 exact k [] H R .refl trivial trivial
theorem zK8{ta:TE}{tr:TA}{fa:DE}{fr:DA}(ha:SimE K ta fa)(hr:SimA K tr fr):SimA K (tCons ta tr) (jW fa fr):=by
 intro C w Γ σ H s Γ' Q R e k
 obtain⟨p,e1,e⟩:=bind_some e
 obtain⟨q,e2,e⟩:=bind_some e
 cases e
 refine ha C w Γ σ H p.1 p.2 _ R e1 fun v1 H1 R1 ev1 o1 n1=>?_
 exact hr C w p.2 σ H1 q.1 q.2 _ R1 e2 fun vs H2 R2 ev2 o2 n2=>k (v1::vs) H2 R2 (ev1.trans ev2) ⟨o1.evo ev2 R1.lst,o2⟩ ⟨n1,n2.back ev1 R1.lst⟩
theorem zCu{C:Fr}{w:W}{σ:St}{H:Hp}:∀ {vs:List V} {ss:List S} {ts:List T},SOks K C w σ H vs ss->trees ss=some ts->Ims K H vs ts
 | [],[],_,_,e=>by cases e; exact .nil
 | v::vs,s::ss,_,h,e=>by
  obtain⟨t,e1,e⟩:=bind_some e
  obtain⟨ts,e2,e⟩:=zAI e
  cases e
  cases s with
  | v t'=>cases e1; exact .cons h.1 (zCu h.2 e2)
  | l _=>cases e1
  | s _=>cases e1
  | d _=>cases e1
 | [],_::_,_,h,_=>h.elim
 | _::_,[],_,h,_=>h.elim
theorem zN3{ta:TA}{fa:DA}(ha:SimA K ta fa):SimE K (tTup ta) (dTup fa):=by
 intro C w Γ σ H s Γ' Q R e k
 obtain⟨p,e1,e⟩:=bind_some e
 obtain⟨ts,e2,e⟩:=bind_some e
 obtain⟨hn,e⟩:=zBP e
 cases e
 refine ha C w Γ σ H p.1 p.2 _ R e1 fun vs H1 R1 ev1 o1 _=>?_
 have hi:=zCu o1 e2
 exact⟨by rw[hi.len]; exact hn,fun q hq=>k _ _ (R1.new hq) (ev1.trans (Evo.new hq)) (R1.newt hq hi) trivial⟩
theorem zNp{ta:TA}{fa:DA}(ha:SimA K ta fa):SimE K (tLst ta) (dLst fa):=by
 intro C w Γ σ H s Γ' Q R e k
 obtain⟨p,e1,e⟩:=bind_some e
 obtain⟨ts,e2,e⟩:=bind_some e
 obtain⟨hn,e⟩:=zBP e
 cases e
 refine ha C w Γ σ H p.1 p.2 _ R e1 fun vs H1 R1 ev1 o1 _=>?_
 have hi:=zCu o1 e2
 exact⟨by rw[hi.len]; exact hn,fun q hq=>k _ _ (R1.new hq) (ev1.trans (Evo.new hq)) (R1.newl hq hi) ⟨_,rfl,zA4 ev1 R1.lst hq⟩⟩
theorem zCR{ta:TE}{fa:DE}(ha:SimE K ta fa):SimT K (tTest ta) (dTest fa):=by
 intro C w Γ σ H s Γ' Q R e k
 obtain⟨p,e1,e⟩:=bind_some e
 obtain⟨p1,p2⟩:=p
 dsimp only at e
 split at e
 ·cases e
  refine ha C w Γ σ H _ _ _ R e1 fun v H1 R1 ev1 o1 _=>?_
  exact⟨_,SOk.inva o1,k H1 R1 ev1⟩
 ·cases e
theorem zMV{ta tb:TT}{fa fb:DT}(ha:SimT K ta fa)(hb:SimT K tb fb):SimT K (tAnd ta tb) (dAnd fa fb):=by
 intro C w Γ σ H s Γ' Q R e k
 obtain⟨⟨p,G1⟩,e1,e⟩:=bind_some e
 refine ha C w Γ σ H p G1 _ R e1 fun H1 R1 ev1=>?_
 cases p with
 | true=>exact (if_pos rfl).mpr (hb C w G1 σ H1 s Γ' Q R1 (by simpa using e) fun H2 R2 ev2=>k H2 R2 (ev1.trans ev2))
 | false =>
  have e':(false,G1)=(s,Γ'):=by simpa using e
  cases e'
  exact (if_neg AO).mpr (k H1 R1 ev1)
theorem zOF{ta tb:TT}{fa fb:DT}(ha:SimT K ta fa)(hb:SimT K tb fb):SimT K (tOr ta tb) (dOr fa fb):=by
 intro C w Γ σ H s Γ' Q R e k
 obtain⟨⟨p,G1⟩,e1,e⟩:=bind_some e
 refine ha C w Γ σ H p G1 _ R e1 fun H1 R1 ev1=>?_
 cases p with
 | false=>exact (if_neg AO).mpr (hb C w G1 σ H1 s Γ' Q R1 (by simpa using e) fun H2 R2 ev2=>k H2 R2 (ev1.trans ev2))
 | true =>
  have e':(true,G1)=(s,Γ'):=by simpa using e
  cases e'
  exact (if_pos rfl).mpr (k H1 R1 ev1)
theorem zNH{ta:TT}{fa:DT}(ha:SimT K ta fa):SimT K (tNot ta) (dNot fa):=by
 intro C w Γ σ H s Γ' Q R e k
 obtain⟨p,e1,e⟩:=bind_some e
 cases e
 exact ha C w Γ σ H p.1 p.2 _ R e1 fun H1 R1 ev1=>k H1 R1 ev1
theorem zLr{ta tb:TE}{fa fb:DE}(ha:SimE K ta fa)(hb:SimE K tb fb):SimE K (tAndV ta tb) (dAndV fa fb):=by
 intro C w Γ σ H s Γ' Q R e k
 obtain⟨⟨p,G1⟩,e1,e⟩:=bind_some e
 refine (zCR ha) C w Γ σ H p G1 (fun c H1=>if c=true then tb σ H1 Q else Q (.bl false) H1) R e1 fun H1 R1 ev1=>?_
 cases p with
 | true=>exact (if_pos rfl).mpr (hb C w G1 σ H1 s Γ' Q R1 (by simpa using e) fun v H2 R2 ev2 o n=>k v H2 R2 (ev1.trans ev2) o (n.back ev1 R1.lst))
 | false =>
  have e':(S.v (.a (.bl false)),G1)=(s,Γ'):=by simpa using e
  cases e'
  exact (if_neg AO).mpr (k _ H1 R1 ev1 SOk.atom trivial)
theorem zNS{ta tb:TE}{fa fb:DE}(ha:SimE K ta fa)(hb:SimE K tb fb):SimE K (tOrV ta tb) (dOrV fa fb):=by
 intro C w Γ σ H s Γ' Q R e k
 obtain⟨⟨p,G1⟩,e1,e⟩:=bind_some e
 refine (zCR ha) C w Γ σ H p G1 (fun c H1=>if c=true then Q (.bl true) H1 else tb σ H1 Q) R e1 fun H1 R1 ev1=>?_
 cases p with
 | false=>exact (if_neg AO).mpr (hb C w G1 σ H1 s Γ' Q R1 (by simpa using e) fun v H2 R2 ev2 o n=>k v H2 R2 (ev1.trans ev2) o (n.back ev1 R1.lst))
 | true =>
  have e':(S.v (.a (.bl true)),G1)=(s,Γ'):=by simpa using e
  cases e'
  exact (if_pos rfl).mpr (k _ H1 R1 ev1 SOk.atom trivial)
theorem zLK{ta:TE}{fa:DE}(ha:SimE K ta fa):SimE K (tNotV ta) (dNotV fa):=by
 intro C w Γ σ H s Γ' Q R e k
 obtain⟨⟨p,G1⟩,e1,e⟩:=bind_some e
 cases e
 exact (zCR ha) C w Γ σ H p G1 (fun c H1=>Q (.bl (!c)) H1) R e1 fun H1 R1 ev1=>k _ H1 R1 ev1 SOk.atom trivial
theorem zNm{tc:TT}{ta tb:TE}{fc:DT}{fa fb:DE}(hc:SimT K tc fc)(ha:SimE K ta fa)(hb:SimE K tb fb):SimE K (tIf tc ta tb) (dIfE fc fa fb):=by
 intro C w Γ σ H s Γ' Q R e k
 obtain⟨⟨p,G1⟩,e1,e⟩:=bind_some e
 refine hc C w Γ σ H p G1 _ R e1 fun H1 R1 ev1=>?_
 cases p with
 | true=>exact (if_pos rfl).mpr (ha C w G1 σ H1 s Γ' Q R1 (by simpa using e) fun v H2 R2 ev2 o n=>k v H2 R2 (ev1.trans ev2) o (n.back ev1 R1.lst))
 | false=>exact (if_neg AO).mpr (hb C w G1 σ H1 s Γ' Q R1 (by simpa using e) fun v H2 R2 ev2 o n=>k v H2 R2 (ev1.trans ev2) o (n.back ev1 R1.lst))
end
noncomputable def dNext:DS:=fun Γ=>some (.nx Γ)
noncomputable def dSeq (f g:DS):DS:=fun Γ=>(f Γ).bind fun o=>match o with
 | .nx Γ'=>g Γ'
 | o=>some o
noncomputable def dDrop (f:DE):DS:=fun Γ=>(f Γ).map fun p=>.nx p.2
noncomputable def dRet (f:DE):DS:=fun Γ=>(f Γ).map fun p=>.rt p.1 p.2
noncomputable def dIf (c:DT) (f g:DS):DS:=fun Γ=>(c Γ).bind fun p=>if p.1=true then f p.2 else g p.2
noncomputable def setS (i:Nat) (s:S) (Γ:En):Option En:=match s with
 | .v t=>some (Γ.set i (some (.v t)))
 | .l xs=>some (Γ.set i (some (.l xs)))
 | .d xs=>some (Γ.set i (some (.d xs)))
 | .s j=>match Γ[j]? with
  | some (some (.r xs))=>some (Γ.set i (some (.r xs)))
  | _=>none
def dSet (i:Nat) (f:DE):DS:=fun Γ=>(f Γ).bind fun p=>(setS i p.1 p.2).map .nx
noncomputable def dWhile (c:DT) (b:DS):Nat->DS
 | 0=>fun _=>none
 | n+1=>fun Γ=>(c Γ).bind fun p=>if p.1=true then (b p.2).bind fun o=>match o with
   | .nx Γ'=>dWhile c b n Γ'
   | .ct Γ'=>dWhile c b n Γ'
   | .bk Γ'=>some (.nx Γ')
   | .rt s Γ'=>some (.rt s Γ')
  else some (.nx p.2)
section
variable {K:Fg}{ip:Option Nat}
theorem zJU:SimS K ip tNext dNext:=fun C w Γ σ H D o _ R e k=>by cases e; exact k w σ H R
theorem zLA{t u:TS}{f g:DS}(h1:SimS K ip t f)(h2:SimS K ip u g):SimS K ip (tSeq t u) (dSeq f g):=by
 intro C w Γ σ H D o hp R e k
 obtain⟨o1,e1,e⟩:=bind_some e
 refine h1 C w Γ σ H _ o1 hp R e1 ?_
 cases o1 with
 | nx Γ1=>exact fun w' σ' H' R'=>h2 C w' Γ1 σ' H' D o hp R' e k
 | rt s Γ1=>cases e; exact k
 | bk Γ1=>cases e; exact k
 | ct Γ1=>cases e; exact k
theorem zJx{te:TE}{f:DE}(h:SimE K te f):SimS K ip (tDrop te) (dDrop f):=by
 intro C w Γ σ H D o hp R e k
 obtain⟨p,e1,e⟩:=zAI e
 subst e
 exact h C w Γ σ H p.1 p.2 _ R e1 fun v H1 R1 _ _ _=>k w σ H1 R1
theorem zLC{te:TE}{f:DE}(h:SimE K te f):SimS K ip (tRet te) (dRet f):=by
 intro C w Γ σ H D o hp R e k
 obtain⟨p,e1,e⟩:=zAI e
 subst e
 exact h C w Γ σ H p.1 p.2 _ R e1 fun v H1 R1 _ o _=>k w σ H1 v R1 o
theorem zMX{tc:TT}{t u:TS}{c:DT}{f g:DS}(hc:SimT K tc c)(h1:SimS K ip t f)(h2:SimS K ip u g):SimS K ip (tIfS tc t u) (dIf c f g):=by
 intro C w Γ σ H D o hp R e k
 obtain⟨⟨p,G1⟩,e1,e⟩:=bind_some e
 refine hc C w Γ σ H p G1 _ R e1 fun H1 R1 _=>?_
 cases p with
 | true=>exact (if_pos rfl).mpr (h1 C w G1 σ H1 D o hp R1 (by simpa using e) k)
 | false=>exact (if_neg AO).mpr (h2 C w G1 σ H1 D o hp R1 (by simpa using e) k)
theorem zBf{C:Fr}{i:Nat}(hp:C.pins.map (·.1)=ip.toList)(hi:ip≠some i):∀ q∈C.pins,q.1≠i:=fun q hq e=>by
 have:q.1∈ip.toList:=hp ▸ Bh.mpr ⟨q,hq,rfl⟩
 rw[D9]at this
 exact hi (by rw[this,e])
theorem zMx{C:Fr}{w:W}{Γ Γ':En}{σ:St}{H:Hp}{v:V}{s:S}{i:Nat}(R:Rep K C w Γ σ H)(o:SOk K C w σ H v s)(e:setS i s Γ=some Γ')(hn:∀ q∈C.pins,q.1≠i):∃ w',Rep K C w' Γ' (σ.set i (some v)) H:=by
 cases s with
 | v t=>cases e; exact⟨w,R.setv rfl o hn⟩
 | d xs =>
  cases e
  obtain⟨p,vs,rfl,n1,n2,ow,h1,h2⟩:=o
  exact⟨_,R.setd n1 n2 ow h1 h2 hn⟩
 | l xs =>
  cases e
  obtain⟨p,vs,rfl,n1,n2,ow,h1,h2⟩:=o
  exact⟨_,R.setl n1 n2 ow h1 h2 hn⟩
 | s j =>
  unfold setS at e
  dsimp only at e
  split at e
  ·rename_i xs he
   cases e
   obtain⟨v',e1,e2⟩:=R.val j _ he
   have o':σ[j]?=some (some v):=o
   rw[o']at e1; cases e1
   exact⟨w,R.setv rfl e2 hn⟩
  ·cases e
theorem zG0{te:TE}{f:DE}{i:Nat}(h:SimE K te f)(hi:ip≠some i):SimS K ip (tAsg te (gName i)) (dSet i f):=by
 intro C w Γ σ H D o hp R e k
 obtain⟨p,e1,e⟩:=bind_some e
 obtain⟨Γ1,e2,e⟩:=zAI e
 subst e
 refine h C w Γ σ H p.1 p.2 _ R e1 fun v H1 R1 _ o1 _=>?_
 obtain⟨w',R'⟩:=zMx R1 o1 e2 (zBf hp hi)
 exact k w' _ H1 R'
theorem zIH{tc:TT}{tb:TS}{c:DT}{b:DS}(n:Nat)(hc:SimT K tc c)(hb:SimS K ip tb b):SimS K ip (tWhile tc tb) (dWhile c b n):=by
 intro C w Γ σ H D o hp R e k
 refine⟨fun m σ H=>∃ w Γ,Rep K C w Γ σ H/\dWhile c b m Γ=some o,⟨n,w,Γ,R,e⟩,?_⟩
 rintro m σ1 H1 ⟨w1,Γ1,R1,e1⟩
 cases m with
 | zero=>cases e1
 | succ m =>
  unfold dWhile at e1
  obtain⟨⟨p,G2⟩,e2,e1⟩:=bind_some e1
  refine hc C w1 Γ1 σ1 H1 p G2 _ R1 e2 fun H2 R2 _=>?_
  cases p with
  | false =>
   rw[if_neg AO]at e1 ⊢
   cases e1
   exact k w1 σ1 H2 R2
  | true =>
   rw[if_pos rfl]at e1 ⊢
   obtain⟨o2,e3,e1⟩:=bind_some e1
   refine⟨fun σ' H'=>∃ w Γ,Rep K C w Γ σ' H'/\dWhile c b m Γ=some o,fun σ' H' ⟨w',Γ',R',e'⟩=>⟨m,CW _,w',Γ',R',e'⟩,?_⟩
   refine hb C w1 G2 σ1 H2 _ o2 hp R2 e3 ?_
   cases o2 with
   | nx Γ'=>exact fun w' σ' H' R'=>⟨w',Γ',R',e1⟩
   | ct Γ'=>exact fun w' σ' H' R'=>⟨w',Γ',R',e1⟩
   | bk Γ'=>cases e1; exact k
   | rt s Γ'=>cases e1; exact k
end
section
variable {K:Fg}{C:Fr}{w:W}{Γ Γ':En}{σ:St}{H H':Hp}
theorem Rep.base(R:Rep K C w Γ σ H):Rep K ⟨H,w.L,C.pins⟩ w Γ σ H :=
 ⟨R.len,R.val,R.apart,R.lst,fun p hp=>.inl hp,R.ra,R.rl,fun b o h _=>h,R.pin⟩
theorem Rep.back(R:Rep K C w Γ σ H)(hC:C1=⟨H,w.L,C.pins⟩)(R1:Rep K C1 w1 Γ1 σ1 H1):Rep K C w1 Γ1 σ1 H1:=by
 subst hC
 refine⟨R1.len,R1.val,R1.apart,R1.lst,fun p hp=>?_,R1.ra,R1.rl,fun b o h n=>R1.frame b o (R.frame b o h n) fun z=>?_,R1.pin⟩
 ·rcases R1.own p hp with z | z
  ·exact R.own p z
  ·exact (R.fresh z).2.2
 ·rcases R.own b z with q | q
  ·exact n q
  ·rw[q]at h; cases h
theorem Ow.back(R:Rep K C w Γ σ H)(hC:C1=⟨H,w.L,C.pins⟩)(h:Ow C1 p):Ow C p:=by
 subst hC
 rcases h with z | z
 ·exact R.own p z
 ·exact (R.fresh z).2.2
theorem SOk.back(R:Rep K C w Γ σ H)(hC:C1=⟨H,w.L,C.pins⟩)(o:SOk K C1 w1 σ1 H1 v s):SOk K C w1 σ1 H1 v s:=by
 cases s with
 | v t=>exact o
 | s i=>exact o
 | l xs =>
  obtain⟨p,vs,e,n1,n2,ow,h1,h2⟩:=o
  exact⟨p,vs,e,n1,n2,Ow.back R hC ow,h1,h2⟩
 | d xs =>
  obtain⟨p,vs,e,n1,n2,ow,h1,h2⟩:=o
  exact⟨p,vs,e,n1,n2,Ow.back R hC ow,h1,h2⟩
theorem Rep.freeze(R:Rep K C w Γ σ H)(hi:Γ[i]?=some (some (.l xs)))(hp:σ[i]?=some (some (.ref p)))(hn:∀ q∈C.pins,q.1≠i) :
  Rep K C ⟨w.L.filter (fun q=>decide (q≠p)),fun q=>q=p\/w.R q⟩ (Γ.set i (some (.r xs))) σ H:=by
 have hiΓ:i < Γ.length:=(Aa.mp hi).1
 obtain⟨v0,e0,q0,vs0,rfl,hq0,hv0,hi0⟩:=R.val i _ hi
 rw[hp]at e0; cases e0
 have mem:∀ {q:Addr},q∈w.L.filter (fun q=>decide (q≠p)) ↔ q∈w.L/\q≠p:=by intro q; simp
 have back:∀ (m:Nat) (g:G),isMut g=true->(Γ.set i (some (.r xs)))[m]?=some (some g)->m≠i/\Γ[m]?=some (some g):=fun m g mg h=>by
  by_cases hm:m=i
  ·subst hm; rw[As hiΓ]at h; cases h; cases mg
  ·rw[Ad (BD hm)]at h; exact⟨hm,h⟩
 refine⟨by simpa using R.len,fun j g h=>?_,fun j k c ga gb ma mb h1 h2 h3 h4=>?_,fun c hc=>R.lst c (mem.mp hc).1,fun c hc=>R.own c (mem.mp hc).1,fun c hc=>?_,fun c hc z=>?_,R.frame,fun q hq=>?_⟩
 ·by_cases hj:j=i
  ·subst hj
   rw[As hiΓ]at h
   cases h
   exact⟨_,hp,p,vs0,rfl,hi0,hv0,fun z=>(mem.mp z).2 rfl,.inl rfl⟩
  ·rw[Ad (BD hj)]at h
   obtain⟨v,e1,e2⟩:=R.val j g h
   refine⟨v,e1,?_⟩
   cases g with
   | v t=>exact e2
   | l ys =>
    obtain⟨c,us,rfl,hc,h1,h2⟩:=e2
    exact⟨c,us,rfl,mem.mpr ⟨hc,fun z=>hj (R.apart j i p _ _ rfl rfl h hi (z ▸ e1) hp)⟩,h1,h2⟩
   | d ys =>
    obtain⟨c,us,rfl,hc,h1,h2⟩:=e2
    exact⟨c,us,rfl,mem.mpr ⟨hc,fun z=>hj (R.apart j i p _ _ rfl rfl h hi (z ▸ e1) hp)⟩,h1,h2⟩
   | r ys =>
    obtain⟨c,us,rfl,h1,h2⟩:=e2
    exact⟨c,us,rfl,h1,h2.1,fun z=>h2.2.1 (mem.mp z).1,.inr h2.2.2⟩
   | e ys =>
    obtain⟨c,us,rfl,h1,h2⟩:=e2
    exact⟨c,us,rfl,h1,h2.1,fun z=>h2.2.1 (mem.mp z).1,.inr h2.2.2⟩
   | k ys=>exact e2
 ·obtain⟨_,g1⟩:=back j ga ma h1
  obtain⟨_,g2⟩:=back k gb mb h2
  exact R.apart j k c ga gb ma mb g1 g2 h3 h4
 ·rcases hc with e | e
  ·subst e; exact⟨_,hv0⟩
  ·exact R.ra c e
 ·rcases hc with e | e
  ·exact (mem.mp z).2 e
  ·exact R.rl c e (mem.mp z).1
 ·obtain⟨h1,zs,h2⟩:=R.pin q hq
  exact⟨h1,zs,by rw[Ad (BD (hn q hq))]; exact h2⟩
noncomputable def frz1 (Γ:En) (i:Nat):En:=match Γ[i]? with
 | some (some (.l xs))=>Γ.set i (some (.r xs))
 | _=>Γ
def frz (Γ:En) (src:List Nat):En:=src.foldl frz1 Γ
theorem Rep.frz:∀ (src:List Nat) {w:W} {Γ:En},Rep K C w Γ σ H->(∀ i∈src,∀ q∈C.pins,q.1≠i) ->
  ∃ w',Rep K C w' (frz Γ src) σ H/\(∀ p∈w'.L,p∈w.L)/\∀ i∈src,∀ p,σ[i]?=some (some (.ref p))->(∃ xs,Γ[i]?=some (some (.l xs)))->p∉w'.L:=by
 intro src
 induction src with
 | nil=>intro w Γ R _; exact⟨w,R,fun p h=>h,fun i hi=>nomatch hi⟩
 | cons i r ih =>
  intro w Γ R hn
  have step:∃ w1,Rep K C w1 (frz1 Γ i) σ H/\(∀ p∈w1.L,p∈w.L)/\(∀ p,σ[i]?=some (some (.ref p))->(∃ xs,Γ[i]?=some (some (.l xs)))->p∉w1.L):=by
   unfold frz1
   split
   ·rename_i xs e
    obtain⟨v,e1,p,vs,rfl,_⟩:=R.val i _ e
    refine⟨_,R.freeze e e1 (hn i AZ),fun q hq=>(Dn.mp hq).1,fun q hq _ z=>?_⟩
    rw[e1]at hq; cases hq
    have:=(Dn.mp z).2
    simp at this
   ·rename_i e
    exact⟨w,R,fun p h=>h,fun p _ ⟨xs,h⟩=>absurd h (e xs)⟩
  obtain⟨w1,R1,s1,n1⟩:=step
  obtain⟨w2,R2,s2,n2⟩:=ih R1 (fun j hj=>hn j (AR _ hj))
  refine⟨w2,R2,fun p h=>s1 p (s2 p h),fun j hj p hp hx=>?_⟩
  rcases AH.mp hj with e | e
  ·subst e; exact fun z=>n1 p hp hx (s2 p z)
  ·by_cases hji:j=i
   ·subst hji; exact fun z=>n1 p hp hx (s2 p z)
   ·refine n2 j e p hp ?_
    obtain⟨xs,hx⟩:=hx
    refine⟨xs,?_⟩
    unfold frz1
    split
    ·rw[Ad (BD hji)]; exact hx
    ·exact hx
end
abbrev DI:=En->Option ((List T×List Nat)×En)
def ItOk (K:Fg) (w:W) (Γ:En) (σ:St) (J:It) (H:Hp) (its:List T) (src:List Nat):Prop:=its.length<=AB/\∀ L',(∀ p∈L',p∈w.L)->(∀ i∈src,∀ p,σ[i]?=some (some (.ref p))->(∃ xs,Γ[i]?=some (some (.l xs)))->p∉L')->∀ H2,Evo L' H H2 ->
 (∀ (i:Nat) t,its[i]?=some t->J.go i H2/\∀ x H3,J.yld i H2 x H3->(∀ b o,H2 b=some o->H3 b=some o)/\Im K H3 x t)/\J.stop its.length H2
def SimI (K:Fg) (wi:TI) (di:DI):Prop:=∀ (C:Fr) (w:W) (Γ:En) (σ:St) (H:Hp) (its:List T) (src:List Nat) (Γ':En) (R:It->Hp->Prop),Rep K C w Γ σ H->di Γ=some ((its,src),Γ') ->
 (∀ J H',Rep K C w Γ' σ H'->Evo w.L H H'->ItOk K w Γ' σ J H' its src->R J H')->wi σ H R
def SimG (K:Fg) (ip:Option Nat) (g:TG) (tg:En->T->Option En):Prop:=∀ (C:Fr) (w:W) (Γ:En) (σ:St) (H:Hp) (v:V) (t:T) (Γ':En) (Q:St->Hp->Prop),C.pins.map (·.1)=ip.toList->Rep K C w Γ σ H->Im K H v t->tg Γ t=some Γ' ->
 (∀ σ',Rep K C w Γ' σ' H->Q σ' H)->g v σ H Q
def SimGs (K:Fg) (ip:Option Nat) (g:TGs) (tg:En->List T->Option En):Prop:=∀ (C:Fr) (w:W) (Γ:En) (σ:St) (H:Hp) (vs:List V) (ts:List T) (Γ':En) (Q:St->Hp->Prop),C.pins.map (·.1)=ip.toList->Rep K C w Γ σ H->Ims K H vs ts->tg Γ ts=some Γ' ->
 (∀ σ',Rep K C w Γ' σ' H->Q σ' H)->g vs σ H Q
noncomputable def gdName (i:Nat):En->T->Option En:=fun Γ t=>some (Γ.set i (some (.v t)))
noncomputable def gdNil:En->List T->Option En:=fun Γ ts=>match ts with
 | []=>some Γ
 | _=>none
noncomputable def gdCons (f:En->T->Option En) (g:En->List T->Option En):En->List T->Option En:=fun Γ ts=>match ts with
 | []=>none
 | t::r=>(f Γ t).bind fun Γ1=>g Γ1 r
noncomputable def gdTup (n:Nat) (g:En->List T->Option En):En->T->Option En:=fun Γ t=>match t with
 | .t ts=>if ts.length=n then g Γ ts else none
 | _=>none
section
variable {K:Fg}{ip:Option Nat}
theorem zKn(hi:ip≠some i):SimG K ip (gName i) (gdName i):=by
 intro C w Γ σ H v t Γ' Q hp R h e k
 cases e
 exact k _ (R.setv rfl h (zBf hp hi))
theorem zKz:SimGs K ip gNil gdNil:=by
 intro C w Γ σ H vs ts Γ' Q hp R h e k
 cases ts with
 | nil=>cases e; exact⟨h.inv0,k σ R⟩
 | cons t r=>cases e
theorem zI1(h1:SimG K ip g f)(h2:SimGs K ip gs fs):SimGs K ip (gCons g gs) (gdCons f fs):=by
 intro C w Γ σ H vs ts Γ' Q hp R h e k
 cases ts with
 | nil=>cases e
 | cons t r =>
  obtain⟨Γ1,e1,e2⟩:=bind_some e
  obtain⟨v,us,rfl,i1,i2⟩:=h.inv
  exact⟨v,us,rfl,h1 C w Γ σ H v t Γ1 _ hp R i1 e1 fun σ1 R1=>h2 C w Γ1 σ1 H us r Γ' Q hp R1 i2 e2 k⟩
theorem zLM(h:SimGs K ip gs fs):SimG K ip (gTup K n gs) (gdTup n fs):=by
 intro C w Γ σ H v t Γ' Q hp R hi e k
 cases t with
 | a u=>cases e
 | l u=>cases e
 | f u=>cases e
 | x u v=>cases e
 | t ts =>
  unfold gdTup at e
  dsimp only at e
  split at e
  ·rename_i hn
   obtain⟨p,us,rfl,h1,h2⟩:=hi.inv
   exact⟨p,us,rfl,h1.sq,by rw[h2.len]; exact hn,h C w Γ σ H us ts Γ' Q hp R h2 e k⟩
  ·cases e
end
noncomputable def forD (tg:En->T->Option En) (b:DS):List T->DS
 | []=>fun Γ=>some (.nx Γ)
 | t::r=>fun Γ=>(tg Γ t).bind fun Γ1=>(b Γ1).bind fun o=>match o with
  | .nx Γ'=>forD tg b r Γ'
  | .ct Γ'=>forD tg b r Γ'
  | .bk Γ'=>some (.nx Γ')
  | .rt s Γ'=>some (.rt s Γ')
def dFor (ip:Option Nat) (di:DI) (tg:En->T->Option En) (b:DS):DS:=fun Γ=>(di Γ).bind fun p=>if p.1.2.all (fun i=>decide (ip≠some i))=true then forD tg b p.1.1 (frz p.2 p.1.2) else none
theorem zLz(hi:SimI K wi di)(hg:SimG K ip g tg)(hb:SimS K ip tb b):SimS K ip (tFor wi g tb) (dFor ip di tg b):=by
 intro C w Γ σ H D o hp R e k
 obtain⟨⟨⟨its,src⟩,Γ1⟩,e1,e⟩:=bind_some e
 dsimp only at e
 split at e
 rotate_left
 ·cases e
 rename_i hsrc
 refine hi C w Γ σ H its src Γ1 _ R e1 fun J H1 R1 _ ⟨hl,hJ⟩=>?_
 have hs:∀ i∈src,∀ q∈C.pins,q.1≠i:=fun i hi'=>zBf hp (by have:=Aw.mp hsrc i hi'; simpa using this)
 obtain⟨w2,R2,sub,avoid⟩:=R1.frz src hs
 have hC:∃ C1:Fr,C1=⟨H1,w2.L,C.pins⟩:=⟨_,rfl⟩
 obtain⟨C1,hC⟩:=hC
 have R3:Rep K C1 w2 (frz Γ1 src) σ H1:=hC ▸ R2.base
 have hp1:C1.pins.map (·.1)=ip.toList:=by rw[hC]; exact hp
 refine⟨fun i m σ H=>m=its.length - i/\i<=its.length/\∃ w Γ,Rep K C1 w Γ σ H/\forD tg b (its.drop i) Γ=some o,⟨_,rfl,Ca _,w2,_,R3,e⟩,?_⟩
 rintro i m σ' H' ⟨rfl,hi',w',Γ',R',e'⟩
 have ev:Evo w2.L H1 H':=fun b o h n=>R'.frame b o (by rw[hC]; exact h) (by rw[hC]; exact n)
 obtain⟨go,stop⟩:=hJ w2.L sub avoid H' ev
 by_cases hlt:i < its.length
 ·obtain⟨t,ht⟩:∃ t,its[i]?=some t:=⟨its[i],by simp[hlt]⟩
  have hd:its.drop i=t::its.drop (i+1):=by
   obtain⟨h1,h2⟩:=Aa.mp ht
   rw[← h2]; exact ED h1
  rw[hd]at e'
  unfold forD at e'
  obtain⟨Γ2,e2,e'⟩:=bind_some e'
  obtain⟨o2,e3,e'⟩:=bind_some e'
  obtain⟨g1,g2⟩:=go i t ht
  refine .inr ⟨g1,fun σ H=>∃ w Γ,Rep K C1 w Γ σ H/\forD tg b (its.drop (i+1)) Γ=some o,fun σ2 H2 ⟨w2,Γ2,R2,e2⟩=>⟨_,by lia,rfl,hlt,w2,Γ2,R2,e2⟩,fun x H3 hx=>?_⟩
  obtain⟨k1,k2⟩:=g2 x H3 hx
  refine hg C1 w' Γ' σ' H3 x t Γ2 _ hp1 (R'.evo0 k1) k2 e2 fun σ4 R4=>?_
  refine hb C1 w' Γ2 σ4 H3 _ o2 hp1 R4 e3 ?_
  cases o2 with
  | nx Γ5=>exact fun w5 σ5 H5 R5=>⟨w5,Γ5,R5,e'⟩
  | ct Γ5=>exact fun w5 σ5 H5 R5=>⟨w5,Γ5,R5,e'⟩
  | bk Γ5=>cases e'; exact fun w5 σ5 H5 R5=>k w5 σ5 H5 (R2.back hC R5)
  | rt s Γ5=>cases e'; exact fun w5 σ5 H5 v R5 o5=>k w5 σ5 H5 v (R2.back hC R5) (o5.back R2 hC)
 ·have:i=its.length:=by lia
  subst this
  rw[IH]at e'
  cases e'
  exact .inl ⟨stop,k w' σ' H' (R2.back hC R')⟩
noncomputable def pick1 (mu:Option Nat) (k:Nat):Option G->Option G
 | some (.l xs)=>if mu=some k then some (.l xs) else some (.r xs)
 | some (.d xs)=>some (.e xs)
 | o=>o
def pick (mu:Option Nat) (ix:List (Option Nat)) (Γ:En):En:=ix.map fun o=>o.bind fun k=>pick1 mu k (Γ[k]?).join
def compD (tg:En->T->Option En) (dc:DT) (de:DE):List T->En->Option (List T×En)
 | [],Γ=>some ([],Γ)
 | t::r,Γ=>(tg Γ t).bind fun Γ1=>(dc Γ1).bind fun p=>if p.1=true then (de p.2).bind fun q=>q.1.tree.bind fun t'=>(compD tg dc de r q.2).map fun z=>(t'::z.1,z.2) else compD tg dc de r p.2
noncomputable def cback (mu:Option (Nat×Nat)) (Γ Γo:En):En:=match mu with
 | none=>Γ
 | some (j,i)=>match Γo[j]? with
  | some (some (.l xs))=>Γ.set i (some (.l xs))
  | _=>Γ
def dComp (mu:Option (Nat×Nat)) (ix:List (Option Nat)) (di:DI) (tg:En->T->Option En) (dc:DT) (de:DE):DE:=fun Γ=>(di Γ).bind fun p =>
 match mu with
 | none=>(compD tg dc de p.1.1 (pick none ix p.2)).map fun z=>(.l z.1,p.2)
 | some (j,i)=>if i∈p.1.2 then none else match p.2[i]? with
  | some (some (.l _))=>(compD tg dc de p.1.1 (pick (some i) ix p.2)).map fun z=>(.l z.1,cback mu p.2 z.2)
  | _=>none
section
variable {K:Fg}
theorem zEM
  (hp:C1.pins.map (·.1)=jp.toList) (hg:SimG K jp g tg) (hc:SimT K tc dc) (he:SimE K te de) (hl:its.length<=AB) (hC:C1.H0=H1)
  (hJ:∀ H2,Evo C1.fx H1 H2->(∀ (i:Nat) t,its[i]?=some t->J.go i H2/\∀ x H3,J.yld i H2 x H3->(∀ b o,H2 b=some o->H3 b=some o)/\Im K H3 x t)/\J.stop its.length H2)
  (hfx:∀ p,p∈w1.L->p∈C1.fx)
  (R:Rep K C1 w1 Γ0 (frm ix σ) H1) (e:compD tg dc de its Γ0=some (ts,Γe))
  (k:∀ σ' H' ys,Rep K C1 w1 Γe σ' H'->Ims K H' ys ts->ys.length<=AB->∀ D,H' D=none->Q (.ref D) (upd H' D (.lst ys))):CompW J ix g tc te σ H1 Q:=by
 refine⟨fun i m ys σ' H'=>m=its.length - i/\i<=its.length/\ys.length<=i/\∃ Γ pre post,Rep K C1 w1 Γ σ' H'/\Ims K H' ys pre/\compD tg dc de (its.drop i) Γ=some (post,Γe)/\ts=pre++post,⟨_,rfl,Ca _,Ca _,Γ0,[],ts,R,.nil,e,rfl⟩,?_⟩
 rintro i m ys σ' H' ⟨rfl,hi,hy,Γ,pre,post,R',hpre,e',rfl⟩
 have ev:Evo C1.fx H1 H':=fun b o h n=>R'.frame b o (by rw[hC]; exact h) n
 obtain⟨go,stop⟩:=hJ H' ev
 by_cases hlt:i < its.length
 ·obtain⟨t,ht⟩:∃ t,its[i]?=some t:=⟨its[i],by simp[hlt]⟩
  have hd:its.drop i=t::its.drop (i+1):=by
   obtain⟨h1,h2⟩:=Aa.mp ht
   rw[← h2]; exact ED h1
  rw[hd]at e'
  unfold compD at e'
  obtain⟨Γ1,e1,e'⟩:=bind_some e'
  obtain⟨⟨b,Γ2⟩,e2,e'⟩:=bind_some e'
  obtain⟨g1,g2⟩:=go i t ht
  refine .inr ⟨g1,by omega,fun ys' σ2 H2=>ys'.length<=i+1/\∃ Γ pre' post',Rep K C1 w1 Γ σ2 H2/\Ims K H2 ys' pre'/\compD tg dc de (its.drop (i+1)) Γ=some (post',Γe)/\pre++post=pre'++post',fun ys' σ2 H2 ⟨a,b⟩=>⟨_,by omega,rfl,hlt,a,b⟩,fun x H2 hx=>?_⟩
  obtain⟨k1,k2⟩:=g2 x H2 hx
  have ev1:Evo w1.L H' H2:=fun b o h _=>k1 b o h
  have R2:=R'.evo0 k1
  refine hg C1 w1 Γ σ' H2 x t Γ1 _ hp R2 k2 e1 fun σ3 R3=>?_
  refine hc C1 w1 Γ1 σ3 H2 b Γ2 _ R3 e2 fun H4 R4 ev4=>?_
  have hpre4:Ims K H4 ys pre:=(hpre.evo ev1 R'.lst).evo ev4 R3.lst
  cases b with
  | true =>
   rw[if_pos rfl]at e' ⊢
   obtain⟨⟨s,Γ3⟩,e3,e'⟩:=bind_some e'
   obtain⟨t',e4,e'⟩:=bind_some e'
   obtain⟨⟨ts',Γ4⟩,e5,e'⟩:=zAI e'
   cases e'
   refine he C1 w1 Γ2 σ3 H4 s Γ3 _ R4 e3 fun v H5 R5 ev5 o5 _=>?_
   cases s with
   | l _=>cases e4
   | s _=>cases e4
   | d _=>cases e4
   | v t'' =>
    cases e4
    exact⟨by simp; omega,Γ3,pre++[t'],ts',R5,(hpre4.evo ev5 R4.lst).app (.one o5),e5,by simp⟩
  | false =>
   rw[if_neg AO]at e' ⊢
   exact⟨by omega,Γ2,pre,post,R4,hpre4,e',rfl⟩
 ·have:i=its.length:=by omega
  subst this
  rw[IH]at e'
  cases e'
  rw[Do]at k
  exact .inl ⟨stop,by omega,k σ' H' ys R' hpre (by omega)⟩
theorem zC1{mu:Option Nat}{ix:List (Option Nat)}{Γ:En}{j:Nat}{g:G}(h:(pick mu ix Γ)[j]?=some (some g)):∃ k g',ix[j]?=some (some k)/\Γ[k]?=some (some g')/\pick1 mu k (some g')=some g:=by
 unfold pick at h
 rw[Ah]at h
 cases e:ix[j]? with
 | none=>rw[e]at h; cases h
 | some o =>
  rw[e]at h
  cases o with
  | none=>cases h
  | some k =>
   have h':pick1 mu k (Γ[k]?).join=some g:=Ak h
   cases e2:Γ[k]? with
   | none=>rw[e2]at h'; cases h'
   | some o2 =>
    cases o2 with
    | none=>rw[e2]at h'; cases h'
    | some g'=>rw[e2]at h'; exact⟨k,g',rfl,e2,h'⟩
theorem zEk{ix:List (Option Nat)}{σ:St}{j k:Nat}{v:V}(h:ix[j]?=some (some k))(hv:σ[k]?=some (some v)):(frm ix σ)[j]?=some (some v):=by
 unfold frm
 rw[Ah,h]
 show some ((σ[k]?).join)=_
 rw[hv]; rfl
theorem zGL{mu:Option (Nat×Nat)}{ix:List (Option Nat)}{wi:TI}{g:TG}{tc:TT}{te:TE}{di:DI}{tg:En->T->Option En}{dc:DT}{de:DE}(hi:SimI K wi di)(hg:SimG K (mu.map (·.1)) g tg)(hc:SimT K tc dc)(he:SimE K te de)
  (hmu:∀ j i,mu=some (j,i)->ix[j]?=some (some i)) (hix:∀ (j j' i:Nat),mu.map (·.2)=some i->ix[j]?=some (some i)->ix[j']?=some (some i)->j=j'):SimE K (tComp wi ix g tc te) (dComp mu ix di tg dc de):=by
 intro C w Γ σ H s Γ' Q R e k
 obtain⟨⟨⟨its,src⟩,Γ1⟩,e1,e⟩:=bind_some e
 refine hi C w Γ σ H its src Γ1 _ R e1 fun J H1 R1 ev1 ⟨hl,hJ⟩=>?_
 cases mu with
 | none =>
  obtain⟨⟨ts,Γe⟩,e2,e⟩:=zAI e
  cases e
  have Rin:Rep K ⟨H1,[],[]⟩ ⟨[],fun q=>w.R q\/q∈w.L⟩ (pick none ix Γ1) (frm ix σ) H1:=by
   refine⟨by simp[pick,frm],fun j g h=>?_,fun i j p ga gb ma mb h1 h2 h3 h4=>?_,fun p hp=>(nomatch hp),fun p hp=>(nomatch hp),fun p hp=>?_,fun p hp=>(nofun),fun b o h _=>h,fun q hq=>(nomatch hq)⟩
   ·obtain⟨k',g',a1,a2,a3⟩:=zC1 h
    obtain⟨v,b1,b2⟩:=R1.val k' g' a2
    refine⟨v,zEk a1 b1,?_⟩
    cases g' with
    | v t=>cases a3; exact b2
    | l xs =>
     have:g=.r xs:=by simpa [pick1] using a3.symm
     subst this
     obtain⟨p,vs,rfl,c1,c2,c3⟩:=b2
     exact⟨p,vs,rfl,c3,c2,nofun,.inr c1⟩
    | r xs =>
     cases a3
     obtain⟨p,vs,rfl,c1,c2⟩:=b2
     exact⟨p,vs,rfl,c1,c2.1,nofun,.inl c2.2.2⟩
    | d xs =>
     cases a3
     obtain⟨p,vs,rfl,c1,c2,c3⟩:=b2
     exact⟨p,vs,rfl,c3,c2,nofun,.inr c1⟩
    | e xs =>
     cases a3
     obtain⟨p,vs,rfl,c1,c2⟩:=b2
     exact⟨p,vs,rfl,c1,c2.1,nofun,.inl c2.2.2⟩
    | k xs=>cases a3; exact b2
   ·obtain⟨k',g',a1,a2,a3⟩:=zC1 h1
    cases g' with
    | v t=>cases a3; cases ma
    | l xs =>
     have:ga=.r xs:=by simpa [pick1] using a3.symm
     subst this; cases ma
    | r xs=>cases a3; cases ma
    | k xs=>cases a3; cases ma
    | d xs=>cases a3; cases ma
    | e xs=>cases a3; cases ma
   ·rcases hp with z | z
    ·exact R1.ra p z
    ·obtain⟨o,z,_⟩:=R1.lst p z; exact⟨o,z⟩
  refine zEM (jp:=none) (C1:=⟨H1,[],[]⟩) rfl hg hc he hl rfl (fun H2 ev=>hJ [] (fun p hp=>nomatch hp) (fun _ _ _ _ _=>nofun) H2 ev) (fun p hp=>hp) Rin e2 fun σ' H' ys R' hy hz D hD=>?_
  have R2:Rep K C w Γ1 σ H':=R1.evo0 fun b o h=>R'.frame b o h nofun
  exact k _ _ (R2.new hD) ((ev1.trans fun b o h _=>R'.frame b o h nofun).trans (Evo.new hD)) (R2.newl hD hy) ⟨_,rfl,zA4 (L:=w.L) (ev1.trans fun b o h _=>R'.frame b o h nofun) R2.lst hD⟩
 | some m =>
  obtain⟨j,i⟩:=m
  dsimp only at e
  split at e
  ·cases e
  rename_i hsrc
  split at e
  rotate_left
  ·cases e
  rename_i xs0 hx0
  obtain⟨⟨ts,Γe⟩,e2,e⟩:=zAI e
  cases e
  obtain⟨v0,s0,p,vs0,rfl,m0,h0,i0⟩:=R1.val i _ hx0
  have hij:=hmu j i rfl
  have Rin:Rep K ⟨H1,[p],[(j,p)]⟩ ⟨[p],fun q=>w.R q\/(q∈w.L/\q≠p)⟩ (pick (some i) ix Γ1) (frm ix σ) H1:=by
   refine⟨by simp[pick,frm],fun j' g h=>?_,fun i1 i2 p' ga gb ma mb h1 h2 h3 h4=>?_,fun q hq=>?_,fun q hq=>.inl hq,fun q hq=>?_,fun q hq z=>?_,fun b o h _=>h,fun q hq=>?_⟩
   ·obtain⟨k',g',a1,a2,a3⟩:=zC1 h
    obtain⟨v,b1,b2⟩:=R1.val k' g' a2
    refine⟨v,zEk a1 b1,?_⟩
    cases g' with
    | v t=>cases a3; exact b2
    | l xs =>
     obtain⟨p',vs,rfl,c1,c2,c3⟩:=b2
     by_cases hk:i=k'
     ·subst hk
      have:g=.l xs:=by simpa [pick1] using a3.symm
      subst this
      rw[s0]at b1; cases b1
      exact⟨p,vs,rfl,AE.mpr rfl,c2,c3⟩
     ·have:g=.r xs:=by simpa [pick1,hk] using a3.symm
      subst this
      have hne:p'≠p:=fun z=>hk (R1.apart i k' p _ _ rfl rfl hx0 a2 s0 (z ▸ b1))
      exact⟨p',vs,rfl,c3,c2,fun z=>hne (AE.mp z),.inr ⟨c1,hne⟩⟩
    | d xs =>
     cases a3
     obtain⟨p',o',rfl,c1,c2,c3⟩:=b2
     have hne:p'≠p:=fun z=>by
      subst z
      rw[h0]at c2; cases c2
      exact c3
     exact⟨p',o',rfl,c3,c2,fun z=>hne (AE.mp z),.inr ⟨c1,hne⟩⟩
    | r xs =>
     cases a3
     obtain⟨p',vs,rfl,c1,c2⟩:=b2
     exact⟨p',vs,rfl,c1,c2.1,fun z=>c2.2.1 (AE.mp z ▸ m0),.inl c2.2.2⟩
    | e xs =>
     cases a3
     obtain⟨p',vs,rfl,c1,c2⟩:=b2
     exact⟨p',vs,rfl,c1,c2.1,fun z=>c2.2.1 (AE.mp z ▸ m0),.inl c2.2.2⟩
    | k xs=>cases a3; exact b2
   ·have only:∀ (n:Nat) (gc:G),isMut gc=true->(pick (some i) ix Γ1)[n]?=some (some gc)->ix[n]?=some (some i):=fun n gc mc h=>by
     obtain⟨k',g',a1,a2,a3⟩:=zC1 h
     cases g' with
     | v t=>cases a3; cases mc
     | l xs =>
      by_cases hk:i=k'
      ·subst hk; exact a1
      ·have:gc=.r xs:=by simpa [pick1,hk] using a3.symm
       subst this; cases mc
     | r xs=>cases a3; cases mc
     | k xs=>cases a3; cases mc
     | d xs=>cases a3; cases mc
     | e xs=>cases a3; cases mc
    exact hix i1 i2 i rfl (only i1 ga ma h1) (only i2 gb mb h2)
   ·rw[AE.mp hq]; exact⟨_,h0,trivial⟩
   ·rcases hq with z | z
    ·exact R1.ra q z
    ·obtain⟨o,z,_⟩:=R1.lst q z.1; exact⟨o,z⟩
   ·have e:=AE.mp z
    rcases hq with z | z
    ·exact R1.rl q z (e ▸ m0)
    ·exact z.2 e
   ·rw[AE.mp hq]
    refine⟨zEk hij s0,xs0,?_⟩
    unfold pick
    rw[Ah,hij]
    show some (pick1 (some i) i (Γ1[i]?).join)=_
    rw[hx0]; simp[pick1,Option.join]
  have av:∀ i'∈src,∀ q,σ[i']?=some (some (.ref q))->(∃ xs,Γ1[i']?=some (some (.l xs)))->q∉[p]:=fun i' hi' q hq ⟨xs,hx⟩ z=>by
   rw[AE.mp z]at hq
   have:=R1.apart i i' p _ _ rfl rfl hx0 hx s0 hq
   subst this
   exact hsrc hi'
  refine zEM (jp:=some j) (C1:=⟨H1,[p],[(j,p)]⟩) rfl hg hc he hl rfl (fun H2 ev=>hJ [p] (fun q hq=>AE.mp hq ▸ m0) av H2 ev) (fun p hp=>hp) Rin e2 fun σ' H' ys R' hy hz D hD=>?_
  obtain⟨q1,xs',q2⟩:=R'.pin (j,p) (AE.mpr rfl)
  obtain⟨v',s',p',us',rfl,_,h',i'⟩:=R'.val j _ q2
  have s'':σ'[j]?=some (some (.ref p)):=q1
  rw[s'']at s'; cases s'
  have evp:Evo [p] H1 H':=fun b o h n=>R'.frame b o h n
  have R2:Rep K C w (Γ1.set i (some (.l xs'))) σ H':=(R1.put2 hx0 s0 evp h' i').1
  have eb:cback (some (j,i)) Γ1 Γe=Γ1.set i (some (.l xs')):=by unfold cback; dsimp only; rw[q2]
  rw[eb]at k
  exact k _ _ (R2.new hD) ((ev1.trans (evp.wide fun q hq=>AE.mp hq ▸ m0)).trans (Evo.new hD)) (R2.newl hD hy) ⟨_,rfl,zA4 (L:=w.L) (ev1.trans (evp.wide fun q hq=>AE.mp hq ▸ m0)) R2.lst hD⟩
end
abbrev DF:=List G->Option (G×List T)
def ROk (K:Fg) (H H':Hp) (v:V):G->Prop
 | .v t=>Im K H' v t
 | .l xs=>∃ p us,v=.ref p/\H p=none/\H' p=some (.lst us)/\Ims K H' us xs
 | .r _=>False
 | .k _=>False
 | .d kvs=>∃ p o,v=.ref p/\H p=none/\H' p=some o/\DOk K H' o kvs
 | .e _=>False
theorem zFB(h:DOk K H (.lst vs) kvs):False:=h
noncomputable def pinsG (ip:Option Nat) (vs:List V):List (Nat×Addr):=match ip with
 | none=>[]
 | some k=>match vs[k]? with
  | some (.ref p)=>[(k,p)]
  | _=>[]
def spD (K:Fg) (ip:Option Nat) (n:Nat) (F:DF):Sp:=fun vs H Q _=>vs.length=n/\∃ (w:W) (gs:List G) (r:G) (ys:List T),F gs=some (r,ys)/\Rep K ⟨H,w.L,pinsG ip vs⟩ w (gs.map some) (vs.map some) H /\
 (pinsG ip vs).map (·.1)=ip.toList/\(∀ p∈w.L,p∈(pinsG ip vs).map (·.2)) /\
 ∀ v H',Evo w.L H H'->(∀ q∈pinsG ip vs,∃ us,H' q.2=some (.lst us)/\Ims K H' us ys)->ROk K H H' v r->Q v H'
noncomputable def outl (ip:Option Nat) (Γ:En):List T:=match ip with
 | none=>[]
 | some k=>match Γ[k]? with
  | some (some (.l xs))=>xs
  | _=>[]
noncomputable def resG (ip:Option Nat) (Γ:En):S->Option G
 | .v t=>some (.v t)
 | .l xs=>some (.l xs)
 | .s i=>if ip=some i then none else match Γ[i]? with
  | some (some (.l xs))=>some (.l xs)
  | some (some (.d xs))=>some (.d xs)
  | _=>none
 | .d xs=>some (.d xs)
def fnD (ip:Option Nat) (np nN:Nat) (g:DS):DF:=fun gs=>if gs.length=np then (g (gs.map some++AN (nN - np) none)).bind fun o=>match o with
  | .nx Γ=>some (.v (.a .non),outl ip Γ)
  | .rt s Γ=>(resG ip Γ s).map fun r=>(r,outl ip Γ)
  | _=>none
 else none
section
variable {K:Fg}
theorem Rep.more(R:Rep K C w Γ σ H)(n:Nat):Rep K C w (Γ++AN n none) (σ++AN n none) H:=by
 have get:∀ {j:Nat} {g:G},(Γ++AN n none)[j]?=some (some g)->Γ[j]?=some (some g):=fun {j g} h=>by
  rcases C0 j Γ.length with z | z
  ·rw[BI z]at h; exact h
  ·rw[Cs z,Gw]at h; split at h <;> cases h
 have put:∀ {j:Nat} {o:Option V},j < σ.length->(σ++AN n none)[j]?=σ[j]?:=fun z=>BI z
 have lt:∀ {j:Nat} {g:G},Γ[j]?=some (some g)->j < σ.length:=fun h=>by rw[R.len]; exact (Aa.mp h).1
 refine⟨by simp[R.len],fun i g h=>?_,fun i j p ga gb ma mb h1 h2 h3 h4=>?_,R.lst,R.own,R.ra,R.rl,R.frame,fun q hq=>?_⟩
 ·have h':=get h
  obtain⟨v,e1,e2⟩:=R.val i g h'
  exact⟨v,by rw[put (o:=none) (lt h')]; exact e1,e2⟩
 ·have g1:=get h1
  have g2:=get h2
  rw[put (o:=none) (lt g1)]at h3
  rw[put (o:=none) (lt g2)]at h4
  exact R.apart i j p ga gb ma mb g1 g2 h3 h4
 ·obtain⟨h1,xs,h2⟩:=R.pin q hq
  exact⟨by rw[put (o:=none) (lt h2)]; exact h1,xs,by rw[BI (Aa.mp h2).1]; exact h2⟩
theorem zHR(hb:SimS K ip ts g)(h:spD K ip np (fnD ip np N.length g) vs H Q E):ts { nx:=fun _ H'=>Q .non H',rt:=Q } (L2.start N vs) H:=by
 obtain⟨hn,w,gs,r,ys,e,R,hp,hL,k⟩:=h
 unfold fnD at e
 have hg:gs.length=np:=by
  have:=R.len
  simp at this
  lia
 rw[if_pos hg]at e
 obtain⟨o,e1,e⟩:=bind_some e
 have R0:Rep K ⟨H,w.L,pinsG ip vs⟩ w (gs.map some++AN (N.length - np) none) (L2.start N vs) H:=by
  unfold L2.start
  rw[hn]
  exact R.more _
 have fin:∀ {w':W} {Γ':En} {σ':St} {H':Hp},Rep K ⟨H,w.L,pinsG ip vs⟩ w' Γ' σ' H'->outl ip Γ'=ys->∀ v,ROk K H H' v r->Q v H':=fun {w' Γ' σ' H'} R' eo v hr=>by
  refine k v H' (fun b o h n=>R'.frame b o h n) (fun q hq=>?_) hr
  obtain⟨h1,xs,h2⟩:=R'.pin q hq
  obtain⟨v',e1,p,us,rfl,_,h3,h4⟩:=R'.val q.1 _ h2
  rw[h1]at e1; cases e1
  refine⟨us,h3,?_⟩
  have hq1:q.1∈ip.toList:=hp ▸ Bh.mpr ⟨q,hq,rfl⟩
  rw[D9]at hq1
  unfold outl at eo
  rw[hq1]at eo
  dsimp only at eo
  rw[h2]at eo
  dsimp only at eo
  rw[← eo]; exact h4
 have notpin:∀ {w':W} {Γ':En} {σ':St} {H':Hp} {p:Addr},Rep K ⟨H,w.L,pinsG ip vs⟩ w' Γ' σ' H'->(∀ q∈pinsG ip vs,q.2≠p)->Ow ⟨H,w.L,pinsG ip vs⟩ p->H p=none:=fun {w' Γ' σ' H' p} R' hne ow=>by
  rcases ow with z | z
  ·obtain⟨q,hq,e⟩:=Bh.mp (hL p z)
   exact absurd e (hne q hq)
  ·exact z
 refine hb _ w _ _ H _ o hp R0 e1 ?_
 cases o with
 | nx Γ' =>
  cases e
  exact fun w' σ' H' R'=>fin R' rfl _ (by show Im K H' V.non (.a .non); exact Im.atom)
 | rt s Γ' =>
  obtain⟨r',e2,e⟩:=zAI e
  cases e
  refine fun w' σ' H' v R' o'=>fin R' rfl v ?_
  have inL:∀ q∈pinsG ip vs,q.2∈w'.L:=fun q hq=>by
   obtain⟨h1,xs,h2⟩:=R'.pin q hq
   obtain⟨v',e1,p,us,rfl,h3,_⟩:=R'.val q.1 _ h2
   rw[h1]at e1; cases e1
   exact h3
  cases s with
  | v t=>cases e2; exact o'
  | l xs =>
   cases e2
   obtain⟨p,us,rfl,n1,n2,ow,h1,h2⟩:=o'
   exact⟨p,us,rfl,notpin R' (fun q hq z=>n1 (z ▸ inL q hq)) ow,h1,h2⟩
  | d xs =>
   cases e2
   obtain⟨p,us,rfl,n1,n2,ow,h1,h2⟩:=o'
   exact⟨p,us,rfl,notpin R' (fun q hq z=>n1 (z ▸ inL q hq)) ow,h1,h2⟩
  | s i =>
   unfold resG at e2
   dsimp only at e2
   split at e2
   ·cases e2
   rename_i hi
   split at e2
   ·rename_i xs hx
    cases e2
    obtain⟨v',e3,p,us,rfl,h3,h4,h5⟩:=R'.val i _ hx
    have o'':σ'[i]?=some (some v):=o'
    rw[o'']at e3; cases e3
    refine⟨p,us,rfl,notpin R' (fun q hq z=>?_) (R'.own p h3),h4,h5⟩
    obtain⟨h1,ys',h2⟩:=R'.pin q hq
    have:=R'.apart q.1 i q.2 _ _ rfl rfl h2 hx h1 (z ▸ o'')
    have hq1:q.1∈ip.toList:=hp ▸ Bh.mpr ⟨q,hq,rfl⟩
    rw[D9]at hq1
    exact hi (by rw[hq1,this])
   ·rename_i xs hx
    cases e2
    obtain⟨v',e3,p,us,rfl,h3,h4,h5⟩:=R'.val i _ hx
    have o'':σ'[i]?=some (some v):=o'
    rw[o'']at e3; cases e3
    refine⟨p,us,rfl,notpin R' (fun q hq z=>?_) (R'.own p h3),h4,h5⟩
    obtain⟨h1,ys',h2⟩:=R'.pin q hq
    have:=R'.apart q.1 i q.2 _ _ rfl rfl h2 hx h1 (z ▸ o'')
    have hq1:q.1∈ip.toList:=hp ▸ Bh.mpr ⟨q,hq,rfl⟩
    rw[D9]at hq1
    exact hi (by rw[hq1,this])
   ·cases e2
 | bk Γ'=>cases e
 | ct Γ'=>cases e
noncomputable def argG (ip:Option Nat) (Γ:En) (k:Nat):S->Option G
 | .v t=>some (.v t)
 | .l xs=>some (if ip=some k then .l xs else .r xs)
 | .s i=>match Γ[i]? with
  | some (some (.l xs))=>some (if ip=some k then .l xs else .r xs)
  | some (some (.r xs))=>if ip=some k then none else some (.r xs)
  | some (some (.k xs))=>if ip=some k then none else some (.k xs)
  | some (some (.d xs))=>if ip=some k then none else some (.e xs)
  | some (some (.e xs))=>if ip=some k then none else some (.e xs)
  | _=>none
 | .d xs=>if ip=some k then none else some (.e xs)
def argsG (ip:Option Nat) (Γ:En):Nat->List S->Option (List G)
 | _,[]=>some []
 | k,s::r=>(argG ip Γ k s).bind fun g=>(argsG ip Γ (k+1) r).map fun gs=>g::gs
noncomputable def isSl (i:Nat):S->Bool
 | .s j=>j == i
 | _=>false
noncomputable def isTmp:S->Bool
 | .l _=>true
 | _=>false
def onceS (ip:Option Nat) (ss:List S):Bool:=match ip with
 | none=>true
 | some k=>match ss[k]? with
  | some (.s i)=>(ss.eraseIdx k).all fun s=>!isSl i s
  | some (.l _)=>(ss.eraseIdx k).all fun s=>!isTmp s
  | _=>false
noncomputable def backS (ip:Option Nat) (Γ:En) (ss:List S) (ys:List T):En:=match ip with
 | none=>Γ
 | some k=>match ss[k]? with
  | some (.s i)=>Γ.set i (some (.l ys))
  | _=>Γ
noncomputable def toS:G->S
 | .v t=>.v t
 | .l xs=>.l xs
 | .r xs=>.l xs
 | .k xs=>.l xs
 | .d xs=>.d xs
 | .e xs=>.d xs
def dCall (ip:Option Nat) (F:DF) (ds:List V) (fa:DA):DE:=fun Γ=>(fa Γ).bind fun p=>if onceS ip p.1=true then (argsG ip p.2 0 (p.1++ds.map fun v=>.v (.a v))).bind fun gs=>(F gs).map fun q=>(toS q.1,backS ip p.2 p.1 q.2) else none
theorem SOks.app:∀ {vs:List V} {ss:List S},SOks K C w σ H vs ss->∀ ds:List V,SOks K C w σ H (vs++ds) (ss++ds.map fun v=>.v (.a v))
 | [],[],_,[]=>trivial
 | [],[],_,d::ds=>⟨SOk.atom,SOks.app (vs:=[]) (ss:=[]) trivial ds⟩
 | _::_,_::_,h,ds=>⟨h.1,SOks.app h.2 ds⟩
 | [],_::_,h,_=>h.elim
 | _::_,[],h,_=>h.elim
theorem SOks.len:∀ {vs:List V} {ss:List S},SOks K C w σ H vs ss->vs.length=ss.length
 | [],[],_=>rfl
 | _::_,_::_,h=>by simp[SOks.len h.2]
 | [],_::_,h=>h.elim
 | _::_,[],h=>h.elim
theorem SOks.get:∀ {vs:List V} {ss:List S} {k:Nat} {s:S},SOks K C w σ H vs ss->ss[k]?=some s->∃ v,vs[k]?=some v/\SOk K C w σ H v s
 | [],[],_,_,_,e=>by simp at e
 | v::_,_::_,0,_,h,e=>by simp at e; subst e; exact⟨v,rfl,h.1⟩
 | _::_,_::_,k+1,_,h,e=>by simpa using SOks.get (k:=k) h.2 (by simpa using e)
 | [],_::_,_,_,h,_=>h.elim
 | _::_,[],_,_,h,_=>h.elim
theorem zFH:∀ {ss:List S} {k:Nat} {gs:List G},argsG ip Γ k ss=some gs->gs.length=ss.length
 | [],_,_,e=>by cases e; rfl
 | s::r,k,_,e=>by
  obtain⟨g,e1,e⟩:=bind_some e
  obtain⟨gs,e2,e⟩:=zAI e
  cases e
  simp[zFH e2]
theorem zBg:∀ {ss:List S} {k:Nat} {gs:List G} {j:Nat} {g:G},argsG ip Γ k ss=some gs->gs[j]?=some g->∃ s,ss[j]?=some s/\argG ip Γ (k+j) s=some g
 | [],_,_,_,_,e,h=>by cases e; simp at h
 | s::r,k,_,j,g,e,h=>by
  obtain⟨g',e1,e⟩:=bind_some e
  obtain⟨gs,e2,e⟩:=zAI e
  cases e
  cases j with
  | zero=>simp at h; subst h; exact⟨s,rfl,e1⟩
  | succ j =>
   obtain⟨s',a,b⟩:=zBg (j:=j) e2 (by simpa using h)
   exact⟨s',by simpa using a,by rw[← b]; congr 1; lia⟩
theorem zGO(hF:∀ gs r,F gs=some r->gs.length=n)(ha:SimA K ta fa):SimE K (tCall (spD K ip n F) ds E ta) (dCall ip F ds fa):=by
 intro C w Γ σ H s Γ' Q R e k
 obtain⟨⟨ss,Γ1⟩,e1,e⟩:=bind_some e
 dsimp only at e
 split at e
 rotate_left
 ·cases e
 rename_i honce
 obtain⟨gs,e2,e⟩:=bind_some e
 obtain⟨⟨r,ys⟩,e3,e⟩:=zAI e
 cases e
 refine ha C w Γ σ H ss Γ1 _ R e1 fun vs0 H1 R1 ev1 o0 n0=>?_
 have o1:=o0.app ds
 have hl0:=o0.len
 generalize hvs:vs0++ds=vs at o1 ⊢
 generalize hss:ss++(ds.map fun v=>S.v (.a v))=ss' at o1 e2
 have hl:=o1.len
 have hgl:=zFH e2
 have hn:vs.length=n:=by rw[hl,← hgl]; exact hF _ _ e3
 have resOk:∀ {H2:Hp} {v:V} {L:List Addr},Evo L H1 H2->ROk K H1 H2 v r->Rep K C w Γ1 σ H1->SOk K C w σ H2 v (toS r):=fun {H2 v L} ev hr R=>by
  cases r with
  | v t=>exact hr
  | l xs =>
   obtain⟨p,us,rfl,h1,h2,h3⟩:=hr
   obtain⟨a,b,c⟩:=R.fresh h1
   exact⟨p,us,rfl,a,b,c,h2,h3⟩
  | r xs=>exact hr.elim
  | k xs=>exact hr.elim
  | d xs =>
   obtain⟨p,us,rfl,h1,h2,h3⟩:=hr
   obtain⟨a,b,c⟩:=R.fresh h1
   exact⟨p,us,rfl,a,b,c,h2,h3⟩
  | e xs=>exact hr.elim
 have resNew:∀ {H2:Hp} {v:V},ROk K H1 H2 v r->Nw H v (toS r):=fun {H2 v} hr=>by
  cases r with
  | v t=>trivial
  | l xs =>
   obtain⟨p,us,rfl,h1,h2,h3⟩:=hr
   exact⟨p,rfl,zA4 ev1 R1.lst h1⟩
  | r xs=>exact hr.elim
  | k xs=>exact hr.elim
  | d xs =>
   obtain⟨p,us,rfl,h1,h2,h3⟩:=hr
   exact⟨p,rfl,zA4 ev1 R1.lst h1⟩
  | e xs=>exact hr.elim
 cases ip with
 | none =>
  have Rc:Rep K ⟨H1,[],[]⟩ ⟨[],fun q=>∃ o,H1 q=some o⟩ (gs.map some) (vs.map some) H1:=by
   refine⟨by simp[hl,hgl],fun j g h=>?_,fun i j p ga gb ma mb h1 h2 h3 h4=>?_,fun p hp=>(nomatch hp),fun p hp=>(nomatch hp),fun p hp=>hp,fun p hp=>nofun,fun b o h _=>h,fun q hq=>(nomatch hq)⟩
   ·rw[Ah]at h
    obtain⟨g',h',h⟩:=zAI h
    cases h
    obtain⟨s,a1,a2⟩:=zBg e2 h'
    obtain⟨v,b1,b2⟩:=o1.get a1
    refine⟨v,by rw[Ah,b1]; rfl,?_⟩
    cases s with
    | v t=>cases a2; exact b2
    | l xs =>
     simp only[argG,reduceCtorEq,if_false,Az]at a2
     subst a2
     obtain⟨p,us,rfl,n1,n2,ow,h1,h2⟩:=b2
     exact⟨p,us,rfl,h2,h1,nofun,⟨_,h1⟩⟩
    | d xs =>
     simp only[argG,reduceCtorEq,if_false,Az]at a2
     subst a2
     obtain⟨p,us,rfl,n1,n2,ow,h1,h2⟩:=b2
     exact⟨p,us,rfl,h2,h1,nofun,⟨_,h1⟩⟩
    | s i =>
     unfold argG at a2
     dsimp only at a2
     split at a2
     ·rename_i xs hx
      simp only[reduceCtorEq,if_false,Az]at a2
      subst a2
      obtain⟨v',c1,p,us,rfl,c2,c3,c4⟩:=R1.val i _ hx
      have b2':σ[i]?=some (some v):=b2
      rw[b2']at c1; cases c1
      exact⟨p,us,rfl,c4,c3,nofun,⟨_,c3⟩⟩
     ·rename_i xs hx
      simp only[reduceCtorEq,if_false,Az]at a2
      subst a2
      obtain⟨v',c1,p,us,rfl,c2,c3⟩:=R1.val i _ hx
      have b2':σ[i]?=some (some v):=b2
      rw[b2']at c1; cases c1
      exact⟨p,us,rfl,c2,c3.1,nofun,R1.ra p c3.2.2⟩
     ·rename_i xs hx
      simp only[reduceCtorEq,if_false,Az]at a2
      subst a2
      obtain⟨v',c1,c2⟩:=R1.val i _ hx
      have b2':σ[i]?=some (some v):=b2
      rw[b2']at c1; cases c1
      exact c2
     ·rename_i xs hx
      simp only[reduceCtorEq,if_false,Az]at a2
      subst a2
      obtain⟨v',c1,p,us,rfl,c2,c3,c4⟩:=R1.val i _ hx
      have b2':σ[i]?=some (some v):=b2
      rw[b2']at c1; cases c1
      exact⟨p,us,rfl,c4,c3,nofun,⟨_,c3⟩⟩
     ·rename_i xs hx
      simp only[reduceCtorEq,if_false,Az]at a2
      subst a2
      obtain⟨v',c1,p,us,rfl,c2,c3⟩:=R1.val i _ hx
      have b2':σ[i]?=some (some v):=b2
      rw[b2']at c1; cases c1
      exact⟨p,us,rfl,c2,c3.1,nofun,R1.ra p c3.2.2⟩
     ·cases a2
   ·rw[Ah]at h1
    obtain⟨g',h',h⟩:=zAI h1
    cases h
    obtain⟨s,a1,a2⟩:=zBg e2 h'
    cases s with
    | v t=>cases a2; cases ma
    | l xs=>simp[argG]at a2; subst a2; cases ma
    | d xs=>simp[argG]at a2; subst a2; cases ma
    | s i =>
     unfold argG at a2
     dsimp only at a2
     split at a2 <;> simp at a2 <;> (subst a2; cases ma)
  refine⟨hn,⟨[],fun q=>∃ o,H1 q=some o⟩,gs,r,ys,e3,Rc,rfl,(fun p hp=>nomatch hp),fun v H2 ev _ hr=>?_⟩
  have R2:Rep K C w Γ1 σ H2:=R1.evo0 fun b o h=>ev b o h nofun
  exact k v H2 R2 (ev1.trans fun b o h _=>ev b o h nofun) (resOk ev hr R1) (resNew hr)
 | some kk =>
  have hkk:∃ s,ss[kk]?=some s:=by
   unfold onceS at honce
   dsimp only at honce
   cases z:ss[kk]? with
   | none=>rw[z]at honce; cases honce
   | some s=>exact⟨s,rfl⟩
  obtain⟨sk,hsk⟩:=hkk
  have hkl:kk < ss.length:=(Aa.mp hsk).1
  have hsk':ss'[kk]?=some sk:=by rw[← hss,BI hkl]; exact hsk
  obtain⟨vk,hvk,ok⟩:=o1.get hsk'
  have at_k:∃ p us xs,vk=.ref p/\H1 p=some (.lst us)/\Ims K H1 us xs/\argG (some kk) Γ1 kk sk=some (.l xs)/\((∃ i,sk=.s i/\Γ1[i]?=some (some (.l xs))/\σ[i]?=some (some (.ref p))/\p∈w.L)\/(sk=.l xs/\p∉w.L/\¬ w.R p/\Ow C p)):=by
   obtain⟨gk,hgk⟩:∃ g,gs[kk]?=some g:=⟨gs[kk]'(by rw[hgl,← hss]; simp; lia),by simp⟩
   obtain⟨s,a1,a2⟩:=zBg e2 hgk
   rw[hsk']at a1; cases a1
   rw[G9]at a2
   cases sk with
   | v t=>unfold onceS at honce; dsimp only at honce; rw[hsk]at honce; cases honce
   | l xs =>
    obtain⟨p,us,rfl,n1,n2,ow,h1,h2⟩:=ok
    exact⟨p,us,xs,rfl,h1,h2,by simp[argG],.inr ⟨rfl,n1,n2,ow⟩⟩
   | s i =>
    unfold argG at a2
    dsimp only at a2
    have ok':σ[i]?=some (some vk):=ok
    split at a2
    ·rename_i xs hx
     obtain⟨v',c1,p,us,rfl,c2,c3,c4⟩:=R1.val i _ hx
     rw[ok']at c1; cases c1
     exact⟨p,us,xs,rfl,c3,c4,by simp[argG,hx],.inl ⟨i,rfl,hx,ok',c2⟩⟩
    ·rw[if_pos rfl]at a2; cases a2
    ·rw[if_pos rfl]at a2; cases a2
    ·rw[if_pos rfl]at a2; cases a2
    ·rw[if_pos rfl]at a2; cases a2
    ·cases a2
   | d xs=>unfold onceS at honce; dsimp only at honce; rw[hsk]at honce; cases honce
  obtain⟨p,us,xs,rfl,hpu,hus,hag,hsort⟩:=at_k
  have other:∀ (j:Nat) s,j≠kk->ss'[j]?=some s->(∀ i xs',s=.s i->Γ1[i]?=some (some (.l xs'))->σ[i]?≠some (some (.ref p)))/\(∀ xs' q,s=.l xs'->SOk K C w σ H1 (.ref q) s->q≠p):=fun j s hj hs=>by
   rcases hsort with ⟨i0,rfl,g0,s0,m0⟩ | ⟨rfl,n1,n2,ow⟩
   ·refine⟨fun i xs' e hx z=>?_,fun xs' q e h z=>?_⟩
    ·subst e
     have:=R1.apart i0 i p _ _ rfl rfl g0 hx s0 z
     subst this
     have hjl:j < ss.length:=by
      rcases C0 j ss.length with z | z
      ·exact z
      ·rw[← hss,Cs z,Ah]at hs
       obtain⟨d,_,hs⟩:=zAI hs
       cases hs
     rw[← hss,BI hjl]at hs
     unfold onceS at honce
     dsimp only at honce
     rw[hsk]at honce
     have:=Aw.mp honce (.s i0) (Fz.mpr ⟨j,hj,hs⟩)
     simp[isSl]at this
    ·subst e
     obtain⟨q',us'',e,n1,_⟩:=h
     cases e
     exact n1 (z ▸ m0)
   ·refine⟨fun i xs' e hx z=>?_,fun xs' q e h z=>?_⟩
    ·obtain⟨v',c1,p',us2,rfl,c2,_⟩:=R1.val i _ hx
     rw[z]at c1; cases c1
     exact n1 c2
    ·subst e
     have hjl:j < ss.length:=by
      rcases C0 j ss.length with z | z
      ·exact z
      ·rw[← hss,Cs z,Ah]at hs
       obtain⟨d,_,hs⟩:=zAI hs
       cases hs
     rw[← hss,BI hjl]at hs
     unfold onceS at honce
     dsimp only at honce
     rw[hsk]at honce
     have:=Aw.mp honce _ (Fz.mpr ⟨j,hj,hs⟩)
     simp[isTmp]at this
  have hpins:pinsG (some kk) vs=[(kk,p)]:=by unfold pinsG; dsimp only; rw[hvk]
  have Rc:Rep K ⟨H1,[p],[(kk,p)]⟩ ⟨[p],fun q=>(∃ o,H1 q=some o)/\q≠p⟩ (gs.map some) (vs.map some) H1:=by
   have get:∀ {j:Nat} {g:G},(gs.map some)[j]?=some (some g)->∃ s,ss'[j]?=some s/\argG (some kk) Γ1 j s=some g:=fun {j g} h=>by
    rw[Ah]at h
    obtain⟨g',h',h⟩:=zAI h
    cases h
    obtain⟨s,a1,a2⟩:=zBg e2 h'
    exact⟨s,a1,by rw[G9]at a2; exact a2⟩
   have only:∀ {j:Nat} {gc:G},isMut gc=true->(gs.map some)[j]?=some (some gc)->j=kk:=fun {j gc} mc h=>by
    obtain⟨s,a1,a2⟩:=get h
    by_cases hj:kk=j
    ·exact hj.symm
    ·cases s with
     | v t=>cases a2; cases mc
     | l xs=>simp[argG,hj]at a2; subst a2; cases mc
     | d xs=>simp[argG,hj]at a2; subst a2; cases mc
     | s i =>
      unfold argG at a2
      dsimp only at a2
      split at a2 <;> simp[hj]at a2 <;> (subst a2; cases mc)
   refine⟨by simp[hl,hgl],fun j g h=>?_,fun i j p' ga gb ma mb h1 h2 h3 h4=>(only ma h1).trans (only mb h2).symm,fun q hq=>?_,fun q hq=>.inl hq,fun q hq=>hq.1,fun q hq z=>hq.2 (AE.mp z),fun b o h _=>h,fun q hq=>?_⟩
   ·obtain⟨s,a1,a2⟩:=get h
    obtain⟨v,b1,b2⟩:=o1.get a1
    refine⟨v,by rw[Ah,b1]; rfl,?_⟩
    by_cases hj:j=kk
    ·subst hj
     rw[hsk']at a1; cases a1
     rw[hag]at a2; cases a2
     rw[hvk]at b1; cases b1
     exact⟨p,us,rfl,AE.mpr rfl,hpu,hus⟩
    ·have hj':¬ kk=j:=fun z=>hj z.symm
     obtain⟨x1,x2⟩:=other j s hj a1
     cases s with
     | v t=>cases a2; exact b2
     | l xs' =>
      simp only[argG,Az,hj',if_false]at a2
      subst a2
      have b3:=b2
      obtain⟨q,us',rfl,n1,n2,ow,h1,h2⟩:=b2
      have hne:q≠p:=x2 xs' q rfl b3
      exact⟨q,us',rfl,h2,h1,fun z=>hne (AE.mp z),⟨_,h1⟩,hne⟩
     | s i =>
      have b2':σ[i]?=some (some v):=b2
      unfold argG at a2
      dsimp only at a2
      split at a2
      ·rename_i xs' hx
       simp only[Az,hj',if_false]at a2
       subst a2
       obtain⟨v',c1,q,us',rfl,c2,c3,c4⟩:=R1.val i _ hx
       rw[b2']at c1; cases c1
       have hne:q≠p:=fun z=>x1 i xs' rfl hx (z ▸ b2')
       exact⟨q,us',rfl,c4,c3,fun z=>hne (AE.mp z),⟨_,c3⟩,hne⟩
      ·rename_i xs' hx
       simp only[Az,hj',if_false]at a2
       subst a2
       obtain⟨v',c1,q,us',rfl,c2,c3⟩:=R1.val i _ hx
       rw[b2']at c1; cases c1
       have hne:q≠p:=fun z=>by
        subst z
        rcases hsort with ⟨_,_,_,_,m0⟩ | ⟨_,n1,n2,ow⟩
        ·exact c3.2.1 m0
        ·exact n2 c3.2.2
       exact⟨q,us',rfl,c2,c3.1,fun z=>hne (AE.mp z),R1.ra q c3.2.2,hne⟩
      ·rename_i xs' hx
       simp only[Az,hj',if_false]at a2
       subst a2
       obtain⟨v',c1,c2⟩:=R1.val i _ hx
       rw[b2']at c1; cases c1
       exact c2
      ·rename_i xs' hx
       simp only[Az,hj',if_false]at a2
       subst a2
       obtain⟨v',c1,q,us',rfl,c2,c3,c4⟩:=R1.val i _ hx
       rw[b2']at c1; cases c1
       have hne:q≠p:=fun z=>by subst z; rw[hpu]at c3; cases c3; exact zFB c4
       exact⟨q,us',rfl,c4,c3,fun z=>hne (AE.mp z),⟨_,c3⟩,hne⟩
      ·rename_i xs' hx
       simp only[Az,hj',if_false]at a2
       subst a2
       obtain⟨v',c1,q,us',rfl,c2,c3⟩:=R1.val i _ hx
       rw[b2']at c1; cases c1
       have hne:q≠p:=fun z=>by subst z; have c4:=c3.1; rw[hpu]at c4; cases c4; exact zFB c2
       exact⟨q,us',rfl,c2,c3.1,fun z=>hne (AE.mp z),R1.ra q c3.2.2,hne⟩
      ·cases a2
     | d xs' =>
      simp only[argG,Az,hj',if_false]at a2
      subst a2
      obtain⟨q,us',rfl,n1,n2,ow,h1,h2⟩:=b2
      have hne:q≠p:=fun z=>by subst z; rw[hpu]at h1; cases h1; exact zFB h2
      exact⟨q,us',rfl,h2,h1,fun z=>hne (AE.mp z),⟨_,h1⟩,hne⟩
   ·rw[AE.mp hq]; exact⟨_,hpu,trivial⟩
   ·rw[AE.mp hq]
    refine⟨by rw[Ah,hvk]; rfl,xs,?_⟩
    obtain⟨gk,hgk⟩:∃ g,gs[kk]?=some g:=⟨gs[kk]'(by rw[hgl,← hss]; simp; lia),by simp⟩
    obtain⟨s,a1,a2⟩:=zBg e2 hgk
    rw[hsk']at a1; cases a1
    rw[G9,hag]at a2; cases a2
    rw[Ah,hgk]; rfl
  refine⟨hn,⟨[p],fun q=>(∃ o,H1 q=some o)/\q≠p⟩,gs,r,ys,e3,by rw[hpins]; exact Rc,by rw[hpins]; rfl,by rw[hpins]; exact fun q hq=>hq,fun v H2 ev hch hr=>?_⟩
  rw[hpins]at hch
  obtain⟨us2,hp2,hu2⟩:=hch (kk,p) (AE.mpr rfl)
  rcases hsort with ⟨i0,rfl,g0,s0,m0⟩ | ⟨rfl,n1,n2,ow⟩
  ·obtain⟨R2,ev2⟩:=R1.put2 g0 s0 ev hp2 hu2
   have hb:backS (some kk) Γ1 ss ys=Γ1.set i0 (some (.l ys)):=by unfold backS; dsimp only; rw[hsk]
   dsimp only at k
   rw[hb]at k
   exact k v H2 R2 (ev1.trans ev2) (resOk ev hr R1) (resNew hr)
  ·have hb:backS (some kk) Γ1 ss ys=Γ1:=by unfold backS; dsimp only; rw[hsk]
   dsimp only at k
   rw[hb]at k
   have R2:=R1.temp n1 n2 ow ⟨_,hpu,trivial⟩ ev
   refine k v H2 R2 (fun b o h n=>?_) (resOk ev hr R1) (resNew hr)
   by_cases z:b=p
   ·subst z
    have hv0:vs0[kk]?=some (.ref b):=by
     rw[← hvs,BI (by rw[hl0]; exact hkl)]at hvk; exact hvk
    obtain⟨p',e',hn'⟩:=n0.get hv0 hsk
    cases e'
    rw[hn']at h; cases h
   ·exact ev b o (ev1 b o h n) fun q=>z (AE.mp q)
end
noncomputable def lsOf (Γ:En):S->Option (List T)
 | .l xs=>some xs
 | .s i=>match Γ[i]? with
  | some (some (.l xs))=>some xs
  | some (some (.r xs))=>some xs
  | _=>none
 | .v _=>none
 | .d _=>none
noncomputable def sqlOf (Γ:En):S->Option (List T)
 | .l xs=>some xs
 | .s i=>match Γ[i]? with
  | some (some (.l xs))=>some xs
  | some (some (.r xs))=>some xs
  | some (some (.k xs))=>some xs
  | _=>none
 | .v (.l xs)=>some xs
 | .v _=>none
 | .d _=>none
section
variable {K:Fg}{C:Fr}{w:W}{Γ:En}{σ:St}{H:Hp}
theorem zFp(R:Rep K C w Γ σ H)(o:SOk K C w σ H x s)(e:lsOf Γ s=some xs):∃ p vs,x=.ref p/\H p=some (.lst vs)/\Ims K H vs xs:=by
 cases s with
 | v t=>cases e
 | d _=>cases e
 | l ys=>cases e; obtain⟨p,vs,rfl,_,_,_,h1,h2⟩:=o; exact⟨p,vs,rfl,h1,h2⟩
 | s i =>
  have o':σ[i]?=some (some x):=o
  unfold lsOf at e
  dsimp only at e
  split at e
  ·rename_i ys h
   cases e
   obtain⟨v,e1,p,vs,rfl,_,h1,h2⟩:=R.val i _ h
   rw[o']at e1; cases e1
   exact⟨p,vs,rfl,h1,h2⟩
  ·rename_i ys h
   cases e
   obtain⟨v,e1,p,vs,rfl,h1,h2,_⟩:=R.val i _ h
   rw[o']at e1; cases e1
   exact⟨p,vs,rfl,h2,h1⟩
  ·cases e
theorem zBa(R:Rep K C w Γ σ H)(o:SOk K C w σ H x s)(e:sqlOf Γ s=some xs):∃ p vs,x=.ref p/\SqL K H p vs/\Ims K H vs xs:=by
 cases s with
 | v t =>
  cases t with
  | l ys =>
   cases e
   obtain⟨p,vs,rfl,h1,h2⟩:=(show Im K H x (.l xs) from o).invl
   exact⟨p,vs,rfl,h1.sq,h2⟩
  | a _=>cases e
  | t _=>cases e
  | f _=>cases e
  | x _ _=>cases e
 | d _=>cases e
 | l ys=>cases e; obtain⟨p,vs,rfl,_,_,_,h1,h2⟩:=o; exact⟨p,vs,rfl,SqL.of h1,h2⟩
 | s i =>
  have o':σ[i]?=some (some x):=o
  unfold sqlOf at e
  dsimp only at e
  split at e
  ·rename_i ys h
   cases e
   obtain⟨v,e1,p,vs,rfl,_,h1,h2⟩:=R.val i _ h
   rw[o']at e1; cases e1
   exact⟨p,vs,rfl,SqL.of h1,h2⟩
  ·rename_i ys h
   cases e
   obtain⟨v,e1,p,vs,rfl,h1,h2,_⟩:=R.val i _ h
   rw[o']at e1; cases e1
   exact⟨p,vs,rfl,SqL.of h2,h1⟩
  ·rename_i ys h
   cases e
   obtain⟨v,e1,p,vs,rfl,h1,h2⟩:=R.val i _ h
   rw[o']at e1; cases e1
   exact⟨p,vs,rfl,h2.sq,h1⟩
  ·cases e
end
noncomputable def iS:S->Option Int
 | .v (.a (.int i))=>some i
 | _=>none
noncomputable def mkI (i:Int):S:=.v (.a (.int i))
noncomputable def mkB (b:Bool):S:=.v (.a (.bl b))
section
variable {K:Fg}{C:Fr}{w:W}{Γ:En}{σ:St}{H:Hp}
theorem zCB(o:SOk K C w σ H x s)(e:iS s=some i):x=.int i:=by
 unfold iS at e
 split at e
 ·cases e; exact o.inva
 ·cases e
end
noncomputable def inR (b:Nat):Int->Bool
 | .ofNat n=>Ep n b
 | .negSucc n=>Ep n b
theorem zDi:inR b i=true ↔ -((b:Int)+1)<=i/\i<=b:=by
 cases i with
 | ofNat n =>
  simp only[inR,KR,Int.ofNat_eq_natCast]
  omega
 | negSucc n =>
  simp only[inR,KR,Int.negSucc_eq]
  omega
theorem inR62(h:inR 4611686018427387903 i=true):-(2 ^ 62)<=i/\i < 2 ^ 62:=by have:=zDi.mp h; omega
theorem inR63(h:inR 9223372036854775807 i=true):-(2 ^ 63)<=i/\i < 2 ^ 63:=by have:=zDi.mp h; lia
theorem zCe(h:n<=b):inR b (n:Int)=true:=zDi.mpr ⟨by lia,by lia⟩
def opII (g:Int->Int->V):En->S->S->Option S:=fun _ a b=>(iS a).bind fun i=>(iS b).bind fun j=>some (.v (.a (g i j)))
def opIIc (c:Int->Int->Prop) [∀ i j,Decidable (c i j)] (g:Int->Int->V):En->S->S->Option S:=fun _ a b=>(iS a).bind fun i=>(iS b).bind fun j=>if c i j then some (.v (.a (g i j))) else none
theorem zB9:SimR2 K (rI0 g) (opII g):=by
 intro C w Γ σ H x y a b s Q R ox oy e k
 obtain⟨i,e1,e⟩:=bind_some e
 obtain⟨j,e2,e⟩:=bind_some e
 cases e
 exact⟨i,j,zCB ox e1,zCB oy e2,k _ H R .refl SOk.atom trivial⟩
theorem zCv [∀ i j,Decidable (c i j)]:SimR2 K (rI c g) (opIIc c g):=by
 intro C w Γ σ H x y a b s Q R ox oy e k
 obtain⟨i,e1,e⟩:=bind_some e
 obtain⟨j,e2,e⟩:=bind_some e
 split at e
 ·rename_i hc
  cases e
  exact⟨i,j,zCB ox e1,zCB oy e2,hc,k _ H R .refl SOk.atom trivial⟩
 ·cases e
theorem zN4:((inR 18446744073709551615 i && inR 18446744073709551615 (-i)) || (inR 18446744073709551615 j && inR 18446744073709551615 (-j)))=true ↔ CMul i j:=by
 unfold CMul
 simp only[El,AW,zDi]
 omega
noncomputable instance (i j:Int):Decidable (CMul i j):=decidable_of_iff _ zN4
noncomputable instance (i j:Int):Decidable (CDiv i j):=by unfold CDiv; infer_instance
noncomputable instance (i j:Int):Decidable (CPow i j):=by unfold CPow; infer_instance
theorem SimR2.or(a:SimR2 K r h)(b:SimR2 K r' h'):SimR2 K (fun x y H Q=>r x y H Q\/r' x y H Q) (fun Γ x y=>(h Γ x y).or (h' Γ x y)):=by
 intro C w Γ σ H x y s1 s2 s Q R ox oy e k
 dsimp only at e
 cases q:h Γ s1 s2 with
 | some z =>
  rw[q,II]at e
  cases e
  exact .inl (a C w Γ σ H x y s1 s2 _ Q R ox oy q k)
 | none =>
  rw[q,BZ]at e
  exact .inr (b C w Γ σ H x y s1 s2 _ Q R ox oy e k)
def addStr:En->S->S->Option S:=fun _ a b=>match a,b with
 | .v (.a (.str x)),.v (.a (.str y))=>gd (x.length+y.length) (.v (.a (.str (x++y))))
 | _,_=>none
noncomputable def rAddStr:R2:=fun x y H Q=>∃ i j,x=.str i/\y=.str j/\i.length+j.length<=AB/\Q (.str (i++j)) H
theorem zGQ:SimR2 K rAddStr addStr:=by
 intro C w Γ σ H x y a b s Q R ox oy e k
 unfold addStr at e
 split at e
 ·obtain⟨h,e⟩:=zBP e
  cases e
  exact⟨_,_,ox.inva,oy.inva,h,k _ H R .refl SOk.atom trivial⟩
 ·cases e
noncomputable def rCatS (K:Fg):R2:=fun x y H Q=>∃ a b xs ys,x=.ref a/\y=.ref b/\Tp K H a xs/\Tp K H b ys/\xs.length+ys.length<=AB/\∀ p H',Same H H'->Tp K H' p (xs++ys)->Q (.ref p) H'
open PySem.Spec PyProof.Rows in
theorem zMS:OpR X (CA .Add) (rCatS X.K):=by
 intro pins s σ H x y v u Q I rx ry h
 obtain⟨a,b,xs,ys,rfl,rfl,ha,hb,hz,q⟩:=h
 cases rx
 cases ry
 obtain⟨its,r1,t1,z1⟩:=I.tuple ha.sq
 obtain⟨its2,r2,t2,z2⟩:=I.tuple hb.sq
 by_cases hx:xs=[]
 ·subst hx
  have e:its=[]:=by have:=r1.length; simpa using this.symm
  subst e
  obtain⟨⟨cls,dd,data,sl⟩,ho,hc,n,hd⟩:=id t1
  obtain⟨⟨cls2,dd2,data2,sl2⟩,ho2,hc2,n2,hd2⟩:=id t2
  simp only at hc hd hc2 hd2
  subst hc hd hc2 hd2
  refine Hn ⟨_,ho,rfl⟩ ⟨_,ho2,rfl⟩ Gf HS EM EF (D7 _ _)
   (tuple_addW0 a b _ its2.toArray n n2 dd dd2 sl sl2 (by simp)) ⟨ho,ho2,?_⟩
  exact⟨.ref b,H,I,rfl,q b H (Same.refl H) (by simpa using hb)⟩
 ·have hne:its≠[]:=fun e=>hx (by have:=r1.length; rw[e]at this; simpa using this)
  refine HT.cat_tup t1 t2 hne (fun e=>?_) (fun e=>?_) (by rw[← r1.length,← r2.length]; exact hz)
  ·have ey:ys=[]:=by have:=r2.length; rw[e]at this; simpa using this
   subst ey
   exact⟨.ref a,H,I,rfl,q a H (Same.refl H) (by simpa using ha)⟩
  ·have hf:H s.heap.objs.size=none:=I.hok.fresh (AF _)
   refine⟨.ref s.heap.objs.size,_,I.laid (t':=s.toks) (fun b o e=>AC _ e) (AF _) (show ObjOk X.prog X.w _ _ _ (.tup (xs++ys)) from ⟨by simpa using hz,its++its2,r1.append r2,TupD.new _ _⟩),rfl,q _ _ (Same.upd hf) (.inl zAj)⟩
def addTup:En->S->S->Option S:=fun _ a b=>match a,b with
 | .v (.t xs),.v (.t ys)=>gd (xs.length+ys.length) (.v (.t (xs++ys)))
 | _,_=>none
theorem zGd:SimR2 K (rCatS K) addTup:=by
 intro C w Γ σ H x y a b s Q R ox oy e k
 unfold addTup at e
 split at e
 ·obtain⟨h,e⟩:=zBP e
  cases e
  obtain⟨p,vs,rfl,h1,i1⟩:=ox.invt
  obtain⟨q,us,rfl,h2,i2⟩:=oy.invt
  refine⟨p,q,vs,us,rfl,rfl,h1,h2,by rw[i1.len,i2.len]; exact h,fun c H' sm hc=>k _ H' (R.same sm) (.of_same sm) ?_ trivial⟩
  have ev:Evo w.L H H':=.of_same sm
  show Im K H' (.ref c) (.t _)
  unfold Im
  exact⟨c,_,rfl,hc,(i1.evo ev R.lst).app (i2.evo ev R.lst)⟩
 ·cases e
def addLst:En->S->S->Option S:=fun Γ a b=>(lsOf Γ a).bind fun xs=>(lsOf Γ b).bind fun ys=>gd (xs.length+ys.length) (.l (xs++ys))
theorem zGY:SimR2 K rCat addLst:=by
 intro C w Γ σ H x y a b s Q R ox oy e k
 obtain⟨xs,e1,e⟩:=bind_some e
 obtain⟨ys,e2,e⟩:=bind_some e
 obtain⟨h,e⟩:=zBP e
 cases e
 obtain⟨p,vs,rfl,h1,i1⟩:=zFp R ox e1
 obtain⟨q,us,rfl,h2,i2⟩:=zFp R oy e2
 exact⟨p,q,vs,us,rfl,rfl,h1,h2,by rw[i1.len,i2.len]; exact h,fun c hc=>k _ _ (R.new hc) (Evo.new hc) (R.newl hc (i1.app i2)) ⟨c,rfl,hc⟩⟩
def addS:En->S->S->Option S:=fun Γ x y=>((opII fun i j=>.int (i+j)) Γ x y).or ((addTup Γ x y).or ((addLst Γ x y).or (addStr Γ x y)))
def rAddS (K:Fg):R2:=fun x y H Q=>rI0 (fun i j=>.int (i+j)) x y H Q\/rCatS K x y H Q\/rCat x y H Q\/rAddStr x y H Q
theorem zJb:SimR2 K (rAddS K) addS:=zB9.or (zGd.or (zGY.or zGQ))
theorem zMb:OpR X (CA .Add) (rAddS X.K):=zOV.or (zMS.or (zOM.or zH9))
def fitM (n:Nat) (k:Int):Bool:=inR 9223372036854775807 k && Ep (n * k.toNat) AB
def mulLst:En->S->S->Option S:=fun Γ a b=>(lsOf Γ a).bind fun xs=>(iS b).bind fun k=>if fitM xs.length k=true then some (.l (AN k.toNat xs).flatten) else none
theorem Ims.rep(h:Ims K H vs ts):∀ n:Nat,Ims K H (AN n vs).flatten (AN n ts).flatten
 | 0=>.nil
 | n+1=>by rw[BW,BW,Ck,Ck]; exact h.app (h.rep n)
theorem zF5:SimR2 K rRep mulLst:=by
 intro C w Γ σ H x y a b s Q R ox oy e k
 obtain⟨xs,e1,e⟩:=bind_some e
 obtain⟨n,e2,e⟩:=bind_some e
 split at e
 ·rename_i h
  cases e
  unfold fitM at h
  rw[AW]at h
  have h0:=inR63 h.1
  have h3:=E4 h.2
  obtain⟨p,vs,rfl,h1,i1⟩:=zFp R ox e1
  exact⟨p,n,vs,rfl,zCB oy e2,h1,h0.1,h0.2,by rw[i1.len]; exact h3,fun c hc=>k _ _ (R.new hc) (Evo.new hc) (R.newl hc (i1.rep _)) ⟨c,rfl,hc⟩⟩
 ·cases e
def mulS:En->S->S->Option S:=fun Γ x y=>(opIIc CMul (fun i j=>.int (i * j)) Γ x y).or (mulLst Γ x y)
def rMulS:R2:=fun x y H Q=>rI CMul (fun i j=>.int (i * j)) x y H Q\/rRep x y H Q
theorem zFO:SimR2 K rMulS mulS:=zCv.or zF5
theorem zHl:OpR X (CA .Mult) rMulS:=zOn.or zOQ
def modS:En->S->S->Option S:=opIIc (fun _ j=>0 < j) fun i j=>.int (i % j)
def fdivS:En->S->S->Option S:=opIIc CDiv fun i j=>.int (i / j)
def powS:En->S->S->Option S:=opIIc CPow fun i j=>.int (i ^ j.toNat)
def subS:En->S->S->Option S:=opII fun i j=>.int (i - j)
def ltS:En->S->S->Option S:=opII fun i j=>.bl (decide (i < j))
def gtS:En->S->S->Option S:=opII fun i j=>.bl (decide (j < i))
def geS:En->S->S->Option S:=opII fun i j=>.bl (decide (j<=i))
def negS:En->S->Option S:=fun _ a=>(iS a).map fun i=>mkI (-i)
theorem zKe:SimR1 K (rU fun i=>.int (-i)) negS:=by
 intro C w Γ σ H x a s Q R ox e k
 obtain⟨i,e1,e⟩:=zAI e
 cases e
 exact⟨i,zCB ox e1,k _ H R .refl SOk.atom trivial⟩
def ixS:En->S->S->Option S:=fun Γ a b=>(iS b).bind fun i=>match a with
 | .v (.t xs)=>(atI xs i).map .v
 | .v (.a (.str z))=>if z.length<=AB then (atI z.cps.toList i).map fun c=>.v (.a (.str ⟨#[c]⟩)) else none
 | a=>(sqlOf Γ a).bind fun xs=>(atI xs i).map .v
theorem zHP(h:Ims K H vs ts)(e:atI ts i=some t):∃ v,atI vs i=some v/\Im K H v t:=by
 unfold atI at e ⊢
 rw[h.len]
 obtain⟨j,e1,e⟩:=bind_some e
 obtain⟨v,e2,hv⟩:=h.get e
 exact⟨v,by rw[e1]; exact e2,hv⟩
theorem zLm:SimR2 K (rIx K) ixS:=by
 intro C w Γ σ H x y a b s Q R ox oy e k
 obtain⟨i,e1,e⟩:=bind_some e
 have hy:=zCB oy e1
 split at e
 ·rename_i xs
  obtain⟨t,e2,e⟩:=zAI e
  cases e
  obtain⟨p,vs,rfl,h1,i1⟩:=ox.invt
  obtain⟨v,e3,hv⟩:=zHP i1 e2
  exact .inr (.inl ⟨p,vs,i,v,rfl,hy,h1.sq,e3,k v H R .refl hv trivial⟩)
 ·rename_i z
  split at e
  ·rename_i hz
   obtain⟨c,e2,e⟩:=zAI e
   cases e
   exact .inr (.inr ⟨_,i,c,ox.inva,hy,hz,e2,k _ H R .refl SOk.atom trivial⟩)
  ·cases e
 ·obtain⟨xs,e2,e⟩:=bind_some e
  obtain⟨t,e3,e⟩:=zAI e
  cases e
  obtain⟨p,vs,rfl,h1,i1⟩:=zBa R ox e2
  obtain⟨v,e4,hv⟩:=zHP i1 e3
  exact .inl ⟨p,vs,i,v,rfl,hy,h1,e4,k v H R .refl hv trivial⟩
def lenS:En->List S->Option S:=fun Γ as=>match as with
 | [.v (.t xs)]=>some (mkI xs.length)
 | [.v (.a (.str z))]=>if z.length<=AB then some (mkI z.length) else none
 | [a]=>(sqlOf Γ a).map fun xs=>mkI xs.length
 | _=>none
def rLenS (K:Fg):List V->Hp->VK->Prop:=fun xs H Q=>(∃ p ys,xs=[.ref p]/\(SqL K H p ys\/SqT K H p ys)/\Q (.int ys.length) H)\/(∃ z,xs=[.str z]/\z.length<=AB/\Q (.int z.length) H)
theorem soks1(h:SOks K C w σ H vs [a]):∃ v,vs=[v]/\SOk K C w σ H v a:=by
 match vs,h with
 | [v],h=>exact⟨v,rfl,h.1⟩
theorem soks2(h:SOks K C w σ H vs [a,b]):∃ v u,vs=[v,u]/\SOk K C w σ H v a/\SOk K C w σ H u b:=by
 match vs,h with
 | [v,u],h=>exact⟨v,u,rfl,h.1,h.2.1⟩
theorem zKr:SimRs K (rLenS K) lenS:=by
 intro C w Γ σ H vs as s Q R o e k
 unfold lenS at e
 split at e
 ·cases e
  obtain⟨v,rfl,o1⟩:=soks1 o
  obtain⟨p,us,rfl,h1,i1⟩:=o1.invt
  refine .inl ⟨p,us,rfl,.inr h1.sq,?_⟩
  rw[i1.len]
  exact k _ H R .refl SOk.atom trivial
 ·rename_i z
  split at e
  ·rename_i hz
   cases e
   obtain⟨v,rfl,o1⟩:=soks1 o
   exact .inr ⟨z,by rw[o1.inva],hz,k _ H R .refl SOk.atom trivial⟩
  ·cases e
 ·obtain⟨xs,e1,e⟩:=zAI e
  cases e
  obtain⟨v,rfl,o1⟩:=soks1 o
  obtain⟨p,us,rfl,h1,i1⟩:=zBa R o1 e1
  refine .inl ⟨p,us,rfl,.inl h1,?_⟩
  rw[i1.len]
  exact k _ H R .refl SOk.atom trivial
 ·cases e
theorem zKa:CallR X (.builtin "len") (rLenS X.K):=zGs.or zGT
def seqS (Γ:En):S->Option (List T)
 | .v (.t xs)=>some xs
 | a=>sqlOf Γ a
theorem zEH(R:Rep K C w Γ σ H)(o:SOk K C w σ H x s)(e:seqS Γ s=some xs):∃ p vs,x=.ref p/\(SqL K H p vs\/SqT K H p vs)/\Ims K H vs xs:=by
 unfold seqS at e
 split at e
 ·cases e
  obtain⟨p,us,rfl,h1,i1⟩:=o.invt
  exact⟨p,us,rfl,.inr h1.sq,i1⟩
 ·obtain⟨p,us,rfl,h1,i1⟩:=zBa R o e
  exact⟨p,us,rfl,.inl h1,i1⟩
def tupleS:En->List S->Option S:=fun Γ as=>match as with
 | [.v (.t xs)]=>some (.v (.t xs))
 | [a]=>(sqlOf Γ a).map fun xs=>.v (.t xs)
 | _=>none
theorem zG8:SimRs K (fun xs H Q=>∃ p ys,xs=[.ref p]/\((SqL K H p ys/\∀ l,H l=none->Q (.ref l) (upd H l (.tup ys)))\/(SqT K H p ys/\Q (.ref p) H))) tupleS:=by
 intro C w Γ σ H vs as s Q R o e k
 unfold tupleS at e
 split at e
 ·cases e
  obtain⟨v,rfl,o1⟩:=soks1 o
  have o2:=o1
  obtain⟨p,us,rfl,h1,i1⟩:=o1.invt
  exact⟨p,us,rfl,.inr ⟨h1.sq,k _ H R .refl o2 trivial⟩⟩
 ·obtain⟨xs,e1,e⟩:=zAI e
  cases e
  obtain⟨v,rfl,o1⟩:=soks1 o
  obtain⟨p,us,rfl,h1,i1⟩:=zBa R o1 e1
  exact⟨p,us,rfl,.inl ⟨h1,fun l hl=>k _ _ (R.new hl) (Evo.new hl) (R.newt hl i1) trivial⟩⟩
 ·cases e
abbrev DO:=En->Option (Option Int×En)
def SimO (K:Fg) (t:TO) (f:DO):Prop:=∀ (C:Fr) (w:W) (Γ:En) (σ:St) (H:Hp) (i:Option Int) (Γ':En) (Q:Option Int->Hp->Prop),Rep K C w Γ σ H->f Γ=some (i,Γ')->(∀ H',Rep K C w Γ' σ H'->Evo w.L H H'->Q i H')->t σ H Q
noncomputable def dNoPart:DO:=fun Γ=>some (none,Γ)
def dPart (f:DE):DO:=fun Γ=>(f Γ).bind fun p=>(iS p.1).map fun i=>(some i,p.2)
theorem zIg:SimO K tNoPart dNoPart:=fun C w Γ σ H i Γ' Q R e k=>by cases e; exact k H R .refl
theorem zLJ(h:SimE K t f):SimO K (tPart t) (dPart f):=by
 intro C w Γ σ H i Γ' Q R e k
 obtain⟨p,e1,e⟩:=bind_some e
 obtain⟨i,e2,e⟩:=zAI e
 cases e
 exact h C w Γ σ H p.1 p.2 _ R e1 fun v H1 R1 ev o _=>⟨i,zCB o e2,k H1 R1 ev⟩
def cutT (xs:List T) (lo hi:Option Int):List T:=(xs.drop (HT.sIx xs.length 0 lo)).take (HT.sIx xs.length xs.length hi - HT.sIx xs.length 0 lo)
theorem Ims.cut(h:Ims K H vs ts)(lo hi:Option Int):Ims K H (cutV vs lo hi) (cutT ts lo hi):=by
 unfold cutV cutT
 rw[h.len]
 exact (h.drop _).take _
def slS (Γ:En) (lo hi:Option Int):S->Option S
 | .v (.t xs)=>some (.v (.t (cutT xs lo hi)))
 | .v (.a _)=>none
 | a=>(sqlOf Γ a).map fun xs=>.l (cutT xs lo hi)
def dSl (f:DE) (lo hi:DO):DE:=fun Γ=>(f Γ).bind fun p=>(lo p.2).bind fun l=>(hi l.2).bind fun h=>(slS h.2 l.1 h.1 p.1).map fun s=>(s,h.2)
def rSlTS (K:Fg):V->Option Int->Option Int->Hp->VK->Prop:=fun x lo hi H Q=>∃ a xs,x=.ref a/\Tp K H a xs/\∀ p H',Same H H'->Tp K H' p (cutV xs lo hi)->Q (.ref p) H'
theorem zNl:SlR X (rSlTS X.K):=by
 intro pins s σ H x v vl vu lo hi sl Q I rx hs pl pu h
 obtain⟨a,xs,rfl,hx,q⟩:=h
 cases rx
 obtain⟨its,r,ht,hz⟩:=I.tuple hx.sq
 have hlen:its.toArray.size=xs.length:=by rw[AL]; exact r.length.symm
 refine⟨"tuple",_,Bk.lookup,ht.typeIs,?_⟩
 by_cases hw:HT.sIx xs.length 0 lo=0/\HT.sIx xs.length xs.length hi=xs.length
 ·refine zDB ht hs pl pu (by rw[hlen]; exact hw) ⟨.ref a,H,I,rfl,q a H (Same.refl H) ?_⟩
  unfold cutV
  rw[hw.1,hw.2,GW,Jb,BR (AF _)]
  exact hx
 ·refine HT.qY ht hs pl pu (by rw[hlen]; exact hw) ?_ (by rw[hlen]; exact hz)
  rw[hlen]
  have hf:H s.heap.objs.size=none:=I.hok.fresh (AF _)
  refine⟨.ref s.heap.objs.size,_,I.laid (t':=s.toks) (o:=.tup (cutV xs lo hi)) (fun b ob q=>AC _ q) (AF _) ?_,rfl,q _ _ (Same.upd hf) (.inl zAj)⟩
  exact⟨Ai (zDp xs lo hi) hz,_,(r.drop (HT.sIx xs.length 0 lo)).take (HT.sIx xs.length xs.length hi - HT.sIx xs.length 0 lo),TupD.new _ _⟩
def rSlS (K:Fg):V->Option Int->Option Int->Hp->VK->Prop:=fun x lo hi H Q=>rSlTS K x lo hi H Q\/rSlL K x lo hi H Q
theorem sl_S:SlR X (rSlS X.K):=zNl.or zNU
theorem zOh(he:SimE K te f)(hl:SimO K tl lo)(hh:SimO K th hi):SimE K (tSl (rSlS K) te tl th) (dSl f lo hi):=by
 intro C w Γ σ H s Γ' Q R e k
 obtain⟨⟨a,G1⟩,e1,e⟩:=bind_some e
 obtain⟨⟨i,G2⟩,e2,e⟩:=bind_some e
 obtain⟨⟨j,G3⟩,e3,e⟩:=bind_some e
 obtain⟨z,e4,e⟩:=zAI e
 cases e
 dsimp only at e4
 refine he C w Γ σ H a G1 _ R e1 fun v H1 R1 ev1 o1 n1=>?_
 refine hl C w G1 σ H1 i G2 _ R1 e2 fun H2 R2 ev2=>?_
 refine hh C w G2 σ H2 j G3 _ R2 e3 fun H3 R3 ev3=>?_
 have o3:=(o1.evo ev2 R1.lst).evo ev3 R2.lst
 have ev:=(ev1.trans ev2).trans ev3
 unfold slS at e4
 split at e4
 ·cases e4
  obtain⟨p,us,rfl,h1,i1⟩:=o3.invt
  refine .inl ⟨p,us,rfl,h1,fun c H' sm hc=>k _ H' (R3.same sm) (ev.trans (.of_same sm)) ?_ trivial⟩
  show Im K H' (.ref c) (.t _)
  unfold Im
  exact⟨c,_,rfl,hc,(i1.evo (.of_same sm) R3.lst).cut _ _⟩
 ·cases e4
 ·obtain⟨xs,e5,e4⟩:=zAI e4
  cases e4
  obtain⟨p,us,rfl,h1,i1⟩:=zBa R3 o3 e5
  exact .inr ⟨p,us,rfl,h1,fun c hc=>k _ _ (R3.new hc) (ev.trans (Evo.new hc)) (R3.newl hc (i1.cut _ _)) ⟨c,rfl,zA4 ev R3.lst hc⟩⟩
def SimMut (K:Fg) (r:V->List V->Hp->VK->Prop) (h:En->List T->List S->Option (T×List T)):Prop:=∀ (C:Fr) (w:W) (Γ:En) (σ:St) (H:Hp) (l:Addr) (us:List V) (xs:List T) (vs:List V) (as:List S) (t:T) (ys:List T) (Q:VK),Rep K C w Γ σ H->H l=some (.lst us)->Ims K H us xs->us.length<=AB->SOks K C w σ H vs as->h Γ xs as=some (t,ys) ->
 (∀ v us',Ims K H us' ys->Im K H v t->Q v (upd H l (.lst us')))->r (.ref l) vs H Q
noncomputable def isLs (Γ:En) (i:Nat):Bool:=match Γ[i]? with
 | some (some (.l _))=>true
 | _=>false
def dMut (i:Nat) (h:En->List T->List S->Option (T×List T)) (fa:DA):DE:=fun Γ=>if isLs Γ i=true then (fa Γ).bind fun p=>match p.2[i]? with
 | some (some (.l xs))=>(gd xs.length ()).bind fun _=>(h p.2 xs p.1).map fun q=>(.v q.1,p.2.set i (some (.l q.2)))
 | _=>none
 else none
theorem zHc(R:Rep K C w Γ σ H)(h:isLs Γ i=true):∃ p vs,σ[i]?=some (some (.ref p))/\H p=some (.lst vs):=by
 unfold isLs at h
 split at h
 ·rename_i xs e
  obtain⟨v,e1,p,vs,rfl,_,h1,_⟩:=R.val i _ e
  exact⟨p,vs,e1,h1⟩
 ·cases h
theorem zHo(hr:SimMut K r h)(ha:SimA K ta fa):SimE K (tBM K "list" r (tVar i) ta) (dMut i h fa):=by
 intro C w Γ σ H s Γ' Q R e k
 unfold dMut at e
 split at e
 rotate_left
 ·cases e
 rename_i hl
 obtain⟨p,vs,e1,e2⟩:=zHc R hl
 obtain⟨⟨as,G1⟩,e3,e⟩:=bind_some e
 dsimp only at e
 split at e
 rotate_left
 ·cases e
 rename_i xs hx
 obtain⟨_,eg,e⟩:=bind_some e
 obtain⟨hsz,_⟩:=zBP eg
 obtain⟨⟨t,ys⟩,e4,e⟩:=zAI e
 cases e
 refine⟨.ref p,e1,.inl ⟨rfl,vs,SqL.of e2⟩,?_⟩
 refine ha C w Γ σ H as G1 _ R e3 fun us H1 R1 ev1 o1 n1=>?_
 obtain⟨v,s1,q,ws,rfl,m1,h1,i1⟩:=R1.val i _ hx
 rw[e1]at s1; cases s1
 refine hr C w G1 σ H1 p ws xs us as t ys _ R1 h1 i1 (by rw[i1.len]; exact hsz) o1 e4 fun v us' hu hv=>?_
 obtain⟨R2,ev2⟩:=R1.put hx e1 hu
 exact k v _ R2 (ev1.trans ev2) (hv.evo ev2 R1.lst) trivial
theorem zK6(hr:SimMut K r h):SimE K (tBM0 K "list" r (tVar i)) (dMut i h qQ):=by
 intro C w Γ σ H s Γ' Q R e k
 have:=zHo (i:=i) hr (zHh (K:=K)) C w Γ σ H s Γ' Q R e k
 obtain⟨v,e1,e2,e3⟩:=this
 exact⟨v,e1,e2,e3⟩
noncomputable def hAppend:En->List T->List S->Option (T×List T):=fun _ xs as=>match as with
 | [.v t]=>if xs.length < AB then some (.a .non,xs++[t]) else none
 | _=>none
theorem zA1:SimMut K rAppend hAppend:=by
 intro C w Γ σ H l us xs vs as t ys Q R hl hi hz o e k
 unfold hAppend at e
 split at e
 ·rename_i t'
  split at e
  ·rename_i hn
   cases e
   obtain⟨v,rfl,o1⟩:=soks1 o
   exact⟨l,us,v,rfl,rfl,hl,by rw[hi.len]; exact hn,k _ _ (hi.app (.one o1)) Im.atom⟩
  ·cases e
 ·cases e
noncomputable def hPop:En->List T->List S->Option (T×List T):=fun _ xs as=>match as with
 | []=>(xs[xs.length - 1]?).map fun t=>(t,xs.dropLast)
 | _=>none
theorem Ims.dropLast(h:Ims K H vs ts):Ims K H vs.dropLast ts.dropLast:=by
 rw[Ew,Ew,h.len]; exact h.take _
theorem soks0(h:SOks K C w σ H vs []):vs=[]:=by
 match vs,h with
 | [],_=>rfl
theorem zE5:SimMut K rPop hPop:=by
 intro C w Γ σ H l us xs vs as t ys Q R hl hi hz o e k
 unfold hPop at e
 split at e
 ·obtain⟨t',e1,e⟩:=zAI e
  cases e
  obtain⟨v,e2,hv⟩:=hi.get e1
  exact⟨l,us,v,rfl,soks0 o,hl,by rw[hi.len]; exact e2,k _ _ hi.dropLast hv⟩
 ·cases e
def hPopAt:En->List T->List S->Option (T×List T):=fun _ xs as=>match as with
 | [.v (.a (.int i))]=>if inR 9223372036854775807 i=true then (Fi i xs.length).bind fun k=>(xs[k]?).map fun t=>(t,xs.eraseIdx k) else none
 | _=>none
theorem zKH:SimMut K rPopAt hPopAt:=by
 intro C w Γ σ H l us xs vs as t ys Q R hl hi hz o e k
 unfold hPopAt at e
 split at e
 ·rename_i i
  split at e
  ·rename_i hb
   have hb:=inR63 hb
   obtain⟨j,e1,e⟩:=bind_some e
   obtain⟨t',e2,e⟩:=zAI e
   cases e
   obtain⟨v,rfl,o1⟩:=soks1 o
   obtain⟨y,e3,hy⟩:=hi.get e2
   exact⟨l,us,i,j,y,rfl,by rw[o1.inva],hl,hb.1,hb.2,by rw[hi.len]; exact e1,e3,k _ _ (hi.erase _) hy⟩
  ·cases e
 ·cases e
def hExtend:En->List T->List S->Option (T×List T):=fun Γ xs as=>match as with
 | [a]=>(lsOf Γ a).bind fun zs=>gd (xs.length+zs.length) (.a .non,xs++zs)
 | _=>none
theorem zC0:SimMut K rExtend hExtend:=by
 intro C w Γ σ H l us xs vs as t ys Q R hl hi hz o e k
 unfold hExtend at e
 split at e
 ·obtain⟨zs,e1,e⟩:=bind_some e
  obtain⟨hg,e⟩:=zBP e
  cases e
  obtain⟨v,rfl,o1⟩:=soks1 o
  obtain⟨p,ws,rfl,h1,i1⟩:=zFp R o1 e1
  exact⟨l,p,us,ws,rfl,rfl,hl,h1,by rw[hi.len,i1.len]; exact hg,k _ _ (hi.app i1) Im.atom⟩
 ·cases e
def dSetIx (i:Nat) (fe fi:DE):DS:=fun Γ=>(fe Γ).bind fun p=>p.1.tree.bind fun t=>if isLs p.2 i=true then (fi p.2).bind fun q=>(iS q.1).bind fun k=>match q.2[i]? with
  | some (some (.l xs))=>(ixN xs.length k).map fun j=>.nx (q.2.set i (some (.l (xs.set j t))))
  | _=>none
 else none
theorem zIp(he:SimE K te fe)(hi:SimE K ti fi):SimS K ip (tAsg te (gSub (tVar i) ti rSetL)) (dSetIx i fe fi):=by
 intro C w Γ σ H D o hp R e k
 obtain⟨⟨s,G1⟩,e1,e⟩:=bind_some e
 obtain⟨t,e2,e⟩:=bind_some e
 dsimp only at e e2
 split at e
 rotate_left
 ·cases e
 rename_i hl
 obtain⟨⟨s2,G2⟩,e3,e⟩:=bind_some e
 obtain⟨n,e4,e⟩:=bind_some e
 dsimp only at e e4
 split at e
 rotate_left
 ·cases e
 rename_i xs hx
 obtain⟨j,e5,e⟩:=zAI e
 subst e
 cases s with
 | l _=>cases e2
 | s _=>cases e2
 | d _=>cases e2
 | v t' =>
  cases e2
  refine he C w Γ σ H _ G1 _ R e1 fun v H1 R1 ev1 o1 n1=>?_
  obtain⟨p,vs,s1,h1⟩:=zHc R1 hl
  refine⟨.ref p,s1,?_⟩
  refine hi C w G1 σ H1 s2 G2 _ R1 e3 fun v2 H2 R2 ev2 o2 n2=>?_
  obtain⟨v3,s3,q,ws,rfl,m3,h3,i3⟩:=R2.val i _ hx
  rw[s1]at s3; cases s3
  have o1':Im K H1 v t:=o1
  exact⟨p,ws,n,j,rfl,zCB o2 e4,h3,by rw[i3.len]; exact e5,k w σ _ (R2.put hx s1 (i3.set j (o1'.evo ev2 R1.lst))).1⟩
noncomputable def boolsOf:List T->Option (List Bool)
 | []=>some []
 | .a (.bl b)::r=>(boolsOf r).map fun bs=>b::bs
 | _=>none
theorem zGa:∀ {vs:List V} {ts:List T} {bs:List Bool},Ims K H vs ts->boolsOf ts=some bs->vs=bs.map V.bl
 | _,[],_,h,e=>by cases e; exact h.inv0
 | _,.a (.bl b)::r,_,h,e=>by
  obtain⟨v,us,rfl,h1,h2⟩:=h.inv
  obtain⟨bs,e1,e⟩:=zAI e
  cases e
  rw[h1.inva,zGa h2 e1]; rfl
 | _,.t _::_,_,_,e=>by cases e
 | _,.l _::_,_,_,e=>by cases e
 | _,.f _::_,_,_,e=>by cases e
 | _,.x _ _::_,_,_,e=>by cases e
 | _,.a .non::_,_,_,e=>by cases e
 | _,.a (.int _)::_,_,_,e=>by cases e
 | _,.a (.str _)::_,_,_,e=>by cases e
 | _,.a (.byt _)::_,_,_,e=>by cases e
 | _,.a (.flt _)::_,_,_,e=>by cases e
 | _,.a (.ref _)::_,_,_,e=>by cases e
 | _,.a (.ty _)::_,_,_,e=>by cases e
def allS:En->List S->Option S:=fun Γ as=>match as with
 | [a]=>(sqlOf Γ a).bind fun xs=>(boolsOf xs).map fun bs=>mkB (bs.all id)
 | _=>none
theorem zJW:SimRs K (fun xs H Q=>∃ (p:Addr) (bs:List Bool),xs=[.ref p]/\SqL K H p (bs.map V.bl)/\Q (.bl (bs.all id)) H) allS:=by
 intro C w Γ σ H vs as s Q R o e k
 unfold allS at e
 split at e
 ·obtain⟨xs,e1,e⟩:=bind_some e
  obtain⟨bs,e2,e⟩:=zAI e
  cases e
  obtain⟨v,rfl,o1⟩:=soks1 o
  obtain⟨p,us,rfl,h1,i1⟩:=zBa R o1 e1
  exact⟨p,bs,rfl,by rw[← zGa i1 e2]; exact h1,k _ H R .refl SOk.atom trivial⟩
 ·cases e
def tyN (Γ:En):S->Option String
 | .v (.t _)=>some "tuple"
 | .v (.a (.int _))=>some "int"
 | .v (.a (.bl _))=>some "bool"
 | .v (.a (.str _))=>some "str"
 | .v (.a .non)=>some "NoneType"
 | .v (.l _)=>some "list"
 | .v _=>none
 | a=>(sqlOf Γ a).map fun _=>"list"
def TyS (K:Fg) (H:Hp) (n:String):V->Prop
 | .int _=>n="int"
 | .bl _=>n="bool"
 | .str _=>n="str"
 | .non=>n="NoneType"
 | .ref p=>(n="list"/\∃ xs,SqL K H p xs)\/(n="tuple"/\∃ xs,SqT K H p xs)
 | _=>False
theorem zKZ(R:Rep K C w Γ σ H)(o:SOk K C w σ H x s)(e:tyN Γ s=some n):TyS K H n x:=by
 unfold tyN at e
 split at e
 ·cases e; obtain⟨p,us,rfl,h1,i1⟩:=o.invt; exact .inr ⟨rfl,us,h1.sq⟩
 ·cases e; rw[o.inva]; exact rfl
 ·cases e; rw[o.inva]; exact rfl
 ·cases e; rw[o.inva]; exact rfl
 ·cases e; rw[o.inva]; exact rfl
 ·rename_i ys; cases e; obtain⟨p,us,rfl,h1,i1⟩:=(show Im K H x (.l ys) from o).invl; exact .inl ⟨rfl,us,h1.sq⟩
 ·cases e
 ·obtain⟨xs,e1,e⟩:=zAI e
  cases e
  obtain⟨p,us,rfl,h1,i1⟩:=zBa R o e1
  exact .inl ⟨rfl,us,h1⟩
theorem zJo(I:Inv X pins σ H s)(rx:RelV x u)(ty:TyS X.K H n x):∃ P:Heap->Prop,PySem.W.KitX X.K u (.type n) P/\P s.heap/\u≠.builtin "__main__.__loader__#opaque":=by
 cases x with
 | non=>cases ty; cases (show u=CY from rx); exact⟨_,PySem.W.kitx_none,Dc,fun z=>nomatch z⟩
 | bl y=>cases ty; cases (show u=GK y from rx); exact⟨_,PySem.W.kitx_bool,Dc,fun z=>nomatch z⟩
 | int i=>cases ty; obtain⟨t,q⟩:=(show ∃ t,u=Fq i t from rx); cases q; exact⟨_,PySem.W.kitx_int,Dc,fun z=>nomatch z⟩
 | str y=>cases ty; obtain⟨t,q⟩:=(show ∃ t,u=Ft y t from rx); cases q; exact⟨_,PySem.W.kitx_str,Dc,fun z=>nomatch z⟩
 | ref p =>
  cases (show u=Bl p from rx)
  rcases ty with ⟨rfl,xs,h⟩ | ⟨rfl,xs,h⟩
  ·obtain⟨its,_,pl,_⟩:=I.list h
   obtain⟨o,h1,h2,_⟩:=pl.isList
   exact⟨_,PySem.W.kitx_list,⟨o,h1,h2⟩,fun z=>nomatch z⟩
  ·obtain⟨its,_,pl,_⟩:=I.tuple h
   obtain⟨o,h1,h2,_⟩:=pl
   exact⟨_,PySem.W.kitx_tuple,⟨o,h1,h2⟩,fun z=>nomatch z⟩
 | byt _=>exact ty.elim
 | flt _=>exact ty.elim
 | ty _=>exact ty.elim
noncomputable def tyIx:String->Option Nat
 | "int"=>some 0
 | "bool"=>some 1
 | "str"=>some 2
 | "list"=>some 3
 | "tuple"=>some 4
 | "NoneType"=>some 5
 | _=>none
noncomputable def tyNm:Nat->String
 | 0=>"int" | 1=>"bool" | 2=>"str" | 3=>"list" | 4=>"tuple" | _=>"NoneType"
@[simp] theorem zR9:tyIx "int"=some 0:=(rfl)
@[simp] theorem zSs:tyIx "bool"=some 1:=(rfl)
@[simp] theorem zSx:tyIx "str"=some 2:=(rfl)
@[simp] theorem zSB:tyIx "tuple"=some 4:=(rfl)
theorem zHT(h:tyIx a=some i):a=tyNm i/\i < 6:=by
 unfold tyIx at h
 split at h <;> first | (cases h; exact⟨rfl,by decide⟩) | cases h
def subTy (a b:String):Option Bool:=(tyIx a).bind fun i=>(tyIx b).bind fun j=>if j=5 then none else some (i == j || (i == 1 && j == 0))
theorem zL2(e:subTy a b=some c):Hu K (.type a) (.type b)=some c:=by
 obtain⟨i,e1,z0⟩:=bind_some e
 obtain⟨j,e2,z⟩:=bind_some z0
 clear z0
 clear e
 obtain⟨rfl,hi⟩:=zHT e1
 obtain⟨rfl,hj⟩:=zHT e2
 clear e1 e2
 by_cases h5:j=5
 ·rw[if_pos h5]at z; cases z
 rw[if_neg h5]at z
 cases z
 have key:((AV 6).map fun i=>(AV 5).map fun j=>Hu K (.type (tyNm i)) (.type (tyNm j)))=(AV 6).map fun i=>(AV 5).map fun j=>some (i == j || (i == 1 && j == 0)):=by kernel_rfl
 exact Fo.mp (Fo.mp key i (Dz.mpr hi)) j (Dz.mpr ⋯)
def rIsi (K:Fg):List V->Hp->VK->Prop:=fun xs H Q=>∃ x T n b,xs=[x,.ty T]/\TyS K H n x/\subTy n T=some b/\Q (.bl b) H
theorem zL5:CallR X (.builtin "isinstance") (rIsi X.K):=by
 intro pins s σ H xs us Q I r h
 obtain⟨x,T,n,b,rfl,ty,e,q⟩:=h
 obtain⟨u,u',rfl,r1,r2⟩:=vals2 r
 cases (show u'=C9 T from r2)
 obtain⟨P,Z,hP,hx⟩:=zJo I r1 ty
 exact PySem.W.kia_one Z I.kIn hP (zL2 e) hx fun tk=>⟨.bl b,H,I.tok tk,rfl,q⟩
def isiS:En->List S->Option S:=fun Γ as=>match as with
 | [a,.v (.a (.ty T))]=>(tyN Γ a).bind fun n=>(subTy n T).map mkB
 | _=>none
theorem zJX:SimRs K (rIsi K) isiS:=by
 intro C w Γ σ H vs as s Q R o e k
 unfold isiS at e
 split at e
 ·obtain⟨n,e1,e⟩:=bind_some e
  obtain⟨b,e2,e⟩:=zAI e
  cases e
  obtain⟨v,u,rfl,o1,o2⟩:=soks2 o
  exact⟨v,_,n,b,by rw[o2.inva],zKZ R o1 e1,e2,k _ H R .refl SOk.atom trivial⟩
 ·cases e
def intS:En->List S->Option S:=fun _ as=>match as with
 | [.v (.a (.int i))]=>some (mkI i)
 | [.v (.a (.bl b))]=>some (mkI (if b then 1 else 0))
 | _=>none
theorem zKB:SimRs K (fun xs H Q=>(∃ i,xs=[.int i]/\Q (.int i) H)\/∃ k,xs=[.bl k]/\Q (.int (if k then 1 else 0)) H) intS:=by
 intro C w Γ σ H vs as s Q R o e k
 unfold intS at e
 split at e
 ·cases e
  obtain⟨v,rfl,o1⟩:=soks1 o
  exact .inl ⟨_,by rw[o1.inva],k _ H R .refl SOk.atom trivial⟩
 ·cases e
  obtain⟨v,rfl,o1⟩:=soks1 o
  exact .inr ⟨_,by rw[o1.inva],k _ H R .refl SOk.atom trivial⟩
 ·cases e
def max2S:En->List S->Option S:=fun _ as=>match as with
 | [.v (.a (.int i)),.v (.a (.int j))]=>some (mkI (if j > i then j else i))
 | _=>none
theorem zIR:SimRs K (fun xs H Q=>∃ i j,xs=[.int i,.int j]/\Q (.int (if j > i then j else i)) H) max2S:=by
 intro C w Γ σ H vs as s Q R o e k
 unfold max2S at e
 split at e
 ·cases e
  obtain⟨v,u,rfl,o1,o2⟩:=soks2 o
  exact⟨_,_,by rw[o1.inva,o2.inva],k _ H R .refl SOk.atom trivial⟩
 ·cases e
noncomputable def atomsOf:List T->Option (List V)
 | []=>some []
 | .a v::r=>(atomsOf r).map fun vs=>v::vs
 | _=>none
theorem zD9:∀ {vs:List V} {ts:List T} {us:List V},Ims K H vs ts->atomsOf ts=some us->vs=us
 | _,[],_,h,e=>by cases e; exact h.inv0
 | _,.a b::r,_,h,e=>by
  obtain⟨v,us,rfl,h1,h2⟩:=h.inv
  obtain⟨bs,e1,e⟩:=zAI e
  cases e
  rw[h1.inva,zD9 h2 e1]
 | _,.t _::_,_,_,e=>by cases e
 | _,.l _::_,_,_,e=>by cases e
 | _,.f _::_,_,_,e=>by cases e
 | _,.x _ _::_,_,_,e=>by cases e
noncomputable def tBMS (K:Fg) (r:V->List V->Hp->VK->Prop) (to:TE) (t:TA):TE:=fun σ H Q=>to σ H fun x H1=>(∃ p xs,x=.ref p/\Tp K H1 p xs)/\t σ H1 fun xs H2=>r x xs H2 Q
open PySem.Spec PyProof.Rows in
theorem zO1{X:Cx}{o e:Expr}{es:List Expr}{to:TE}{t:TA}{name:Str}{apos cpos:Pos}{id:String}{r:V->List V->Hp->VK->Prop}(slot:Slot "tuple" name id)(hty:Ij (.builtin id)=pure (.type "method_descriptor"))(hm:MtM X id r)(ho:PE X o to)(ha:PA X (e::es) t)
  (hbase:DM o name X.env (eval o X.env)=eval o X.env:=by rfl)
  (hfew:((CL cpos (AU (e::es) X.env)).all (fun x=>!x.1) && (G8 cpos (FU [] X.env)).all (fun x=>x.1.isSome) && decide ((e::es).length+([]:List Ef).length+(if ([]:List Ef).isEmpty then 0 else 1) < 30))=true:=by rfl)
  (hline:(apos.endLine == cpos.line)=true:=by rfl) (hs:AU (e::es) X.env=(false,eval e X.env)::AU es X.env:=by rfl) (hplain:(CL cpos (AU es X.env)).any (·.1)=false:=by rfl) :
  PE X (.Call (.Attribute o name apos) (e::es) [] cpos) (tBMS X.K r to t):=by
 intro pins s σ H Q I h
 refine Hr hbase hfew hline rfl (thn (ho pins s σ H _ I h) fun v s1 ⟨x,H1,I1,r1,⟨p,xs,ex,hp⟩,q1⟩=>?_)
 subst ex
 cases r1
 have key:∃ o',s1.heap.get? p=some o'/\o'.cls=.type "tuple"/\o'.dict=none:=by
  rcases hp with hp | ⟨o',its,n,a1,a2,a3,a4⟩
  ·obtain⟨_,its,_,o',ho',hc',_,hd'⟩:=(show ObjOk X.prog X.w H1 s1.heap p (.tup xs) from I1.hok p _ hp)
   exact⟨o',ho',hc',hd'⟩
  ·exact⟨o',I1.kIn p o' a1,a2,a3⟩
 obtain⟨o',ho',hc',hd'⟩:=key
 refine⟨"tuple",id,F.plainAttrs_tuple,slot,hty,⟨o',ho',hc'⟩,fun a e=>by cases e; exact⟨o',ho',hd'⟩,?_⟩
 have hA:=ha cpos pins s1 σ H1 _ I1 q1
 rw[hs]at hA ⊢
 refine DN (by show (false || (CL cpos (AU es X.env)).any (·.1))=false; rw[hplain] <;> rfl) (E1 ?_)
 exact thn hA fun us s2 ⟨vs,H2,I2,r2,q2⟩=>hm pins s2 σ H2 (.ref p) vs (.ref p) us Q I2 (show RelV (.ref p) (.ref p) from rfl) r2 q2
def dIndex (fo:DE) (fa:DA):DE:=fun Γ=>(fo Γ).bind fun p=>(fa p.2).bind fun q=>match p.1,q.1 with
 | .v (.t xs),[.v (.a y)]=>(atomsOf xs).bind fun vs=>if flatV y=true/\vs.all flatV=true then (vs.findIdx? fun z=>eqV z y).map fun j=>(mkI (j:Nat),q.2) else none
 | _,_=>none
theorem zJY(ho:SimE K to fo)(ha:SimA K ta fa):SimE K (tBMS K (rTupIndex K) to ta) (dIndex fo fa):=by
 intro C w Γ σ H s Γ' Q R e k
 obtain⟨⟨a,G1⟩,e1,e⟩:=bind_some e
 obtain⟨⟨as,G2⟩,e2,e⟩:=bind_some e
 dsimp only at e
 split at e
 ·rename_i xs y
  obtain⟨vs,e3,e⟩:=bind_some e
  split at e
  ·rename_i hf
   obtain⟨j,e4,e⟩:=zAI e
   cases e
   refine ho C w Γ σ H _ G1 _ R e1 fun v H1 R1 ev1 o1 n1=>?_
   have o1':=o1
   obtain⟨p,us,rfl,h1,i1⟩:=o1.invt
   refine⟨⟨p,us,rfl,h1⟩,?_⟩
   refine ha C w G1 σ H1 _ _ _ R1 e2 fun ws H2 R2 ev2 o2 n2=>?_
   obtain⟨u,rfl,o3⟩:=soks1 o2
   obtain⟨p',us',e5,h1',i1'⟩:=(o1'.evo ev2 R1.lst).invt
   cases e5
   have hus:=zD9 i1' e3
   subst hus
   exact⟨p,us',_,j,rfl,by rw[o3.inva],h1'.sq,hf.1,hf.2,e4,k _ H2 R2 (ev1.trans ev2) SOk.atom trivial⟩
  ·cases e
 ·cases e
end D
namespace L2
open PySem PySem.Spec PyProof.Rows
section
variable {X:Cx}{tg:Expr}
def iSeq (K:AM) (tl:TE):TI:=fun σ H R=>tl σ H fun x H1=>∃ a,x=.ref a/\(((∃ xs,SqL K H1 a xs)/\R (Itl K a) H1)\/((∃ xs,SqT K H1 a xs)/\R (Itt K a) H1))
theorem zMa(hl:PE X l tl):PI X tg l (iSeq X.K tl):=by
 intro pins s σ H R I h
 refine thn (hl pins s σ H _ I h) fun v s1 ⟨x,H1,I1,r1,q1⟩=>?_
 obtain⟨a,e,q⟩:=q1
 subst e
 cases r1
 rcases q with ⟨⟨xs,hq⟩,q⟩ | ⟨⟨xs,hq⟩,q⟩
 ·obtain⟨its,rv,p,hz⟩:=I1.list hq
  refine Eg p.isList ?_
  refine⟨s1.heap.objs.size,[s1.heap.objs.size],_,_,H1,rfl,I1.kept (t':=s1.toks) fun b o e=>AC _ e,zJk a _,⟨_,AI _ rfl,rfl,rfl⟩,fun b hb=>?_,q⟩
  have e:b=s1.heap.objs.size:=by simpa using hb
  subst e
  exact I1.fpOk (AF _) (I1.hok.fresh (AF _))
 ·obtain⟨its,rv,p,hz⟩:=I1.tuple hq
  refine Bx (show s1.heap.IsTuple a its.toArray from p) ?_
  refine⟨s1.heap.objs.size,[s1.heap.objs.size],_,_,H1,rfl,I1.kept (t':=s1.toks) fun b o e=>AC _ e,zIV a _,⟨_,AI _ rfl,rfl,rfl⟩,fun b hb=>?_,q⟩
  have e:b=s1.heap.objs.size:=by simpa using hb
  subst e
  exact I1.fpOk (AF _) (I1.hok.fresh (AF _))
end
section
variable {X:Cx}{elts:List Expr}{x1:Nat}{tp:Pos}
def iZipU (K:AM) (ta:TA):TI:=fun σ H R=>ta σ H fun vs H1=>∃ (b:Bool) (a1 a2:Addr),vs=[.ref a1,.ref a2]/\(∃ xs,Sq b K H1 a1 xs)/\(∃ ys,Sq b K H1 a2 ys)/\R (Itz b K a1 a2) H1
theorem zMP(hg:Gl X "zip")(hm:X.mg "zip"=none)(ha:PA X [e1,e2] ta)(hs:AU [e1,e2] X.env=[(false,eval e1 X.env),(false,eval e2 X.env)]:=by rfl)(hs2:AU [e2] X.env=[(false,eval e2 X.env)]:=by rfl) :
  PI X (.Tuple elts x1 tp) (.Call (.Name "zip" p) [e1,e2] [] pos) (iZipU X.K ta):=by
 intro pins s σ H R I h
 refine Gn (zBH I hg hm boot_zip (An (thn (ha pos pins s σ H _ I h) fun us s1 ⟨vs,H1,I1,r1,q1⟩=>?_) (by rw[hs,hs2]) (by rw[hs2]; rfl)))
 obtain⟨b,a1,a2,e,⟨xs,h1⟩,⟨ys,h2⟩,q⟩:=q1
 subst e
 obtain⟨u1,u2,e,r,r'⟩:=vals2 r1
 subst e
 cases r; cases r'
 obtain⟨its1,v1,o1,z1⟩:=I1.sq h1
 obtain⟨its2,v2,o2,z2⟩:=I1.sq h2
 have lt1:a1 < s1.heap.objs.size:=by cases b with
  | false=>obtain⟨o,e,_⟩:=(show s1.heap.IsList a1 its1.toArray from o1); exact AK e
  | true=>obtain⟨o,e,_⟩:=(show s1.heap.IsTuple a1 its1.toArray from o1); exact AK e
 have lt2:a2 < s1.heap.objs.size:=by cases b with
  | false=>obtain⟨o,e,_⟩:=(show s1.heap.IsList a2 its2.toArray from o2); exact AK e
  | true=>obtain⟨o,e,_⟩:=(show s1.heap.IsTuple a2 its2.toArray from o2); exact AK e
 have D:ZAp (s1.heap.objs.size+4) (s1.heap.objs.size+2) (s1.heap.objs.size+3) s1.heap.objs.size (s1.heap.objs.size+1) a1 a2 :=
  ⟨K5 lt1 lt2,Ae (AY lt1 (CB _ 2)),Ae (AY lt2 (CB _ 2))⟩
 have fin:∀ h',ZTn b (s1.heap.objs.size+4) (s1.heap.objs.size+2) (s1.heap.objs.size+3) s1.heap.objs.size (s1.heap.objs.size+1) a1 a2 0 h'->(∀ c o,s1.heap.get? c=some o->h'.get? c=some o) ->
   AQ (model X.prog X.w) X.A (GB (.ref (s1.heap.objs.size+4))) (PIE X pins σ (.Tuple elts x1 tp) R) X.xe { s1 with heap:=h' }:=fun h' st hk=>by
  refine E3 st.z ?_
  refine⟨_,_,_,_,H1,rfl,I1.kept (t':=s1.toks) hk,zLp b D,st,fun c hc=>?_,q⟩
  have hc':s1.heap.objs.size<=c:=by
   simp only[AH,AS,or_false]at hc
   rcases hc with e | e | e | e | e <;> (rw[e]) <;> first | exact AF _ | exact CB _ _
  exact I1.fpOk hc' (I1.hok.fresh hc')
 cases b with
 | false=>exact call_zip_2 o1 o2 fun h' hz hTI hTO it1 it2 _ hk=>fin h' ⟨hz,hTI,⟨_,_,hTO⟩,it1,it2⟩ hk
 | true=>exact zKG o1 o2 fin
end
section
variable {X:Cx}{pos:Pos}
def tPar3 (i j k:Nat) (ta:TA):TS:=fun D σ H=>ta σ H fun vs H1=>∃ v w z,vs=[v,w,z]/\D.nx (((σ.set i (some v)).set j (some w)).set k (some z)) H1
theorem zNg{kt k2 pt2}(hc:X.calm=true)(hN:X.N.Nodup)(hi:X.N[i]?=some x)(hj:X.N[j]?=some y)(hk:X.N[k]?=some z)(hij:i≠j)(hik:i≠k)(hjk:j≠k)
  (hx:X.env.scope.names.lookup x=some .local) (hy:X.env.scope.names.lookup y=some .local) (hz:X.env.scope.names.lookup z=some .local) (ha:PA X [a,b,c] ta)
  (hw:Cq [.Tuple [.Name x px,.Name y py,.Name z pz] kt pt] (.Tuple [a,b,c] k2 pt2) X.env=pure (some [x,y,z]))
  (hs:Cp [.Tuple [.Name x px,.Name y py,.Name z pz] kt pt] (.Tuple [a,b,c] k2 pt2) pos.line X.env=pure false:=by rfl) :
  PS X (.Assign [.Tuple [.Name x px,.Name y py,.Name z pz] kt pt] (.Tuple [a,b,c] k2 pt2) pos) (tPar3 i j k ta):=by
 intro pins s σ H D I h
 rw[Jh]
 refine AA (Du ?_)
 rw[hs]
 refine AA (AJ ?_)
 rw[if_neg ∅]
 refine AA (Tuple_ (thn (ha _ pins s σ H _ I h) fun us s1 ⟨vs,H1,I1,r1,q1⟩=>?_))
 obtain⟨v,w,q,e1,q1⟩:=q1
 subst e1
 obtain⟨u1,u2,u3,rfl,rv,rw',rz⟩:∃ u1 u2 u3,us=[u1,u2,u3]/\RelV v u1/\RelV w u2/\RelV q u3:=by
  cases r1 with
  | cons p q =>
   cases q with
   | cons p' q' =>
    cases q' with
    | cons p'' q'' =>
     cases q''
     exact⟨_,_,_,rfl,p,p',p''⟩
 refine Au ?_ (by show 3<=AB; decide)
 have I2:Inv X pins σ H1 { s1 with heap:=s1.heap.push { cls:=.type "tuple",data:=.seq [u1,u2,u3].toArray } }:=I1.kept (t':=s1.toks) fun b o e=>AC _ e
 rw[hw]
 refine AA (AJ ?_)
 show AQ (model X.prog X.w) X.A (do rule "assign.swapped-stores"; let items ← IJ (.ref s1.heap.objs.size) 3 none; Dt [fun v=>Dw X.env z v,fun v=>Dw X.env y v,fun v=>Dw X.env x v] items.reverse; pure Gv) _ _ _
 refine AA (C5 (AA (Iw (items:=#[u1,u2,u3]) (I.ok.hd hc) (Ji s1.heap _) fun h' hx'=>?_)))
 have I3:=I2.kept (h':=h') (t':=s1.toks) fun b o e=>hx' b o (Ae (AK e)) e
 show AQ _ _ (Dt [fun v=>Dw X.env z v,fun v=>Dw X.env y v,fun v=>Dw X.env x v] [u3,u2,u1] >>= fun _=>pure Gv) _ _ _
 refine AA (Ci (EK (zBe I3 hN hk (.inl hz) rz (fun s2 I4=>?_) (.inr hz))))
 refine Ci (EK (zBe I4 hN hj (.inl hy) rw' (fun s3 I5=>?_) (.inr hy)))
 refine Ci (EK (zBe I5 hN hi (.inl hx) rv (fun s4 I6=>GM (AJ ?_)) (.inr hx)))
 rw[FN _ _ (BD hij),FN _ _ (BD hik),FN _ _ (BD hjk)]at I6
 exact⟨_,H1,I6,q1⟩
end
end L2
namespace D
open PySem L2
noncomputable def rngT (lo:Int) (n:Nat):List T:=(AV n).map fun (i:Nat)=>T.a (.int (lo+(i:Int)))
def dRng1 (fa:DA):DI:=fun Γ=>(fa Γ).bind fun p=>match p.1 with
 | [.v (.a (.int j))]=>if (inR 4611686018427387903 j && Ep j.toNat AB)=true then some ((rngT 0 j.toNat,[]),p.2) else none
 | _=>none
def dRng2 (fa:DA):DI:=fun Γ=>(fa Γ).bind fun p=>match p.1 with
 | [.v (.a (.int i)),.v (.a (.int j))]=>if (inR 4611686018427387903 i && inR 4611686018427387903 j && Ep (j - i).toNat AB)=true then some ((rngT i (j - i).toNat,[]),p.2) else none
 | _=>none
section
variable {K:Fg}
theorem zG2(h:n<=AB):ItOk K w Γ σ (Itr lo n) H (rngT lo n) []:=by
 refine⟨by simp[rngT]; exact h,fun L' _ _ H2 _=>⟨fun i t e=>?_,by simp[rngT]; exact AF n⟩⟩
 unfold rngT at e
 rw[Ah]at e
 obtain⟨j,e1,e⟩:=zAI e
 obtain⟨hi',e1⟩:=Aa.mp e1
 have hi:i < n:=by simpa using hi'
 have e1':i=j:=by simpa using e1
 subst e
 subst e1'
 refine⟨hi,fun x H3 y=>?_⟩
 obtain⟨a,b⟩:=y
 subst a b
 exact⟨fun _ _ z=>z,Im.atom⟩
theorem fit1(h:(inR 4611686018427387903 j && Ep j.toNat AB)=true):-(2 ^ 62)<=j/\j < 2 ^ 62/\j.toNat<=AB:=by
 rw[AW]at h
 exact⟨(inR62 h.1).1,(inR62 h.1).2,E4 h.2⟩
theorem fit2(h:(inR 4611686018427387903 i && inR 4611686018427387903 j && Ep (j - i).toNat AB)=true):(-(2 ^ 62)<=i/\i < 2 ^ 62/\-(2 ^ 62)<=j/\j < 2 ^ 62)/\(j - i).toNat<=AB:=by
 rw[AW,AW]at h
 exact⟨⟨(inR62 h.1.1).1,(inR62 h.1.1).2,(inR62 h.1.2).1,(inR62 h.1.2).2⟩,E4 h.2⟩
theorem zJ8(ha:SimA K ta fa):SimI K (iRng1 ta) (dRng1 fa):=by
 intro C w Γ σ H its src Γ' R Rp e k
 obtain⟨⟨as,G1⟩,e1,e⟩:=bind_some e
 dsimp only at e
 split at e
 ·split at e
  ·rename_i j hj0
   have hj:=fit1 hj0
   cases e
   refine ha C w Γ σ H _ _ _ Rp e1 fun vs H1 R1 ev1 o1 n1=>?_
   obtain⟨v,rfl,o2⟩:=soks1 o1
   exact⟨_,by rw[o2.inva],hj.1,hj.2.1,k _ H1 R1 ev1 (zG2 hj.2.2)⟩
  ·cases e
 ·cases e
theorem zJd(ha:SimA K ta fa):SimI K (iRng2 ta) (dRng2 fa):=by
 intro C w Γ σ H its src Γ' R Rp e k
 obtain⟨⟨as,G1⟩,e1,e⟩:=bind_some e
 dsimp only at e
 split at e
 ·split at e
  ·rename_i j hj0
   have hj:=fit2 hj0
   cases e
   refine ha C w Γ σ H _ _ _ Rp e1 fun vs H1 R1 ev1 o1 n1=>?_
   obtain⟨v,u,rfl,o2,o3⟩:=soks2 o1
   exact⟨_,_,by rw[o2.inva,o3.inva],hj.1,k _ H1 R1 ev1 (zG2 hj.2)⟩
  ·cases e
 ·cases e
noncomputable def srcS (Γ:En):S->List Nat
 | .s i=>match Γ[i]? with
  | some (some (.l _))=>[i]
  | _=>[]
 | _=>[]
def dSeqI (f:DE):DI:=fun Γ=>(f Γ).bind fun p=>(seqS p.2 p.1).bind fun xs=>gd xs.length ((xs,srcS p.2 p.1),p.2)
theorem zBj(R:Rep K C w Γ σ H)(o:SOk K C w σ H x s)(e:sqlOf Γ s=some xs):∃ p vs,x=.ref p/\SqL K H p vs/\Ims K H vs xs /\
  ∀ L',(∀ q∈L',q∈w.L)->(∀ i∈srcS Γ s,∀ q,σ[i]?=some (some (.ref q))->(∃ zs,Γ[i]?=some (some (.l zs)))->q∉L')->∀ H2,Evo L' H H2->SqL K H2 p vs:=by
 cases s with
 | v t =>
  cases t with
  | l ys =>
   cases e
   obtain⟨p,vs,rfl,h1,h2⟩:=(show Im K H x (.l xs) from o).invl
   exact⟨p,vs,rfl,h1.sq,h2,fun L' hs _ H2 ev=>(h1.evo ev fun q hq=>R.lst q (hs q hq)).sq⟩
  | a _=>cases e
  | t _=>cases e
  | f _=>cases e
  | x _ _=>cases e
 | d _=>cases e
 | l ys =>
  cases e
  obtain⟨p,vs,rfl,n1,n2,n3,h1,h2⟩:=o
  exact⟨p,vs,rfl,SqL.of h1,h2,fun L' hs _ H2 ev=>SqL.of (ev _ _ h1 fun z=>n1 (hs p z))⟩
 | s i =>
  have o':σ[i]?=some (some x):=o
  unfold sqlOf at e
  dsimp only at e
  split at e
  ·rename_i ys h
   cases e
   obtain⟨v,e1,p,vs,rfl,_,h1,h2⟩:=R.val i _ h
   rw[o']at e1; cases e1
   refine⟨p,vs,rfl,SqL.of h1,h2,fun L' hs av H2 ev=>SqL.of (ev _ _ h1 (av i ?_ p o' ⟨_,h⟩))⟩
   simp[srcS,h]
  ·rename_i ys h
   cases e
   obtain⟨v,e1,p,vs,rfl,h1,h2,h3,_⟩:=R.val i _ h
   rw[o']at e1; cases e1
   exact⟨p,vs,rfl,SqL.of h2,h1,fun L' hs av H2 ev=>SqL.of (ev _ _ h2 fun z=>h3 (hs p z))⟩
  ·rename_i ys h
   cases e
   obtain⟨v,e1,p,vs,rfl,h1,h2⟩:=R.val i _ h
   rw[o']at e1; cases e1
   exact⟨p,vs,rfl,h2.sq,h1,fun L' hs av H2 ev=>(h2.evo ev fun q hq=>R.lst q (hs q hq)).sq⟩
  ·cases e
theorem zLO(hl:SimE K tl f):SimI K (iSeq K tl) (dSeqI f):=by
 intro C w Γ σ H its src Γ' R Rp e k
 obtain⟨⟨a,G1⟩,e1,e⟩:=bind_some e
 obtain⟨xs,e2,e⟩:=bind_some e
 obtain⟨hz,e⟩:=zBP e
 cases e
 refine hl C w Γ σ H a _ _ Rp e1 fun v H1 R1 ev1 o1 n1=>?_
 dsimp only at e2
 have go:∀ {vs:List V} {H2:Hp} {J:It} (mk:∀ i x,vs[i]?=some x->J.go i H2) (yl:∀ i x H3,J.yld i H2 x H3->H3=H2/\vs[i]?=some x),Ims K H2 vs its->∀ (i:Nat) t,its[i]?=some t->J.go i H2/\∀ x H3,J.yld i H2 x H3->(∀ b o,H2 b=some o->H3 b=some o)/\Im K H3 x t:=fun {vs H2 J} mk yl hi i t e=>by
  obtain⟨v,e3,hv⟩:=hi.get e
  refine⟨mk i v e3,fun x H3 y=>?_⟩
  obtain⟨rfl,e4⟩:=yl i x H3 y
  rw[e3]at e4; cases e4
  exact⟨fun _ _ z=>z,hv⟩
 unfold seqS at e2
 split at e2
 ·cases e2
  obtain⟨p,vs,rfl,h1,i1⟩:=o1.invt
  refine⟨p,rfl,.inr ⟨⟨vs,h1.sq⟩,k _ H1 R1 ev1 ⟨hz,fun L' hs av H2 ev=>?_⟩⟩⟩
  have hL:LL L' H1:=fun q hq=>R1.lst q (hs q hq)
  have h2:SqT K H2 p vs:=(zCn ev hL h1).sq
  have i2:=i1.evo ev hL
  exact⟨go (vs:=vs) (J:=Itt K p) (fun i x e=>⟨vs,x,h2,e⟩) (fun i x H3 y=>⟨y.1,y.2 vs h2⟩) i2,⟨vs,h2,by rw[i2.len]; exact AF _⟩⟩
 ·obtain⟨p,vs,rfl,h1,i1,st⟩:=zBj R1 o1 e2
  refine⟨p,rfl,.inl ⟨⟨vs,h1⟩,k _ H1 R1 ev1 ⟨hz,fun L' hs av H2 ev=>?_⟩⟩⟩
  have hL:LL L' H1:=fun q hq=>R1.lst q (hs q hq)
  have h2:=st L' hs av H2 ev
  have i2:=i1.evo ev hL
  exact⟨go (vs:=vs) (J:=Itl K p) (fun i x e=>⟨vs,x,h2,e⟩) (fun i x H3 y=>⟨y.1,y.2 vs h2⟩) i2,⟨vs,h2,by rw[i2.len]; exact AF _⟩⟩
noncomputable def zipT (xs ys:List T):List T:=(xs.zip ys).map fun p=>.t [p.1,p.2]
def dZip (fa:DA):DI:=fun Γ=>(fa Γ).bind fun p=>match p.1 with
 | [a,b]=>(sqlOf p.2 a).bind fun xs=>(sqlOf p.2 b).bind fun ys=>gd xs.length ((zipT xs ys,srcS p.2 a++srcS p.2 b),p.2)
 | _=>none
theorem zKt(h1:Sq b K H2 a1 vs)(h2:Sq b K H2 a2 us)(i1:Ims K H2 vs xs)(i2:Ims K H2 us ys) :
  (∀ (i:Nat) t,(zipT xs ys)[i]?=some t->(Itz b K a1 a2).go i H2/\∀ x H3,(Itz b K a1 a2).yld i H2 x H3->(∀ b o,H2 b=some o->H3 b=some o)/\Im K H3 x t)/\(Itz b K a1 a2).stop (zipT xs ys).length H2:=by
 refine⟨fun i t e=>?_,⟨vs,us,h1,h2,?_⟩⟩
 ·unfold zipT at e
  rw[Ah]at e
  obtain⟨⟨t1,t2⟩,e1,e⟩:=zAI e
  subst e
  obtain⟨g1,g2⟩:=EC.mp e1
  obtain⟨v,e3,hv⟩:=i1.get g1
  obtain⟨u,e4,hu⟩:=i2.get g2
  refine⟨⟨vs,us,v,u,h1,h2,e3,e4⟩,fun x H3 y=>?_⟩
  obtain⟨T',x',y',rfl,hT,rfl,k1,k2⟩:=y
  have q1:=k1 vs h1
  have q2:=k2 us h2
  rw[e3]at q1; cases q1
  rw[e4]at q2; cases q2
  have ev:Evo [] H2 (upd H2 T' (.tup [v,u])):=Evo.new hT
  have hL:LL [] H2:=fun q hq=>nomatch hq
  refine⟨fun b o e=>ev b o e nofun,Im.tup zAj (.cons (hv.evo ev hL) (.one (hu.evo ev hL)))⟩
 ·have l1:=i1.len
  have l2:=i2.len
  simp[zipT]
  lia
theorem zL0(ha:SimA K ta fa):SimI K (iZipU K ta) (dZip fa):=by
 intro C w Γ σ H its src Γ' R Rp e k
 obtain⟨⟨as,G1⟩,e1,e⟩:=bind_some e
 dsimp only at e
 have zl:∀ xs ys:List T,(zipT xs ys).length<=xs.length:=fun xs ys=>by simp[zipT]; omega
 split at e
 ·obtain⟨xs,e2,e⟩:=bind_some e
  obtain⟨ys,e3,e⟩:=bind_some e
  obtain⟨hz,e⟩:=zBP e
  cases e
  refine ha C w Γ σ H _ _ _ Rp e1 fun vs H1 R1 ev1 o1 n1=>?_
  obtain⟨v,u,rfl,o2,o3⟩:=soks2 o1
  obtain⟨p,vs,rfl,h1,i1,st1⟩:=zBj R1 o2 e2
  obtain⟨q,us,rfl,h2,i2,st2⟩:=zBj R1 o3 e3
  refine⟨false,p,q,rfl,⟨vs,h1⟩,⟨us,h2⟩,k _ H1 R1 ev1 ⟨Ai (zl _ _) hz,fun L' hs av H2 ev=>?_⟩⟩
  have hL:LL L' H1:=fun q hq=>R1.lst q (hs q hq)
  exact zKt (b:=false) (st1 L' hs (fun i hi=>av i (Di _ hi)) H2 ev) (st2 L' hs (fun i hi=>av i (Ag _ hi)) H2 ev) (i1.evo ev hL) (i2.evo ev hL)
 ·cases e
theorem zGB(lo:Int)(n:Nat):Ims K H (rngV lo n) (rngT lo n):=by
 have:rngT lo n=(rngV lo n).map T.a:=by simp[rngT,rngV]
 rw[this]
 exact Ims.atoms _
def rngS (as:List S):Option (List T):=match as with
 | [.v (.a (.int j))]=>if (inR 4611686018427387903 j && Ep j.toNat AB)=true then some (rngT 0 j.toNat) else none
 | [.v (.a (.int i)),.v (.a (.int j))]=>if (inR 4611686018427387903 i && inR 4611686018427387903 j && Ep (j - i).toNat AB)=true then some (rngT i (j - i).toNat) else none
 | _=>none
def rRng:List V->Hp->VK->Prop:=fun xs H Q=>(∃ j:Int,xs=[.int j]/\∀ p,H p=none->Q (.ref p) (upd H p (.rng 0 j)))\/(∃ i j:Int,xs=[.int i,.int j]/\∀ p,H p=none->Q (.ref p) (upd H p (.rng i j)))
def rOfRngL:List V->Hp->VK->Prop:=fun xs H Q=>∃ p lo hi,xs=[.ref p]/\H p=some (.rng lo hi)/\(-(2 ^ 62)<=lo/\lo < 2 ^ 62/\-(2 ^ 62)<=hi/\hi < 2 ^ 62)/\(hi - lo).toNat<=2 ^ 24/\∀ l,H l=none->Q (.ref l) (upd H l (.lst (rngV lo (hi - lo).toNat)))
def rOfRngT:List V->Hp->VK->Prop:=fun xs H Q=>∃ p lo hi,xs=[.ref p]/\H p=some (.rng lo hi)/\(-(2 ^ 62)<=lo/\lo < 2 ^ 62/\-(2 ^ 62)<=hi/\hi < 2 ^ 62)/\(hi - lo).toNat<=2 ^ 24/\∀ l,H l=none->Q (.ref l) (upd H l (.tup (rngV lo (hi - lo).toNat)))
def dListRng (fa:DA):DE:=fun Γ=>(fa Γ).bind fun p=>(rngS p.1).map fun xs=>(.l xs,p.2)
def dTupRng (fa:DA):DE:=fun Γ=>(fa Γ).bind fun p=>(rngS p.1).map fun xs=>(.v (.t xs),p.2)
theorem zGx(R:Rep K C w Γ σ H)(o:SOks K C w σ H vs as)(e:rngS as=some xs)
  (k:∀ p lo hi,H p=none->(-(2 ^ 62)<=lo/\lo < 2 ^ 62/\-(2 ^ 62)<=hi/\hi < 2 ^ 62)->(hi - lo).toNat<=2 ^ 24->xs=rngT lo (hi - lo).toNat->Q (.ref p) (upd H p (.rng lo hi))):rRng vs H Q:=by
 have hs:AB=2 ^ 24:=by rw[Be]
 unfold rngS at e
 split at e
 ·split at e
  ·rename_i j hj0
   have hj:=fit1 hj0
   cases e
   obtain⟨v,rfl,o2⟩:=soks1 o
   refine .inl ⟨_,by rw[o2.inva],fun p hp=>k p 0 _ hp ⟨by decide,by decide,hj.1,hj.2.1⟩ ?_ (by rw[HA])⟩
   rw[HA]; have:=hj.2.2; omega
  ·cases e
 ·split at e
  ·rename_i j hj0
   have hj:=fit2 hj0
   cases e
   obtain⟨v,u,rfl,o2,o3⟩:=soks2 o
   exact .inr ⟨_,_,by rw[o2.inva,o3.inva],fun p hp=>k p _ _ hp hj.1 (by have:=hj.2; omega) rfl⟩
  ·cases e
 ·cases e
theorem zG7(ha:SimA K ta fa):SimE K (tCB rOfRngL (tCons (tCB rRng ta) tNil)) (dListRng fa):=by
 intro C w Γ σ H s Γ' Q R e k
 obtain⟨⟨as,G1⟩,e1,e⟩:=bind_some e
 obtain⟨xs,e2,e⟩:=zAI e
 cases e
 refine ha C w Γ σ H as G1 _ R e1 fun vs H1 R1 ev1 o1 n1=>?_
 refine zGx R1 o1 e2 fun p lo hi hp hb hz hx=>?_
 have R2:Rep K C w G1 σ (upd H1 p (.rng lo hi)):=R1.new hp
 have ev2:Evo w.L H (upd H1 p (.rng lo hi)):=ev1.trans (Evo.new hp)
 refine⟨p,lo,hi,rfl,zAj,hb,hz,fun l hl=>?_⟩
 subst hx
 exact k _ _ (R2.new hl) (ev2.trans (Evo.new hl)) (R2.newl hl (zGB _ _)) ⟨l,rfl,zA4 ev2 R2.lst hl⟩
theorem zIw(ha:SimA K ta fa):SimE K (tCB rOfRngT (tCons (tCB rRng ta) tNil)) (dTupRng fa):=by
 intro C w Γ σ H s Γ' Q R e k
 obtain⟨⟨as,G1⟩,e1,e⟩:=bind_some e
 obtain⟨xs,e2,e⟩:=zAI e
 cases e
 refine ha C w Γ σ H as G1 _ R e1 fun vs H1 R1 ev1 o1 n1=>?_
 refine zGx R1 o1 e2 fun p lo hi hp hb hz hx=>?_
 have R2:Rep K C w G1 σ (upd H1 p (.rng lo hi)):=R1.new hp
 have ev2:Evo w.L H (upd H1 p (.rng lo hi)):=ev1.trans (Evo.new hp)
 refine⟨p,lo,hi,rfl,zAj,hb,hz,fun l hl=>?_⟩
 subst hx
 exact k _ _ (R2.new hl) (ev2.trans (Evo.new hl)) (R2.newt hl (zGB _ _)) trivial
theorem zLt(ha:SimA K ta fa)(hi:ip≠some i)(hj:ip≠some j):SimS K ip (tPar i j ta) (fun Γ=>(fa Γ).bind fun p=>match p.1 with
  | [.v a,.v b]=>some (.nx ((p.2.set i (some (.v a))).set j (some (.v b))))
  | _=>none):=by
 intro C w Γ σ H D o hp R e k
 obtain⟨⟨as,G1⟩,e1,e⟩:=bind_some e
 dsimp only at e
 split at e
 ·cases e
  refine ha C w Γ σ H _ G1 _ R e1 fun vs H1 R1 ev1 o1 n1=>?_
  obtain⟨v,u,rfl,o2,o3⟩:=soks2 o1
  exact⟨v,u,rfl,k w _ H1 ((R1.setv (g:=.v _) rfl o2 (zBf hp hi)).setv (g:=.v _) rfl o3 (zBf hp hj))⟩
 ·cases e
noncomputable def dPar2 (i j:Nat) (fa:DA):DS:=fun Γ=>(fa Γ).bind fun p=>match p.1 with
  | [.v a,.v b]=>some (.nx ((p.2.set i (some (.v a))).set j (some (.v b))))
  | _=>none
noncomputable def dPar3 (i j k:Nat) (fa:DA):DS:=fun Γ=>(fa Γ).bind fun p=>match p.1 with
  | [.v a,.v b,.v c]=>some (.nx (((p.2.set i (some (.v a))).set j (some (.v b))).set k (some (.v c))))
  | _=>none
theorem soks3(h:SOks K C w σ H vs [a,b,c]):∃ v u z,vs=[v,u,z]/\SOk K C w σ H v a/\SOk K C w σ H u b/\SOk K C w σ H z c:=by
 match vs,h with
 | [v,u,z],h=>exact⟨v,u,z,rfl,h.1,h.2.1,h.2.2.1⟩
theorem zJT(ha:SimA K ta fa)(hi:ip≠some i)(hj:ip≠some j)(hk:ip≠some k):SimS K ip (tPar3 i j k ta) (dPar3 i j k fa):=by
 intro C w Γ σ H D o hp R e kk
 obtain⟨⟨as,G1⟩,e1,e⟩:=bind_some e
 dsimp only at e
 split at e
 ·cases e
  refine ha C w Γ σ H _ G1 _ R e1 fun vs H1 R1 ev1 o1 n1=>?_
  obtain⟨v,u,z,rfl,o2,o3,o4⟩:=soks3 o1
  exact⟨v,u,z,rfl,kk w _ H1 (((R1.setv (g:=.v _) rfl o2 (zBf hp hi)).setv (g:=.v _) rfl o3 (zBf hp hj)).setv (g:=.v _) rfl o4 (zBf hp hk))⟩
 ·cases e
def dUnp (tg:En->T->Option En) (f:DE):DS:=fun Γ=>(f Γ).bind fun p=>p.1.tree.bind fun t=>(tg p.2 t).map .nx
theorem zLi(h:SimE K te f)(hg:SimG K ip g tg):SimS K ip (tAsg te g) (dUnp tg f):=by
 intro C w Γ σ H D o hp R e k
 obtain⟨⟨s,G1⟩,e1,e⟩:=bind_some e
 obtain⟨t,e2,e⟩:=bind_some e
 obtain⟨Γ2,e3,e⟩:=zAI e
 subst e
 cases s with
 | l _=>cases e2
 | s _=>cases e2
 | d _=>cases e2
 | v t' =>
  cases e2
  refine h C w Γ σ H _ G1 _ R e1 fun v H1 R1 ev1 o1 n1=>?_
  exact hg C w G1 σ H1 v t Γ2 _ hp R1 o1 e3 fun σ' R'=>k w σ' H1 R'
end
noncomputable def toDa:V->Option ER
 | .int i=>some (.int i)
 | .bl b=>some (.bool b)
 | .str x=>some (.str x)
 | .non=>some .none
 | _=>none
mutual
def toD:T->Option ER
 | .a v=>toDa v
 | .t ts=>(toDs ts).map .tuple
 | .l ts=>(toDs ts).map .list
 | .f _=>none
 | .x _ _=>none
def toDs:List T->Option (List ER)
 | []=>some []
 | t::r=>(toD t).bind fun d=>(toDs r).map fun ds=>d::ds
end
mutual
theorem zGg(I:Inv X pins σ H s):∀ {v:V} {u:AD} {t:T} {d:ER},Im X.K H v t->RelV v u->toD t=some d->∃ as,Reads s.heap u d as
 | v,u,.a x,d,h,r,e=>by
  have hv:=h.inva
  subst hv
  unfold toD at e
  cases v with
  | int i=>cases e; obtain⟨t,rfl⟩:=(show ∃ t,u=Fq i t from r); exact⟨_,.int i t⟩
  | bl b=>cases e; cases (show u=GK b from r); exact⟨_,.bool b⟩
  | str x=>cases e; obtain⟨t,rfl⟩:=(show ∃ t,u=Ft x t from r); exact⟨_,.str x t⟩
  | non=>cases e; cases (show u=CY from r); exact⟨_,.none⟩
  | byt _=>cases e
  | flt _=>cases e
  | ref _=>cases e
  | ty _=>cases e
 | v,u,.t ts,d,h,r,e=>by
  obtain⟨p,vs,rfl,h1,h2⟩:=h.inv
  cases (show u=Bl p from r)
  unfold toD at e
  obtain⟨ds,e1,rfl⟩:=zAI e
  obtain⟨its,rv,⟨o,ho,hc,n,hd⟩,_⟩:=I.tuple h1.sq
  obtain⟨as,q⟩:=zB1 I h2 rv e1
  exact⟨as,.tuple ho hc hd (by simpa using q)⟩
 | v,u,.l ts,d,h,r,e=>by
  obtain⟨p,vs,rfl,h1,h2⟩:=h.invl
  cases (show u=Bl p from r)
  unfold toD at e
  obtain⟨ds,e1,rfl⟩:=zAI e
  obtain⟨its,rv,pl,_⟩:=I.list h1.sq
  obtain⟨o,ho,hc,n,hd⟩:=pl.isList
  obtain⟨as,q⟩:=zB1 I h2 rv e1
  exact⟨_,.list ho hc hd (by simpa using q)⟩
 | v,u,.f _,d,h,r,e=>by unfold toD at e; cases e
 | v,u,.x _ _,d,h,r,e=>by unfold toD at e; cases e
theorem zB1(I:Inv X pins σ H s):∀ {vs:List V} {us:List AD} {ts:List T} {ds:List ER},Ims X.K H vs ts->Vals vs us->toDs ts=some ds->∃ as,ReadsAll s.heap us ds as
 | vs,us,[],ds,h,r,e=>by
  have:=h.inv0
  subst this
  cases r
  unfold toDs at e
  cases e
  exact⟨_,.nil⟩
 | vs,us,t::ts,ds,h,r,e=>by
  obtain⟨v,r',rfl,h1,h2⟩:=h.inv
  unfold toDs at e
  obtain⟨d,e1,e⟩:=bind_some e
  obtain⟨ds',e2,rfl⟩:=zAI e
  cases r with
  | cons r1 r2 =>
   obtain⟨as,q1⟩:=zGg I h1 r1 e1
   obtain⟨bs,q2⟩:=zB1 I h2 r2 e2
   exact⟨_,ReadsAll.cons q1 q2⟩
end
def DatV (K:Fg) (H:Hp) (x:V) (d:ER):Prop:=(∃ t,Im K H x t/\toD t=some d)\/(∃ p vs ts ds,x=.ref p/\SqL K H p vs/\Ims K H vs ts/\toDs ts=some ds/\d=.list ds)
theorem zCF(I:Inv X pins σ H s)(r:RelV x u)(h:DatV X.K H x d):∃ as,Reads s.heap u d as:=by
 rcases h with ⟨t,h,e⟩ | ⟨p,vs,ts,ds,rfl,h1,h2,e,rfl⟩
 ·exact zGg I h r e
 ·cases (show u=Bl p from r)
  obtain⟨its,rv,pl,_⟩:=I.list h1
  obtain⟨o,ho,hc,n,hd⟩:=pl.isList
  obtain⟨as,q⟩:=zB1 I h2 rv e
  exact⟨_,.list ho hc hd (by simpa using q)⟩
noncomputable def rEqD (K:Fg):R2:=fun x y H Q=>∃ da db,DatV K H x da/\DatV K H y db/\da.canLay0=true/\db.canLay0=true/\min da.depth db.depth<=100/\Q (.bl (Aj da db)) H
noncomputable def rNeD (K:Fg):R2:=fun x y H Q=>∃ da db,DatV K H x da/\DatV K H y db/\da.canLay0=true/\db.canLay0=true/\min da.depth db.depth<=100/\Q (.bl (!PyData.eqv da db)) H
theorem zOU(hr:Room k X.A):OpR X (BQ .Eq) (rEqD X.K):=by
 intro pins s σ H x y v u Q I rx ry h
 obtain⟨da,db,h1,h2,c1,c2,hm,q⟩:=h
 obtain⟨_,r1⟩:=zCF I rx h1
 obtain⟨_,r2⟩:=zCF I ry h2
 exact SeqAt.compareEq_reads r1 r2 c1 c2 (by have:=hr.un; lia) ⟨.bl _,H,I,rfl,q⟩
theorem zOs(hr:Room k X.A):OpR X (BQ .NotEq) (rNeD X.K):=by
 intro pins s σ H x y v u Q I rx ry h
 obtain⟨da,db,h1,h2,c1,c2,hm,q⟩:=h
 obtain⟨_,r1⟩:=zCF I rx h1
 obtain⟨_,r2⟩:=zCF I ry h2
 exact SeqAt.compareNe_reads r1 r2 c1 c2 (by have:=hr.un; lia) ⟨.bl _,H,I,rfl,q⟩
def datS (Γ:En):S->Option ER
 | .v t=>toD t
 | a=>(sqlOf Γ a).bind fun xs=>(toDs xs).map .list
theorem zEL(R:Rep K C w Γ σ H)(o:SOk K C w σ H x s)(e:datS Γ s=some d):DatV K H x d:=by
 have lst:∀ {s:S},SOk K C w σ H x s->(sqlOf Γ s).bind (fun xs=>(toDs xs).map PyData.list)=some d->DatV K H x d:=fun {s} o e=>by
  obtain⟨xs,e1,e⟩:=bind_some e
  obtain⟨ds,e2,rfl⟩:=zAI e
  obtain⟨p,vs,rfl,h1,h2⟩:=zBa R o e1
  exact .inr ⟨p,vs,xs,ds,rfl,h1,h2,e2,rfl⟩
 cases s with
 | v t=>exact .inl ⟨t,o,e⟩
 | l xs=>exact lst o e
 | s i=>exact lst o e
 | d _=>cases e
def cmpD (f:ER->ER->Bool):En->S->S->Option S:=fun Γ a b=>(datS Γ a).bind fun da=>(datS Γ b).bind fun db=>if da.canLay0=true/\db.canLay0=true/\min da.depth db.depth<=100 then some (mkB (f da db)) else none
def eqA (f:V->V->Bool):En->S->S->Option S:=fun _ a b=>match a,b with
 | .v (.a x),.v (.a y)=>if scal x y=true then some (mkB (f x y)) else none
 | _,_=>none
theorem zKC:SimR2 K rEq (eqA fun x y=>decide (x=y)):=by
 intro C w Γ σ H x y a b s Q R ox oy e k
 unfold eqA at e
 split at e
 ·split at e
  ·rename_i h
   cases e
   rw[ox.inva,oy.inva]
   exact⟨h,k _ H R .refl SOk.atom trivial⟩
  ·cases e
 ·cases e
theorem zJS:SimR2 K rNe (eqA fun x y=>!decide (x=y)):=by
 intro C w Γ σ H x y a b s Q R ox oy e k
 unfold eqA at e
 split at e
 ·split at e
  ·rename_i h
   cases e
   rw[ox.inva,oy.inva]
   exact⟨h,k _ H R .refl SOk.atom trivial⟩
  ·cases e
 ·cases e
def eqS:En->S->S->Option S:=fun Γ a b=>(eqA (fun x y=>decide (x=y)) Γ a b).or (cmpD Aj Γ a b)
def neS:En->S->S->Option S:=fun Γ a b=>(eqA (fun x y=>!decide (x=y)) Γ a b).or (cmpD (fun a b=>!PyData.eqv a b) Γ a b)
theorem zKk:SimR2 K (rEqD K) (cmpD Aj):=by
 intro C w Γ σ H x y a b s Q R ox oy e k
 obtain⟨da,e1,e⟩:=bind_some e
 obtain⟨db,e2,e⟩:=bind_some e
 split at e
 ·rename_i h
  cases e
  exact⟨da,db,zEL R ox e1,zEL R oy e2,h.1,h.2.1,h.2.2,k _ H R .refl SOk.atom trivial⟩
 ·cases e
theorem zKK:SimR2 K (rNeD K) (cmpD fun a b=>!PyData.eqv a b):=by
 intro C w Γ σ H x y a b s Q R ox oy e k
 obtain⟨da,e1,e⟩:=bind_some e
 obtain⟨db,e2,e⟩:=bind_some e
 split at e
 ·rename_i h
  cases e
  exact⟨da,db,zEL R ox e1,zEL R oy e2,h.1,h.2.1,h.2.2,k _ H R .refl SOk.atom trivial⟩
 ·cases e
theorem zLn:SimR2 K (fun x y H Q=>rEq x y H Q\/rEqD K x y H Q) eqS:=zKC.or zKk
theorem zLD:SimR2 K (fun x y H Q=>rNe x y H Q\/rNeD K x y H Q) neS:=zJS.or zKK
theorem zOf(hr:Room k X.A):OpR X (BQ .Eq) (fun x y H Q=>rEq x y H Q\/rEqD X.K x y H Q):=zQq.or (zOU hr)
theorem zO0(hr:Room k X.A):OpR X (BQ .NotEq) (fun x y H Q=>rNe x y H Q\/rNeD X.K x y H Q):=zQo.or (zOs hr)
def inS (neg:Bool):En->S->S->Option S:=fun Γ a b=>match a with
 | .v (.a x)=>(seqS Γ b).bind fun xs=>(atomsOf xs).bind fun vs=>if flatV x=true/\vs.all flatV=true then some (mkB (if neg then !inV x vs else inV x vs)) else none
 | _=>none
theorem zGb:SimR2 K (rIn K neg) (inS neg):=by
 intro C w Γ σ H x y a b s Q R ox oy e k
 unfold inS at e
 split at e
 ·obtain⟨xs,e1,e⟩:=bind_some e
  obtain⟨vs,e2,e⟩:=bind_some e
  split at e
  ·rename_i h
   cases e
   obtain⟨p,us,rfl,h1,i1⟩:=zEH R oy e1
   have:=zD9 i1 e2
   subst this
   rw[ox.inva]
   exact⟨p,us,rfl,h1,h.1,h.2,k _ H R .refl SOk.atom trivial⟩
  ·cases e
 ·cases e
def truS (Γ:En):S->Option Bool
 | .v (.a .non)=>some false
 | .v (.a (.bl b))=>some b
 | .v (.a (.int i))=>some (i != 0)
 | .v (.a (.str y))=>if y.length<=AB then some ((y.length:Int) != 0) else none
 | .v (.t xs)=>some (!xs.isEmpty)
 | .v _=>none
 | a=>(sqlOf Γ a).map fun xs=>!xs.isEmpty
def dTru (f:DE):DT:=fun Γ=>(f Γ).bind fun p=>(truS p.2 p.1).map fun b=>(b,p.2)
theorem Ims.isEmpty(h:Ims K H vs ts):vs.isEmpty=ts.isEmpty:=by
 have:=h.len
 cases vs <;> cases ts <;> simp at this ⊢
theorem zNB(h:SimE K te f):SimT K (fun σ H Q=>te σ H fun x H'=>∃ k,TruV K x H' k/\Q k H') (dTru f):=by
 intro C w Γ σ H b Γ' Q R e k
 obtain⟨⟨a,G1⟩,e1,e⟩:=bind_some e
 obtain⟨b',e2,e⟩:=zAI e
 cases e
 refine h C w Γ σ H a _ _ R e1 fun v H1 R1 ev1 o1 n1=>⟨b,?_,k H1 R1 ev1⟩
 dsimp only at e2
 unfold truS at e2
 split at e2
 ·cases e2; rw[o1.inva]; exact rfl
 ·cases e2; rw[o1.inva]; exact rfl
 ·cases e2; rw[o1.inva]; exact rfl
 ·split at e2
  ·rename_i hz
   cases e2; rw[o1.inva]; exact⟨hz,rfl⟩
  ·cases e2
 ·cases e2
  obtain⟨p,us,rfl,h1,i1⟩:=o1.invt
  exact .inr (.inl ⟨us,h1.sq,by rw[i1.isEmpty]⟩)
 ·cases e2
 ·obtain⟨xs,e3,e2⟩:=zAI e2
  subst e2
  obtain⟨p,us,rfl,h1,i1⟩:=zBa R1 o1 e3
  exact .inl ⟨us,h1,by rw[i1.isEmpty]⟩
def rfS (Γ:En):S->Option Unit
 | .v (.x _ _)=>some ()
 | .v (.l _)=>some ()
 | .l _=>some ()
 | .s i=>(sqlOf Γ (.s i)).map fun _=>()
 | _=>none
theorem zQU(R:Rep K C w Γ σ H)(o:SOk K C w σ H x a)(e:rfS Γ a=some u):∃ p,x=.ref p:=by
 unfold rfS at e
 split at e
 ·obtain⟨p,rfl,_⟩:=(show Im K H x (.x _ _) from o).invx; exact⟨p,rfl⟩
 ·obtain⟨p,_,rfl,_⟩:=(show Im K H x (.l _) from o).invl; exact⟨p,rfl⟩
 ·obtain⟨p,_,rfl,_⟩:=o; exact⟨p,rfl⟩
 ·obtain⟨xs,e1,_⟩:=zAI e
  obtain⟨p,_,rfl,_⟩:=zBa R o e1; exact⟨p,rfl⟩
 ·cases e
def isNoneS (neg:Bool):En->S->S->Option S:=fun Γ a b=>match b with
 | .v (.a .non)=>match a with
  | .v (.a x)=>some (mkB (if neg then !decide (x=V.non) else decide (x=V.non)))
  | .v (.t _)=>some (mkB neg)
  | a=>(rfS Γ a).map fun _=>mkB neg
 | _=>none
theorem zJp:SimR2 K (fun x y H Q=>y=.non/\Q (.bl (decide (x=.non))) H) (isNoneS false):=by
 intro C w Γ σ H x y a b s Q R ox oy e k
 unfold isNoneS at e
 split at e
 ·refine⟨oy.inva,?_⟩
  split at e
  ·cases e; rw[ox.inva]; exact k _ H R .refl SOk.atom trivial
  ·cases e
   obtain⟨p,us,rfl,h1,i1⟩:=ox.invt
   rw[decide_eq_false (by intro z; cases z)]
   exact k _ H R .refl SOk.atom trivial
  ·obtain⟨u,e1,e⟩:=zAI e
   cases e
   obtain⟨p,rfl⟩:=zQU R ox e1
   rw[decide_eq_false (by intro z; cases z)]
   exact k _ H R .refl SOk.atom trivial
 ·cases e
def EX {ι:Type} (K:Fg) (X:ι->Cx) (e:Expr) (f:DE):Prop:=∃ te,(∀ j,PE (X j) e te)/\SimE K te f
def TX {ι:Type} (K:Fg) (X:ι->Cx) (e:Expr) (f:DT):Prop:=∃ t,(∀ j,PT (X j) e t)/\SimT K t f
def WX {ι:Type} (K:Fg) (X:ι->Cx) (e:Expr) (f:DT):Prop:=∃ t,(∀ j,PW (X j) e t)/\SimT K t f
def AX {ι:Type} (K:Fg) (X:ι->Cx) (es:List Expr) (f:DA):Prop:=∃ t,(∀ j,PA (X j) es t)/\SimA K t f
def OX {ι:Type} (K:Fg) (X:ι->Cx) (e:Option Expr) (f:DO):Prop:=∃ t,(∀ j,PO (X j) e t)/\SimO K t f
def IX {ι:Type} (K:Fg) (X:ι->Cx) (tg it:Expr) (f:DI):Prop:=∃ t,(∀ j,PI (X j) tg it t)/\SimI K t f
def GX {ι:Type} (K:Fg) (X:ι->Cx) (ip:Option Nat) (tg:Expr) (f:En->T->Option En):Prop:=∃ t,(∀ j,PG (X j) tg t)/\SimG K ip t f
def GXs {ι:Type} (K:Fg) (X:ι->Cx) (ip:Option Nat) (tg:List Expr) (f:En->List T->Option En):Prop:=∃ t,(∀ j,PGs (X j) tg t)/\SimGs K ip t f
def SX {ι:Type} (K:Fg) (X:ι->Cx) (ip:Option Nat) (s:Stmt) (f:DS):Prop:=∃ t,(∀ j,PS (X j) s t)/\SimS K ip t f
def BX {ι:Type} (K:Fg) (X:ι->Cx) (ip:Option Nat) (s:List Stmt) (f:DS):Prop:=∃ t,(∀ j,PSs (X j) s t)/\SimS K ip t f
structure Fm{ι:Type}(K:Fg)(mg:Str->Option AD)(k:Nat)(X:ι->Cx):Prop where
 K:∀ j,(X j).K=K
 mg:∀ j,(X j).mg=mg
 calm:∀ j,(X j).calm=true
 room:∀ j,Room k (X j).A
section
variable {ι:Type}{K:Fg}{mg:Str->Option AD}{k:Nat}{X:ι->Cx}{ip:Option Nat}{a b c e:Expr}{es:List Expr}{pos:Pos}{fa fb fc:DE}{ta tb:DT}{da:DA}
theorem jZ(i:Nat)(hN:∀ j,(X j).N[i]?=some x:=by intro _; rfl)(hv:∀ j,Vis (X j).env.scope x:=by intro _; first | exact Fk rfl | exact EW (Fk rfl) | exact EW (EW rfl))(hd:(x == ("__debug__":Str))=false:=by decide)
  (hcd:(x == ("__classdict__":Str))=false:=by decide):EX K X (.Name x pos) (jV i):=⟨tVar i,fun j=>zGH (hN j) (hv j) hd hcd,zNM⟩
theorem jJ{u}:EX K X (.Constant (.int i) u pos) (dC (.int i)):=⟨_,fun _=>zOX,zES⟩
theorem zBQ{u}:EX K X (.Constant (.bool v) u pos) (dC (.bl v)):=⟨_,fun _=>zPy,zES⟩
theorem zCl{u}:EX K X (.Constant .none u pos) (dC .non):=⟨_,fun _=>zPH,zES⟩
theorem zAG{u}:EX K X (.Constant (.str v) u pos) (dC (.str v)):=⟨_,fun _=>zJu,zES⟩
theorem zBE(M:Fm K mg k X)(hm:mg x=none)(hv:CP x=some (.type N))(hg:∀ j,Gl (X j) x:=by intro _; rfl)(hn:x≠"__name__":=by decide)(hd:(x == ("__debug__":Str))=false:=by decide):EX K X (.Name x pos) (dC (.ty N)) :=
 ⟨_,fun j=>zPv (hg j) (by rw[M.mg]; exact hm) hv hn hd,zES⟩
theorem zC2(ho:∀ j,OpR (X j) (CA op) r)(hs:SimR2 K r h)(ha:EX K X a fa)(hb:EX K X b fb):EX K X (.BinOp a op b pos) (dOp h fa fb) :=
 let ⟨_,p,s⟩:=ha; let ⟨_,q,u⟩:=hb; ⟨_,fun j=>zPs (ho j) (p j) (q j),zER hs s u⟩
theorem zAP(M:Fm K mg k X)(ha:EX K X a fa)(hb:EX K X b fb):EX K X (.BinOp a .Add b pos) (dOp addS fa fb):=zC2 (fun j=>by rw[← M.K j]; exact zMb) zJb ha hb
theorem zAd(ha:EX K X a fa)(hb:EX K X b fb):EX K X (.BinOp a .Sub b pos) (dOp subS fa fb):=zC2 (fun j=>zOH) zB9 ha hb
theorem zBA(ha:EX K X a fa)(hb:EX K X b fb):EX K X (.BinOp a .Mult b pos) (dOp mulS fa fb):=zC2 (fun j=>zHl) zFO ha hb
theorem zBL(ha:EX K X a fa)(hb:EX K X b fb):EX K X (.BinOp a .Mod b pos) (dOp modS fa fb):=zC2 (fun j=>zO2) zCv ha hb
theorem zCL(ha:EX K X a fa)(hb:EX K X b fb):EX K X (.BinOp a .FloorDiv b pos) (dOp fdivS fa fb):=zC2 (fun j=>zNJ) zCv ha hb
theorem zOb(ha:EX K X a fa)(hb:EX K X b fb):EX K X (.BinOp a .Pow b pos) (dOp powS fa fb):=zC2 (fun j=>zOP) zCv ha hb
theorem zBI(ha:EX K X a fa):EX K X (.UnaryOp .USub a pos) (dUn negS fa):=let ⟨_,p,s⟩:=ha; ⟨_,fun j=>zP2 zOv (p j),zPF zKe s⟩
theorem zOC(ho:∀ j,OpR (X j) (BQ op) r)(hs:SimR2 K r h)(hm:Cr op b=false)(ha:EX K X a fa)(hb:EX K X b fb):EX K X (.Compare a [op] [b] pos) (dOp h fa fb) :=
 let ⟨_,p,s⟩:=ha; let ⟨_,q,u⟩:=hb; ⟨_,fun j=>zMt (ho j) (p j) (q j) hm,zER hs s u⟩
theorem zOK(ho:∀ j,OpR (X j) (BQ op) r)(hs:SimR2 K r h)(hm:Cr op b=false)(ha:EX K X a fa)(hb:EX K X b fb):TX K X (.Compare a [op] [b] pos) (dTest (dOp h fa fb)) :=
 let ⟨_,p,s⟩:=ha; let ⟨_,q,u⟩:=hb; ⟨_,fun j=>zMs (ho j) (p j) (q j) hm,zCR (zER hs s u)⟩
structure CmpR{ι:Type}(K:Fg)(X:ι->Cx)(op:G6)(h:En->S->S->Option S):Prop where
 ex:∃ r,(∀ j,OpR (X j) (BQ op) r)/\SimR2 K r h
theorem zBC:CmpR K X .Lt ltS:=⟨_,fun _=>zQn,zB9⟩
theorem zCE:CmpR K X .Gt gtS:=⟨_,fun _=>zQK,zB9⟩
theorem zP9:CmpR K X .GtE geS:=⟨_,fun _=>zPr,zB9⟩
theorem zAV(M:Fm K mg k X):CmpR K X .Eq eqS:=⟨_,fun j=>by have:=zOf (M.room j); rw[M.K j]at this; exact this,zLn⟩
theorem zBD(M:Fm K mg k X):CmpR K X .NotEq neS:=⟨_,fun j=>by have:=zO0 (M.room j); rw[M.K j]at this; exact this,zLD⟩
theorem zME(M:Fm K mg k X):CmpR K X .In (inS false):=⟨_,fun j=>by have:=zJ7 (X:=X j); rw[M.K j]at this; exact this,zGb⟩
theorem zGt(M:Fm K mg k X):CmpR K X .NotIn (inS true):=⟨_,fun j=>by have:=zGK (X:=X j); rw[M.K j]at this; exact this,zGb⟩
theorem zPh:CmpR K X .Is (isNoneS false):=⟨_,fun _=>zO6,zJp⟩
theorem ex_c(hc:CmpR K X op h)(ha:EX K X a fa)(hb:EX K X b fb)(hm:Cr op b=false:=by first | exact nomark _ | with_unfolding_all rfl):EX K X (.Compare a [op] [b] pos) (dOp h fa fb) :=
 let ⟨_,p,q⟩:=hc.ex; zOC p q hm ha hb
theorem tx_c(hc:CmpR K X op h)(ha:EX K X a fa)(hb:EX K X b fb)(hm:Cr op b=false:=by first | exact nomark _ | with_unfolding_all rfl):TX K X (.Compare a [op] [b] pos) (dTest (dOp h fa fb)) :=
 let ⟨_,p,q⟩:=hc.ex; zOK p q hm ha hb
theorem tx_v(M:Fm K mg k X)(ha:EX K X a fa)(he:∀ j whole,Hm a (X j).env whole=(do let v ← whole; Iv a.pos; holding [v] (truthy v)):=by intro _ _; rfl):TX K X a (dTru fa) :=
 let ⟨te,p,s⟩:=ha; ⟨(fun σ H Q=>te σ H fun x H'=>∃ k,TruV K x H' k/\Q k H'),fun j=>by have:=zK4 (p j) (he j); rw[M.K j]at this; exact this,zNB s⟩
theorem zBM(ha:TX K X a ta):TX K X (.UnaryOp .Not a pos) (dNot ta):=let ⟨_,p,s⟩:=ha; ⟨_,fun j=>zO4 (p j),zNH s⟩
theorem zDh(ha:TX K X a ta):WX K X (.BoolOp .And [a] pos) ta:=let ⟨_,p,s⟩:=ha; ⟨_,fun j=>zMO (p j),s⟩
theorem zA8(ha:TX K X a ta):WX K X (.BoolOp .Or [a] pos) ta:=let ⟨_,p,s⟩:=ha; ⟨_,fun j=>zO3 (p j),s⟩
theorem zDI(ha:TX K X a ta)(hb:WX K X (.BoolOp .And (b::es) pos) tb):WX K X (.BoolOp .And (a::b::es) pos) (dAnd ta tb):=let ⟨_,p,s⟩:=ha; let ⟨_,q,u⟩:=hb; ⟨_,fun j=>zOu (p j) (q j),zMV s u⟩
theorem zAs(ha:TX K X a ta)(hb:WX K X (.BoolOp .Or (b::es) pos) tb):WX K X (.BoolOp .Or (a::b::es) pos) (dOr ta tb):=let ⟨_,p,s⟩:=ha; let ⟨_,q,u⟩:=hb; ⟨_,fun j=>zPR (p j) (q j),zOF s u⟩
theorem tx_w(ha:WX K X a ta):TX K X a ta:=let ⟨_,p,s⟩:=ha; ⟨_,fun j=>(p j).pt,s⟩
theorem zB6{op}(ha:EX K X a fa):EX K X (.BoolOp op [a] pos) fa:=let ⟨_,p,s⟩:=ha; ⟨_,fun j=>zOL (p j),s⟩
theorem zBo(ha:EX K X a fa)(hb:EX K X (.BoolOp .And (b::es) pos) fb):EX K X (.BoolOp .And (a::b::es) pos) (dAndV fa fb):=let ⟨_,p,s⟩:=ha; let ⟨_,q,u⟩:=hb; ⟨_,fun j=>zOo (p j) (q j),zLr s u⟩
theorem zQp(ha:EX K X a fa)(hb:EX K X (.BoolOp .Or (b::es) pos) fb):EX K X (.BoolOp .Or (a::b::es) pos) (dOrV fa fb):=let ⟨_,p,s⟩:=ha; let ⟨_,q,u⟩:=hb; ⟨_,fun j=>zQA (p j) (q j),zNS s u⟩
theorem zOp(ha:EX K X a fa):EX K X (.UnaryOp .Not a pos) (dNotV fa):=let ⟨_,p,s⟩:=ha; ⟨_,fun j=>zOi (p j),zLK s⟩
theorem zMM(hc:TX K X c ta)(ha:EX K X a fa)(hb:EX K X b fb):EX K X (.IfExp c a b pos) (dIfE ta fa fb):=let ⟨_,p,s⟩:=hc; let ⟨_,q,u⟩:=ha; let ⟨_,q',u'⟩:=hb; ⟨_,fun j=>zK7 (p j) (q j) (q' j),zNm s u u'⟩
theorem jY:AX K X [] qQ:=⟨_,fun _=>zFy,zHh⟩
theorem jQ(ha:EX K X e fa)(hr:AX K X es fr)(hs:∀ j,AU (e::es) (X j).env=(false,eval e (X j).env)::AU es (X j).env:=by intro _; rfl):AX K X (e::es) (jW fa fr) :=
 let ⟨_,p,s⟩:=ha; let ⟨_,q,u⟩:=hr; ⟨_,fun j=>zEr (p j) (q j) (hs j),zK8 s u⟩
theorem zAC{x1}(h:AX K X es da):EX K X (.Tuple es x1 pos) (dTup da):=let ⟨_,p,s⟩:=h; ⟨_,fun j=>zPI (p j),zN3 s⟩
theorem zAX(h:AX K X es da):EX K X (.List es pos) (dLst da):=let ⟨_,p,s⟩:=h; ⟨_,fun j=>zOO (p j),zNp s⟩
theorem zAE(M:Fm K mg k X)(ha:EX K X a fa)(hb:EX K X b fb)(hs:PlainIx b:=by exact fun _ _=>rfl):EX K X (.Subscript a b pos) (dOp ixS fa fb) :=
 let ⟨_,p,s⟩:=ha; let ⟨_,q,u⟩:=hb; ⟨_,fun j=>zQT (by have:=zOq (X:=X j); rw[M.K j]at this; exact this) (p j) (q j) hs,zER zLm s u⟩
theorem zAb:OX K X none dNoPart:=⟨_,fun _=>zNN,zIg⟩
theorem zAT(ha:EX K X a fa):OX K X (some a) (dPart fa):=let ⟨_,p,s⟩:=ha; ⟨_,fun j=>zN2 (p j),zLJ s⟩
theorem zAe(M:Fm K mg k X)(ha:EX K X a fa)(hl:OX K X lo dl)(hh:OX K X hi dh):EX K X (.Subscript a (.Slice lo hi none p2) pos) (dSl fa dl dh) :=
 let ⟨_,p,s⟩:=ha; let ⟨_,q,u⟩:=hl; let ⟨_,q',u'⟩:=hh; ⟨_,fun j=>zLT (by have:=sl_S (X:=X j); rw[M.K j]at this; exact this) (p j) (q j) (q' j),zOh s u u'⟩
structure CalR{ι:Type}(K:Fg)(X:ι->Cx)(f:AD)(h:En->List S->Option S):Prop where
 ex:∃ r,(∀ j,CallR (X j) f r)/\SimRs K r h
theorem zAS{x:Str}{p:Pos}{id:String}{h:En->List S->Option S}(M:Fm K mg k X)(hc:CalR K X (.builtin id) h)(hm:mg x=none)(hv:CP x=some (.builtin id))(ha:AX K X (e::es) da)(hg:∀ j,Gl (X j) x:=by intro _; rfl)(hn:x≠"__name__":=by decide)(hdb:(x == ("__debug__":Str))=false:=by decide)
  (he:∀ j,AU (e::es) (X j).env=(false,eval e (X j).env)::AU es (X j).env:=by intro _; rfl) (hpl:∀ j,(CL pos (AU es (X j).env)).any (·.1)=false:=by intro _; rfl):EX K X (.Call (.Name x p) (e::es) [] pos) (dCB h da) :=
 let ⟨_,p,s⟩:=hc.ex; let ⟨_,q,u⟩:=ha; ⟨_,fun j=>zL7 (p j) (hg j) (by rw[M.mg]; exact hm) hv (q j) hn hdb (he j) (hpl j),zKj s u⟩
theorem zBF(M:Fm K mg k X)(hc:CalR K X (.type N) h)(hm:mg x=none)(hv:CP x=some (.type N))(ha:AX K X (e::es) da)(hg:∀ j,Gl (X j) x:=by intro _; rfl)(hn:x≠"__name__":=by decide)(hdb:(x == ("__debug__":Str))=false:=by decide)
  (he:∀ j,AU (e::es) (X j).env=(false,eval e (X j).env)::AU es (X j).env:=by intro _; rfl) (hpl:∀ j,(CL pos (AU es (X j).env)).any (·.1)=false:=by intro _; rfl):EX K X (.Call (.Name x p) (e::es) [] pos) (dCB h da) :=
 let ⟨_,p,s⟩:=hc.ex; let ⟨_,q,u⟩:=ha; ⟨_,fun j=>zB2 (p j) (hg j) (by rw[M.mg]; exact hm) hv (q j) hn hdb (he j) (hpl j),zKj s u⟩
theorem zAc(M:Fm K mg k X):CalR K X (.builtin "len") lenS:=⟨_,fun j=>by have:=zKa (X:=X j); rw[M.K j]at this; exact this,zKr⟩
theorem zEB(M:Fm K mg k X):CalR K X (.builtin "all") allS:=⟨_,fun j=>by have:=zLE (M.calm j); rw[M.K j]at this; exact this,zJW⟩
theorem zAz(M:Fm K mg k X):CalR K X (.builtin "isinstance") isiS:=⟨_,fun j=>by have:=zL5 (X:=X j); rw[M.K j]at this; exact this,zJX⟩
theorem zMU(M:Fm K mg k X):CalR K X (.builtin "max") max2S:=⟨_,fun j=>zJ0 (M.calm j),zIR⟩
theorem zDE:CalR K X (.type "int") intS:=⟨_,fun j=>zJV,zKB⟩
theorem zA6(M:Fm K mg k X):CalR K X (.type "tuple") tupleS:=⟨_,fun j=>by have:=zFf (X:=X j); rw[M.K j]at this; exact this,zG8⟩
theorem zFK{X:Cx}:CallR X (.type "range") rRng:=zJQ.or zJN
theorem zEU(M:Fm K mg k X)(hl:mg "list"=none)(hr:mg "range"=none)(ha:AX K X (e::es) da)(hg:∀ j,Gl (X j) "list":=by intro _; rfl)(hg2:∀ j,Gl (X j) "range":=by intro _; rfl)
  (he:∀ j,AU (e::es) (X j).env=(false,eval e (X j).env)::AU es (X j).env:=by intro _; rfl) (hpl:∀ j,(CL pos2 (AU es (X j).env)).any (·.1)=false:=by intro _; rfl) :
  EX K X (.Call (.Name "list" p) [.Call (.Name "range" p2) (e::es) [] pos2] [] pos) (dListRng da) :=
 let ⟨_,q,u⟩:=ha; ⟨_,fun j=>zB2 (zGG (M.calm j)) (hg j) (by rw[M.mg]; exact hl) F0 (zEr (zB2 zFK (hg2 j) (by rw[M.mg]; exact hr) Fw (q j) ∅ ∅ (he j) (hpl j)) zFy),zG7 u⟩
theorem zJ4(M:Fm K mg k X)(hl:mg "tuple"=none)(hr:mg "range"=none)(ha:AX K X (e::es) da)(hg:∀ j,Gl (X j) "tuple":=by intro _; rfl)(hg2:∀ j,Gl (X j) "range":=by intro _; rfl)
  (he:∀ j,AU (e::es) (X j).env=(false,eval e (X j).env)::AU es (X j).env:=by intro _; rfl) (hpl:∀ j,(CL pos2 (AU es (X j).env)).any (·.1)=false:=by intro _; rfl) :
  EX K X (.Call (.Name "tuple" p) [.Call (.Name "range" p2) (e::es) [] pos2] [] pos) (dTupRng da) :=
 let ⟨_,q,u⟩:=ha; ⟨_,fun j=>zB2 (zFc (M.calm j)) (hg j) (by rw[M.mg]; exact hl) Fx (zEr (zB2 zFK (hg2 j) (by rw[M.mg]; exact hr) Fw (q j) ∅ ∅ (he j) (hpl j)) zFy),zIw u⟩
end
structure Fb{ι:Type}(P:Am)(wd:A0)(base:Heap)(X:ι->Cx):Prop where
 P:∀ j,(X j).prog=P
 w:∀ j,(X j).w=wd
 b:∀ j,(X j).base=base
structure FD(P:Am)(wd:A0)(K:Fg)(mg:Str->Option AD)(base:Heap)(k:Nat)(x:Str)(ip:Option Nat)(n:Nat)(F:DF):Prop where
 ex:∃ (f:Addr) (fd:C6) (ps:List Str),FnOk P wd K mg base CX0 k f fd ps (spD K ip n F)/\mg x=some (.ref f)/\Cj K (.ref f)=true/\Binds K fd ps []
 len:∀ gs r,F gs=some r->gs.length=n
theorem zNx:∀ gs r,fnD ip np nN g gs=some r->gs.length=np:=fun gs r e=>by
 unfold fnD at e
 split at e
 ·assumption
 ·cases e
section
variable {ι:Type}{P:Am}{wd:A0}{base:Heap}{K:Fg}{mg:Str->Option AD}{k k' n:Nat}{X:ι->Cx}{ip:Option Nat}{a b c e:Expr}{es:List Expr}{pos p:Pos}{fa fb fc:DE}{ta tb:DT}{da:DA}{F:DF}{x:Str}
theorem zAB(M:Fm K mg k X)(B:Fb P wd base X)(D0:FD P wd K mg base k' x ip n F)(ha:AX K X (e::es) da)(hk:k'<=k:=by first | exact AF _ | decide | lia)(hg:∀ j,Gl (X j) x:=by intro _; rfl)(hdb:(x == ("__debug__":Str))=false:=by decide)
  (he:∀ j,AU (e::es) (X j).env=(false,eval e (X j).env)::AU es (X j).env:=by intro _; rfl) (hpl:∀ j,(CL pos (AU es (X j).env)).any (·.1)=false:=by intro _; rfl) :
  EX K X (.Call (.Name x p) (e::es) [] pos) (dCall ip F [] da):=by
 obtain⟨f,fd,ps,h1,h2,h3,h4⟩:=D0.ex
 obtain⟨t,q,u⟩:=ha
 refine⟨tCall (spD K ip n F) [] E0 t,fun j=>?_,zGO D0.len u⟩
 have hF:FnOk (X j).prog (X j).w (X j).K (X j).mg (X j).base CX0 k' f fd ps (spD K ip n F):=by rw[B.P,B.w,M.K,M.mg,B.b]; exact h1
 exact zMv hF ((M.room j).mono hk) (hg j) (by rw[M.mg]; exact h2) (by rw[M.K]; exact h3) (by rw[M.K]; exact h4) .nil pass0 (q j) hdb (he j) (hpl j)
theorem zAh(M:Fm K mg k X)(hl:EX K X l fa):IX K X tg l (dSeqI fa):=let ⟨t,p,s⟩:=hl; ⟨iSeq K t,fun j=>by have:=zMa (tg:=tg) (p j); rw[M.K j]at this; exact this,zLO s⟩
theorem zDe(M:Fm K mg k X)(hm:mg "range"=none)(ha:AX K X [a] da)(hg:∀ j,Gl (X j) "range":=by intro _; rfl)(hs:∀ j,AU [a] (X j).env=[(false,eval a (X j).env)]:=by intro _; rfl):IX K X tg (.Call (.Name "range" p) [a] [] pos) (dRng1 da) :=
 let ⟨_,q,u⟩:=ha; ⟨_,fun j=>zJ1 (hg j) (by rw[M.mg]; exact hm) (q j) (hs j),zJ8 u⟩
theorem zRs(M:Fm K mg k X)(hm:mg "range"=none)(ha:AX K X [a,b] da)(hg:∀ j,Gl (X j) "range":=by intro _; rfl)(hs:∀ j,AU [a,b] (X j).env=[(false,eval a (X j).env),(false,eval b (X j).env)]:=by intro _; rfl)
  (hs2:∀ j,AU [b] (X j).env=[(false,eval b (X j).env)]:=by intro _; rfl):IX K X tg (.Call (.Name "range" p) [a,b] [] pos) (dRng2 da) :=
 let ⟨_,q,u⟩:=ha; ⟨_,fun j=>zKU (hg j) (by rw[M.mg]; exact hm) (q j) (hs j) (hs2 j),zJd u⟩
theorem zPB(M:Fm K mg k X)(hm:mg "zip"=none)(ha:AX K X [a,b] da)(hg:∀ j,Gl (X j) "zip":=by intro _; rfl)(hs:∀ j,AU [a,b] (X j).env=[(false,eval a (X j).env),(false,eval b (X j).env)]:=by intro _; rfl)
  (hs2:∀ j,AU [b] (X j).env=[(false,eval b (X j).env)]:=by intro _; rfl):IX K X (.Tuple elts x1 tp) (.Call (.Name "zip" p) [a,b] [] pos) (dZip da) :=
 let ⟨t,q,u⟩:=ha; ⟨iZipU K t,fun j=>by have:=zMP (elts:=elts) (x1:=x1) (tp:=tp) (p:=p) (pos:=pos) (hg j) (by rw[M.mg]; exact hm) (q j) (hs j) (hs2 j); rw[M.K j]at this; exact this,zL0 u⟩
theorem zAJ(i:Nat)(hi:ip≠some i:=by decide)(hN:∀ j,(X j).N.Nodup:=by intro _; show (FR _); decide +kernel)(hx':∀ j,(X j).N[i]?=some x:=by intro _; rfl)(hx:∀ j,Loc (X j).env.scope x:=by intro _; first | exact Fk rfl | exact EW rfl)
  (hf:∀ j,(X j).fn x=true\/(X j).env.scope.names.lookup x=some .local:=by intro _; first | exact .inl rfl | exact .inr rfl):GX K X ip (.Name x pos) (gdName i):=⟨_,fun j=>zHt (hN j) (hx' j) (hx j) (hf j),zKn hi⟩
theorem zAi:GXs K X ip [] gdNil:=⟨_,fun _=>zN9,zKz⟩
theorem zAK(h1:GX K X ip e f)(h2:GXs K X ip es g)(hst:∀ j,(BS (e::es) (X j).env).map (·.2)=assign e (X j).env::(BS es (X j).env).map (·.2):=by intro _; rfl):GXs K X ip (e::es) (gdCons f g) :=
 let ⟨_,p,s⟩:=h1; let ⟨_,q,u⟩:=h2; ⟨_,fun j=>zK9 (p j) (q j) (hst j),zI1 s u⟩
theorem zAq(n:Nat)(M:Fm K mg k X)(h:GXs K X ip es g)(hn:∀ j,(BS es (X j).env).length=n:=by intro _; rfl)(hst:∀ j,(BS es (X j).env).findIdx? (·.1)=none:=by intro _; rfl):GX K X ip (.Tuple es kk pos) (gdTup n g) :=
 let ⟨_,p,s⟩:=h; ⟨_,fun j=>zNw K (M.K j) (M.calm j) (p j) (hn j) (hst j),zLM s⟩
def QX {ι:Type} (K:Fg) (X:ι->Cx) (ifs:List Expr) (f:DT):Prop:=∃ t,(∀ j,PTs (X j) ifs t)/\SimT K t f
noncomputable def dYes:DT:=fun Γ=>some (true,Γ)
theorem zA7:QX K X [] dYes:=⟨_,fun _=>zN8,fun C w Γ σ H b Γ' Q R e k=>by cases e; exact k H R .refl⟩
theorem zEJ(h:TX K X c ta):QX K X [c] ta:=let ⟨_,p,s⟩:=h; ⟨_,fun j=>zNe (p j),s⟩
noncomputable abbrev CI (ι:Type):=ι×Addr×List (Str×Addr)×AG×Hp×List Addr
abbrev cxF {ι:Type} (X:ι->Cx) (N':List Str) (sc:Ez):CI ι->Cx:=fun q=>cxC (X q.1) N' sc q.2.1 q.2.2.1 q.2.2.2.1 q.2.2.2.2.1 q.2.2.2.2.2
theorem Fm.comp(M:Fm K mg k X):Fm K mg k (cxF X N' sc):=⟨fun j=>M.K j.1,fun j=>M.mg j.1,fun j=>M.calm j.1,fun j=>M.room j.1⟩
theorem Fb.comp(B:Fb P wd base X):Fb P wd base (cxF X N' sc):=⟨fun j=>B.P j.1,fun j=>B.w j.1,fun j=>B.b j.1⟩
theorem zAw(mu:Option (Nat×Nat))(M:Fm K mg k X)(S:∀ j,CompOk (X j) N' ix sc)(hi:IX K X tg iter di)
  (hg:GX K (cxF X N' sc) (mu.map (·.1)) tg g) (ht:QX K (cxF X N' sc) ifs dc) (he:EX K (cxF X N' sc) elt de)
  (hmu:∀ j i,mu=some (j,i)->ix[j]?=some (some i):=by intro _ _ e; first | (cases e; rfl) | cases e) (hix:∀ (j j' i:Nat),mu.map (·.2)=some i->ix[j]?=some (some i)->ix[j']?=some (some i)->j=j')
  (hs:∀ j x,CQ iter (X j).env x=pure x:=by intro _ _; rfl):EX K X (.ListComp elt [⟨tg,iter,ifs,0⟩] sc pos) (dComp mu ix di g dc de) :=
 let ⟨_,p1,s1⟩:=hi; let ⟨_,p2,s2⟩:=hg; let ⟨_,p3,s3⟩:=ht; let ⟨_,p4,s4⟩:=he
 ⟨_,fun j=>zMy (S j) (M.calm j) (p1 j) (fun C cs s H ex=>p2 (j,C,cs,s,H,ex)) (fun C cs s H ex=>p3 (j,C,cs,s,H,ex)) (fun C cs s H ex=>p4 (j,C,cs,s,H,ex)) (hs j),zGL s1 s2 s3 s4 hmu hix⟩
theorem hix0{ix:List (Option Nat)}:∀ (j j' i:Nat),(none:Option (Nat×Nat)).map (·.2)=some i->ix[j]?=some (some i)->ix[j']?=some (some i)->j=j':=fun _ _ _ e=>by cases e
noncomputable def onceIx (ix:List (Option Nat)) (j i:Nat):Bool:=(AV ix.length).all fun m=>decide (ix[m]?=some (some i)->m=j)
theorem hix1(h:onceIx ix j0 i0=true):∀ (j j' i:Nat),(some (j0,i0)).map (·.2)=some i->ix[j]?=some (some i)->ix[j']?=some (some i)->j=j':=by
 intro j j' i e h1 h2
 cases e
 have key:∀ m:Nat,ix[m]?=some (some i0)->m=j0:=fun m hm=>by
  have hl:=(Aa.mp hm).1
  have:=Aw.mp h m (by simpa using hl)
  exact (of_decide_eq_true this) hm
 rw[key j h1,key j' h2]
theorem zBG{i:Nat}{name:Str}{apos cpos:Pos}{id:String}{r:V->List V->Hp->VK->Prop}{h:En->List T->List S->Option (T×List T)}{y:Str}{yp:Pos}(M:Fm K mg k X)(slot:Slot "list" name id)(hty:Ij (.builtin id)=pure (.type "method_descriptor"))(hm:∀ j,MtM (X j) id r)(hr:SimMut K r h)
  (ho:∀ j,PE (X j) (.Name y yp) (tVar i)) (ha:AX K X (e::es) da)
  (hbase:∀ j,DM (.Name y yp) name (X j).env (eval (.Name y yp) (X j).env)=eval (.Name y yp) (X j).env:=by intro _; rfl)
  (hfew:∀ j,((CL cpos (AU (e::es) (X j).env)).all (fun x=>!x.1) && (G8 cpos (FU [] (X j).env)).all (fun x=>x.1.isSome) && decide ((e::es).length+([]:List Ef).length+(if ([]:List Ef).isEmpty then 0 else 1) < 30))=true:=by intro _; rfl)
  (hline:(apos.endLine == cpos.line)=true:=by rfl) (hs:∀ j,AU (e::es) (X j).env=(false,eval e (X j).env)::AU es (X j).env:=by intro _; rfl) (hplain:∀ j,(CL cpos (AU es (X j).env)).any (·.1)=false:=by intro _; rfl) :
  EX K X (.Call (.Attribute (.Name y yp) name apos) (e::es) [] cpos) (dMut i h da) :=
 let ⟨t,q,u⟩:=ha; ⟨tBM K "list" r (tVar i) t,fun j=>by have:=zQr GY slot hty (hm j) (ho j) (q j) (hbase j) (hfew j) hline (hs j) (hplain j); rw[M.K j]at this; exact this,zHo hr u⟩
theorem zEm{i:Nat}{name:Str}{apos cpos:Pos}{id:String}{r:V->List V->Hp->VK->Prop}{h:En->List T->List S->Option (T×List T)}{y:Str}{yp:Pos}(M:Fm K mg k X)(slot:Slot "list" name id)(hty:Ij (.builtin id)=pure (.type "method_descriptor"))(hm:∀ j,MtM (X j) id r)(hr:SimMut K r h)
  (ho:∀ j,PE (X j) (.Name y yp) (tVar i)) (hbase:∀ j,DM (.Name y yp) name (X j).env (eval (.Name y yp) (X j).env)=eval (.Name y yp) (X j).env:=by intro _; rfl) (hline:(apos.endLine == cpos.line)=true:=by rfl) :
  EX K X (.Call (.Attribute (.Name y yp) name apos) [] [] cpos) (dMut i h qQ) :=
 ⟨tBM0 K "list" r (tVar i),fun j=>by have:=zOD GY slot hty (hm j) (ho j) (hbase j) hline; rw[M.K j]at this; exact this,zK6 hr⟩
theorem zF6(M:Fm K mg k X)(ho:EX K X o fa)(ha:AX K X (e::es) da)
  (hbase:∀ j,DM o "index" (X j).env (eval o (X j).env)=eval o (X j).env:=by intro _; rfl)
  (hfew:∀ j,((CL cpos (AU (e::es) (X j).env)).all (fun x=>!x.1) && (G8 cpos (FU [] (X j).env)).all (fun x=>x.1.isSome) && decide ((e::es).length+([]:List Ef).length+(if ([]:List Ef).isEmpty then 0 else 1) < 30))=true:=by intro _; rfl)
  (hline:(apos.endLine == cpos.line)=true:=by rfl) (hs:∀ j,AU (e::es) (X j).env=(false,eval e (X j).env)::AU es (X j).env:=by intro _; rfl) (hplain:∀ j,(CL cpos (AU es (X j).env)).any (·.1)=false:=by intro _; rfl) :
  EX K X (.Call (.Attribute o "index" apos) (e::es) [] cpos) (dIndex fa da) :=
 have hm:∀ j,MtM (X j) "tuple.index" (rTupIndex K):=fun j=>by have:=zHC (X:=X j); rw[M.K j]at this; exact this
 let ⟨t0,q0,u0⟩:=ho; let ⟨t,q,u⟩:=ha; ⟨tBMS K (rTupIndex K) t0 t,fun j=>by have:=zO1 PySem.F.slot_tuple_index PySem.F.type_tuple_index (hm j) (q0 j) (q j) (hbase j) (hfew j) hline (hs j) (hplain j); rw[M.K j]at this; exact this,zJY u0 u⟩
theorem pv'(i:Nat)(hN:∀ j,(X j).N[i]?=some x:=by intro _; rfl)(hv:∀ j,Vis (X j).env.scope x:=by intro _; first | exact Fk rfl | exact EW (Fk rfl) | exact EW (EW rfl))(hd:(x == ("__debug__":Str))=false:=by decide)
  (hcd:(x == ("__classdict__":Str))=false:=by decide):∀ j,PE (X j) (.Name x pos) (tVar i):=fun j=>zGH (hN j) (hv j) hd hcd
variable {st:Stmt}{sts sts':List Stmt}{f g:DS}
theorem zAL:BX K X ip [] dNext:=⟨_,fun _=>zNV,zJU⟩
theorem zAD(h:SX K X ip st f):BX K X ip [st] f:=let ⟨_,p,s⟩:=h; ⟨_,fun j=>zNG (p j),s⟩
theorem zAA(h:SX K X ip st f)(h2:BX K X ip sts g):BX K X ip (st::sts) (dSeq f g):=let ⟨_,p,s⟩:=h; let ⟨_,q,u⟩:=h2; ⟨_,fun j=>zLN (p j) (q j),zLA s u⟩
theorem zA9(h:EX K X e fa)(hs:∀ j,Fh e none pos.line (X j).env=pure false:=by intro _; rfl):SX K X ip (.Expr e pos) (dDrop fa):=let ⟨_,p,s⟩:=h; ⟨_,fun j=>zM6 (p j) (hs j),zJx s⟩
theorem zAF(h:EX K X e fa):SX K X ip (.Return (some e) pos) (dRet fa):=let ⟨_,p,s⟩:=h; ⟨_,fun j=>zOe (p j),zLC s⟩
theorem zAR(hc:TX K X c ta)(h1:BX K X ip sts f)(h2:BX K X ip sts' g):SX K X ip (.If c sts sts' pos) (dIf ta f g):=let ⟨_,p,s⟩:=hc; let ⟨_,q,u⟩:=h1; let ⟨_,q',u'⟩:=h2; ⟨_,fun j=>zQd (p j) (q j) (q' j),zMX s u u'⟩
theorem zAH(i:Nat)(h:EX K X e fa)(hi:ip≠some i:=by decide)(hN:∀ j,(X j).N.Nodup:=by intro _; show (FR _); decide +kernel)(hx':∀ j,(X j).N[i]?=some x:=by intro _; rfl)(hx:∀ j,Loc (X j).env.scope x:=by intro _; first | exact Fk rfl | exact EW rfl)
  (hs:∀ j,Fh e (some (.Name x pos')) pos.line (X j).env=pure false:=by intro _; rfl) (hf:∀ j,(X j).fn x=true\/(X j).env.scope.names.lookup x=some .local:=by intro _; first | exact .inl rfl | exact .inr rfl):SX K X ip (.Assign [.Name x pos'] e pos) (dSet i fa) :=
 let ⟨_,p,s⟩:=h; ⟨_,fun j=>zOa (hN j) (hx' j) (hx j) (p j) (hs j) (hf j),zG0 s hi⟩
theorem zCi(i:Nat)(mu:Option (Nat×Nat))(M:Fm K mg k X)(S:∀ j,CompOk (X j) N' ix sc)(h1:IX K X tg iter di)
  (hg:GX K (cxF X N' sc) (mu.map (·.1)) tg gg) (ht:QX K (cxF X N' sc) ifs dc) (he:EX K (cxF X N' sc) elt de)
  (hix:∀ (j j' i:Nat),mu.map (·.2)=some i->ix[j]?=some (some i)->ix[j']?=some (some i)->j=j') (hi:ip≠some i:=by decide) (hmu:∀ j i,mu=some (j,i)->ix[j]?=some (some i):=by intro _ _ e; first | (cases e; rfl) | cases e)
  (hN:∀ j,(X j).N.Nodup:=by intro _; show (FR _); decide +kernel) (hx':∀ j,(X j).N[i]?=some x:=by intro _; rfl) (hx:∀ j,Loc (X j).env.scope x:=by intro _; first | exact Fk rfl | exact EW rfl)
  (hsw:∀ j,Fh (.ListComp elt [⟨tg,iter,ifs,0⟩] sc pos) (some (.Name x pos')) spos.line (X j).env=pure true:=by intro _; rfl)
  (hf:∀ j,(X j).fn x=true\/(X j).env.scope.names.lookup x=some .local:=by intro _; first | exact .inl rfl | exact .inr rfl)
  (hs:∀ j x,CQ iter (X j).env x=pure x:=by intro _ _; rfl):SX K X ip (.Assign [.Name x pos'] (.ListComp elt [⟨tg,iter,ifs,0⟩] sc pos) spos) (dSet i (dComp mu ix di gg dc de)) :=
 let ⟨_,p1,s1⟩:=h1; let ⟨_,p2,s2⟩:=hg; let ⟨_,p3,s3⟩:=ht; let ⟨_,p4,s4⟩:=he
 ⟨_,fun j=>zMi (hN j) (hx' j) (hx j) (S j) (M.calm j) (p1 j) (fun C cs s H ex=>p2 (j,C,cs,s,H,ex)) (fun C cs s H ex=>p3 (j,C,cs,s,H,ex)) (fun C cs s H ex=>p4 (j,C,cs,s,H,ex)) (hsw j) (hf j) (hs j),zG0 (zGL s1 s2 s3 s4 hmu hix) hi⟩
theorem zCT(i:Nat)(he:EX K X e fa)(ho:∀ j,PE (X j) (.Name y yp) (tVar i))(hb:EX K X b fb)(hs:∀ j,Cp [.Subscript (.Name y yp) b p2] e pos.line (X j).env=pure false:=by intro _; rfl)(hw:∀ j,Cq [.Subscript (.Name y yp) b p2] e (X j).env=pure none:=by intro _; rfl)
  (hA:∀ j v,assign (.Subscript (.Name y yp) b p2) (X j).env v=(do let ov ← holding [v] (eval (.Name y yp) (X j).env); let iv ← holding [v,ov] (eval b (X j).env); Iv p2; holding [v,ov,iv] (Kz ov iv v); release [v,ov,iv] []):=by intro _ _; rfl) (h1:∀ j,(BS [.Subscript (.Name y yp) b p2] (X j).env).map (·.2)=[assign (.Subscript (.Name y yp) b p2) (X j).env]:=by intro _; rfl) :
  SX K X ip (.Assign [.Subscript (.Name y yp) b p2] e pos) (dSetIx i fa fb) :=
 let ⟨_,p,s⟩:=he; let ⟨_,q,u⟩:=hb; ⟨_,fun j=>zGc (p j) (zOJ (ho j) (q j) zLP (hA j)) (hs j) (hw j) (h1 j),zIp s u⟩
theorem zBp(he:EX K X e fa)(hg:GX K X ip tg gg)(hs:∀ j,Cp [tg] e pos.line (X j).env=pure false:=by intro _; rfl)(hw:∀ j,Cq [tg] e (X j).env=pure none:=by intro _; rfl)(h1:∀ j,(BS [tg] (X j).env).map (·.2)=[assign tg (X j).env]:=by intro _; rfl):SX K X ip (.Assign [tg] e pos) (dUnp gg fa) :=
 let ⟨_,p,s⟩:=he; let ⟨_,q,u⟩:=hg; ⟨_,fun j=>zGc (p j) (q j) (hs j) (hw j) (h1 j),zLi s u⟩
theorem zCq(i1 i2:Nat){kt k2 pt2}(M:Fm K mg k X)(ha:AX K X [a,b] da)(h12:i1≠i2:=by decide)(hi1:ip≠some i1:=by decide)(hi2:ip≠some i2:=by decide)(hN:∀ j,(X j).N.Nodup:=by intro _; show (FR _); decide +kernel)
  (e1:∀ j,(X j).N[i1]?=some x1:=by intro _; rfl) (e2:∀ j,(X j).N[i2]?=some x2:=by intro _; rfl) (l1:∀ j,(X j).env.scope.names.lookup x1=some .local:=by intro _; rfl) (l2:∀ j,(X j).env.scope.names.lookup x2=some .local:=by intro _; rfl)
  (hw:∀ j,Cq [.Tuple [.Name x1 px,.Name x2 py] kt pt] (.Tuple [a,b] k2 pt2) (X j).env=pure (some [x1,x2]):=by intro _; rfl)
  (hs:∀ j,Cp [.Tuple [.Name x1 px,.Name x2 py] kt pt] (.Tuple [a,b] k2 pt2) pos.line (X j).env=pure false:=by intro _; rfl) :
  SX K X ip (.Assign [.Tuple [.Name x1 px,.Name x2 py] kt pt] (.Tuple [a,b] k2 pt2) pos) (dPar2 i1 i2 da) :=
 let ⟨_,q,u⟩:=ha; ⟨_,fun j=>zOE (M.calm j) (hN j) (e1 j) (e2 j) h12 (l1 j) (l2 j) (q j) (hw j) (hs j),zLt u hi1 hi2⟩
theorem zNC(i1 i2 i3:Nat){kt k2 pt2}(M:Fm K mg k X)(ha:AX K X [a,b,c] da)(h12:i1≠i2:=by decide)(h13:i1≠i3:=by decide)(h23:i2≠i3:=by decide)(hi1:ip≠some i1:=by decide)(hi2:ip≠some i2:=by decide)(hi3:ip≠some i3:=by decide)(hN:∀ j,(X j).N.Nodup:=by intro _; show (FR _); decide +kernel)
  (e1:∀ j,(X j).N[i1]?=some x1:=by intro _; rfl) (e2:∀ j,(X j).N[i2]?=some x2:=by intro _; rfl) (e3:∀ j,(X j).N[i3]?=some x3:=by intro _; rfl) (l1:∀ j,(X j).env.scope.names.lookup x1=some .local:=by intro _; rfl) (l2:∀ j,(X j).env.scope.names.lookup x2=some .local:=by intro _; rfl) (l3:∀ j,(X j).env.scope.names.lookup x3=some .local:=by intro _; rfl)
  (hw:∀ j,Cq [.Tuple [.Name x1 px,.Name x2 py,.Name x3 pz] kt pt] (.Tuple [a,b,c] k2 pt2) (X j).env=pure (some [x1,x2,x3]):=by intro _; rfl)
  (hs:∀ j,Cp [.Tuple [.Name x1 px,.Name x2 py,.Name x3 pz] kt pt] (.Tuple [a,b,c] k2 pt2) pos.line (X j).env=pure false:=by intro _; rfl) :
  SX K X ip (.Assign [.Tuple [.Name x1 px,.Name x2 py,.Name x3 pz] kt pt] (.Tuple [a,b,c] k2 pt2) pos) (dPar3 i1 i2 i3 da) :=
 let ⟨_,q,u⟩:=ha; ⟨_,fun j=>zNg (M.calm j) (hN j) (e1 j) (e2 j) (e3 j) h12 h13 h23 (l1 j) (l2 j) (l3 j) (q j) (hw j) (hs j),zJT u hi1 hi2 hi3⟩
theorem zBT(nn:Nat)(hp:∀ j,Hc (model (X j).prog (X j).w) (X j).A (X j).env (X j).xe)(hc:TX K X c ta)(hb:BX K X ip sts f):SX K X ip (.While c sts [] pos) (dWhile ta f nn) :=
 let ⟨_,p,s⟩:=hc; let ⟨_,q,u⟩:=hb; ⟨_,fun j=>zLY (hp j) (p j) (q j),zIH nn s u⟩
theorem zBK(M:Fm K mg k X)(hp:∀ j,Hc (model (X j).prog (X j).w) (X j).A (X j).env (X j).xe)(hi:IX K X tg iter di)(hg:GX K X ip tg gg)(hb:BX K X ip sts f)
  (hs:∀ j x,CQ iter (X j).env x=pure x:=by intro _ _; rfl):SX K X ip (.For tg iter sts [] pos) (dFor ip di gg f) :=
 let ⟨_,p1,s1⟩:=hi; let ⟨_,p2,s2⟩:=hg; let ⟨_,p3,s3⟩:=hb; ⟨_,fun j=>zOc (hp j) (M.calm j) (p1 j) (p2 j) (p3 j) (hs j),zLz s1 s2 s3⟩
end
section
variable {P:Am}{wd:A0}{base:Heap}{K:Fg}{mg:Str->Option AD}{k:Nat}
abbrev cx1 (P:Am) (wd:A0) (K:Fg) (mg:Str->Option AD) (base:Heap) (N:List Str) (qual:Str) (sc:Ez) (f:Addr) (cdv:AD) (A:BJ) (outer:List Env) (s:AG) (H:Hp) (E:XK):Unit->Cx:=fun _=>(cxOf CX0 P wd K mg base N qual sc f cdv A outer s H E).nox
theorem zAU(F:Fun K x x st f fd)(S:FnScope N ps (defScope st))(hm:mg x=some (.ref f))(hb:Binds K fd ps [])
  (body:∀ (cdv:AD) (A:BJ) (outer:List Env) (s:AG) (H:Hp) (E:XK),Fm K mg k (cx1 P wd K mg base N x (defScope st) f cdv A outer s H E)->Fb P wd base (cx1 P wd K mg base N x (defScope st) f cdv A outer s H E)->BX K (cx1 P wd K mg base N x (defScope st) f cdv A outer s H E) ip (defBody st) g) :
  FD P wd K mg base (k+1) x ip ps.length (fnD ip ps.length N.length g):=by
 refine⟨⟨f,fd,ps,?_,hm,F.kp,hb⟩,zNx⟩
 refine F.ok S (fun vs H Q E h=>h.1) fun cdv A outer s H vs Q E hr h=>?_
 obtain⟨t,p,u⟩:=body cdv A outer s H E ⟨fun _=>rfl,fun _=>rfl,fun _=>rfl,fun _=>hr⟩ ⟨fun _=>rfl,fun _=>rfl,fun _=>rfl⟩
 exact⟨t,p (),zHR u h⟩
end
section
variable {P:Am}{wd:A0}{base:Heap}{K:Fg}{mg:Str->Option AD}{k:Nat}
theorem zPV(F:Fun K x x st f fd)(S:FnScope N ps (defScope st))
  (body:∀ (cdv:AD) (A:BJ) (outer:List Env) (s:AG) (H:Hp) (E:XK),Fm K mg k (cx1 P wd K mg base N x (defScope st) f cdv A outer s H E)->Fb P wd base (cx1 P wd K mg base N x (defScope st) f cdv A outer s H E)->BX K (cx1 P wd K mg base N x (defScope st) f cdv A outer s H E) ip (defBody st) g) :
  FnOk P wd K mg base CX0 (k+1) f fd ps (spD K ip ps.length (fnD ip ps.length N.length g)):=by
 refine F.ok S (fun vs H Q E h=>h.1) fun cdv A outer s H vs Q E hr h=>?_
 obtain⟨t,p,u⟩:=body cdv A outer s H E ⟨fun _=>rfl,fun _=>rfl,fun _=>rfl,fun _=>hr⟩ ⟨fun _=>rfl,fun _=>rfl,fun _=>rfl⟩
 exact⟨t,p (),zHR u h⟩
theorem zBY(F:Fun K x x st f fd)(hm:mg x=some (.ref f))(hb:Binds K fd ps [])(hn:ps.length=n):FD P wd K mg base k x ip n (fun _=>none):=by
 refine⟨⟨f,fd,ps,⟨fun vs H Q E h=>h.1.trans hn.symm,fun A outer s H args us vs Q E _ _ _ _ h=>?_⟩,hm,F.kp,hb⟩,fun gs r e=>nomatch e⟩
 obtain⟨_,w,gs,r,ys,e,_⟩:=h
 cases e
theorem len1(h:us.length=1):∃ a,us=[a]:=List.length_eq_one_iff.mp h
theorem lenSc(h:us.length=n+1):∃ a r,us=a::r/\r.length=n:=by
 cases us with
 | nil=>cases h
 | cons a r=>exact⟨a,r,rfl,Nat.succ.inj h⟩
theorem len2(h:us.length=2):∃ a b,us=[a,b]:=by
 obtain⟨a,r,rfl,h'⟩:=lenSc h
 obtain⟨b,rfl⟩:=len1 h'
 exact⟨a,b,rfl⟩
theorem len3(h:us.length=3):∃ a b c,us=[a,b,c]:=by
 obtain⟨a,r,rfl,h'⟩:=lenSc h
 obtain⟨b,c,rfl⟩:=len2 h'
 exact⟨a,b,c,rfl⟩
theorem len4(h:us.length=4):∃ a b c d,us=[a,b,c,d]:=by
 obtain⟨a,r,rfl,h'⟩:=lenSc h
 obtain⟨b,c,d,rfl⟩:=len3 h'
 exact⟨a,b,c,d,rfl⟩
noncomputable def intsT (ns:List Int):List T:=ns.map fun i=>.a (.int i)
theorem zNo(hO:Only H)(hS:SqL K H a (ns.map V.int))(h:F [.k (intsT ns)]=some (.v (.a (.bl true)),[])):spD K none 1 F [.ref a] H (fun v _=>v=.bl true) fun _ _ _=>False:=by
 have hK:KF K H a (ns.map V.int):=KF.of hS fun us e=>by
  rcases hO a with z | ⟨o,xs,z⟩
  ·rw[e]at z; cases z
  ·rw[e]at z; cases z
 refine⟨rfl,⟨[],fun _=>False⟩,_,_,_,h,⟨rfl,fun i g e=>?_,fun i j p ga gb ma mb e=>?_,fun p hp=>(nomatch hp),fun p hp=>(nomatch hp),fun p hp=>hp.elim,fun p hp=>hp.elim,fun b o e _=>e,fun q hq=>(nomatch hq)⟩,rfl,(fun p hp=>nomatch hp),fun v H' _ _ hr=>?_⟩
 ·match i,e with
  | 0,e =>
   cases e
   refine⟨_,rfl,a,ns.map V.int,rfl,?_,hK⟩
   have:intsT ns=(ns.map V.int).map T.a:=by simp[intsT]
   rw[this]
   exact Ims.atoms _
  | i+1,e=>simp at e
 ·match i,e with
  | 0,e=>cases e; cases ma
  | i+1,e=>simp at e
 ·exact (show Im K H' v (.a (.bl true)) from hr).inva
end
end D
namespace L2
open PySem PySem.Spec PyProof.Rows
section
variable {prog:Am}{w:A0}{A:BJ}{E:AD->AG->Prop}{s:AG}
variable {e it l:Addr}{S1:Nat->Heap->Prop}{xs:Array AD}{k:Nat}
theorem zIo{x old:AD}{Q:AD->AG->Prop}(hne:e≠it)(hle:l≠e)(D:Drawer prog w it l xs S1)(he:HB s.heap e it k old)(st:S1 k s.heap)(hx:xs[k]?=some x)
  (hQ:∀ h',Jc h' e it ((k:Int)+1) x s.heap.objs.size->S1 (k+1) h'->Dq h' s.heap.objs.size (.int k s.toks) x ->
   (∀ c o,c≠e->c≠it->s.heap.get? c=some o->h'.get? c=some o)->Q (.ref s.heap.objs.size) { s with heap:=h',toks:=s.toks+1 }) :
  AQ (model prog w) A (Builtin.«enumerate.__next__» ⟨[.ref e],[]⟩) (fun fin s'=>∃ v,fin=.done (.ret v)/\Q v s') E s:=by
 obtain⟨hp,g,d,tk,os⟩:=s
 have hlt:e < hp.objs.size:=AK he
 show AQ _ _ (field (.ref e) 2 >>= _) _ _ _
 refine AA (Ap he rfl (x:=.ref it) rfl (AA (D.item _ k _ x _ _ st hx fun h1 t1 b1=>?_)))
 replace b1:Bd it hp h1:=b1
 have e1:HB h1 e it k old:=(b1.2 e hne).trans he
 show AQ _ _ (field (.ref e) 3 >>= _) _ _ ⟨h1,g,d,tk,os⟩
 refine AA (Ap e1 rfl (x:=Cu k) rfl ?_)
 show AQ _ _ (field (.ref e) 4 >>= _) _ _ ⟨h1,g,d,tk,os⟩
 refine AA (Ap e1 rfl (x:=.none) rfl ?_)
 show AQ _ _ (mkInt k >>= _) _ _ ⟨h1,g,d,tk,os⟩
 refine AA (Gs ?_)
 show AQ _ _ (HD (.ref e) 3 (Cu ((k:Int)+1)) >>= _) _ _ ⟨h1,g,d,tk+1,os⟩
 refine AA (Ay e1 (by simp) fun h2 e2 b2=>?_)
 replace b2:Bd e h1 h2:=b2
 replace e2:HB h2 e it ((k:Int)+1) old:=e2
 show AQ _ _ (HD (.ref e) 4 .none >>= _) _ _ ⟨h2,g,d,tk+1,os⟩
 refine AA (Ay e2 (by simp) fun h3 e3 b3=>?_)
 replace b3:Bd e h2 h3:=b3
 replace e3:HB h3 e it ((k:Int)+1) old:=e3
 show AQ _ _ (KJ [.int k tk,x] >>= _) _ _ ⟨h3,g,d,tk+1,os⟩
 refine AA (KM ?_)
 have hsz:h3.objs.size=hp.objs.size:=by rw[b3.1,b2.1,b1.1]
 obtain⟨h4,rfl⟩:∃ h4,h4=h3.push { cls:=.type "tuple",data:=.seq #[.int k tk,x] }:=⟨_,rfl⟩
 have e4:HB (h3.push { cls:=.type "tuple",data:=.seq #[.int k tk,x] }) e it ((k:Int)+1) old:=AC _ e3
 have p4:Dq (h3.push { cls:=.type "tuple",data:=.seq #[.int k tk,x] }) hp.objs.size (.int k tk) x:=by rw[← hsz]; exact AI _ rfl
 have k4:∀ c o,c≠e->h1.get? c=some o->(h3.push { cls:=.type "tuple",data:=.seq #[.int k tk,x] }).get? c=some o:=fun c o hc q=>AC _ (b3.extBut c o hc (b2.extBut c o hc q))
 rw[hsz]
 generalize h3.push { cls:=.type "tuple",data:=.seq #[.int k tk,x] }=h4 at e4 p4 k4
 show AQ _ _ (A8 (.ref e) >>= _) _ _ ⟨h4,g,d,tk+1,os⟩
 refine AA ?_
 unfold A8
 refine AA (Ap e4 rfl (x:=.none) rfl (AJ ?_))
 simp only[if_true]
 refine AA (C5 (AA (Ap e4 rfl (x:=old) rfl (AA (Ay e4 (by simp) fun h5 e5 b5=>?_)))))
 replace b5:Bd e h4 h5:=b5
 replace e5:HB h5 e it ((k:Int)+1) x:=e5
 show AQ _ _ (Bs (.ref e) (.ref hp.objs.size) >>= _) _ _ ⟨h5,g,d,tk+1,os⟩
 refine AA ?_
 unfold Bs
 refine AA (Ay e5 (by simp) fun h6 e6 b6=>?_)
 replace b6:Bd e h5 h6:=b6
 replace e6:Jc h6 e it ((k:Int)+1) x hp.objs.size:=e6
 refine Ay e6 (by simp) fun h7 e7 b7=>?_
 replace b7:Bd e h6 h7:=b7
 replace e7:Jc h7 e it ((k:Int)+1) x hp.objs.size:=e7
 have up:∀ c o,c≠e->h4.get? c=some o->h7.get? c=some o:=fun c o hc q=>b7.extBut c o hc (b6.extBut c o hc (b5.extBut c o hc q))
 refine AA (FY (AJ ⟨_,rfl,hQ h7 e7 ?_ (up _ _ (B4 hlt) p4) fun c o c1 c2 q=>up c o c1 (k4 c o c1 (b1.extBut c o c2 q))⟩))
 exact D.keep _ _ _ t1 (fun o q=>up _ o hne.symm (k4 _ o hne.symm q)) fun o q=>up _ o hle (k4 _ o hle q)
end
def Ite (b:Bool) (K:AM) (a1:Addr):It :=
 ⟨fun i H=>∃ xs x,Sq b K H a1 xs/\xs[i]?=some x,
  fun i H v H'=>∃ T x,v=.ref T/\H T=none/\H'=upd H T (.tup [.int i,x])/\(∀ xs,Sq b K H a1 xs->xs[i]?=some x),
  fun i H=>∃ xs,Sq b K H a1 xs/\xs.length<=i⟩
structure ETn(b:Bool)(e it a1:Addr)(k:Nat)(h:Heap):Prop where
 z:∃ old,HB h e it k old
 s1:SIt b it a1 k h
theorem zJf{P:Am}{w:A0}{K:AM}{elts:List Expr}{x1:Nat}{tp:Pos}(b:Bool){e it a1:Addr}(hne:e≠it)(hle:a1≠e)(hli:a1≠it) :
  Turn P w K (.Tuple elts x1 tp) (Ite b K a1) [e,it] e (ETn b e it a1) where
 mem:=by simp
 obj:=fun i h st c hc=>by
  simp only[AH,AS,or_false]at hc
  rcases hc with q | q
  ·obtain⟨old,z⟩:=st.z; exact⟨_,q ▸ z,fun v z=>by cases z⟩
  ·obtain⟨o,r,d⟩:=st.s1.live; exact⟨o,q ▸ r,d⟩
 keep:=fun i h h' st k=>⟨(let ⟨old,z⟩:=st.z; ⟨old,k e (by simp) _ z⟩),st.s1.keep fun o q=>k it (by simp) o q⟩
 item:=by
  intro X hP hw hK hc i pins s σ H E I hf st hg
  subst hP hw hK
  obtain⟨xs,x,h1,hx⟩:=hg
  obtain⟨its1,v1,o1,z1⟩:=I.sq h1
  obtain⟨u1,e1,r1⟩:=v1.get hx
  obtain⟨old,hz⟩:=st.z
  have hT:s.TypeIs (.ref e) "enumerate":=⟨_,hz,rfl⟩
  have nH:∀ c∈[e,it],H c=none:=fun c hc=>(hf c hc).1
  unfold D5
  refine AA (CC (Aq (name:=Bi "__next__") hT Dj (A6 Dj hT HY
   (zIo hne hle (zA3 b it a1 its1.toArray hli) hz ⟨st.s1,o1⟩ (by simpa using e1) fun h' ho st' hp hk=>AJ ?_) (HM _))))
  refine⟨_,rfl,?_⟩
  have fT:H s.heap.objs.size=none:=I.hok.fresh (AF _)
  have hk':∀ c o,c∉[e,it]->s.heap.get? c=some o->h'.get? c=some o:=fun c o hc q=>by
   simp only[AH,AS,or_false,not_or]at hc
   exact hk c o hc.1 hc.2 q
  have trk:∀ c u,H c=some u->c∉[e,it]:=fun c u q hc=>by rw[nH c hc]at q; cases q
  have nT:∀ c o,s.heap.get? c=some o->c≠s.heap.objs.size:=fun c o q=>Ae (AK q)
  have hok1:HOk X.prog X.w H h':=fun c u q=>(I.hok c u q).stay (fun d v hd r=>hk' d v (by
   rcases hd with rfl | hd
   ·exact trk d u q
   ·exact trk d _ hd) r) (fun _ r=>r) fun _ _ r=>r
  have I1:Inv X pins σ (upd H s.heap.objs.size (.tup [.int i,x])) { s with heap:=h',toks:=s.toks+1 }:=by
   refine I.step (g':=s.gens) (d':=s.drawn) (t':=s.toks+1) (ch:=[e,it]) (fun c hc=>?_) (fun c o _ _ hc q _=>hk' c o hc q) (fun c o _ _ hc q _=>⟨o.slots,hk' c o hc q⟩)
    (fun c o _ q n=>by rw[zAN (nT c o q)]; exact n) (fun c o hc q=>⟨o,hk' c o hc q⟩) (fun c xs q=>by rw[zAN (zAW q fT)]; exact q) (fun c o u q=>by rw[zAN (zAW q fT)]; exact q)
    (fun c ps q=>⟨#[],by rw[zAN (zAW q fT),q]; simp⟩) (fun m hm=>?_) (hok1.adopt fT ⟨by show 2<=AB; decide,[.int i s.toks,u1],.cons ⟨_,rfl⟩ (.cons r1 .nil),_,hp,rfl,⟨0,rfl⟩,rfl⟩) I.bare
   ·obtain⟨_,f1,f2,f3,f4,f5⟩:=hf c hc; exact⟨f3,f1,f4,f5⟩
   ·obtain⟨o,es,ep,ho,r⟩:=hm
    exact⟨o,es,ep,hk' _ o (fun hc=>(hf _ hc).2.1 rfl) ho,r⟩
  refine wpAny_letOwnedTupleGo_enum ho fun h9 hz2 hs2=>?_
  obtain⟨_,f1,f2,f3,f4,f5⟩:=hf e (by simp)
  have nz:upd H s.heap.objs.size (.tup [.int i,x]) e=none:=by rw[zAN (nT e _ hz)]; exact nH e (by simp)
  have I2:Inv X pins σ (upd H s.heap.objs.size (.tup [.int i,x])) { s with heap:=h9,toks:=s.toks+1 }:=by
   have q:=I1.turned (h':=h9) (t':=s.toks+1) (it:=e) (fun c o hc q=>(hs2.2 c hc).trans q) nz f1 f3 f4 f5
   exact q
  refine⟨.ref s.heap.objs.size,_,I2,rfl,⟨s.heap.objs.size,x,rfl,fT,rfl,fun xs' q=>by rw[I.sq_inj q h1]; exact hx⟩,?_,fun c hc=>?_⟩
  ·have up:∀ c o,c≠e->h'.get? c=some o->h9.get? c=some o:=fun c o hc q=>(hs2.2 c hc).trans q
   exact⟨⟨_,by simpa using hz2⟩,st'.1.keep fun o q=>up _ o hne.symm q⟩
  ·obtain⟨o,q,_⟩:∃ o,s.heap.get? c=some o/\True:=by
    simp only[AH,AS,or_false]at hc
    rcases hc with q | q
    ·exact⟨_,q ▸ hz,trivial⟩
    ·obtain⟨o,r,d⟩:=st.s1.live; exact⟨o,q ▸ r,trivial⟩
   rw[zAN (nT c o q)]; exact nH c hc
 done:=by
  intro X hP hw hK hc i pins s σ H E I hf st hg
  subst hP hw hK
  obtain⟨xs,h1,hl⟩:=hg
  obtain⟨its1,v1,o1,z1⟩:=I.sq h1
  have l1:=v1.length
  obtain⟨old,hz⟩:=st.z
  have hT:s.TypeIs (.ref e) "enumerate":=⟨_,hz,rfl⟩
  unfold D5
  refine AA (CC (Aq (name:=Bi "__next__") hT Dj (A6 Dj hT HY ?_ (HM _))))
  show AQ _ _ (field (.ref e) 2 >>= _) _ _ _
  refine AA (Ap hz rfl (x:=.ref it) rfl (AA ((zA3 b it a1 its1.toArray hli).fini _ i _ _ _ (I.ok.hd hc) ⟨st.s1,o1⟩ (by simp; lia) fun h' x hk hx'=>?_)))
  obtain⟨o,ho,hcl⟩:=hx'
  refine AA (Cb (T:="StopIteration") (b:=true) ⟨o,ho,hcl⟩ FZ (AJ ⟨rfl,?_⟩))
  have hk':∀ c o,c∉[it]->s.heap.get? c=some o->h'.get? c=some o:=fun c o hc q=>hk c o (fun z=>hc (by simp[z])) q
  have sub:∀ c∈[it],c∈[e,it]:=fun c hc=>by simp only[AH,AS,or_false]at hc ⊢; exact .inr hc
  have trk:∀ c u,H c=some u->c∉[it]:=fun c u q hc=>by rw[(hf c (sub c hc)).1]at q; cases q
  refine I.step (g':=s.gens) (d':=s.drawn) (t':=s.toks) (ch:=[it]) (fun c hc=>?_) (fun c o _ _ hc q _=>hk' c o hc q) (fun c o _ _ hc q _=>⟨o.slots,hk' c o hc q⟩)
   (fun c o _ q n=>n) (fun c o hc q=>⟨o,hk' c o hc q⟩) (fun c xs q=>q) (fun c o u q=>q) (fun c ps q=>⟨#[],by rw[q]; simp⟩) (fun m hm=>?_) (fun c u q=>(I.hok c u q).stay (fun d v hd r=>hk' d v (by
    rcases hd with rfl | hd
    ·exact trk d u q
    ·exact trk d _ hd) r) (fun _ r=>r) fun _ _ r=>r) I.bare
  ·obtain⟨_,f1,f2,f3,f4,f5⟩:=hf c (sub c hc); exact⟨f3,f1,f4,f5⟩
  ·obtain⟨o,es,ep,ho,r⟩:=hm
   exact⟨o,es,ep,hk' _ o (fun hc=>(hf _ (sub _ hc)).2.1 rfl) ho,r⟩
 self:=fun _ _ _ _ _ st h=>let ⟨_,z⟩:=st.z; JF z h
section
variable {prog:Am}{w:A0}{A:BJ}{E:AD->AG->Prop}{s:AG}
theorem zHE(l:Addr)(xs:Array AD) :
  Fc (Builtin.«enumerate.__new__» ⟨[.type "enumerate",.ref l],[]⟩) (fun _ R s=>s.heap.IsTuple l xs /\
   R (.ok (.ret (.ref (s.heap.push { cls:=.type "tuple_iterator",data:=.fields #[.ref l,.int 0 0] }).objs.size)))
    { s with heap:=(s.heap.push { cls:=.type "tuple_iterator",data:=.fields #[.ref l,.int 0 0] }).push { cls:=.type "enumerate",data:=.fields #[.none,.bool false,.ref s.heap.objs.size,Cu 0,.none,.none] } }) :=
 .of_wp fun prog w A R s h=>by
  obtain⟨hp,g,d,tk,os⟩:=s; obtain⟨hl,h⟩:=h
  have hsub:=sub_enumerate
  have T1:Fj (Eu ⟨hp,g,d,tk,os⟩) l xs:=hl
  wp_walk
  refine wpAny_stack_any fun st=>AJ ?_
  split
  ·rename_i c _ _ _ _ _
   cases (c == C9 "enumerate")
   ·wp_walk using Bx T1
    exact⟨_,rfl,h⟩
   ·wp_walk using Bx T1
    exact⟨_,rfl,h⟩
  ·wp_walk using Bx T1
   exact⟨_,rfl,h⟩
theorem zIM(hl:s.heap.IsTuple l xs)
  (h:∀ h',ETn true (s.heap.objs.size+1) s.heap.objs.size l 0 h'->(∀ c o,s.heap.get? c=some o->h'.get? c=some o)->Q (.ref (s.heap.objs.size+1)) { s with heap:=h' }) :
  AQ (model prog w) A (call (.type "enumerate") [.ref l]) Q E s:=by
 refine EH F.called_enumerate ∅ (F.typeCall_enumerate_1 _) (F.newCall_enumerate_1 _) (fun obj=>Ds obj _) F.entry_enumerate_new (zHE l xs) ⟨hl,?_⟩
 have z1:(s.heap.push { cls:=.type "tuple_iterator",data:=.fields #[.ref l,.int 0 0] }).objs.size=s.heap.objs.size+1:=A5 ..
 have g2:=AI (s.heap.push { cls:=.type "tuple_iterator",data:=.fields #[.ref l,.int 0 0] }) (o:={ cls:=.type "enumerate",data:=.fields #[.none,.bool false,.ref s.heap.objs.size,Cu 0,.none,.none] }) rfl
 rw[z1]at g2
 show _/\_
 rw[z1]
 exact⟨⟨_,g2,rfl⟩,h _ ⟨⟨.none,g2⟩,⟨_,AC _ (AI _ rfl),rfl,rfl⟩⟩ fun c o x=>AC _ (AC _ x)⟩
end
section
variable {X:Cx}{elts:List Expr}{x1:Nat}{tp:Pos}
def iEnumU (K:AM) (ta:TA):TI:=fun σ H R=>ta σ H fun vs H1=>∃ (b:Bool) (a1:Addr),vs=[.ref a1]/\(∃ xs,Sq b K H1 a1 xs)/\R (Ite b K a1) H1
theorem zLk(hg:Gl X "enumerate")(hm:X.mg "enumerate"=none)(ha:PA X [e1] ta)(hs:AU [e1] X.env=[(false,eval e1 X.env)]:=by rfl) :
  PI X (.Tuple elts x1 tp) (.Call (.Name "enumerate" p) [e1] [] pos) (iEnumU X.K ta):=by
 intro pins s σ H R I h
 refine Gn (zBH I hg hm boot_enumerate (An (thn (ha pos pins s σ H _ I h) fun us s1 ⟨vs,H1,I1,r1,q1⟩=>?_) (by rw[hs]; rfl) (by rfl)))
 obtain⟨b,a1,e,⟨xs,h1⟩,q⟩:=q1
 subst e
 obtain⟨u1,e,r⟩:=r1.one
 subst e
 cases r
 obtain⟨its1,v1,o1,z1⟩:=I1.sq h1
 have lt1:a1 < s1.heap.objs.size:=by cases b with
  | false=>obtain⟨o,e,_⟩:=(show s1.heap.IsList a1 its1.toArray from o1); exact AK e
  | true=>obtain⟨o,e,_⟩:=(show s1.heap.IsTuple a1 its1.toArray from o1); exact AK e
 have fin:∀ h',ETn b (s1.heap.objs.size+1) s1.heap.objs.size a1 0 h'->(∀ c o,s1.heap.get? c=some o->h'.get? c=some o) ->
   AQ (model X.prog X.w) X.A (GB (.ref (s1.heap.objs.size+1))) (PIE X pins σ (.Tuple elts x1 tp) R) X.xe { s1 with heap:=h' }:=fun h' st hk=>by
  obtain⟨old,z⟩:=st.z
  refine JF z ?_
  refine⟨_,_,_,_,H1,rfl,I1.kept (t':=s1.toks) hk,zJf b (B4 (CW _)) (Ae (AY lt1 (CB _ 1))) (Ae lt1),st,fun c hc=>?_,q⟩
  have hc':s1.heap.objs.size<=c:=by
   simp only[AH,AS,or_false]at hc
   rcases hc with e | e <;> (rw[e]) <;> first | exact AF _ | exact CB _ _
  exact I1.fpOk hc' (I1.hok.fresh hc')
 cases b with
 | false=>exact call_enumerate_list o1 fun h' hz hit _ hk=>fin h' ⟨⟨_,hz⟩,hit⟩ hk
 | true=>exact zIM o1 fin
end
end L2
namespace D
open PySem L2
noncomputable def enumT (xs:List T):List T:=xs.zipIdx.map fun p=>.t [.a (.int (p.2:Int)),p.1]
def dEnum (fa:DA):DI:=fun Γ=>(fa Γ).bind fun p=>match p.1 with
 | [.v (.t xs)]=>gd xs.length ((enumT xs,[]),p.2)
 | [a]=>(sqlOf p.2 a).bind fun xs=>gd xs.length ((enumT xs,srcS p.2 a),p.2)
 | _=>none
section
variable {K:Fg}
theorem zHj(h1:Sq b K H2 a1 vs)(i1:Ims K H2 vs xs) :
  (∀ (i:Nat) t,(enumT xs)[i]?=some t->(Ite b K a1).go i H2/\∀ x H3,(Ite b K a1).yld i H2 x H3->(∀ b o,H2 b=some o->H3 b=some o)/\Im K H3 x t)/\(Ite b K a1).stop (enumT xs).length H2:=by
 refine⟨fun i t e=>?_,⟨vs,h1,?_⟩⟩
 ·unfold enumT at e
  rw[Ah]at e
  obtain⟨⟨t1,j⟩,e1,e⟩:=zAI e
  subst e
  have e1':xs[i]?=some t1/\j=i:=by
   rw[List.getElem?_zipIdx]at e1
   obtain⟨y,q,e1⟩:=zAI e1
   cases e1
   exact⟨q,by simp⟩
  obtain⟨g1,rfl⟩:=e1'
  obtain⟨v,e3,hv⟩:=i1.get g1
  refine⟨⟨vs,v,h1,e3⟩,fun x H3 y=>?_⟩
  obtain⟨T',x',rfl,hT,rfl,k1⟩:=y
  have q1:=k1 vs h1
  rw[e3]at q1; cases q1
  have ev:Evo [] H2 (upd H2 T' (.tup [.int j,v])):=Evo.new hT
  have hL:LL [] H2:=fun q hq=>nomatch hq
  refine⟨fun b o e=>ev b o e nofun,Im.tup zAj (.cons Im.atom (.one (hv.evo ev hL)))⟩
 ·have l1:=i1.len
  simp[enumT]
  lia
theorem zKV(ha:SimA K ta fa):SimI K (iEnumU K ta) (dEnum fa):=by
 intro C w Γ σ H its src Γ' R Rp e k
 obtain⟨⟨as,G1⟩,e1,e⟩:=bind_some e
 dsimp only at e
 have zl:∀ xs:List T,(enumT xs).length<=xs.length:=fun xs=>by simp[enumT]
 split at e
 ·rename_i xs
  obtain⟨hz,e⟩:=zBP e
  cases e
  refine ha C w Γ σ H _ _ _ Rp e1 fun vs H1 R1 ev1 o1 n1=>?_
  obtain⟨v,rfl,o2⟩:=soks1 o1
  obtain⟨p,vs,rfl,h1,i1⟩:=o2.invt
  refine⟨true,p,rfl,⟨vs,h1.sq⟩,k _ H1 R1 ev1 ⟨Ai (zl _) hz,fun L' hs av H2 ev=>?_⟩⟩
  have hL:LL L' H1:=fun q hq=>R1.lst q (hs q hq)
  exact zHj (b:=true) (zCn ev hL h1).sq (i1.evo ev hL)
 ·obtain⟨xs,e2,e⟩:=bind_some e
  obtain⟨hz,e⟩:=zBP e
  cases e
  refine ha C w Γ σ H _ _ _ Rp e1 fun vs H1 R1 ev1 o1 n1=>?_
  obtain⟨v,rfl,o2⟩:=soks1 o1
  obtain⟨p,vs,rfl,h1,i1,st1⟩:=zBj R1 o2 e2
  refine⟨false,p,rfl,⟨vs,h1⟩,k _ H1 R1 ev1 ⟨Ai (zl _) hz,fun L' hs av H2 ev=>?_⟩⟩
  have hL:LL L' H1:=fun q hq=>R1.lst q (hs q hq)
  exact zHj (b:=false) (st1 L' hs av H2 ev) (i1.evo ev hL)
 ·cases e
end
section
variable {ι:Type}{K:Fg}{X:ι->Cx}{mg:Str->Option AD}{k:Nat}{a:Expr}{da:DA}{p pos:Pos}
theorem zE2(M:Fm K mg k X)(hm:mg "enumerate"=none)(ha:AX K X [a] da)(hg:∀ j,Gl (X j) "enumerate":=by intro _; rfl)(hs:∀ j,AU [a] (X j).env=[(false,eval a (X j).env)]:=by intro _; rfl) :
  IX K X (.Tuple elts x1 tp) (.Call (.Name "enumerate" p) [a] [] pos) (dEnum da) :=
 let ⟨t,q,u⟩:=ha; ⟨iEnumU K t,fun j=>by have:=zLk (elts:=elts) (x1:=x1) (tp:=tp) (p:=p) (pos:=pos) (hg j) (by rw[M.mg]; exact hm) (q j) (hs j); rw[M.K j]at this; exact this,zKV u⟩
end
end D
namespace L2
open PySem PySem.Spec PyProof.Rows
theorem zMk:Slot "reversed" "__init__" "object.__init__" :=
 .of (owner:="object") (n:="__init__") (by rw[B5,BP]; kernel_rfl) (by decide +kernel) (by decide +kernel) (by decide +kernel)
  (by first | exact .inl (by decide +kernel) | exact .inr (by decide +kernel)) (by rw[Cc]; kernel_rfl)
theorem zFX:TypeCalled "reversed" "reversed.__new__" "object.__init__" :=
 ⟨by decide +kernel,by decide +kernel,⟨_,_,F.mro_reversed⟩,F.made_reversed,by decide +kernel,by rw[Cc]; kernel_rfl,zMk⟩
theorem zDy:Manifest.owners.lookup (String.ofList ['d','e','s','r','e','v','e','r'].reverse)=some Manifest.sig_reversed:=by kernel_rfl
theorem zCd:Slot "reversed" "__next__" "reversed.__next__" :=
 .of (owner:="reversed") (n:="__next__") (by rw[B5,BP]; kernel_rfl) (by decide +kernel) (by decide +kernel) (by decide +kernel)
  (by first | exact .inl (by decide +kernel) | exact .inr (by decide +kernel)) (by rw[Cc]; kernel_rfl)
theorem zC9:KS table "reversed.__next__"=some Builtin.«reversed.__next__»:=Jd (by kernel_rfl)
theorem zHY:Slot "reversed" "__iter__" "reversed.__iter__" :=
 .of (owner:="reversed") (n:="__iter__") (by rw[B5,BP]; kernel_rfl) (by decide +kernel) (by decide +kernel) (by decide +kernel)
  (by first | exact .inl (by decide +kernel) | exact .inr (by decide +kernel)) (by rw[Cc]; kernel_rfl)
theorem zMY:typeLookup (.type "tuple") "__reversed__"=pure none:=by rw[B5,BP]; kernel_rfl
theorem zN6:isSubtype (.type "tuple") (.type "dict")=pure false:=by rw[Cc]; kernel_rfl
theorem zDG(a:AD):Hv "reversed.__next__" ⟨[a],[]⟩:=by
 unfold Hv; rw[HZ (id:="reversed.__next__") (n:=['_','_','t','x','e','n','_','_']) (o:=['d','e','s','r','e','v','e','r']) (by kernel_rfl) zDy]; kernel_rfl
theorem zGz(a:AD):Hv "reversed.__iter__" ⟨[a],[]⟩:=by
 unfold Hv; rw[HZ (id:="reversed.__iter__") (n:=['_','_','r','e','t','i','_','_']) (o:=['d','e','s','r','e','v','e','r']) (by kernel_rfl) zDy]; kernel_rfl
theorem zFd:KS table "reversed.__iter__"=some Builtin.«dict_keyiterator.__iter__» :=
 entryFor_alias (id':="dict_keyiterator.__iter__") (by kernel_rfl) (by first | rfl | decide +kernel | (unfold String.splitOn; simp +decide [String.splitOnAux])) (by decide +kernel) (by kernel_rfl)
abbrev IsRv (h:Heap) (e l:Addr) (i:Int):Prop:=h.get? e=some { cls:=.type "reversed",dict:=none,data:=.fields #[.ref l,Cu i],slots:=#[] }
section
variable {prog:Am}{w:A0}{A:BJ}{E:AD->AG->Prop}{s:AG}
theorem zM7(hl:s.heap.IsTuple l xs)(hQ:Q true s):AQ (model prog w) A (do
  if ← isInstance (.ref l) (.type "dict") then return false
  match ← specialOf (.ref l) "__getitem__" with
  | none=>return false
  | some (.builtin id) =>
   if ["tuple.__getitem__","str.__getitem__","bytes.__getitem__","bytearray.__getitem__","memoryview.__getitem__","numpy.ndarray.__getitem__","sqlite3.Row.__getitem__"].contains id then return true
   if id == "sqlite3.Blob.__getitem__" then return false
   unsupported "reversed.__new__:is-it-a-sequence"
  | some _=>return true) Q E s:=by
 refine AA (Cb hl.typeIs zN6 ?_)
 refine AA (CN hl.typeIs Hw.lookup ?_)
 exact AJ hQ
theorem zFU(l:Addr)(xs:Array AD)(hz:xs.size<=AB) :
  Fc (Builtin.«reversed.__new__» ⟨[.type "reversed",.ref l],[]⟩) (fun _ R s=>s.heap.IsTuple l xs /\
   R (.ok (.ret (.ref s.heap.objs.size))) { s with heap:=s.heap.push { cls:=.type "reversed",data:=.fields #[.ref l,Cu ((xs.size:Int) - 1)] },toks:=s.toks+1+1 }) :=
 .of_wp fun prog w A R s h=>by
  obtain⟨hl,h⟩:=h
  unfold Builtin.«reversed.__new__»
  refine AA (Bz (newClass_reversed _) ?_)
  try dsimp only
  refine AA (Bz (a:=()) (by first | rfl | kernel_rfl) ?_)
  refine AA (Bz (a:=()) (by first | rfl | kernel_rfl) ?_)
  try dsimp only
  refine AA (CN hl.typeIs zMY ?_)
  try dsimp only
  refine AA (zM7 hl ?_)
  rw[if_neg ∅]
  refine AA (JV hl (by have:=hz; rw[Be]at this; lia) ?_)
  refine AA (Bz (a:=some (xs.size:Int)) (by first | rfl | kernel_rfl) ?_)
  try dsimp only
  refine AA (m:=Eh _ _) ?_
  unfold Eh
  refine Au ?_ (by size_fits)
  exact AJ ⟨_,rfl,h⟩
theorem zFG(he:IsRv s.heap e l i)(h:Q (.ref e) s):AQ (model prog w) A (GB (.ref e)) Q E s:=by
 have hT:s.TypeIs (.ref e) "reversed":=⟨_,he,rfl⟩
 refine wpAny_pyIter_slot hT zHY (A6 zHY hT zFd ?_ (zGz _))
 show AQ _ _ (ret (.ref e)) _ _ s
 exact AJ ⟨_,rfl,"reversed",_,hT,zCd.lookup,h⟩
theorem zMc{e l:Addr}{i:Nat}{xs:Array AD}{x:AD}{Q:Option AD->AG->Prop}(he:IsRv s.heap e l (i:Int))(hl:s.heap.IsTuple l xs)(hz:xs.size<=AB)(hx:xs[i]?=some x)
  (hQ:∀ h' tk,IsRv h' e l ((i:Int) - 1)->Bd e s.heap h'->Q (some x) { s with heap:=h',toks:=tk }):AQ (model prog w) A (D5 (.ref e)) Q E s:=by
 have hT:s.TypeIs (.ref e) "reversed":=⟨_,he,rfl⟩
 have hi:i < xs.size:=(Array.getElem?_eq_some_iff.mp hx).1
 rw[Be]at hz
 obtain⟨hp,g,d,tk,os⟩:=s
 unfold D5
 refine AA (CC (Aq (name:=Bi "__next__") hT zCd (A6 zCd hT zC9 ?_ (zDG _))))
 unfold Builtin.«reversed.__next__»
 refine AA (Bz (a:=(Bl e,[])) rfl ?_)
 try dsimp only
 refine AA (Ap he rfl (x:=.ref l) rfl ?_)
 refine AA (Ap he rfl (x:=Cu (i:Int)) rfl ?_)
 show AQ _ _ (if (i:Int) < 0 then _ else _) _ _ _
 rw[if_neg ⋯]
 refine AA (CN hl.typeIs Hw.lookup ?_)
 try dsimp only
 rw[if_neg ∅]
 refine AA (Gs ?_)
 refine AA (CC (Jy (j:=i) hl ⋯ ⋯ (by rw[Gp ⋯ ⋯,Bn]) hx ?_))
 show AQ _ _ (field (.ref e) 1 >>= _) _ _ _
 refine AA (Ap he rfl (x:=Cu (i:Int)) rfl ?_)
 show AQ _ _ (HD (.ref e) 1 (Cu ((i:Int) - 1)) >>= _) _ _ _
 refine AA (Ay he (by simp) fun h1 e1 b1=>?_)
 exact AJ ⟨x,rfl,AJ (hQ h1 _ e1 b1)⟩
theorem zOj(hh:A.handled=none)(he:IsRv s.heap e l (-1))(hQ:∀ h',GD e s.heap h'->Q none { s with heap:=h' }):AQ (model prog w) A (D5 (.ref e)) Q E s:=by
 have hT:s.TypeIs (.ref e) "reversed":=⟨_,he,rfl⟩
 obtain⟨hp,g,d,tk,os⟩:=s
 unfold D5
 refine AA (CC (Aq (name:=Bi "__next__") hT zCd (A6 zCd hT zC9 ?_ (zDG _))))
 unfold Builtin.«reversed.__next__»
 refine AA (Bz (a:=(Bl e,[])) rfl ?_)
 try dsimp only
 refine AA (Ap he rfl (x:=.ref l) rfl ?_)
 refine AA (Ap he rfl (x:=Cu (-1)) rfl ?_)
 show AQ _ _ (if (-1:Int) < 0 then _ else _) _ _ _
 rw[if_pos ∅]
 refine AA (C5 ?_)
 refine AA ?_
 show AQ _ _ (HD (.ref e) 1 (Cu (-1)) >>= fun _=>HD (.ref e) 0 .none) _ _ _
 refine AA (Ay he (by simp) fun h1 e1 b1=>?_)
 replace e1:IsRv h1 e l (-1):=e1
 refine Ay e1 (by simp) fun h2 e2 b2=>?_
 replace b1:Bd e hp h1:=b1
 replace b2:Bd e h1 h2:=b2
 have x2:GD e hp h2:=fun c o hc q=>b2.extBut c o hc (b1.extBut c o hc q)
 refine AA ?_
 show AQ _ _ (KI (.type "StopIteration") [] >>= _) _ _ _
 refine AA ?_
 simp only[KI,KJ]
 refine AA (Au ?_ (by size_fits))
 refine AA (m:=FW _ _) (Bz (a:=CY) (by first | rfl | (simp only[FW]; rfl)) ?_)
 refine Au ?_ (by size_fits)
 simp only[raiseNew]
 refine AA (Kw ?_)
 first | rw[show A.in1.handled=none from hh] | rw[hh]
 refine AA (AJ (wpAny_throw ?_))
 refine AA (Cb (T:="StopIteration") (b:=true) ⟨_,AI _ rfl,rfl⟩ FZ ?_)
 exact AJ (hQ _ ((x2.push _).push _))
end
end L2
namespace D
open PySem L2
noncomputable def insI (x:Int):List Int->List Int
 | []=>[x]
 | y::r=>if x<=y then x::y::r else y::insI x r
def sortI:List Int->List Int
 | []=>[]
 | x::r=>insI x (sortI r)
theorem zDJ(x:Int):∀ l,(insI x l).Perm (x::l)
 | []=>.refl _
 | y::r=>by
  unfold insI
  split
  ·exact .refl _
  ·exact ((zDJ x r).cons y).trans (K6 x y r)
theorem zCC:∀ l,(sortI l).Perm l
 | []=>.refl _
 | x::r=>(zDJ x _).trans ((zCC r).cons x)
theorem zDq(x:Int):∀ l:List Int,l.Pairwise (·<=·)->(insI x l).Pairwise (·<=·)
 | [],_=>by simp[insI]
 | y::r,h=>by
  unfold insI
  have h':=DD.mp h
  split
  ·rename_i hx
   exact DD.mpr ⟨fun z hz=>by
    rcases AH.mp hz with e | e
    ·lia
    ·have:=h'.1 z e; lia,h⟩
  ·rename_i hx
   exact DD.mpr ⟨fun z hz=>by
    have:=(zDJ x r).subset hz
    rcases AH.mp this with e | e
    ·lia
    ·exact h'.1 z e,zDq x r h'.2⟩
theorem zCS:∀ l,(sortI l).Pairwise (·<=·)
 | []=>.nil
 | x::r=>zDq x _ (zCS r)
theorem zCx:∀ {a b:List Int},a.Perm b->a.Pairwise (·<=·)->b.Pairwise (·<=·)->a=b
 | [],b,p,_,_=>(List.nil_perm.mp p).symm
 | x::r,[],p,_,_=>by have:=p.length_eq; simp at this
 | x::r,y::s,p,ha,hb=>by
  have ha':=DD.mp ha
  have hb':=DD.mp hb
  have e:x=y:=by
   have h1:x∈y::s:=p.subset AZ
   have h2:y∈x::r:=p.symm.subset AZ
   rcases AH.mp h1 with e | e
   ·exact e
   ·rcases AH.mp h2 with f | f
    ·exact f.symm
    ·have:=ha'.1 y f; have:=hb'.1 x e; lia
  subst e
  rw[zCx ((List.perm_cons x).mp p) ha'.2 hb'.2]
noncomputable def intsOf:List T->Option (List Int)
 | []=>some []
 | .a (.int n)::r=>(intsOf r).map fun ns=>n::ns
 | _::_=>none
theorem zDP:∀ {xs:List T} {ns:List Int},intsOf xs=some ns->xs=(ns.map V.int).map T.a
 | [],ns,e=>by cases e; rfl
 | x::r,ns,e=>by
  unfold intsOf at e
  split at e
  ·rename_i h; cases h
  ·rename_i n r' h
   cases h
   obtain⟨ms,e1,e⟩:=zAI e
   subst e
   rw[zDP e1]; rfl
  ·cases e
def sortedS:En->List S->Option S:=fun Γ as=>match as with
 | [a]=>(seqS Γ a).bind fun xs=>(intsOf xs).bind fun ns=>if ns.length < 64 then some (.l ((sortI ns).map fun n=>.a (.int n))) else none
 | _=>none
theorem zGF:SimRs K (fun xs H Q=>∃ (p:Addr) (ns:List Int),xs=[.ref p]/\(SqL K H p (ns.map V.int)\/SqT K H p (ns.map V.int))/\ns.length < 64/\∀ (l:Addr) (ns':List Int),H l=none->ns'.Perm ns->ns'.Pairwise (·<=·)->Q (.ref l) (upd H l (.lst (ns'.map V.int)))) sortedS:=by
 intro C w Γ σ H vs as s Q R o e k
 unfold sortedS at e
 split at e
 ·obtain⟨xs,e1,e⟩:=bind_some e
  obtain⟨ns,e2,e⟩:=bind_some e
  split at e
  ·rename_i hl
   cases e
   obtain⟨v,rfl,o1⟩:=soks1 o
   obtain⟨p,us,rfl,h1,i1⟩:=zEH R o1 e1
   have hu:us=ns.map V.int:=by rw[zDP e2]at i1; exact i1.of_atoms
   subst hu
   refine⟨p,ns,rfl,h1,hl,fun l ns' hl' hp hs=>?_⟩
   have:ns'=sortI ns:=zCx (hp.trans (zCC ns).symm) hs (zCS ns)
   subst this
   have hi:Ims K H ((sortI ns).map V.int) ((sortI ns).map fun n=>T.a (.int n)):=by
    have:=Ims.atoms (K:=K) (H:=H) ((sortI ns).map V.int)
    rwa [DR]at this
   exact k _ _ (R.new hl') (Evo.new hl') (R.newl hl' hi) ⟨l,rfl,hl'⟩
  ·cases e
 ·cases e
section
variable {ι:Type}{K:Fg}{X:ι->Cx}{mg:Str->Option AD}{k:Nat}
theorem zFD(M:Fm K mg k X):CalR K X (.builtin "sorted") sortedS:=⟨_,fun j=>by have:=zHB (X:=X j); rw[M.K j]at this; exact this,zGF⟩
end
end D
namespace D
open PySem L2
noncomputable def ixL {α:Type} (l:List α) (i:Nat):Option α:=l[i]?
@[simp,simp ↓] theorem zTQ{α:Type}{x:α}{r:List α}:ixL (x::r) 0=some x:=rfl
@[simp,simp ↓] theorem zS2{α:Type}{x:α}{r:List α}:ixL (x::r) (n+1)=ixL r n:=rfl
@[simp high,simp ↓ high] theorem gd_0{α:Type}{x:α}:gd 0 x=some x:=rfl
@[simp high,simp ↓ high] theorem gd_1{α:Type}{x:α}:gd 1 x=some x:=rfl
@[simp high,simp ↓ high] theorem gd_2{α:Type}{x:α}:gd 2 x=some x:=rfl
@[simp high,simp ↓ high] theorem gd_3{α:Type}{x:α}:gd 3 x=some x:=rfl
@[simp high,simp ↓ high] theorem gd_4{α:Type}{x:α}:gd 4 x=some x:=rfl
class Kf (α β:Type) where
 k:α->Option β
class Kg (α β:Type) where
 k:α->β
noncomputable def bnd {α β:Type} (x:Option α) [f:Kf α β]:Option β:=x.bind f.k
@[simp,simp ↓] theorem zTD{α β:Type}{a:α}{f:α->Option β}:bnd (some a) (f:=⟨f⟩)=f a:=rfl
noncomputable def omp {α β:Type} (x:Option α) [f:Kg α β]:Option β:=x.map f.k
@[simp,simp ↓] theorem zSz{α β:Type}{a:α}{f:α->β}:omp (some a) (f:=⟨f⟩)=some (f a):=rfl
class Ka (α:Type) where
 v:α
noncomputable def ifB {α:Type} (b:Bool) [x:Ka α] [y:Ka α]:α:=if b=true then x.v else y.v
@[simp high,simp ↓ high] theorem zS3{α:Type}{x:α}{y:Ka α}:ifB true (x:=⟨x⟩) (y:=y)=x:=rfl
@[simp high,simp ↓ high] theorem zTL{α:Type}{x:Ka α}{y:α}:ifB false (x:=x) (y:=⟨y⟩)=y:=rfl
noncomputable def ifO {α:Type} (p:Option Nat) (k:Nat) (x y:α):α:=if p=some k then x else y
@[simp high,simp ↓ high] theorem zS1{α:Type}{x y:α}:ifO none k x y=y:=rfl
noncomputable def ifN {α:Type} (m n:Nat) (x y:α):α:=if m=n then x else y
noncomputable def ifM {α:Type} (i:Nat) (l:List Nat) (x y:α):α:=if i∈l then x else y
@[simp high,simp ↓ high] theorem zTO{α:Type}{x y:α}:ifM i [] x y=y:=rfl
noncomputable def apE {α:Type} (l:List α):List α:=l++[]
@[simp,simp ↓] theorem zS5{α:Type}:apE ([]:List α)=[]:=rfl
@[simp,simp ↓] theorem zTK{α:Type}{x:α}{r:List α}:apE (x::r)=x::apE r:=rfl
@[simp high,simp ↓ high] theorem zSa{α:Type}{x y:α}:ifO (some 0) 0 x y=x:=rfl
@[simp high,simp ↓ high] theorem zTM{α:Type}{x y:α}:ifN 2 2 x y=x:=rfl
@[simp high,simp ↓ high] theorem zS7{α:Type}{x y:α}:ifN 3 3 x y=x:=rfl
@[simp high,simp ↓ high] theorem zTF{α:Type}{x y:α}:ifN 5 5 x y=x:=rfl
section
variable {f g:DS}{fa fb fc fi:DE}{da fr:DA}{ta tb:DT}{Γ:En}{i j k:Nat}{h h':En->S->S->Option S}
@[simp,simp ↓] theorem zHS:dSeq f g Γ=bnd (f Γ) (f:=⟨fun o=>match o with | .nx Γ'=>g Γ' | o=>some o⟩):=rfl
@[simp,simp ↓] theorem zRL:dNext Γ=some (.nx Γ):=rfl
@[simp,simp ↓] theorem zRt:dRet fa Γ=omp (fa Γ) (f:=⟨fun p=>.rt p.1 p.2⟩):=rfl
@[simp,simp ↓] theorem zQ6:dDrop fa Γ=omp (fa Γ) (f:=⟨fun p=>.nx p.2⟩):=rfl
@[simp,simp ↓] theorem zTN:dIf ta f g Γ=bnd (ta Γ) (f:=⟨fun p=>ifB p.1 (x:=⟨(f p.2)⟩) (y:=⟨(g p.2)⟩)⟩):=rfl
@[simp,simp ↓] theorem zRr:dSet i fa Γ=bnd (fa Γ) (f:=⟨fun p=>omp (setS i p.1 p.2) (f:=⟨.nx⟩)⟩):=rfl
@[simp,simp ↓] theorem zSM:setS i (.v t) Γ=some (Γ.set i (~~~t)):=rfl
@[simp,simp ↓] theorem zR6:setS i (.l t) Γ=some (Γ.set i (some (.l t))):=rfl
@[simp,simp ↓] theorem zRX:jV i Γ=match ixL Γ i with
 | some (some (.v t))=>some (.v t,Γ)
 | some (some (.l _))=>some (.s i,Γ)
 | some (some (.r _))=>some (.s i,Γ)
 | some (some (.k _))=>some (.s i,Γ)
 | some (some (.d _))=>some (.s i,Γ)
 | some (some (.e _))=>some (.s i,Γ)
 | _=>none:=rfl
@[simp,simp ↓] theorem zTJ:dC v Γ=some (.v (.a v),Γ):=rfl
@[simp,simp ↓] theorem zSL:dOp h fa fb Γ=bnd (fa Γ) (f:=⟨fun p=>bnd (fb p.2) (f:=⟨fun q=>omp (h q.2 p.1 q.1) (f:=⟨fun s=>(s,q.2)⟩)⟩)⟩):=rfl
@[simp,simp ↓] theorem zSZ{h:En->S->Option S}:dUn h fa Γ=bnd (fa Γ) (f:=⟨fun p=>omp (h p.2 p.1) (f:=⟨fun s=>(s,p.2)⟩)⟩):=rfl
@[simp,simp ↓] theorem zSc{h:En->List S->Option S}:dCB h da Γ=bnd (da Γ) (f:=⟨fun p=>omp (h p.2 p.1) (f:=⟨fun s=>(s,p.2)⟩)⟩):=rfl
@[simp,simp ↓] theorem zRn:qQ Γ=some ([],Γ):=rfl
@[simp,simp ↓] theorem zRG:jW fa fr Γ=bnd (fa Γ) (f:=⟨fun p=>bnd (fr p.2) (f:=⟨fun q=>some (p.1::q.1,q.2)⟩)⟩):=rfl
@[simp,simp ↓] theorem zST:S.tree (.v t)=some t:=rfl
@[simp,simp ↓] theorem zQs:trees []=some []:=rfl
@[simp,simp ↓] theorem zPS:trees (.v t::r)=omp (trees r) (f:=⟨fun ts=>t::ts⟩):=rfl
theorem zEe:AB=16777216:=Be
@[simp,simp ↓] theorem zRq:dTup da Γ=bnd (da Γ) (f:=⟨fun p=>bnd (trees p.1) (f:=⟨fun ts=>gd ts.length (.v (.t ts),p.2)⟩)⟩):=rfl
@[simp,simp ↓] theorem zRW:dLst da Γ=bnd (da Γ) (f:=⟨fun p=>bnd (trees p.1) (f:=⟨fun ts=>gd ts.length (.l ts,p.2)⟩)⟩):=rfl
@[simp,simp ↓] theorem zRN:dTest fa Γ=bnd (fa Γ) (f:=⟨fun p=>match p.1 with | .v (.a (.bl b))=>some (b,p.2) | _=>none⟩):=rfl
@[simp,simp ↓] theorem zSD:dAnd ta tb Γ=bnd (ta Γ) (f:=⟨fun p=>ifB p.1 (x:=⟨(tb p.2)⟩) (y:=⟨(some (false,p.2))⟩)⟩):=rfl
@[simp,simp ↓] theorem zTP:dOr ta tb Γ=bnd (ta Γ) (f:=⟨fun p=>ifB p.1 (x:=⟨(some (true,p.2))⟩) (y:=⟨(tb p.2)⟩)⟩):=rfl
@[simp,simp ↓] theorem zRu:dNot ta Γ=bnd (ta Γ) (f:=⟨fun p=>some (!p.1,p.2)⟩):=rfl
@[simp,simp ↓] theorem zRf:dAndV fa fb Γ=bnd (dTest fa Γ) (f:=⟨fun p=>ifB p.1 (x:=⟨(fb p.2)⟩) (y:=⟨(some (.v (.a (.bl false)),p.2))⟩)⟩):=rfl
@[simp,simp ↓] theorem zSX:dOrV fa fb Γ=bnd (dTest fa Γ) (f:=⟨fun p=>ifB p.1 (x:=⟨(some (.v (.a (.bl true)),p.2))⟩) (y:=⟨(fb p.2)⟩)⟩):=rfl
@[simp,simp ↓] theorem zQ4:dNotV fa Γ=bnd (dTest fa Γ) (f:=⟨fun p=>some (.v (.a (.bl !p.1)),p.2)⟩):=rfl
@[simp,simp ↓] theorem zSg:dIfE ta fa fb Γ=bnd (ta Γ) (f:=⟨fun p=>ifB p.1 (x:=⟨(fa p.2)⟩) (y:=⟨(fb p.2)⟩)⟩):=rfl
@[simp,simp ↓] theorem zSY{h:En->List T->List S->Option (T×List T)}:dMut i h da Γ=ifB (isLs Γ i) (x:=⟨(bnd (da Γ) (f:=⟨fun p=>match ixL p.2 i with
 | some (some (.l xs))=>bnd (gd xs.length ()) (f:=⟨fun _=>omp (h p.2 xs p.1) (f:=⟨fun q=>(.v q.1,p.2.set i (some (.l q.2)))⟩)⟩)
 | _=>none⟩))⟩) (y:=⟨none⟩):=rfl
@[simp,simp ↓] theorem zR0:isLs Γ i=match ixL Γ i with | some (some (.l _))=>true | _=>false:=rfl
@[simp,simp ↓] theorem zRB:dSetIx i fa fi Γ=bnd (fa Γ) (f:=⟨fun p=>bnd p.1.tree (f:=⟨fun t=>ifB (isLs p.2 i) (x:=⟨(bnd (fi p.2) (f:=⟨fun q=>bnd (iS q.1) (f:=⟨fun k=>match ixL q.2 i with
  | some (some (.l xs))=>omp (ixN xs.length k) (f:=⟨fun j=>.nx (q.2.set i (some (.l (xs.set j t))))⟩)
  | _=>none⟩)⟩))⟩) (y:=⟨none⟩)⟩)⟩):=rfl
@[simp,simp ↓] theorem zP7:iS (.v (⇑n))=some n:=rfl
@[simp] theorem zLa{c:Int->Int->Prop} [∀ i j,Decidable (c i j)] {g:Int->Int->V} {xs:List T} {b:S}:opIIc c g Γ (.l xs) b=none:=(rfl)
@[simp,simp ↓] theorem zRv:addS Γ (.v (⇑m)) (.v (⇑n))= ~~~(⇑(m+n)):=rfl
@[simp] theorem zRh:addS Γ (.v (.t xs)) (.v (.t ys))=gd (xs.length+ys.length) (.v (.t (xs++ys))):=by
 show ((none:Option S).or ((addTup Γ (.v (.t xs)) (.v (.t ys))).or ((none:Option S).or none)))=_
 simp[addTup]
@[simp] theorem zSt:addS Γ (.s m) b=addLst Γ (.s m) b:=by
 show ((none:Option S).or ((none:Option S).or ((addLst Γ (.s m) b).or none)))=_
 simp
@[simp] theorem zSl:addS Γ (.l xs) b=addLst Γ (.l xs) b:=by
 show ((none:Option S).or ((none:Option S).or ((addLst Γ (.l xs) b).or none)))=_
 simp
@[simp,simp ↓] theorem zQy:addLst Γ a b=bnd (lsOf Γ a) (f:=⟨fun xs=>bnd (lsOf Γ b) (f:=⟨fun ys=>gd (xs.length+ys.length) (.l (xs++ys))⟩)⟩):=rfl
@[simp,simp ↓] theorem zRk:subS Γ (.v (⇑m)) (.v (⇑n))= ~~~(⇑(m - n)):=rfl
@[simp] theorem zRY:mulS Γ (.v (⇑m)) (.v (⇑n))=if CMul m n then some (.v (⇑(m * n))) else none:=by
 show ((if CMul m n then some _ else none).or (none:Option S))=_
 simp
theorem zLR{l n:Nat}(h:l * n<=100000)(h2:n<=100000):fitM l (n:Int)=true:=by
 unfold fitM
 rw[zCe ⋯,Bn,Bu]
 exact E5 (Ai h ∅)
theorem zL1(xs:List T)(n:Nat)(h:xs.length * n<=100000)(h2:n<=100000):mulS Γ (.l xs) (.v (⇑(n:Int)))=some (.l (AN n xs).flatten):=by
 have e:mulS Γ (.l xs) (.v (.a (.int (n:Int))))=mulLst Γ (.l xs) (.v (.a (.int (n:Int)))):=by unfold mulS; rw[zLa,BZ]
 rw[e]
 unfold mulLst
 have e1:lsOf Γ (.l xs)=some xs:=rfl
 rw[e1,Ac,zP7,Ac,if_pos (zLR h h2),Bn]
@[simp] theorem zRb:modS Γ (.v (⇑m)) (.v (⇑n))=if 0 < n then some (.v (⇑(m % n))) else none:=(rfl)
@[simp] theorem zQ8:fdivS Γ (.v (⇑m)) (.v (⇑n))=if CDiv m n then some (.v (⇑(m / n))) else none:=(rfl)
@[simp] theorem zRV:powS Γ (.v (⇑m)) (.v (⇑n))=if CPow m n then some (.v (⇑(m ^ n.toNat))) else none:=(rfl)
@[simp,simp ↓] theorem zR2:ltS Γ (.v (⇑m)) (.v (⇑n))= ~~~(.a (.bl (decide (m < n)))):=rfl
@[simp,simp ↓] theorem zSN:gtS Γ (.v (⇑m)) (.v (⇑n))= ~~~(.a (.bl (decide (n < m)))):=rfl
@[simp,simp ↓] theorem zR8:geS Γ (.v (⇑m)) (.v (⇑n))= ~~~(.a (.bl (decide (n<=m)))):=rfl
@[simp,simp ↓] theorem zSf:negS Γ (.v (⇑m))= ~~~(⇑(-m)):=rfl
@[simp,simp ↓] theorem zS9:ixS Γ (.v (.t xs)) (.v (⇑n))=omp (atI xs n) (f:=⟨.v⟩):=rfl
@[simp,simp ↓] theorem zTH:ixS Γ (.l xs) (.v (⇑n))=omp (atI xs n) (f:=⟨.v⟩):=rfl
@[simp,simp ↓] theorem zTA:ixS Γ (.s m) (.v (⇑n))=bnd (sqlOf Γ (.s m)) (f:=⟨fun xs=>omp (atI xs n) (f:=⟨.v⟩)⟩):=rfl
@[simp,simp ↓] theorem zRi:sqlOf Γ (.s m)=match ixL Γ m with
  | some (some (.l xs))=>some xs
  | some (some (.r xs))=>some xs
  | some (some (.k xs))=>some xs
  | _=>none:=rfl
@[simp,simp ↓] theorem zNz:sqlOf Γ (.l xs)=some xs:=rfl
@[simp,simp ↓] theorem zSu:lsOf Γ (.l xs)=some xs:=rfl
@[simp,simp ↓] theorem zSO:lsOf Γ (.s m)=match ixL Γ m with
  | some (some (.l xs))=>some xs
  | some (some (.r xs))=>some xs
  | _=>none:=rfl
@[simp,simp ↓] theorem zSR:lenS Γ [.v (.t xs)]= ~~~(⇑xs.length):=rfl
@[simp,simp ↓] theorem zSn:lenS Γ [.l xs]= ~~~(⇑xs.length):=rfl
@[simp,simp ↓] theorem zSb:lenS Γ [.s m]=omp (sqlOf Γ (.s m)) (f:=⟨fun xs=>.v (⇑xs.length)⟩):=rfl
@[simp,simp ↓] theorem zRI:tupleS Γ [.l xs]= ~~~(.t xs):=rfl
@[simp,simp ↓] theorem zQ7:tupleS Γ [.s m]=omp (sqlOf Γ (.s m)) (f:=⟨fun xs=>.v (.t xs)⟩):=rfl
@[simp,simp ↓] theorem zQL:dNoPart Γ=some (none,Γ):=rfl
@[simp,simp ↓] theorem zRM:dPart fa Γ=bnd (fa Γ) (f:=⟨fun p=>omp (iS p.1) (f:=⟨fun i=>(some i,p.2)⟩)⟩):=rfl
@[simp,simp ↓] theorem zSW:dSl fa lo hi Γ=bnd (fa Γ) (f:=⟨fun p=>bnd (lo p.2) (f:=⟨fun l=>bnd (hi l.2) (f:=⟨fun h=>omp (slS h.2 l.1 h.1 p.1) (f:=⟨fun s=>(s,h.2)⟩)⟩)⟩)⟩):=rfl
@[simp,simp ↓] theorem zTG:slS Γ lo hi (.v (.t xs))= ~~~(.t (cutT xs lo hi)):=rfl
@[simp,simp ↓] theorem zS6:slS Γ lo hi (.s m)=omp (sqlOf Γ (.s m)) (f:=⟨fun xs=>.l (cutT xs lo hi)⟩):=rfl
@[simp,simp ↓] theorem zQw:hAppend Γ xs [.v t]=if xs.length < AB then some (.a .non,xs++[t]) else none:=rfl
@[simp,simp ↓] theorem zSQ:hPop Γ xs []=omp (xs[xs.length - 1]?) (f:=⟨fun t=>(t,xs.dropLast)⟩):=rfl
@[simp] theorem zQz:hPopAt Γ xs [.v (⇑n)]=if inR 9223372036854775807 n=true then bnd (Fi n xs.length) (f:=⟨fun k=>omp (xs[k]?) (f:=⟨fun t=>(t,xs.eraseIdx k)⟩)⟩) else none:=rfl
@[simp,simp ↓] theorem zR7:intS Γ [.v (.a (.bl b))]= ~~~(⇑(if b then 1 else 0)):=rfl
@[simp,simp ↓] theorem zRO:max2S Γ [.v (⇑m),.v (⇑n)]= ~~~(⇑(if n > m then n else m)):=rfl
@[simp] theorem zQx:dIndex fo da Γ=bnd (fo Γ) (f:=⟨fun p=>bnd (da p.2) (f:=⟨fun q=>match p.1,q.1 with
 | .v (.t xs),[.v (.a y)]=>bnd (atomsOf xs) (f:=⟨fun vs=>if flatV y=true/\vs.all flatV=true then omp (vs.findIdx? fun z=>eqV z y) (f:=⟨fun j=>(mkI (j:Nat),q.2)⟩) else none⟩)
 | _,_=>none⟩)⟩):=rfl
@[simp,simp ↓] theorem zSS:mkI n=.v (⇑n):=rfl
@[simp,simp ↓] theorem zSi:mkB b=.v (.a (.bl b)):=rfl
@[simp] theorem zPK:dListRng da Γ=bnd (da Γ) (f:=⟨fun p=>omp (rngS p.1) (f:=⟨fun xs=>(.l xs,p.2)⟩)⟩):=rfl
@[simp] theorem zP3:dTupRng da Γ=bnd (da Γ) (f:=⟨fun p=>omp (rngS p.1) (f:=⟨fun xs=>(.v (.t xs),p.2)⟩)⟩):=rfl
theorem zCU(n:Nat)(h:n<=100000):rngS [.v (⇑(n:Int))]=some (rngT 0 n):=by
 unfold rngS
 dsimp only
 rw[zCe ⋯,Bn,Bu,E5 (Ai h ∅),if_pos rfl]
theorem zKM(m n:Nat)(h1:m<=100000)(h:n<=100000):rngS [.v (⇑(m:Int)),.v (⇑(n:Int))]=some (rngT m (n - m)):=by
 unfold rngS
 dsimp only
 have e:((n:Int) - (m:Int)).toNat=n - m:=by lia
 rw[zCe ⋯,zCe ⋯,e,Bu,Bu,E5 (Ai (show n - m<=100000 by lia) ∅),if_pos rfl]
@[simp] theorem zRC:dRng1 da Γ=(da Γ).bind fun p=>if p.1.length=1 then (rngS p.1).map fun xs=>((xs,[]),p.2) else none:=by
 unfold dRng1
 congr 1
 funext p
 obtain⟨as,G⟩:=p
 match as with
 | []=>rfl
 | [a] =>
  match a with
  | .v (.a (.int j))=>simp only[rngS,Et,if_true]; split <;> rfl
  | .v (.a .non)=>rfl
  | .v (.a (.bl _))=>rfl
  | .v (.a (.str _))=>rfl
  | .v (.a (.byt _))=>rfl
  | .v (.a (.flt _))=>rfl
  | .v (.a (.ref _))=>rfl
  | .v (.a (.ty _))=>rfl
  | .v (.t _)=>rfl
  | .v (.l _)=>rfl
  | .v (.f _)=>rfl
  | .v (.x _ _)=>rfl
  | .l _=>rfl
  | .s _=>rfl
  | .d _=>rfl
 | a::b::r =>
  have:¬ (a::b::r).length=1:=by simp
  rw[if_neg this]
  dsimp only
  split
  ·rename_i h; simp at h
  ·rfl
@[simp,simp ↓] theorem zRE:dSeqI fa Γ=bnd (fa Γ) (f:=⟨fun p=>bnd (seqS p.2 p.1) (f:=⟨fun xs=>gd xs.length ((xs,srcS p.2 p.1),p.2)⟩)⟩):=rfl
@[simp,simp ↓] theorem zR5:seqS Γ (.v (.t xs))=some xs:=rfl
@[simp,simp ↓] theorem zSJ:seqS Γ (.l xs)=some xs:=rfl
@[simp,simp ↓] theorem zSE:seqS Γ (.s m)=sqlOf Γ (.s m):=rfl
@[simp,simp ↓] theorem zSV:srcS Γ (.v t)=[]:=rfl
@[simp,simp ↓] theorem zSk:srcS Γ (.l t)=[]:=rfl
@[simp,simp ↓] theorem zR3:srcS Γ (.s m)=match ixL Γ m with | some (some (.l _))=>[m] | _=>[]:=rfl
@[simp,simp ↓] theorem zRx:dYes Γ=some (true,Γ):=rfl
@[simp,simp ↓] theorem zRj:dTru fa Γ=bnd (fa Γ) (f:=⟨fun p=>omp (truS p.2 p.1) (f:=⟨fun b=>(b,p.2)⟩)⟩):=rfl
@[simp,simp ↓] theorem zSw:truS Γ (.v (.a (.bl b)))=some b:=rfl
@[simp,simp ↓] theorem zSr:truS Γ (.s m)=omp (sqlOf Γ (.s m)) (f:=⟨fun xs=>!xs.isEmpty⟩):=rfl
@[simp] theorem zQ2:dPar2 i j da Γ=bnd (da Γ) (f:=⟨fun p=>match p.1 with
  | [.v a,.v b]=>some (.nx ((p.2.set i (some (.v a))).set j (some (.v b))))
  | _=>none⟩):=rfl
@[simp] theorem zRS:dPar3 i j k da Γ=bnd (da Γ) (f:=⟨fun p=>match p.1 with
  | [.v a,.v b,.v c]=>some (.nx (((p.2.set i (some (.v a))).set j (some (.v b))).set k (some (.v c))))
  | _=>none⟩):=rfl
@[simp,simp ↓] theorem zRo:dUnp tg fa Γ=bnd (fa Γ) (f:=⟨fun p=>bnd p.1.tree (f:=⟨fun t=>omp (tg p.2 t) (f:=⟨.nx⟩)⟩)⟩):=rfl
@[simp,simp ↓] theorem zJL:gdName i Γ t=some (Γ.set i (~~~t)):=rfl
@[simp,simp ↓] theorem zRT:gdNil Γ []=some Γ:=rfl
@[simp,simp ↓] theorem zQu:gdCons p q Γ (t::r)=bnd (p Γ t) (f:=⟨fun Γ1=>q Γ1 r⟩):=rfl
@[simp,simp ↓] theorem zRe:gdTup i q Γ (.t ts)=ifN ts.length i (q Γ ts) none:=rfl
@[simp,simp ↓] theorem zRU:dCall ip F [] da Γ=bnd (da Γ) (f:=⟨fun p=>ifB (onceS ip p.1) (x:=⟨(bnd (argsG ip p.2 0 (apE p.1)) (f:=⟨fun gs=>omp (F gs) (f:=⟨fun q=>(toS q.1,backS ip p.2 p.1 q.2)⟩)⟩))⟩) (y:=⟨none⟩)⟩):=rfl
@[simp,simp ↓] theorem zQt:argsG ip Γ k []=some []:=rfl
@[simp high,simp ↓ high] theorem zRH:argsG ip Γ 0 (s::r)=bnd (argG ip Γ 0 s) (f:=⟨fun g=>omp (argsG ip Γ 1 r) (f:=⟨fun gs=>g::gs⟩)⟩):=rfl
@[simp high,simp ↓ high] theorem zRQ:argsG ip Γ 1 (s::r)=bnd (argG ip Γ 1 s) (f:=⟨fun g=>omp (argsG ip Γ 2 r) (f:=⟨fun gs=>g::gs⟩)⟩):=rfl
@[simp high,simp ↓ high] theorem zRJ:argsG ip Γ 2 (s::r)=bnd (argG ip Γ 2 s) (f:=⟨fun g=>omp (argsG ip Γ 3 r) (f:=⟨fun gs=>g::gs⟩)⟩):=rfl
@[simp high,simp ↓ high] theorem zRD:argsG ip Γ 3 (s::r)=bnd (argG ip Γ 3 s) (f:=⟨fun g=>omp (argsG ip Γ 4 r) (f:=⟨fun gs=>g::gs⟩)⟩):=rfl
@[simp,simp ↓] theorem zR4:argG ip Γ k (.v t)= ~~~t:=rfl
@[simp,simp ↓] theorem zRz:argG ip Γ k (.l xs)=some (ifO ip k (.l xs) (.r xs)):=rfl
@[simp,simp ↓] theorem zSh:argG ip Γ k (.s m)=match ixL Γ m with
  | some (some (.l xs))=>some (ifO ip k (.l xs) (.r xs))
  | some (some (.r xs))=>ifO ip k none (some (.r xs))
  | some (some (.k xs))=>ifO ip k none (some (.k xs))
  | some (some (.d xs))=>ifO ip k none (some (.e xs))
  | some (some (.e xs))=>ifO ip k none (some (.e xs))
  | _=>none:=rfl
@[simp,simp ↓] theorem zSI:argG ip Γ k (.d xs)=if ip=some k then none else some (.e xs):=rfl
@[simp,simp ↓] theorem zRl:onceS none ss=true:=rfl
@[simp high,simp ↓ high] theorem zTI:(Kx ([]:List S) fun s=>!isSl i s)=true:=rfl
@[simp high,simp ↓ high] theorem zTC:(Kx (.v t::r) fun s=>!isSl i s)=r.all fun s=>!isSl i s:=rfl
@[simp,simp ↓] theorem zRy:onceS (some k) ss=match ixL ss k with
  | some (.s i)=>(ss.eraseIdx k).all fun s=>!isSl i s
  | some (.l _)=>(ss.eraseIdx k).all fun s=>!isTmp s
  | _=>false:=rfl
@[simp,simp ↓] theorem zRw:backS none Γ ss ys=Γ:=rfl
@[simp,simp ↓] theorem zR1:backS (some k) Γ ss ys=match ixL ss k with | some (.s i)=>Γ.set i (some (.l ys)) | _=>Γ:=rfl
@[simp,simp ↓] theorem zS8:toS (.v t)=.v t:=rfl
@[simp,simp ↓] theorem zS4:toS (.l t)=.l t:=rfl
@[simp,simp ↓] theorem zSj:outl none Γ=[]:=rfl
@[simp,simp ↓] theorem zSp:outl (some k) Γ=match ixL Γ k with | some (some (.l xs))=>xs | _=>[]:=rfl
@[simp,simp ↓] theorem zSC:resG ip Γ (.v t)= ~~~t:=rfl
@[simp,simp ↓] theorem zSH:resG ip Γ (.l t)=some (.l t):=rfl
@[simp,simp ↓] theorem zSm:resG ip Γ (.s i)=if ip=some i then none else match ixL Γ i with | some (some (.l xs))=>some (.l xs) | some (some (.d xs))=>some (.d xs) | _=>none:=rfl
@[simp,simp ↓] theorem zSK:allS Γ [.l xs]=omp (boolsOf xs) (f:=⟨fun bs=>.v (.a (.bl (bs.all id)))⟩):=rfl
end
theorem zAk{α:Type}{xs:List α}{n:Nat}:atI xs (n:Int)=xs[n]?:=by
 unfold atI ixN
 rw[if_pos (Int.natCast_nonneg n)]
 by_cases h:n < xs.length
 ·rw[if_pos (by omega)]; simp
 ·rw[if_neg (by omega),BN (by omega)]; rfl
@[simp] theorem zIF{α:Type}{xs:List α}:atI xs 0=xs[0]?:=zAk (n:=0)
@[simp] theorem zTE{α:Type}{xs:List α}:atI xs 1=xs[1]?:=zAk (n:=1)
@[simp] theorem zS0{α:Type}{xs:List α}:atI xs 2=xs[2]?:=zAk (n:=2)
@[simp] theorem zSy{α:Type}{xs:List α}:atI xs 3=xs[3]?:=zAk (n:=3)
theorem zKY{α:Type}{xs:List α}(h:xs≠[]):atI xs (-1)=xs[xs.length - 1]?:=by
 have:0 < xs.length:=CT.mpr h
 unfold atI ixN
 rw[if_neg ⋯,if_pos ⋯]
 show xs[(-1+(xs.length:Int)).toNat]?=_
 congr 1
 lia
theorem zHn(h:j < n):ixN n (j:Int)=some j:=by
 unfold ixN; rw[if_pos ⋯,if_pos ⋯]; simp
theorem zAM(h:n<=100000):n<=AB:=Ai h ∅
theorem zHv(h:n<=100000):n < AB:=Hx h ∅
@[simp] noncomputable abbrev iT (n:Int):T:=.a (.int n)
@[simp] noncomputable abbrev bT (b:Bool):T:=.a (.bl b)
theorem zGW(ns:List Int){i:Int}(h0:0<=i)(h1:i < ns.length):∃ z,atI (intsT ns) i=some (iT z):=by
 obtain⟨j,rfl⟩:∃ j:Nat,i=j:=⟨i.toNat,by lia⟩
 exact⟨ns[j]'⋯,by rw[zAk,intsT,Ah,Bb ⋯]; rfl⟩
theorem zA2:dWhile c b (n+1) Γ=(c Γ).bind fun p=>if p.1=true then (b p.2).bind fun o=>match o with
   | .nx Γ'=>dWhile c b n Γ'
   | .ct Γ'=>dWhile c b n Γ'
   | .bk Γ'=>some (.nx Γ')
   | .rt s Γ'=>some (.rt s Γ')
  else some (.nx p.2):=(rfl)
theorem zBU:forD tg b [] Γ=some (.nx Γ):=(rfl)
theorem zDZ:forD tg b (t::r) Γ=(tg Γ t).bind fun Γ1=>(b Γ1).bind fun o=>match o with
  | .nx Γ'=>forD tg b r Γ'
  | .ct Γ'=>forD tg b r Γ'
  | .bk Γ'=>some (.nx Γ')
  | .rt s Γ'=>some (.rt s Γ'):=(rfl)
theorem zAO:compD tg dc de [] Γ=some ([],Γ):=(rfl)
theorem zAQ:compD tg dc de (t::r) Γ=(tg Γ t).bind fun Γ1=>(dc Γ1).bind fun p=>if p.1=true then (de p.2).bind fun q=>q.1.tree.bind fun t'=>(compD tg dc de r q.2).map fun z=>(t'::z.1,z.2) else compD tg dc de r p.2:=(rfl)
@[simp,simp ↓] theorem zRg:dComp none ix di tg dc de Γ=bnd (di Γ) (f:=⟨fun p=>omp (compD tg dc de p.1.1 (pick none ix p.2)) (f:=⟨fun z=>(.l z.1,p.2)⟩)⟩):=rfl
@[simp,simp ↓] theorem zRP:dComp (some (j,i)) ix di tg dc de Γ=bnd (di Γ) (f:=⟨fun p=>ifM i p.1.2 none (match ixL p.2 i with
  | some (some (.l _))=>omp (compD tg dc de p.1.1 (pick (some i) ix p.2)) (f:=⟨fun z=>(.l z.1,cback (some (j,i)) p.2 z.2)⟩)
  | _=>none)⟩):=rfl
@[simp,simp ↓] theorem zSq:dFor ip di tg b Γ=bnd (di Γ) (f:=⟨fun p=>ifB (p.1.2.all fun i=>decide (ip≠some i)) (x:=⟨(forD tg b p.1.1 (frz p.2 p.1.2))⟩) (y:=⟨none⟩)⟩):=rfl
@[simp,simp ↓] theorem zRc:frz Γ []=Γ:=rfl
@[simp,simp ↓] theorem zQ1:frz Γ (i::r)=frz (frz1 Γ i) r:=rfl
@[simp,simp ↓] theorem zRR:pick mu [] Γ=[]:=rfl
@[simp,simp ↓] theorem zSe:pick mu (none::ix) Γ=none::pick mu ix Γ:=rfl
@[simp,simp ↓] theorem zSP:pick mu (some k::ix) Γ=pick1 mu k (ixL Γ k).join::pick mu ix Γ:=rfl
@[simp,simp ↓] theorem zRm:pick1 mu k (~~~t)= ~~~t:=rfl
@[simp,simp ↓] theorem zQ9:pick1 mu k (some (.l t))=ifO mu k (some (.l t)) (some (.r t)):=rfl
@[simp,simp ↓] theorem zRd:cback (some (j,i)) Γ Γo=match ixL Γo j with | some (some (.l xs))=>Γ.set i (some (.l xs)) | _=>Γ:=rfl
theorem zBR{α:Type}(f g:α->T):∀ (is:List α),(∀ i∈is,de (some (.v (f i))::R)=some (.v (g i),some (.v (f i))::R))->∀ o,∃ o',compD (gdName 0) dYes de (is.map f) (o::R)=some (is.map g,o'::R)
 | [],_,o=>⟨o,rfl⟩
 | i::r,h,o=>by
  obtain⟨o',e⟩:=zBR f g r (fun j hj=>h j (AR _ hj)) (some (.v (f i)))
  refine⟨o',?_⟩
  rw[Ab,zAQ]
  simp[h i AZ,e]
theorem zJM(ds:List T):cutT ds none (some 1)=ds.take 1:=by
 unfold cutT
 cases ds with
 | nil=>rfl
 | cons x r=>simp[HT.sIx]
theorem zGI{n m:Nat}(h:n < m):Fi (n:Int) m=some n:=(zEq (zHn h)).1
theorem zEG:BF (.int n)=true:=rfl
@[simp] theorem zSA:eqS Γ (.v (⇑m)) (.v (⇑n))= ~~~(.a (.bl (decide (m=n)))):=by
 show ((some (mkB (decide (V.int m=V.int n)))).or _)=_
 simp
@[simp] theorem zSv:neS Γ (.v (⇑m)) (.v (⇑n))= ~~~(.a (.bl (!decide (m=n)))):=by
 show ((some (mkB (!decide (V.int m=V.int n)))).or _)=_
 simp
@[simp] theorem zSF:eqS Γ (.v (.a (.str m))) (.v (.a (.str n)))= ~~~(.a (.bl (decide (m=n)))):=by
 show ((some (mkB (decide (V.str m=V.str n)))).or _)=_
 simp
@[simp] theorem zSU:neS Γ (.v (.a (.str m))) (.v (.a (.str n)))= ~~~(.a (.bl (!decide (m=n)))):=by
 show ((some (mkB (!decide (V.str m=V.str n)))).or _)=_
 simp
@[simp] theorem zSd:neS Γ (.v (.a (.bl m))) (.v (.a (.bl n)))= ~~~(.a (.bl (!decide (m=n)))):=by
 show ((some (mkB (!decide (V.bl m=V.bl n)))).or _)=_
 simp
@[simp] abbrev tvT (t:List Nat):List T:=t.map fun (k:Nat)=>iT (k:Int)
@[simp] abbrev tuT (t:List Nat):T:=.t (tvT t)
structure IsT(n:Nat)(t:List Nat):Prop where
 len:t.length=n
 lt:∀ k∈t,k < n
 nd:t.Nodup
theorem IsT.get(h:IsT n t)(hi:i < n):∃ k,t[i]?=some k/\k < n:=by
 have hl:=h.len
 refine⟨t[i]'⋯,by simp,h.lt _ (B7 _)⟩
theorem zJy:∀ (n:Nat) (t:List Nat),t.length=n->(∀ k∈t,k < n)->t.Nodup->∀ i,i < n->i∈t:=by
 intro n
 induction n with
 | zero=>intro t _ _ _ i hi; lia
 | succ n ih =>
  intro t hl hlt hnd i hi
  by_cases hn:n∈t
  ·have h1:(t.erase n).length=n:=by rw[Gu hn]; lia
   have h2:∀ k∈t.erase n,k < n:=fun k hk=>by
    have:=hlt k (HE hk)
    have hne:k≠n:=fun e=>by subst e; exact (Ky hnd) hk
    lia
   have h3:(t.erase n).Nodup:=hnd.erase n
   by_cases e:i=n
   ·subst e; exact hn
   ·exact HE (ih (t.erase n) h1 h2 h3 i ⋯)
  ·exfalso
   have h2:∀ k∈t,k < n:=fun k hk=>by
    have:=hlt k hk
    have hne:k≠n:=fun e=>by subst e; exact hn hk
    lia
   cases t with
   | nil=>simp at hl
   | cons x r =>
    have hx:=h2 x AZ
    have hr:=ih r (by simpa using hl) (fun k hk=>h2 k (AR _ hk)) (Bf.mp hnd).2 x hx
    exact (Bf.mp hnd).1 hr
theorem IsT.mem(h:IsT n t)(hi:i < n):i∈t:=zJy n t h.len h.lt h.nd i hi
theorem zDY{α β:Type}{f:α->β}{l:List α}(h:∀ x∈l,∀ y∈l,f x=f y->x=y)(nd:l.Nodup):(l.map f).Nodup:=by
 induction l with
 | nil=>exact IY
 | cons a r ih =>
  obtain⟨h1,h2⟩:=Bf.mp nd
  refine Bf.mpr ⟨fun hm=>?_,ih (fun x hx y hy=>h x (AR _ hx) y (AR _ hy)) h2⟩
  obtain⟨y,hy,e⟩:=Bh.mp hm
  have:=h y (AR _ hy) a AZ e
  subst this
  exact h1 hy
noncomputable def thenL (a b:List Nat):List Nat:=a.map fun k=>b.getD k 0
noncomputable def backL (t:List Nat):List Nat:=(AV t.length).map fun i=>t.idxOf i
theorem zDH(h:IsT n t)(e:t[i]?=some k):t.idxOf k=i:=by
 obtain⟨hi,e'⟩:=Aa.mp e
 rw[← e']
 exact h.nd.idxOf_getElem i hi
theorem zBw{a b:List Nat}{i k m:Nat}(h1:a[i]?=some k)(h2:b[k]?=some m):(thenL a b)[i]?=some m:=by simp[thenL,h1,h2]
theorem zLg(h:i < t.length):(backL t)[i]?=some (t.idxOf i):=by simp[backL,h]
theorem zBh(ha:IsT n a)(hb:IsT n b):IsT n (thenL a b):=by
 refine⟨by simp[thenL,ha.len],fun k hk=>?_,?_⟩
 ·obtain⟨x,hx,rfl⟩:=Bh.mp hk
  obtain⟨m,hm,hmn⟩:=hb.get (ha.lt x hx)
  simpa [hm] using hmn
 ·unfold thenL
  refine zDY ?_ ha.nd
  intro x hx y hy e
  obtain⟨m,hm,_⟩:=hb.get (ha.lt x hx)
  obtain⟨m',hm',_⟩:=hb.get (ha.lt y hy)
  simp[hm,hm']at e
  subst e
  exact (zDH hb hm).symm.trans (zDH hb hm')
theorem zJl(h:IsT n t):IsT n (backL t):=by
 refine⟨by simp[backL,h.len],fun k hk=>?_,?_⟩
 ·obtain⟨x,hx,rfl⟩:=Bh.mp hk
  have hx':x < n:=by rw[← h.len]; simpa using hx
  have:=C8.mpr (h.mem hx')
  rw[h.len]at this; exact this
 ·unfold backL
  refine zDY ?_ EY
  intro x hx y hy e
  have hx':x∈t:=h.mem (by rw[← h.len]; simpa using hx)
  have hy':y∈t:=h.mem (by rw[← h.len]; simpa using hy)
  have e1:=Hj (C8.mpr hx')
  have e2:=Hj (C8.mpr hy')
  rw[← e1,← e2]
  congr 1
theorem zCb(h:t.Perm (AV n)):IsT n t :=
 ⟨by rw[h.length_eq]; simp,fun k hk=>by simpa using h.mem_iff.mp hk,h.nodup_iff.mpr EY⟩
theorem zCX(n:Nat):IsT n (AV n):=⟨by simp,fun k hk=>by simpa using hk,EY⟩
theorem zDd(n:Nat):rngT 0 n=tvT (AV n):=by simp[rngT]
theorem zIv(hk:ls[k]?=some z):((fs++[z])++ls.eraseIdx k).Perm (fs++ls):=by
 rw[By]
 refine K7 fs ?_
 obtain⟨hk1,hk2⟩:=Aa.mp hk
 rw[DZ]
 have e:ls=ls.take k++z::ls.drop (k+1):=by
  rw[← hk2,List.getElem_cons_drop,List.take_append_drop]
 conv=>rhs; rw[e]
 show (z::(ls.take k++ls.drop (k+1))).Perm _
 exact List.perm_middle.symm
theorem zKg{α β:Type}(f:α->β)(t:List α)(k:Nat):(t.map f).eraseIdx k=(t.eraseIdx k).map f:=by
 rw[DZ,DZ]; simp
theorem zD2:∀ t:List Nat,atomsOf (tvT t)=some (t.map fun (k:Nat)=>V.int (k:Int))
 | []=>rfl
 | k::r=>by simp only[tvT,Ab,atomsOf]; rw[show atomsOf (r.map fun (k:Nat)=>iT (k:Int))=_ from zD2 r]; rfl
theorem zHU(t:List Nat):(t.map fun (k:Nat)=>V.int (k:Int)).all flatV=true:=by simp[flatV]
theorem zG1{t:List Nat}{i:Nat}(h:i∈t):((t.map fun (k:Nat)=>V.int (k:Int)).findIdx? fun z=>eqV z (V.int (i:Int)))=some (t.idxOf i):=by
 have hlt:t.idxOf i < t.length:=C8.mpr h
 refine Fd.mpr ⟨by simpa using hlt,?_,fun j hj=>?_⟩
 ·simp[eqV]
 ·have hne:t[j]'⋯≠i:=fun e=>by
   have:=List.not_of_lt_findIdx (p:=(· == i)) (xs:=t) (show j < t.findIdx (· == i) from hj)
   simp[e]at this
  simp only[List.getElem_map,eqV]
  simpa using fun e=>hne (by exact_mod_cast e)
theorem zBc(xs:List T)(n:Nat):cutT xs none (some (n:Int))=xs.take n:=by
 unfold cutT
 rw[HT.sIx_none,HT.sIx_nat,GW,Jb]
 by_cases h:n<=xs.length
 ·rw[Ex h]
 ·rw[Ec ⋯,BR (AF _),BR ⋯]
theorem zBb(xs:List T)(n:Nat):cutT xs (some (n:Int)) none=xs.drop n:=by
 unfold cutT
 rw[HT.sIx_none,HT.sIx_nat]
 by_cases h:n<=xs.length
 ·rw[Ex h,BR (by simp)]
 ·rw[Ec ⋯,Nat.sub_self,List.take_zero,Ei ⋯]
theorem zBy(xs:List T)(m n:Nat):cutT xs (some (m:Int)) (some (n:Int))=(xs.drop m).take (n - m):=by
 unfold cutT
 rw[HT.sIx_nat,HT.sIx_nat]
 by_cases h:m<=xs.length
 ·rw[Ex h]
  by_cases h2:n<=xs.length
  ·rw[Ex h2]
  ·rw[Ec ⋯,BR (by simp),BR (by simp; lia)]
 ·rw[show min m xs.length=xs.length from Ec ⋯,Ei (AF _),Ei (show xs.length<=m by lia)]; simp
theorem zGP{t:List Nat}{i k:Nat}(h:t[i]?=some k):atI (tvT t) (i:Int)=some (iT (k:Int)):=by
 rw[zAk]; simp[h]
abbrev Stp:=Nat×List Nat×List Nat
@[simp] abbrev stT (s:Stp):T:=.t [iT (s.1:Int),tuT s.2.1,tuT s.2.2]
def StOk (n qs:Nat) (st:List Stp):Prop:=∀ s∈st,s.1 < qs/\IsT n s.2.1/\IsT n s.2.2
@[simp] noncomputable abbrev prT (p:T×T):T:=.t [p.1,p.2]
noncomputable def intsD (t:List Nat):List ER:=t.map fun (k:Nat)=>EZ (k:Int)
theorem zHX:∀ t:List Nat,toDs (tvT t)=some (intsD t)
 | []=>by simp[toDs,intsD]
 | k::r=>by
  have:=zHX r
  simp only[tvT,iT,Ab]at this ⊢
  rw[toDs,this]
  simp[toD,toDa,intsD]
theorem zBO:∀ t:List Nat,A4 (intsD t)=true
 | []=>by simp[intsD,A4]
 | k::r=>by
  have:=zBO r
  simp only[intsD,Ab]at this ⊢
  simp[A4,BF,this]
theorem zBZ:∀ t:List Nat,BK (intsD t)=0
 | []=>by simp[intsD,BK]
 | k::r=>by
  have:=zBZ r
  simp only[intsD,Ab]at this ⊢
  simp[BK,Bc,this]
end D
namespace L2
open PySem PySem.Spec PyProof.Rows
section
variable {X:Cx}{pins:List (Addr×Obj)}{s:AG}{σ:St}{H:Hp}{p:Addr}{vs:List V}
theorem zD4(hc:X.calm=true)(I:Inv X pins σ H s)(hq:SqL X.K H p vs\/SqT X.K H p vs)
  (h:∀ (its:List AD) (o:Obj) (St:Nat->Heap->Prop),Vals vs its->KU X.prog X.w X.A.in1 s.heap.objs.size [s.heap.objs.size,p] [s.heap.objs.size] its.length (fun i v=>its[i]?=some v) St ->
   St 0 (s.heap.push o)->p < s.heap.objs.size->Q (.ref s.heap.objs.size) { s with heap:=s.heap.push o }):AQ (model X.prog X.w) X.A.in1 (GB (.ref p)) Q E s:=by
 rcases hq with hq | hq
 ·obtain⟨its,rv,pl,hz⟩:=I.list hq
  have hl:=pl.isList
  have hlt:p < s.heap.objs.size:=by obtain⟨_,e,_⟩:=hl; exact AK e
  refine Eg hl ?_
  have W:=JZ (prog:=X.prog) (w:=X.w) (A:=X.A.in1) (I.ok.hd hc) s.heap.objs.size p (Ae hlt) its.toArray
  have W':KU X.prog X.w X.A.in1 s.heap.objs.size [s.heap.objs.size,p] [s.heap.objs.size] its.length (fun i v=>its[i]?=some v) (fun i h=>h.IsListIter s.heap.objs.size p i/\h.IsList p its.toArray):=by simpa using W
  exact h its _ _ rv W' ⟨⟨_,AI _ rfl,rfl,rfl⟩,hl.push _⟩ hlt
 ·obtain⟨its,rv,hl,hz⟩:=I.tuple hq
  have hlt:p < s.heap.objs.size:=by obtain⟨_,e,_⟩:=hl; exact AK e
  have hl':s.heap.IsTuple p its.toArray:=by obtain⟨o,e,c,n,d⟩:=hl; exact⟨o,e,c,n,d⟩
  refine Bx hl' ?_
  have W:=Walks.tuple (prog:=X.prog) (w:=X.w) (A:=X.A.in1) (I.ok.hd hc) s.heap.objs.size p (Ae hlt) its.toArray
  have W':KU X.prog X.w X.A.in1 s.heap.objs.size [s.heap.objs.size,p] [s.heap.objs.size] its.length (fun i v=>its[i]?=some v) (fun i h=>h.IsTupleIter s.heap.objs.size p i/\h.IsTuple p its.toArray):=by simpa using W
  exact h its _ _ rv W' ⟨⟨_,AI _ rfl,rfl,rfl⟩,hl'.push _⟩ hlt
theorem zFA{ns:List Int}:∀ {its:List AD},Vals (ns.map V.int) its->∀ (i:Nat) v,its[i]?=some v->∃ t,v=.int (ns.getD i 0) t:=by
 induction ns with
 | nil=>intro its h; cases h; intro i v e; simp at e
 | cons n r ih =>
  intro its h
  cases h with
  | cons h1 h2 =>
   intro i v e
   obtain⟨t,rfl⟩:=h1
   cases i with
   | zero=>simp at e; exact⟨t,e.symm⟩
   | succ i=>simpa using ih h2 i v (by simpa using e)
theorem zKP(hc:X.calm=true):CallR X (.builtin "sum") (fun xs H Q=>∃ (p:Addr) (ns:List Int),xs=[.ref p]/\(SqL X.K H p (ns.map V.int)\/SqT X.K H p (ns.map V.int))/\Q (.int ns.sum) H):=by
 intro pins s σ H xs us Q I r h
 obtain⟨p,ns,rfl,hq,q⟩:=h
 obtain⟨u,rfl,rx⟩:=vals1 r
 cases rx
 refine call_sum_walkG (zD4 hc I hq fun its o St rv W st0 hlt=>?_)
 refine⟨_,_,_,_,_,_,fun i=>ns.getD i 0,rfl,W,st0,fun b hb=>?_,zFA rv,fun h' tk t' hk=>?_⟩
 ·rw[A5]
  simp only[AH,AS,or_false]at hb
  rcases hb with rfl | rfl
  ·exact CW _
  ·exact DY hlt
 ·have hl:=rv.length
  rw[preSum_getD,BR (by rw[← hl]; simp)]
  exact⟨.int ns.sum,H,I.kept (Gx hk),⟨_,rfl⟩,q⟩
def minI:List Int->Int
 | []=>0
 | x::r=>r.foldl (fun a b=>if b < a then b else a) x
theorem zFQ:∀ (r:List Int) (x:Int),(r.foldl (fun a b=>if b < a then b else a) x∈x::r)/\∀ y∈x::r,r.foldl (fun a b=>if b < a then b else a) x<=y
 | [],x=>by simp
 | z::r,x=>by
  obtain⟨h1,h2⟩:=zFQ r (if z < x then z else x)
  rw[GF]
  refine⟨?_,fun y hy=>?_⟩
  ·rcases AH.mp h1 with e | e
   ·rw[e]; split <;> simp
   ·simp[e]
  ·have h0:=h2 _ AZ
   rcases AH.mp hy with e | e
   ·subst e; split at h0 <;> (split <;> omega)
   ·rcases AH.mp e with e | e
    ·subst e; split at h0 <;> (split <;> omega)
    ·exact h2 y (AR _ e)
theorem zGS(val:Nat->Int):∀ k,Hy (fun i j=>decide (val i < val j)) k<=k/\∀ j,j<=k->val (Hy (fun i j=>decide (val i < val j)) k)<=val j
 | 0=>⟨AF _,fun j hj=>by rw[Nat.le_zero.mp hj]; exact Jz _⟩
 | k+1=>by
  obtain⟨h1,h2⟩:=zGS val k
  unfold Hy
  split
  ·rename_i h; simp at h
   refine⟨AF _,fun j hj=>?_⟩
   by_cases e:j=k+1
   ·rw[e]; exact Jz _
   ·have:=h2 j ⋯; lia
  ·rename_i h; simp at h
   refine⟨by lia,fun j hj=>?_⟩
   by_cases e:j=k+1
   ·rw[e]; exact h
   ·exact h2 j ⋯
theorem zKw{ns:List Int}{i:Nat}(h:i < ns.length):ns.getD i 0∈ns:=by
 rw[D4,Bb h]; exact B7 h
theorem zJh{ns:List Int}{a:Int}(h:a∈ns):∃ i,i < ns.length/\ns.getD i 0=a:=by
 obtain⟨i,hi,e⟩:=List.getElem_of_mem h
 exact⟨i,hi,by rw[D4,Bb hi,e]; rfl⟩
theorem zKq(hc:X.calm=true):CallR X (.builtin "min") (fun xs H Q=>∃ (p:Addr) (ns:List Int),xs=[.ref p]/\(SqL X.K H p (ns.map V.int)\/SqT X.K H p (ns.map V.int))/\0 < ns.length/\Q (.int (minI ns)) H):=by
 intro pins s σ H xs us Q I r h
 obtain⟨p,ns,rfl,hq,h0,q⟩:=h
 obtain⟨u,rfl,rx⟩:=vals1 r
 cases rx
 refine call_min_walk (zD4 hc I hq fun its o St rv W st0 hlt=>?_)
 have hl:=rv.length
 rw[Bg]at hl
 refine⟨_,_,_,_,_,_,_,rfl,W,st0,fun b hb=>?_,by omega,CmpOf.ints_lt (fun i=>ns.getD i 0) (zFA rv),fun v h' tk hv hk=>?_⟩
 ·rw[A5]
  simp only[AH,AS,or_false]at hb
  rcases hb with rfl | rfl
  ·exact CW _
  ·exact DY hlt
 ·obtain⟨t,rfl⟩:=zFA rv _ _ hv
  obtain⟨b1,b2⟩:=zGS (fun i=>ns.getD i 0) (its.length - 1)
  refine⟨.int (minI ns),H,I.kept (Gx hk),?_,q⟩
  have e:ns.getD (Hy (fun i j=>decide (ns.getD i 0 < ns.getD j 0)) (its.length - 1)) 0=minI ns:=by
   cases ns with
   | nil=>simp at h0
   | cons x r =>
    obtain⟨m1,m2⟩:=zFQ r x
    have a1:=m2 _ (zKw (ns:=x::r) (i:=Hy (fun i j=>decide ((x::r).getD i 0 < (x::r).getD j 0)) (its.length - 1)) (by omega))
    obtain⟨j,hj,ej⟩:=zJh m1
    have a2:=b2 j (by omega)
    show _=r.foldl (fun a b=>if b < a then b else a) x
    rw[ej]at a2
    exact Int.le_antisymm a2 a1
  exact⟨t,by rw[e]⟩
end
end L2
namespace D
open PySem L2
def sumS:En->List S->Option S:=fun Γ as=>match as with
 | [a]=>(seqS Γ a).bind fun xs=>(intsOf xs).map fun ns=>.v (.a (.int ns.sum))
 | _=>none
def min1S:En->List S->Option S:=fun Γ as=>match as with
 | [a]=>(seqS Γ a).bind fun xs=>(intsOf xs).bind fun ns=>if 0 < ns.length then some (.v (.a (.int (minI ns)))) else none
 | _=>none
theorem zGE(R:Rep K C w Γ σ H)(o:SOk K C w σ H x s)(e:seqS Γ s=some xs)(e2:intsOf xs=some ns) :
  ∃ p,x=.ref p/\(SqL K H p (ns.map V.int)\/SqT K H p (ns.map V.int)):=by
 obtain⟨p,us,rfl,h1,i1⟩:=zEH R o e
 have hu:us=ns.map V.int:=by rw[zDP e2]at i1; exact i1.of_atoms
 subst hu
 exact⟨p,rfl,h1⟩
theorem zKv:SimRs K (fun xs H Q=>∃ (p:Addr) (ns:List Int),xs=[.ref p]/\(SqL K H p (ns.map V.int)\/SqT K H p (ns.map V.int))/\Q (.int ns.sum) H) sumS:=by
 intro C w Γ σ H vs as s Q R o e k
 unfold sumS at e
 split at e
 ·obtain⟨xs,e1,e⟩:=bind_some e
  obtain⟨ns,e2,e⟩:=zAI e
  cases e
  obtain⟨v,rfl,o1⟩:=soks1 o
  obtain⟨p,rfl,h⟩:=zGE R o1 e1 e2
  exact⟨p,ns,rfl,h,k _ H R .refl SOk.atom trivial⟩
 ·cases e
theorem zH1:SimRs K (fun xs H Q=>∃ (p:Addr) (ns:List Int),xs=[.ref p]/\(SqL K H p (ns.map V.int)\/SqT K H p (ns.map V.int))/\0 < ns.length/\Q (.int (minI ns)) H) min1S:=by
 intro C w Γ σ H vs as s Q R o e k
 unfold min1S at e
 split at e
 ·obtain⟨xs,e1,e⟩:=bind_some e
  obtain⟨ns,e2,e⟩:=bind_some e
  split at e
  ·cases e
   obtain⟨v,rfl,o1⟩:=soks1 o
   obtain⟨p,rfl,h⟩:=zGE R o1 e1 e2
   exact⟨p,ns,rfl,h,by assumption,k _ H R .refl SOk.atom trivial⟩
  ·cases e
 ·cases e
section
variable {ι:Type}{K:Fg}{X:ι->Cx}{mg:Str->Option AD}{k:Nat}
theorem zPE(M:Fm K mg k X):CalR K X (.builtin "sum") sumS:=⟨_,fun j=>by have:=zKP (M.calm j); rw[M.K j]at this; exact this,zKv⟩
theorem zN0(M:Fm K mg k X):CalR K X (.builtin "min") min1S:=⟨_,fun j=>by have:=zKq (M.calm j); rw[M.K j]at this; exact this,zH1⟩
end
noncomputable def dK (t:T):DE:=fun Γ=>some (.v t,Γ)
def KV (K:Fg) (mg:Str->Option AD) (x:Str) (t:T):Prop:=∃ v u,mg x=some u/\RelV v u/\∀ H:Hp,Im K H v t
end D
namespace L2
open PySem PySem.Spec PyProof.Rows
theorem zBd:fillsNumberSlot (.type "tuple") "mul"=pure false :=
 PySem.fillsNumberSlot_seq (id:="tuple.__mul__") (r:=some (.builtin "tuple.__rmul__")) CZ.lookup (by decide +kernel) IZ.lookup (by decide +kernel)
theorem zCN:seqRepeat? (.type "tuple")=pure (some (.builtin "tuple.__mul__")):=by
 unfold seqRepeat?
 rw[Hz (T:="tuple") (name:="__mul__") (id:="tuple.__mul__") CZ.lookup (by decide +kernel),Hz (T:="tuple") (name:="__rmul__") (id:="tuple.__rmul__") IZ.lookup (by decide +kernel)]
 rfl
theorem zE1(a:Int)(t:Tok)(l:Addr)(items:Array AD)(n:Nat)(dd:Option Addr)(sl:Array (Option AD)) :
  Fc (Builtin.«int.__rmul__» ⟨[.int a t,.ref l],[]⟩) (fun _ R s=>s.heap.get? l=some { cls:=.type "tuple",dict:=dd,data:=.seq items n,slots:=sl }/\R (.ok (.ret HF)) s) :=
 .of_wp fun prog w A R s h=>by obtain⟨hp,g,d,tk,os⟩:=s; obtain⟨hl,h⟩:=h; wp_walk; exact⟨_,rfl,h⟩
end L2
namespace D
open PySem L2
open PySem.SeqAt
end D
namespace L2
open PySem PySem.Spec PyProof.Rows
def Itzm (b b2:Bool) (K:AM) (a1 a2:Addr):It :=
 ⟨fun i H=>∃ xs ys x y,Sq b K H a1 xs/\Sq b2 K H a2 ys/\xs[i]?=some x/\ys[i]?=some y,
  fun i H v H'=>∃ T x y,v=.ref T/\H T=none/\H'=upd H T (.tup [x,y])/\(∀ xs,Sq b K H a1 xs->xs[i]?=some x)/\∀ ys,Sq b2 K H a2 ys->ys[i]?=some y,
  fun i H=>∃ xs ys,Sq b K H a1 xs/\Sq b2 K H a2 ys/\(xs.length<=i\/ys.length<=i)⟩
structure ZTnm(b b2:Bool)(z TI TO i1 i2 a1 a2:Addr)(k:Nat)(h:Heap):Prop where
 z:GQ h z TI TO .none
 ti:Dq h TI (.ref i1) (.ref i2)
 to:∃ a b,Dq h TO a b
 s1:SIt b i1 a1 k h
 s2:SIt b2 i2 a2 k h
theorem zKS{P:Am}{w:A0}{K:AM}{elts:List Expr}{x1:Nat}{tp:Pos}(b b2:Bool){z TI TO i1 i2 a1 a2:Addr}(D:ZAp z TI TO i1 i2 a1 a2) :
  Turn P w K (.Tuple elts x1 tp) (Itzm b b2 K a1 a2) [z,TI,TO,i1,i2] z (ZTnm b b2 z TI TO i1 i2 a1 a2) where
 mem:=by simp
 obj:=fun i h st c hc=>by
  simp only[AH,AS,or_false]at hc
  rcases hc with e | e | e | e | e
  ·exact⟨_,e ▸ st.z,fun v z=>by cases z⟩
  ·exact⟨_,e ▸ st.ti,fun v z=>by cases z⟩
  ·obtain⟨a,b,q⟩:=st.to; exact⟨_,e ▸ q,fun v z=>by cases z⟩
  ·obtain⟨o,q,d⟩:=st.s1.live; exact⟨o,e ▸ q,d⟩
  ·obtain⟨o,q,d⟩:=st.s2.live; exact⟨o,e ▸ q,d⟩
 keep:=fun i h h' st k=>⟨k z (by simp) _ st.z,k TI (by simp) _ st.ti,(let ⟨a,b,q⟩:=st.to; ⟨a,b,k TO (by simp) _ q⟩),st.s1.keep fun o e=>k i1 (by simp) o e,st.s2.keep fun o e=>k i2 (by simp) o e⟩
 item:=by
  intro X hP hw hK hc i pins s σ H E I hf st hg
  subst hP hw hK
  obtain⟨xs,ys,x,y,h1,h2,hx,hy⟩:=hg
  obtain⟨its1,v1,o1,z1⟩:=I.sq h1
  obtain⟨its2,v2,o2,z2⟩:=I.sq h2
  obtain⟨u1,e1,r1⟩:=v1.get hx
  obtain⟨u2,e2,r2⟩:=v2.get hy
  have hT:s.TypeIs (.ref z) "zip":=⟨_,st.z,rfl⟩
  have nH:∀ c∈[z,TI,TO,i1,i2],H c=none:=fun c hc=>(hf c hc).1
  unfold D5
  refine AA (CC (Aq (name:=Bi "__next__") hT CK (A6 CK hT Em
   (zEF D (zA3 b i1 a1 its1.toArray D.a.l1i1) (zA3 b2 i2 a2 its2.toArray D.a.l2i2) ⟨st.z,st.ti,st.to,⟨st.s1,o1⟩,⟨st.s2,o2⟩⟩ (by simpa using e1) (by simpa using e2) fun h' st' hp hk=>AJ ?_) (EV _))))
  refine⟨_,rfl,?_⟩
  have fT:H s.heap.objs.size=none:=I.hok.fresh (AF _)
  have hk':∀ c o,c∉[z,TO,i1,i2]->s.heap.get? c=some o->h'.get? c=some o:=fun c o hc e=>by
   simp only[AH,AS,or_false,not_or]at hc
   exact hk c o hc.1 hc.2.1 hc.2.2.1 hc.2.2.2 e
  have sub:∀ c∈[z,TO,i1,i2],c∈[z,TI,TO,i1,i2]:=fun c hc=>by
   simp only[AH,AS,or_false]at hc ⊢
   rcases hc with e | e | e | e <;> simp[e]
  have trk:∀ c u,H c=some u->c∉[z,TO,i1,i2]:=fun c u e hc=>by rw[nH c (sub c hc)]at e; cases e
  have nT:∀ c o,s.heap.get? c=some o->c≠s.heap.objs.size:=fun c o e=>Ae (AK e)
  have hok1:HOk X.prog X.w H h':=fun c u e=>(I.hok c u e).stay (fun d v hd q=>hk' d v (by
   rcases hd with rfl | hd
   ·exact trk d u e
   ·exact trk d _ hd) q) (fun _ q=>q) fun _ _ q=>q
  have I1:Inv X pins σ (upd H s.heap.objs.size (.tup [x,y])) { s with heap:=h',toks:=s.toks }:=by
   refine I.step (g':=s.gens) (d':=s.drawn) (t':=s.toks) (ch:=[z,TO,i1,i2]) (fun c hc=>?_) (fun c o _ _ hc e _=>hk' c o hc e) (fun c o _ _ hc e _=>⟨o.slots,hk' c o hc e⟩)
    (fun c o _ e n=>by rw[zAN (nT c o e)]; exact n) (fun c o hc e=>⟨o,hk' c o hc e⟩) (fun c xs e=>by rw[zAN (zAW e fT)]; exact e) (fun c o u e=>by rw[zAN (zAW e fT)]; exact e)
    (fun c ps e=>⟨#[],by rw[zAN (zAW e fT),e]; simp⟩) (fun m hm=>?_) (hok1.adopt fT ⟨by show 2<=AB; decide,[u1,u2],.cons r1 (.cons r2 .nil),_,hp,rfl,⟨0,rfl⟩,rfl⟩) I.bare
   ·obtain⟨_,f1,f2,f3,f4,f5⟩:=hf c (sub c hc); exact⟨f3,f1,f4,f5⟩
   ·obtain⟨o,es,ep,ho,r⟩:=hm
    exact⟨o,es,ep,hk' _ o (fun hc=>(hf _ (sub _ hc)).2.1 rfl) ho,r⟩
  refine HL st'.z fun h9 hz2 hs2=>?_
  obtain⟨_,f1,f2,f3,f4,f5⟩:=hf z (by simp)
  have nz:upd H s.heap.objs.size (.tup [x,y]) z=none:=by rw[zAN (nT z _ st.z)]; exact nH z (by simp)
  have I2:Inv X pins σ (upd H s.heap.objs.size (.tup [x,y])) { s with heap:=h9,toks:=s.toks }:=by
   have q:=I1.turned (h':=h9) (t':=s.toks) (it:=z) (fun c o hc e=>(hs2.2 c hc).trans e) nz f1 f3 f4 f5
   exact q
  refine⟨.ref s.heap.objs.size,_,I2,rfl,⟨s.heap.objs.size,x,y,rfl,fT,rfl,fun xs' q=>by rw[I.sq_inj q h1]; exact hx,fun ys' q=>by rw[I.sq_inj q h2]; exact hy⟩,?_,fun c hc=>?_⟩
  ·have up:∀ c o,c≠z->h'.get? c=some o->h9.get? c=some o:=fun c o hc e=>(hs2.2 c hc).trans e
   exact⟨hz2,up _ _ D.a.TIz st'.ti,(let ⟨a,b,q⟩:=st'.to; ⟨a,b,up _ _ D.a.TOz q⟩),st'.s1.1.keep fun o e=>up _ o D.a.i1z e,st'.s2.1.keep fun o e=>up _ o D.a.i2z e⟩
  ·obtain⟨o,e,_⟩:∃ o,s.heap.get? c=some o/\True:=by
    simp only[AH,AS,or_false]at hc
    rcases hc with e | e | e | e | e
    ·exact⟨_,e ▸ st.z,trivial⟩
    ·exact⟨_,e ▸ st.ti,trivial⟩
    ·obtain⟨a,b,q⟩:=st.to; exact⟨_,e ▸ q,trivial⟩
    ·obtain⟨o,q,d⟩:=st.s1.live; exact⟨o,e ▸ q,trivial⟩
    ·obtain⟨o,q,d⟩:=st.s2.live; exact⟨o,e ▸ q,trivial⟩
   rw[zAN (nT c o e)]; exact nH c hc
 done:=by
  intro X hP hw hK hc i pins s σ H E I hf st hg
  subst hP hw hK
  obtain⟨xs,ys,h1,h2,hl⟩:=hg
  obtain⟨its1,v1,o1,z1⟩:=I.sq h1
  obtain⟨its2,v2,o2,z2⟩:=I.sq h2
  have l1:=v1.length
  have l2:=v2.length
  have hT:s.TypeIs (.ref z) "zip":=⟨_,st.z,rfl⟩
  unfold D5
  refine AA (CC (Aq (name:=Bi "__next__") hT CK (A6 CK hT Em
   (zFN (I.ok.hd hc) D (zA3 b i1 a1 its1.toArray D.a.l1i1) (zA3 b2 i2 a2 its2.toArray D.a.l2i2) ⟨st.z,st.ti,st.to,⟨st.s1,o1⟩,⟨st.s2,o2⟩⟩
    (hl.imp (fun q=>by simp; lia) fun q=>by simp; lia) fun h' e hk he=>?_) (EV _))))
  obtain⟨o,ho,hcl⟩:=he
  refine AA (Cb (T:="StopIteration") (b:=true) ⟨o,ho,hcl⟩ FZ (AJ ⟨rfl,?_⟩))
  have hk':∀ c o,c∉[z,TO,i1,i2]->s.heap.get? c=some o->h'.get? c=some o:=fun c o hc e=>by
   simp only[AH,AS,or_false,not_or]at hc
   exact hk c o hc.1 hc.2.1 hc.2.2.1 hc.2.2.2 e
  have sub:∀ c∈[z,TO,i1,i2],c∈[z,TI,TO,i1,i2]:=fun c hc=>by
   simp only[AH,AS,or_false]at hc ⊢
   rcases hc with e | e | e | e <;> simp[e]
  have trk:∀ c u,H c=some u->c∉[z,TO,i1,i2]:=fun c u e hc=>by rw[(hf c (sub c hc)).1]at e; cases e
  refine I.step (g':=s.gens) (d':=s.drawn) (t':=s.toks) (ch:=[z,TO,i1,i2]) (fun c hc=>?_) (fun c o _ _ hc e _=>hk' c o hc e) (fun c o _ _ hc e _=>⟨o.slots,hk' c o hc e⟩)
   (fun c o _ e n=>n) (fun c o hc e=>⟨o,hk' c o hc e⟩) (fun c xs e=>e) (fun c o u e=>e) (fun c ps e=>⟨#[],by rw[e]; simp⟩) (fun m hm=>?_) (fun c u e=>(I.hok c u e).stay (fun d v hd q=>hk' d v (by
    rcases hd with rfl | hd
    ·exact trk d u e
    ·exact trk d _ hd) q) (fun _ q=>q) fun _ _ q=>q) I.bare
  ·obtain⟨_,f1,f2,f3,f4,f5⟩:=hf c (sub c hc); exact⟨f3,f1,f4,f5⟩
  ·obtain⟨o,es,ep,ho,r⟩:=hm
   exact⟨o,es,ep,hk' _ o (fun hc=>(hf _ (sub _ hc)).2.1 rfl) ho,r⟩
 self:=fun _ _ _ _ _ st h=>E3 st.z h
section
variable {prog:Am}{w:A0}{A:BJ}{E:AD->AG->Prop}{s:AG}
abbrev zM1 (h:Heap) (l1:Addr):Heap:=h.push { cls:=.type "list_iterator",data:=.fields #[.ref l1,.int 0 0] }
abbrev zM2 (h:Heap) (l1 l2:Addr):Heap:=(zM1 h l1).push { cls:=.type "tuple_iterator",data:=.fields #[.ref l2,.int 0 0] }
abbrev zM3 (h:Heap) (l1 l2:Addr):Heap:=(zM2 h l1 l2).push { cls:=.type "tuple",data:=.seq #[.ref h.objs.size,.ref (zM1 h l1).objs.size] }
abbrev zM4 (h:Heap) (l1 l2:Addr):Heap:=(zM3 h l1 l2).push { cls:=.type "tuple",data:=.seq #[.none,.none] }
abbrev zM5 (h:Heap) (l1 l2:Addr):Heap:=(zM4 h l1 l2).push { cls:=.type "zip",data:=.fields #[.none,.bool false,.bool false,.ref (zM2 h l1 l2).objs.size,.ref (zM3 h l1 l2).objs.size] }
theorem zIN(l1 l2:Addr)(xs ys:Array AD) :
  Fc (Builtin.«zip.__new__» ⟨[.type "zip",.ref l1,.ref l2],[]⟩) (fun _ R s=>s.heap.IsList l1 xs/\s.heap.IsTuple l2 ys/\R (.ok (.ret (.ref (zM4 s.heap l1 l2).objs.size))) { s with heap:=zM5 s.heap l1 l2 }) :=
 .of_wp fun prog w A R s h=>by
  obtain⟨hp,g,d,tk,os⟩:=s; obtain⟨hl1,hl2,h⟩:=h
  have sub0:=sub_zip
  have T1:Heap.IsList (Eu ⟨hp,g,d,tk,os⟩) l1 xs:=hl1
  have T2:Fj (Eu ⟨hp.push { cls:=.type "list_iterator",data:=.fields #[.ref l1,.int 0 0] },g,d,tk,os⟩) l2 ys:=Gh hl2 _
  wp_walk using Eg T1,Bx T2
  exact⟨_,rfl,h⟩
theorem zJR(hl1:s.heap.IsList l1 xs)(hl2:s.heap.IsTuple l2 ys)
  (h:∀ h',ZTnm false true (s.heap.objs.size+4) (s.heap.objs.size+2) (s.heap.objs.size+3) s.heap.objs.size (s.heap.objs.size+1) l1 l2 0 h'->(∀ c o,s.heap.get? c=some o->h'.get? c=some o)->Q (.ref (s.heap.objs.size+4)) { s with heap:=h' }) :
  AQ (model prog w) A (call (.type "zip") [.ref l1,.ref l2]) Q E s:=by
 refine EH KN ∅ (Il _ _) (JC _ _) (fun obj=>Ht obj _ _) JD (zIN l1 l2 xs ys) ⟨hl1,hl2,?_⟩
 have z1:(zM1 s.heap l1).objs.size=s.heap.objs.size+1:=A5 ..
 have z2:(zM2 s.heap l1 l2).objs.size=s.heap.objs.size+2:=by rw[A5,z1]
 have z3:(zM3 s.heap l1 l2).objs.size=s.heap.objs.size+3:=by rw[A5,z2]
 have z4:(zM4 s.heap l1 l2).objs.size=s.heap.objs.size+4:=by rw[A5,z3]
 have up:∀ c o,(zM4 s.heap l1 l2).get? c=some o->(zM5 s.heap l1 l2).get? c=some o:=fun c o e=>AC _ e
 have g5:(zM5 s.heap l1 l2).get? (zM4 s.heap l1 l2).objs.size=some _:=AI _ rfl
 have g4:(zM5 s.heap l1 l2).get? (zM3 s.heap l1 l2).objs.size=some _:=up _ _ (AI _ rfl)
 have g3:(zM5 s.heap l1 l2).get? (zM2 s.heap l1 l2).objs.size=some _:=up _ _ (AC _ (AI _ rfl))
 have g2:(zM5 s.heap l1 l2).get? (zM1 s.heap l1).objs.size=some _:=up _ _ (AC _ (AC _ (AI _ rfl)))
 have g1:(zM5 s.heap l1 l2).get? s.heap.objs.size=some _:=up _ _ (AC _ (AC _ (AC _ (AI _ rfl))))
 show _/\_
 rw[z2,z3,z4]at g5
 rw[z1,z2]at g3
 rw[z3]at g4
 rw[z1]at g2
 rw[z4]
 exact⟨⟨_,g5,rfl⟩,h _ ⟨g5,g3,⟨_,_,g4⟩,⟨_,g1,rfl,rfl⟩,⟨_,g2,rfl,rfl⟩⟩ fun c o x=>up _ _ (AC _ (AC _ (AC _ (AC _ x))))⟩
end
section
variable {X:Cx}{elts:List Expr}{x1:Nat}{tp:Pos}
def iZipM (K:AM) (ta:TA):TI:=fun σ H R=>ta σ H fun vs H1=>∃ (a1 a2:Addr),vs=[.ref a1,.ref a2]/\(∃ xs,Sq false K H1 a1 xs)/\(∃ ys,Sq true K H1 a2 ys)/\R (Itzm false true K a1 a2) H1
theorem zNF(hg:Gl X "zip")(hm:X.mg "zip"=none)(ha:PA X [e1,e2] ta)(hs:AU [e1,e2] X.env=[(false,eval e1 X.env),(false,eval e2 X.env)]:=by rfl)(hs2:AU [e2] X.env=[(false,eval e2 X.env)]:=by rfl) :
  PI X (.Tuple elts x1 tp) (.Call (.Name "zip" p) [e1,e2] [] pos) (iZipM X.K ta):=by
 intro pins s σ H R I h
 refine Gn (zBH I hg hm boot_zip (An (thn (ha pos pins s σ H _ I h) fun us s1 ⟨vs,H1,I1,r1,q1⟩=>?_) (by rw[hs,hs2]) (by rw[hs2]; rfl)))
 obtain⟨a1,a2,e,⟨xs,h1⟩,⟨ys,h2⟩,q⟩:=q1
 subst e
 obtain⟨u1,u2,e,r,r'⟩:=vals2 r1
 subst e
 cases r; cases r'
 obtain⟨its1,v1,o1,z1⟩:=I1.sq h1
 obtain⟨its2,v2,o2,z2⟩:=I1.sq h2
 have lt1:a1 < s1.heap.objs.size:=by obtain⟨o,e,_⟩:=(show s1.heap.IsList a1 its1.toArray from o1); exact AK e
 have lt2:a2 < s1.heap.objs.size:=by obtain⟨o,e,_⟩:=(show s1.heap.IsTuple a2 its2.toArray from o2); exact AK e
 have D:ZAp (s1.heap.objs.size+4) (s1.heap.objs.size+2) (s1.heap.objs.size+3) s1.heap.objs.size (s1.heap.objs.size+1) a1 a2 :=
  ⟨K5 lt1 lt2,Ae (AY lt1 (CB _ 2)),Ae (AY lt2 (CB _ 2))⟩
 have fin:∀ h',ZTnm false true (s1.heap.objs.size+4) (s1.heap.objs.size+2) (s1.heap.objs.size+3) s1.heap.objs.size (s1.heap.objs.size+1) a1 a2 0 h'->(∀ c o,s1.heap.get? c=some o->h'.get? c=some o) ->
   AQ (model X.prog X.w) X.A (GB (.ref (s1.heap.objs.size+4))) (PIE X pins σ (.Tuple elts x1 tp) R) X.xe { s1 with heap:=h' }:=fun h' st hk=>by
  refine E3 st.z ?_
  refine⟨_,_,_,_,H1,rfl,I1.kept (t':=s1.toks) hk,zKS false true D,st,fun c hc=>?_,q⟩
  have hc':s1.heap.objs.size<=c:=by
   simp only[AH,AS,or_false]at hc
   rcases hc with e | e | e | e | e <;> (rw[e]) <;> first | exact AF _ | exact CB _ _
  exact I1.fpOk hc' (I1.hok.fresh hc')
 exact zJR o1 o2 fin
end
end L2
namespace D
open PySem L2
theorem zNk(h1:Sq b K H2 a1 vs)(h2:Sq b2 K H2 a2 us)(i1:Ims K H2 vs xs)(i2:Ims K H2 us ys) :
  (∀ (i:Nat) t,(zipT xs ys)[i]?=some t->(Itzm b b2 K a1 a2).go i H2/\∀ x H3,(Itzm b b2 K a1 a2).yld i H2 x H3->(∀ b o,H2 b=some o->H3 b=some o)/\Im K H3 x t)/\(Itzm b b2 K a1 a2).stop (zipT xs ys).length H2:=by
 refine⟨fun i t e=>?_,⟨vs,us,h1,h2,?_⟩⟩
 ·unfold zipT at e
  rw[Ah]at e
  obtain⟨⟨t1,t2⟩,e1,e⟩:=zAI e
  subst e
  obtain⟨g1,g2⟩:=EC.mp e1
  obtain⟨v,e3,hv⟩:=i1.get g1
  obtain⟨u,e4,hu⟩:=i2.get g2
  refine⟨⟨vs,us,v,u,h1,h2,e3,e4⟩,fun x H3 y=>?_⟩
  obtain⟨T',x',y',rfl,hT,rfl,k1,k2⟩:=y
  have q1:=k1 vs h1
  have q2:=k2 us h2
  rw[e3]at q1; cases q1
  rw[e4]at q2; cases q2
  have ev:Evo [] H2 (upd H2 T' (.tup [v,u])):=Evo.new hT
  have hL:LL [] H2:=fun q hq=>nomatch hq
  refine⟨fun b o e=>ev b o e nofun,Im.tup zAj (.cons (hv.evo ev hL) (.one (hu.evo ev hL)))⟩
 ·have l1:=i1.len
  have l2:=i2.len
  simp[zipT]
  lia
def dZipM (fa:DA):DI:=fun Γ=>(fa Γ).bind fun p=>match p.1 with
 | [a,.v (.t ys)]=>(sqlOf p.2 a).bind fun xs=>gd xs.length ((zipT xs ys,srcS p.2 a),p.2)
 | _=>none
@[simp] theorem zQ0:dZipM fa Γ=(fa Γ).bind fun p=>match p.1 with
 | [a,.v (.t ys)]=>(sqlOf p.2 a).bind fun xs=>gd xs.length ((zipT xs ys,srcS p.2 a),p.2)
 | _=>none:=(rfl)
theorem zJs(ha:SimA K ta fa):SimI K (iZipM K ta) (dZipM fa):=by
 intro C w Γ σ H its src Γ' R Rp e k
 obtain⟨⟨as,G1⟩,e1,e⟩:=bind_some e
 dsimp only at e
 have zl:∀ xs ys:List T,(zipT xs ys).length<=xs.length:=fun xs ys=>by simp[zipT]; omega
 split at e
 ·rename_i a ys
  obtain⟨xs,e2,e⟩:=bind_some e
  obtain⟨hz,e⟩:=zBP e
  cases e
  refine ha C w Γ σ H _ _ _ Rp e1 fun vs H1 R1 ev1 o1 n1=>?_
  obtain⟨v,u,rfl,o2,o3⟩:=soks2 o1
  obtain⟨p,vs,rfl,h1,i1,st1⟩:=zBj R1 o2 e2
  obtain⟨q,us,rfl,h2,i2⟩:=o3.invt
  refine⟨p,q,rfl,⟨vs,h1⟩,⟨us,h2.sq⟩,k _ H1 R1 ev1 ⟨Ai (zl _ _) hz,fun L' hs av H2 ev=>?_⟩⟩
  have hL:LL L' H1:=fun q hq=>R1.lst q (hs q hq)
  exact zNk (b:=false) (b2:=true) (st1 L' hs av H2 ev) (zCn ev hL h2).sq (i1.evo ev hL) (i2.evo ev hL)
 ·cases e
section
variable {ι:Type}{K:Fg}{mg:Str->Option AD}{k:Nat}{X:ι->Cx}{a b:Expr}{da:DA}{p pos:Pos}
theorem zMr(M:Fm K mg k X)(hm:mg "zip"=none)(ha:AX K X [a,b] da)(hg:∀ j,Gl (X j) "zip":=by intro _; rfl)(hs:∀ j,AU [a,b] (X j).env=[(false,eval a (X j).env),(false,eval b (X j).env)]:=by intro _; rfl)
  (hs2:∀ j,AU [b] (X j).env=[(false,eval b (X j).env)]:=by intro _; rfl):IX K X (.Tuple elts x1 tp) (.Call (.Name "zip" p) [a,b] [] pos) (dZipM da) :=
 let ⟨t,q,u⟩:=ha; ⟨iZipM K t,fun j=>by have:=zNF (elts:=elts) (x1:=x1) (tp:=tp) (p:=p) (pos:=pos) (hg j) (by rw[M.mg]; exact hm) (q j) (hs j) (hs2 j); rw[M.K j]at this; exact this,zJs u⟩
end
end D
namespace L2
open PySem PySem.Spec PyProof.Rows
section
variable {κ:Type} [DecidableEq κ]
def valV (kvs:List (κ×V)) (k:κ):Option V:=(kvs.find? fun kv=>decide (kv.1=k)).map (·.2)
def putK (kvs:List (κ×V)) (k:κ) (v:V):List (κ×V) :=
 if (kvs.any fun kv=>decide (kv.1=k))=true then kvs.map (fun kv=>if kv.1=k then (kv.1,v) else kv) else kvs++[(k,v)]
theorem zC6{p:κ×V}{r:List (κ×V)}{k:κ}(e:p.1=k):valV (p::r) k=some p.2:=by simp[valV,CH,e]
theorem zC8{p:κ×V}{r:List (κ×V)}{k:κ}(e:¬ p.1=k):valV (p::r) k=valV r k:=by simp[valV,CH,e]
theorem zF0(k:κ):∀ kvs:List (κ×V),(kvs.any fun kv=>decide (kv.1=k))=(valV kvs k).isSome
 | []=>rfl
 | p::r=>by
  rw[C7]
  by_cases e:p.1=k
  ·simp only[zC6 e,decide_eq_true e,Bool.true_or,HK]
  ·rw[zC8 e,decide_eq_false e,Bool.false_or]; exact zF0 k r
theorem zHA(kvs:List (κ×V))(k:κ)(v:V):(putK kvs k v).length<=kvs.length+1:=by
 unfold putK
 split
 ·rw[Bg]; lia
 ·rw[Ax,B8,IK]; lia
theorem zGv{kvs:List (κ×V)}{k:κ}(v:V)(h:valV kvs k=none):putK kvs k v=kvs++[(k,v)]:=by
 unfold putK
 rw[zF0,h]
 exact if_neg ∅
theorem RelO.getD(r:RelO o u)(rd:RelV d d'):RelV (o.getD d) (u.getD d'):=by
 cases o with
 | none=>cases u with
  | none=>exact rd
  | some _=>exact (show False from r).elim
 | some _=>cases u with
  | none=>exact (show False from r).elim
  | some _=>exact r
theorem KV.val{kvs:List (κ×V)}{vs:List (κ×AD)}(r:KV kvs vs)(k:κ):RelO (valV kvs k) (G4 vs k):=by
 unfold KV at r
 induction r with
 | nil=>exact Dc
 | @cons p q ps qs h t ih =>
  obtain⟨h1,h2⟩:=h
  by_cases e:p.1=k
  ·have e':q.1=k:=h1.symm.trans e
   have b:G4 (q::qs) k=some q.2:=by simp[G4,CH,e']
   rw[zC6 e,b]; exact h2
  ·have e':¬ q.1=k:=fun z=>e (h1.trans z)
   have b:G4 (q::qs) k=G4 qs k:=by simp[G4,CH,e']
   rw[zC8 e,b]; exact ih
theorem KV.any{kvs:List (κ×V)}{vs:List (κ×AD)}(r:KV kvs vs)(k:κ):(kvs.any fun kv=>decide (kv.1=k))=vs.any fun kv=>decide (kv.1=k):=by
 unfold KV at r
 induction r with
 | nil=>rfl
 | cons h t ih=>rw[C7,C7,ih,h.1]
theorem KV.repl{kvs:List (κ×V)}{vs:List (κ×AD)}(r:KV kvs vs)(k:κ)(ry:RelV y u) :
  KV (kvs.map fun kv=>if kv.1=k then (kv.1,y) else kv) (vs.map fun kv=>if kv.1=k then (kv.1,u) else kv):=by
 unfold KV at r ⊢
 induction r with
 | nil=>exact .nil
 | @cons p q ps qs h t ih =>
  rw[Ab,Ab]
  refine .cons ?_ ih
  obtain⟨h1,h2⟩:=h
  by_cases e:p.1=k
  ·rw[if_pos e,if_pos (h1.symm.trans e)]; exact⟨h1,ry⟩
  ·rw[if_neg e,if_neg (fun z=>e (h1.trans z))]; exact⟨h1,h2⟩
theorem KV.put{kvs:List (κ×V)}{vs:List (κ×AD)}(r:KV kvs vs)(k:κ)(ry:RelV y u):KV (putK kvs k y) (stored vs k u):=by
 unfold putK stored
 rw[r.any k]
 by_cases e:(vs.any fun kv=>decide (kv.1=k))=true
 ·rw[if_pos e,if_pos e]; exact r.repl k ry
 ·rw[if_neg e,if_neg e]; exact Paired.snoc r ⟨rfl,ry⟩
end
theorem zIy(r:RelV (kV k) u):(mixKind P w).is k u=true:=by
 cases k with
 | inl i=>obtain⟨t,e⟩:=(show ∃ t,u=Fq i t from r); subst e; exact zG3 P w i t
 | inr x=>obtain⟨t,e⟩:=(show ∃ t,u=Ft x t from r); subst e; exact zHJ P w x t
theorem zFE:∀ {ks:List Key} {us:List AD},Vals (ks.map kV) us->ItemsAre (mixKind P w) ks us
 | [],_,r=>by rw[A7]at r; cases r; exact .nil
 | k::ks,_,r=>by
  rw[Ab]at r
  cases r with
  | cons h t=>exact .cons (zIy h) (zFE t)
abbrev KT (H:Hp):List (List Key×V)->List (List Key×Addr×AD)->Prop:=FB fun p q=>p.1=q.1/\H q.2.1=some (.tup (p.1.map kV))/\RelV p.2 q.2.2
theorem KT.val(r:KT H kvs xs)(k:List Key):RelO (valV kvs k) ((JG xs k).map (·.2)):=by
 induction r with
 | nil=>exact Dc
 | @cons p q ps qs h t ih =>
  obtain⟨h1,_,h2⟩:=h
  by_cases e:p.1=k
  ·have e':q.1=k:=h1.symm.trans e
   have b:JG (q::qs) k=some q.2:=by simp[JG,CH,e']
   rw[zC6 e,b]; exact h2
  ·have e':¬ q.1=k:=fun z=>e (h1.trans z)
   have b:JG (q::qs) k=JG qs k:=by simp[JG,CH,e']
   rw[zC8 e,b]; exact ih
section
variable {P:Am}{w:A0}{H:Hp}{h:Heap}{a:Addr}
theorem zMA(ok:HOk P w H h)(e:Rd H a u):ObjOk P w H h a u:=e.ok ok
theorem zJA(ok:HOk P w H h)(e:Rd H a (.dK kvs)):kvs.length<=AB/\(a == C4)=false/\∃ vs,KV kvs vs/\h.DictOf (mixKind P w) a vs :=
 show ObjOk P w H h a (.dK kvs) from zMA ok e
theorem zQQ(ok:HOk P w H h)(e:H a=some (.dK kvs)):kvs.length<=AB/\(a == C4)=false/\∃ vs,KV kvs vs/\h.DictOf (mixKind P w) a vs:=zJA ok (.inl e)
theorem zJn(ok:HOk P w H h)(e:H a=some (.tup (ks.map kV))):(Ge (mixKind P w)).is h ks a:=by
 obtain⟨_,its,r,o,h1,h2,⟨n,h3⟩,_⟩:=(show ObjOk P w H h a (.tup (ks.map kV)) from ok a _ e)
 exact⟨o,its.toArray,n,h1,h2,h3,by simpa using zFE r⟩
theorem zMB(ok:HOk P w H h)(e:Rd H a (.dT kvs)):kvs.length<=AB/\(a == C4)=false /\
  ∃ xs,KT H kvs xs/\h.DictOfH (Ge (mixKind P w)) a xs:=by
 obtain⟨z,y,xs,r,o,es,ep,h1,h2,h3,h4,h5⟩:=(show ObjOk P w H h a (.dT kvs) from zMA ok e)
 refine⟨z,y,xs,r,o,es,ep,h1,h2,h3,h4,fun x hx=>?_,h5⟩
 have all:∀ {l:List (List Key×V)} {m:List (List Key×Addr×AD)},KT H l m->∀ x∈m,(Ge (mixKind P w)).is h x.1 x.2.1:=by
  intro l m q
  induction q with
  | nil=>intro x hx; exact nomatch hx
  | @cons p q ps qs hq t ih =>
   intro x hx
   rcases AH.mp hx with e | hx
   ·subst e
    exact zJn ok (by rw[← hq.1]; exact hq.2.1)
   ·exact ih x hx
 exact all r x hx
end
def DGet (H:Hp) (a:Addr) (y:V) (r:Option V):Prop :=
 (∃ kvs k,Rd H a (.dK kvs)/\y=kV k/\r=valV kvs k)\/∃ kvs k b,Rd H a (.dT kvs)/\y=.ref b/\H b=some (.tup (k.map kV))/\r=valV kvs k
def DPut (H:Hp) (a:Addr) (y v:V) (H':Hp):Prop :=
 (∃ kvs k,H a=some (.dK kvs)/\y=kV k/\kvs.length < AB/\H'=upd H a (.dK (putK kvs k v))) \/
 ∃ kvs k b,H a=some (.dT kvs)/\y=.ref b/\H b=some (.tup (k.map kV))/\kvs.length < AB/\H'=upd H a (.dT (putK kvs k v))
theorem DGet.k{H:Hp}{a:Addr}{kvs:List (Key×V)}{k:Key}(e:H a=some (.dK kvs)):DGet H a (kV k) (valV kvs k):=.inl ⟨kvs,k,.inl e,rfl,rfl⟩
theorem DPut.k{H:Hp}{a:Addr}{kvs:List (Key×V)}{k:Key}{v:V}(e:H a=some (.dK kvs))(hl:kvs.length < AB):DPut H a (kV k) v (upd H a (.dK (putK kvs k v))):=.inl ⟨kvs,k,e,rfl,hl,rfl⟩
theorem DPut.t{H:Hp}{a b:Addr}{kvs:List (List Key×V)}{k:List Key}{v:V}(e:H a=some (.dT kvs))(eb:H b=some (.tup (k.map kV)))(hl:kvs.length < AB) :
  DPut H a (.ref b) v (upd H a (.dT (putK kvs k v))):=.inr ⟨kvs,k,b,e,rfl,eb,hl,rfl⟩
section
variable {X:Cx}{pins:List (Addr×Obj)}{σ:St}{H:Hp}{s:AG}{a:Addr}{y v:V}{u r:AD}{o:Option V}{A:BJ}{E:AD->AG->Prop}
theorem Inv.big(I:Inv X pins σ H s):C4 < s.heap.objs.size:=by
 have h:Al < s.heap.objs.size:=(I.mod.glob.keeps I.bk).lt
 exact JY ∅ h
theorem zMh(I:Inv X pins σ H s)(mu:Mut (H a))(hs:Bd a s.heap h')(he:∃ q,h'.get? a=some q)(new:ObjOk X.prog X.w (upd H a ob) h' a ob) :
  Inv X pins σ (upd H a ob) { s with heap:=h',toks:=t' } :=
 I.write (x:=a) (e:=a) mu (.inl rfl) (fun b q hb z=>(hs.2 b hb).trans z) he new
theorem zOS(z:kvs.length<=AB)(hd:(a == C4)=false)(rel:KV kvs vs)(dd:h'.DictOf (mixKind P w) a vs) :
  ObjOk P w H' h' a (.dK kvs):=⟨z,hd,vs,rel,dd⟩
end
theorem zLx(h:Heap)(hb:C4 < h.objs.size):ObjOk P w H (h.push { cls:=.type "dict",data:=.dict #[] }) h.objs.size (.dK []) :=
 ⟨Ca _,beq_eq_false_iff_ne.mpr (BD (Ae hb)),[],.nil,KW h⟩
def tPairs:List (TE×TE)->St->Hp->(List (V×V)->Hp->Prop)->Prop
 | [],_,H,Q=>Q [] H
 | (tk,tv)::r,σ,H,Q=>tk σ H fun x H1=>tv σ H1 fun y H2=>tPairs r σ H2 fun ps H3=>Q ((x,y)::ps) H3
abbrev VV:List (V×V)->List (AD×AD)->Prop:=FB fun p q=>RelV p.1 q.1/\RelV p.2 q.2
def PPs (X:Cx) (pos:Pos) (keys:List (Option Expr)) (values:List Expr) (trs:List (TE×TE)):Prop :=
 ∀ (pins:List (Addr×Obj)) (s:AG) (σ:St) (H:Hp) (Q:List (V×V)->Hp->Prop),Inv X pins σ H s->tPairs trs σ H Q ->
  AQ (model X.prog X.w) X.A (evalPairs (pairTrees keys values X.env pos)) (fun vs s'=>∃ ps H',Inv X pins σ H' s'/\VV ps vs/\Q ps H') X.xe s
theorem zNa:PPs X pos [] [] []:=fun pins s σ H Q I h=>pairTrees_nil_walk ⟨[],H,I,.nil,h⟩
theorem zK5(hk:PE X k tk)(hv:PE X v tv)(hr:PPs X pos ks vs trs) :
  PPs X pos (some k::ks) (v::vs) ((tk,tv)::trs):=fun pins s σ H Q I h =>
 pairTrees_cons_walk (thn (hk pins s σ H _ I h) fun u s1 ⟨x,H1,I1,rx,q1⟩=>thn (hv pins s1 σ H1 _ I1 q1) fun w2 s2 ⟨y,H2,I2,ry,q2⟩ =>
  thn (hr pins s2 σ H2 _ I2 q2) fun ws s3 ⟨ps,H3,I3,rel,q3⟩=>⟨(x,y)::ps,H3,I3,.cons ⟨rx,ry⟩ rel,q3⟩)
def mergeK (kvs more:List (Key×V)):List (Key×V):=more.foldl (fun acc kv=>putK acc kv.1 kv.2) kvs
theorem KV.merge:∀ {more:List (Key×V)} {rs:List (Key×AD)} {kvs:List (Key×V)} {vs:List (Key×AD)},KV more rs->KV kvs vs->KV (mergeK kvs more) (merged vs rs):=by
 intro more rs kvs vs r
 unfold KV at r
 induction r generalizing kvs vs with
 | nil=>intro q; exact q
 | @cons p q ps qs h t ih =>
  intro r0
  have e:KV (putK kvs p.1 p.2) (stored vs q.1 q.2):=by
   have:=r0.put p.1 h.2
   rw[← h.1]; exact this
  exact ih e
theorem zDA:∀ (more kvs:List (Key×V)),(mergeK kvs more).length<=kvs.length+more.length
 | [],kvs=>by show kvs.length<=kvs.length+0; lia
 | p::r,kvs=>by
  have h1:=zDA r (putK kvs p.1 p.2)
  have h2:=zHA kvs p.1 p.2
  show (mergeK (putK kvs p.1 p.2) r).length<=_
  rw[B8]; lia
theorem zEO:∀ {kvs:List (Key×V)} {ws:List (AD×AD)},VV (kvs.map fun kv=>(kV kv.1,kv.2)) ws->∃ rs,Carries (mixKind P w) ws rs/\KV kvs rs
 | [],_,r=>by rw[A7]at r; cases r; exact⟨[],Dc,.nil⟩
 | p::kvs,_,r=>by
  rw[Ab]at r
  cases r with
  | @cons a b as bs h t =>
   obtain⟨rs,c,q⟩:=zEO (P:=P) (w:=w) t
   obtain⟨b1,b2⟩:=b
   exact⟨(p.1,b2)::rs,⟨zIy h.1,rfl,c⟩,.cons ⟨rfl,h.2⟩ q⟩
def tDisp (trs:List (TE×TE)):TE:=fun σ H Q=>∀ p,H p=none->tPairs trs σ (upd H p (.dK [])) fun ps H2=>H2 p=some (.dK [])/\∃ kvs:List (Key×V),ps=kvs.map (fun kv=>(kV kv.1,kv.2))/\kvs.length<=15/\Q (.ref p) (upd H2 p (.dK (mergeK [] kvs)))
theorem zND(h:PPs X pos keys values trs)(hall:keys.all (·.isSome)=true)(hl:keys.length=values.length)(h0:keys≠[])
  (h15:keys.length<=15):PE X (.Dict keys values pos) (tDisp trs):=by
 intro pins s σ H Q I q
 have hn:=I.hok.fresh (AF s.heap.objs.size)
 have I1:=I.laid (a:=s.heap.objs.size) (o:=.dK []) (h':=s.heap.push { cls:=.type "dict",data:=.dict #[] }) (t':=s.toks) (fun _ _ q=>AC _ q) (AF _) (zLx s.heap I.big)
 refine wpAny_Dict_walk (knd:=mixKind X.prog X.w) hall hl h0 h15 (thn (h pins _ σ _ _ I1 (q _ hn)) fun ws s2 ⟨ps,H2,I2,rel,e,kvs,ep,lk,q2⟩=>?_)
 subst ep
 obtain⟨rs,c,rk⟩:=zEO (P:=X.prog) (w:=X.w) rel
 obtain⟨z,hd,vs0,r0,dd⟩:=zQQ I2.hok e
 cases r0
 refine⟨rs,c,dd,fun h' dd' hs=>⟨.ref s.heap.objs.size,_,?_,rfl,q2⟩⟩
 have hz:(mergeK [] kvs).length<=AB:=by
  have h1:=zDA kvs []
  rw[IK]at h1
  rw[Be]; lia
 have he:∃ q,h'.get? s.heap.objs.size=some q:=let ⟨q,_,_,hq,_⟩:=dd'; ⟨q,hq⟩
 exact zMh I2 (by rw[e]; exact Dc) hs he (zOS hz hd (rk.merge .nil) dd')
structure M1(X:Cx)(o:Expr)(m:Str)(apos:Pos)(e:Expr)(cpos:Pos):Prop where
 base:DM o m X.env (eval o X.env)=eval o X.env
 few:((CL cpos (AU [e] X.env)).all (fun x=>!x.1) && (G8 cpos (FU [] X.env)).all (fun x=>x.1.isSome)
  && decide (([e]:List Expr).length+([]:List Ef).length+(if ([]:List Ef).isEmpty then 0 else 1) < 30))=true
 line:(apos.endLine == cpos.line)=true
 trees:CL cpos (AU [e] X.env)=[(false,eval e X.env)]
def IsD (H:Hp) (a:Addr):Prop:=(∃ kvs,Rd H a (.dK kvs))\/∃ kvs,Rd H a (.dT kvs)
theorem zOw(I:Inv X pins σ H s)(d:IsD H a) :
  s.TypeIs (.ref a) "dict"/\(∀ b,Bl a=.ref b->∃ ob,s.heap.get? b=some ob/\ob.dict=none)/\(a == C4)=false:=by
 rcases d with ⟨kvs,e⟩ | ⟨kvs,e⟩
 ·obtain⟨_,hd,vs,_,dd⟩:=zJA I.hok e
  refine⟨dd.typeIs,fun b q=>?_,hd⟩
  cases q
  obtain⟨ob,_,_,h1,h2,_⟩:=dd
  exact⟨ob,h1,h2.2.1⟩
 ·obtain⟨_,hd,xs,_,dd⟩:=zMB I.hok e
  refine⟨dd.typeIs,fun b q=>?_,hd⟩
  cases q
  obtain⟨ob,_,_,h1,h2,_⟩:=dd
  exact⟨ob,h1,h2.2.1⟩
section
variable {X:Cx}{pins:List (Addr×Obj)}{σ:St}{H:Hp}{s:AG}{a:Addr}{y d:V}{u r:AD}{o:Option V}{A:BJ}{E:AD->AG->Prop}
theorem zPC(hu:A.units+1 < cLine)(I:Inv X pins σ H s)(g:DGet H a y o)(ry:RelV y u)(h:∀ w' s',Inv X pins σ H s'->RelV (o.getD .non) w'->Q w' s') :
  AQ (model X.prog X.w) A (call (.builtin "dict.get") [.ref a,u]) Q E s:=by
 rcases g with ⟨kvs,k,e,ey,l⟩ | ⟨kvs,k,b,e,ey,eb,l⟩
 ·subst ey
  obtain⟨z,hd,vs,rel,dd⟩:=zJA I.hok e
  refine K8 Ed dd.typeIs Gi (GZ _ _) (meets_dict_get (mixKind X.prog X.w) a (zIy ry) hd) ⟨_,dd.mapOf,h _ _ (I.tok _) ?_⟩
  rw[l]
  exact (rel.val k).getD rfl
 ·subst ey
  cases (show u=Bl b from ry)
  obtain⟨z,hd,xs,rel,dd⟩:=zMB I.hok e
  refine K8 Ed dd.typeIs Gi (GZ _ _) (meetsH_dict_get (Ge (mixKind X.prog X.w)) a b hd) ⟨tupleKind_room_in1 hu,k,xs,zJn I.hok eb,dd,h _ _ (I.tok _) ?_⟩
  rw[l]
  exact (rel.val k).getD rfl
end
def tDGet1 (td ty:TE):TE:=fun σ H Q=>td σ H fun x H1=>∃ a,x=.ref a/\IsD H1 a/\ty σ H1 fun y H2=>∃ o,DGet H2 a y o/\Q (o.getD .non) H2
section
variable {X:Cx}{o e f:Expr}{apos cpos:Pos}{td ty tx:TE}
theorem zK3(hu:X.A.units+1 < cLine)(ho:PE X o td)(he:PE X e ty)(m:M1 X o "get" apos e cpos):PE X (.Call (.Attribute o "get" apos) [e] [] cpos) (tDGet1 td ty):=by
 intro pins s σ H Q I h
 refine wpAny_Call_method m.base m.few m.line PySem.F.plainAttrs_dict Ed PySem.F.type_dict_get (thn (ho pins s σ H _ I h) fun u s1 ⟨x,H1,I1,rx,a,ex,d,q1⟩=>?_)
 subst ex
 obtain rfl:u=Bl a:=rx
 obtain⟨t1,t2,_⟩:=zOw I1 d
 refine⟨t1,t2,?_⟩
 rw[m.trees]
 refine DN rfl (E1 (Dx (thn (he pins s1 σ H1 _ I1 q1) fun iv s2 ⟨y,H2,I2,ry,ov,g,q2⟩=>DK ?_)))
 exact zPC hu I2 g ry fun w' s3 I3 rw'=>⟨_,H2,I3,rw',q2⟩
end
end L2
namespace D
open PySem L2
noncomputable def keyT:T->Option Key
 | .a (.int n)=>some (.inl n)
 | .a (.str x)=>some (.inr x)
 | _=>none
def keyTs:List T->Option (List Key)
 | []=>some []
 | t::r=>(keyT t).bind fun k=>(keyTs r).map fun ks=>k::ks
theorem zEl(h:Im K H y t)(e:keyT t=some k):y=kV k:=by
 unfold keyT at e
 split at e
 ·cases e; exact h.inva
 ·cases e; exact h.inva
 ·cases e
theorem zGn:∀ {vs:List V} {ts:List T} {ks:List Key},Ims K H vs ts->keyTs ts=some ks->vs=ks.map kV
 | _,[],_,h,e=>by cases e; exact h.inv0
 | _,t::r,_,h,e=>by
  obtain⟨v,vs,rfl,h1,h2⟩:=h.inv
  obtain⟨k,e1,e⟩:=bind_some e
  obtain⟨ks,e2,e⟩:=zAI e
  subst e
  rw[zEl h1 e1,zGn h2 e2]; rfl
def KC (K:Fg) (cs:List (List Key)):Prop:=∀ p ks,KT K p (ks.map kV)->ks∈cs
section
variable {κ:Type} [DecidableEq κ]
noncomputable def valT (kvs:List (κ×T)) (k:κ):Option T:=(kvs.find? fun kv=>decide (kv.1=k)).map (·.2)
noncomputable def putT (kvs:List (κ×T)) (k:κ) (t:T):List (κ×T) :=
 if (kvs.any fun kv=>decide (kv.1=k))=true then kvs.map (fun kv=>if kv.1=k then (kv.1,t) else kv) else kvs++[(k,t)]
def PR (K:Fg) (H:Hp) (l:List (κ×V)) (kvs:List (κ×T)):Prop:=FB (fun a b=>a.1=b.1/\Im K H a.2 b.2) l kvs
variable {K:Fg}{H:Hp}
theorem PR.val{l:List (κ×V)}{kvs:List (κ×T)}(h:PR K H l kvs)(k:κ):(valV l k=none/\valT kvs k=none)\/∃ v t,valV l k=some v/\valT kvs k=some t/\Im K H v t:=by
 induction h with
 | nil=>exact .inl ⟨rfl,rfl⟩
 | @cons a b l kvs hab _ ih =>
  by_cases e:a.1=k
  ·refine .inr ⟨a.2,b.2,zC6 e,?_,hab.2⟩
   simp[valT,CH,← hab.1,e]
  ·rw[zC8 e]
   have:valT (b::kvs) k=valT kvs k:=by simp[valT,CH,← hab.1,e]
   rw[this]; exact ih
theorem PR.any{l:List (κ×V)}{kvs:List (κ×T)}(h:PR K H l kvs)(k:κ):(l.any fun kv=>decide (kv.1=k))=kvs.any fun kv=>decide (kv.1=k):=by
 induction h with
 | nil=>rfl
 | @cons a b l kvs hab _ ih=>rw[C7,C7,ih,hab.1]
theorem PR.app{l m:List (κ×V)}{kvs mvs:List (κ×T)}(h:PR K H l kvs)(h':PR K H m mvs):PR K H (l++m) (kvs++mvs):=by
 induction h with
 | nil=>exact h'
 | @cons a b l kvs hab _ ih=>exact .cons hab ih
theorem PR.put{l:List (κ×V)}{kvs:List (κ×T)}(h:PR K H l kvs)(k:κ)(hv:Im K H v t):PR K H (putK l k v) (putT kvs k t):=by
 unfold putK putT
 rw[h.any k]
 split
 ·rename_i hx; clear hx
  induction h with
  | nil=>exact .nil
  | @cons a b l kvs hab _ ih =>
   rw[Ab,Ab]
   refine .cons ?_ ih
   by_cases e:a.1=k
   ·rw[if_pos e,if_pos (hab.1 ▸ e)]; exact⟨hab.1,hv⟩
   ·rw[if_neg e,if_neg (hab.1 ▸ e)]; exact hab
 ·exact h.app (.cons ⟨rfl,hv⟩ .nil)
theorem PR.len{l:List (κ×V)}{kvs:List (κ×T)}(h:PR K H l kvs):l.length=kvs.length:=GU h
end
noncomputable def dictOf (Γ:En):S->Option Dk
 | .d d=>some d
 | .s i=>match Γ[i]? with
  | some (some (.d d))=>some d
  | some (some (.e d))=>some d
  | _=>none
 | _=>none
def getX (cs:List (List Key)) (d:Dk) (t:T):Option (Option T):=match d,t with
 | .inl kvs,t=>(keyT t).map fun k=>valT kvs k
 | .inr kvs,.t ts=>(keyTs ts).bind fun ks=>if (cs.any fun c=>decide (c=ks))=true then none else some (valT kvs ks)
 | _,_=>none
def putX (cs:List (List Key)) (d:Dk) (t v:T):Option Dk:=match d,t with
 | .inl kvs,t=>(keyT t).bind fun k=>if kvs.length < AB then some (.inl (putT kvs k v)) else none
 | .inr kvs,.t ts=>(keyTs ts).bind fun ks=>if (cs.any fun c=>decide (c=ks))=true then none else if kvs.length < AB then some (.inr (putT kvs ks v)) else none
 | _,_=>none
section
variable {K:Fg}{C:Fr}{w:W}{Γ:En}{σ:St}{H:Hp}{cs:List (List Key)}
theorem zHu(R:Rep K C w Γ σ H)(o:SOk K C w σ H x s)(e:dictOf Γ s=some d):∃ p ob,x=.ref p/\H p=some ob/\DOk K H ob d:=by
 cases s with
 | v t=>cases e
 | l _=>cases e
 | d d' =>
  cases e
  obtain⟨p,ob,rfl,_,_,_,h1,h2⟩:=o
  exact⟨p,ob,rfl,h1,h2⟩
 | s i =>
  unfold dictOf at e
  have o':σ[i]?=some (some x):=o
  dsimp only at e
  split at e
  ·rename_i d' hi
   cases e
   obtain⟨v,e1,p,ob,rfl,_,h1,h2⟩:=R.val i _ hi
   rw[o']at e1; cases e1
   exact⟨p,ob,rfl,h1,h2⟩
  ·rename_i d' hi
   cases e
   obtain⟨v,e1,p,ob,rfl,h2,h1,_⟩:=R.val i _ hi
   rw[o']at e1; cases e1
   exact⟨p,ob,rfl,h1,h2⟩
  ·cases e
theorem DOk.invK(h:DOk K H ob (.inl kvs)):∃ l,ob=.dK l/\PR K H l kvs:=by
 cases ob with
 | dK l=>exact⟨l,rfl,h⟩
 | _=>exact h.elim
theorem DOk.invT(h:DOk K H ob (.inr kvs)):∃ l,ob=.dT l/\PR K H l kvs:=by
 cases ob with
 | dT l=>exact⟨l,rfl,h⟩
 | _=>exact h.elim
theorem DOk.isD(h:DOk K H ob d)(hp:H p=some ob):IsD H p:=by
 cases d with
 | inl kvs=>obtain⟨l,rfl,_⟩:=h.invK; exact .inl ⟨l,.inl hp⟩
 | inr kvs=>obtain⟨l,rfl,_⟩:=h.invT; exact .inr ⟨l,.inl hp⟩
theorem zHD(hc:KC K cs)(h:Im K H y (.t ts))(e:keyTs ts=some ks)(n:¬ (cs.any fun c=>decide (c=ks))=true):∃ b,y=.ref b/\H b=some (.tup (ks.map kV)):=by
 obtain⟨b,vs,rfl,h1,h2⟩:=h.inv
 have:=zGn h2 e
 subst this
 rcases h1 with h1 | h1
 ·exact⟨b,rfl,h1⟩
 ·exact absurd (Cy.mpr ⟨ks,hc b ks h1,decide_eq_true rfl⟩) n
theorem zGA(hc:KC K cs)(hp:H p=some ob)(hd:DOk K H ob d)(hy:Im K H y t)(hv:Im K H v tv)(e:putX cs d t tv=some d') :
  ∃ ob',DPut H p y v (upd H p ob')/\DOk K H ob' d':=by
 unfold putX at e
 split at e
 ·rename_i kvs t
  obtain⟨l,rfl,h1⟩:=hd.invK
  obtain⟨k,e1,e⟩:=bind_some e
  split at e
  ·rename_i hl
   cases e
   rw[zEl hy e1]
   exact⟨_,DPut.k hp (by rw[h1.len]; exact hl),h1.put k hv⟩
  ·cases e
 ·rename_i kvs ts
  obtain⟨l,rfl,h1⟩:=hd.invT
  obtain⟨ks,e1,e⟩:=bind_some e
  split at e
  ·cases e
  ·rename_i n
   split at e
   ·rename_i hl
    cases e
    obtain⟨b,rfl,h2⟩:=zHD hc hy e1 n
    exact⟨_,DPut.t hp h2 (by rw[h1.len]; exact hl),h1.put ks hv⟩
   ·cases e
 ·cases e
end
section
variable {ι:Type}{K:Fg}{mg:Str->Option AD}{k:Nat}{X:ι->Cx}{cs:List (List Key)}{o i e f:Expr}{fo fk fx:DE}{pos apos cpos:Pos}{ip:Option Nat}
theorem un1(M:Fm K mg k X)(j:ι):(X j).A.units+1 < cLine:=by have:=(M.room j).un; lia
end
section
variable {K:Fg}{C:Fr}{w:W}{Γ:En}{σ:St}{H:Hp}
theorem Rep.tmp(r:Rep K C w Γ σ H)(n1:p∉w.L)(n2:¬ w.R p)(ow:Ow C p)(hp:H p=some ob)(m:Mu ob):Rep K C w Γ σ (upd H p ob'):=by
 have ev:Evo (p::w.L) H (upd H p ob'):=fun c o e n=>by rw[zAN (fun z:c=p=>n (by rw[z]; exact AZ))]; exact e
 have hL:LL (p::w.L) H:=fun q hq=>by
  rcases AH.mp hq with z | z
  ·subst z; exact⟨ob,hp,m⟩
  ·exact r.lst q z
 have nl:∀ {q:Addr},q∈w.L->q≠p:=fun hq z=>n1 (z ▸ hq)
 have nr:∀ {q:Addr},w.R q->q≠p:=fun hq z=>n2 (z ▸ hq)
 refine⟨r.len,fun i g h=>?_,r.apart,fun q hq=>?_,r.own,fun q hq=>?_,r.rl,fun b o hb n=>?_,r.pin⟩
 ·obtain⟨v,e1,e2⟩:=r.val i g h
  refine⟨v,e1,?_⟩
  cases g with
  | v t=>exact Im.evo ev hL e2
  | l xs=>obtain⟨q,vs,rfl,hq,hv,hi⟩:=e2; exact⟨q,vs,rfl,hq,by rw[zAN (nl hq)]; exact hv,hi.evo ev hL⟩
  | r xs=>obtain⟨q,vs,rfl,hi,hv,a,b⟩:=e2; exact⟨q,vs,rfl,hi.evo ev hL,by rw[zAN (nr b)]; exact hv,a,b⟩
  | k xs=>obtain⟨q,vs,rfl,hi,hk⟩:=e2; exact⟨q,vs,rfl,hi.evo ev hL,hk.evo ev hL⟩
  | d xs=>obtain⟨q,o,rfl,hq,hv,hi⟩:=e2; exact⟨q,o,rfl,hq,by rw[zAN (nl hq)]; exact hv,hi.evo ev hL⟩
  | e xs=>obtain⟨q,o,rfl,hi,hv,a,b⟩:=e2; exact⟨q,o,rfl,hi.evo ev hL,by rw[zAN (nr b)]; exact hv,a,b⟩
 ·obtain⟨o,e,m⟩:=r.lst q hq
  exact⟨o,by rw[zAN (nl hq)]; exact e,m⟩
 ·obtain⟨o,e⟩:=r.ra q hq
  exact⟨o,by rw[zAN (nr hq)]; exact e⟩
 ·have hb':=r.frame b o hb n
  have:b≠p:=fun z=>by
   subst z
   rcases ow with ow | ow
   ·exact n ow
   ·rw[ow]at hb; cases hb
  rw[zAN this]; exact hb'
end
end D
namespace L2
open PySem PySem.W PyProof.Rows
section
variable {n:Nat}(h0:0 < n)
include h0
end
open PySem PySem.W PyProof.Rows PySem.Calls PySem.SeqAt
theorem zEG:∀ ns:List Int,A4 (ns.map EZ)=true
 | []=>by simp[A4]
 | n::r=>by have:=zEG r; simp[A4,BF,this]
theorem zCW:∀ ns:List Int,BK (ns.map EZ)=0
 | []=>by simp[BK]
 | n::r=>by have:=zCW r; simp[BK,Bc,this]
theorem zCA:∀ ns ms:List Int,Av (ns.map EZ) (ms.map EZ)=decide (ns=ms)
 | [],[]=>by simp[Av]
 | [],_::_=>by simp[Av]
 | _::_,[]=>by simp[Av]
 | n::r,m::s=>by
  have:=zCA r s
  simp only[Ab,Av,Aj,this]
  by_cases h:n=m
  ·subst h; simp
  ·simp[h]
open PySem PySem.Spec PyProof.Rows
theorem zCP(a:Int)(t:Tok)(l:Addr)(items:Array AD)(n:Nat)(dd:Option Addr)(sl:Array (Option AD)) :
  Fc (Builtin.«int.__rmul__» ⟨[.int a t,.ref l],[]⟩) (fun _ R s=>s.heap.get? l=some { cls:=.type "tuple",dict:=dd,data:=.seq items n,slots:=sl }/\R (.ok (.ret HF)) s):=zE1 a t l items n dd sl
theorem mul_one(l:Addr)(v:AD)(n:Nat)(dd:Option Addr)(sl:Array (Option AD))(t:Tok) :
  Fc (Builtin.«tuple.__mul__» ⟨[.ref l,.int 1 t],[]⟩) (fun _ R s=>s.heap.get? l=some { cls:=.type "tuple",dict:=dd,data:=.seq #[v] n,slots:=sl }/\R (.ok (.ret (.ref l))) s) :=
 .of_wp fun prog w A R s h=>by
  obtain⟨hp,g,d,tk,os⟩:=s; obtain⟨hl,h⟩:=h
  have f1:=DU; have f2:=CF
  wp_walk using CM hl
  exact⟨_,rfl,h⟩
theorem zL8(l:Addr)(items:Array AD)(n:Nat)(k:Int)(dd:Option Addr)(sl:Array (Option AD))(t:Tok)(h1:¬ (decide (k < -2 ^ 63) || decide (k ≥ 2 ^ 63))=true)(h2:¬ (items.isEmpty || k == 1)=true)(h3:¬ (decide (k<=0) || items.isEmpty)=true)
  (h4:¬ (items.size:Int) * k > (2 ^ 63 - 1) / 8) (h5:¬ FQ (items.size * k)=true) (hsz:((AN k.toNat items).foldl (fun x1 x2=>x1++x2) #[]).size<=AB) :
  Fc (Builtin.«tuple.__mul__» ⟨[.ref l,.int k t],[]⟩) (fun _ R s=>s.heap.get? l=some { cls:=.type "tuple",dict:=dd,data:=.seq items n,slots:=sl }/\R (.ok (.ret (.ref s.heap.objs.size))) { s with heap:=s.heap.push { cls:=.type "tuple",data:=.seq ((AN k.toNat items).foldl (fun x1 x2=>x1++x2) #[]) } }) :=
 .of_wp fun prog w A R s h=>by
  obtain⟨hp,g,d,tk,os⟩:=s; obtain⟨hl,h⟩:=h
  have f1:=DU; have f2:=CF
  wp_walk using CM hl
  rw[if_neg h1]
  wp_walk using CM hl
  rw[if_neg h4]
  dsimp only
  rw[if_neg h5]
  wp_walk using CM hl
  exact⟨_,rfl,h⟩
theorem zGD(v:AD):∀ (n:Nat) (acc:Array AD),(AN n #[v]).foldl (fun x1 x2=>x1++x2) acc=acc++(AN n v).toArray
 | 0,acc=>by simp
 | n+1,acc=>by rw[BW,GF,zGD v n,BW]; apply Array.ext'; simp
def rRepN (K:AM):R2:=fun x y H Q=>∃ a z,∃ n:Nat,x=.ref a/\y=.int (n:Int)/\D.Tp K H a [z]/\0 < n/\n<=1000/\∀ p H',Same H H'->D.Tp K H' p (AN n z)->Q (.ref p) H'
theorem zNL:OpR X (CA .Mult) (rRepN X.K):=by
 intro pins s σ H x y v u Q I rx ry h
 obtain⟨a,z,k,rfl,rfl,ht,h0,hz,q⟩:=h
 cases rx
 obtain⟨t,rfl⟩:=ry
 obtain⟨its,rv,⟨⟨cls,dd,data,sl⟩,ho,hc,n,hd⟩,hz2⟩:=I.tuple ht.sq
 obtain⟨w1,rfl,r1⟩:=vals1 rv
 simp only at hc hd
 subst hc hd
 refine DC (T:="tuple") (U:="int") ∅ ⟨_,ho,rfl⟩ (fun s'=>DX s' _ t) zBd E6 CJ zCN Ej.lookup
  (Bw CJ (DX s _ t) Ek (ET _ _) (zCP _ t a _ n dd sl) ⟨ho,rfl,⟨_,ho,rfl⟩,?_⟩)
 by_cases h1:k=1
 ·subst h1
  exact Bw CZ ⟨_,ho,rfl⟩ Da (DP _ _) (mul_one a w1 n dd sl t) ⟨ho,⟨.ref a,H,I,rfl,q a H (Same.refl H) ht⟩⟩
 ·have fl:(AN (k:Int).toNat [w1].toArray).foldl (fun x1 x2=>x1++x2) #[]=(AN k w1).toArray:=by
   rw[Bn]
   have:=zGD w1 k #[]
   simpa using this
  have e1:((k:Int) == 1)=false:=by simp; lia
  have e2:decide ((k:Int)<=0)=false:=by simp; lia
  have hs:([w1].toArray.size:Int)=1:=rfl
  refine Bw CZ ⟨_,ho,rfl⟩ Da (DP _ _) (zL8 a [w1].toArray n (k:Int) dd sl t (by simp; lia) (by rw[e1]; simp) (by rw[e2]; simp) (by rw[hs]; lia) (by
   unfold FQ
   rw[hs,Be]
   simp; lia) (by rw[fl,AL,Es,Be]; lia)) ⟨ho,?_⟩
  rw[fl]
  have hf:H s.heap.objs.size=none:=I.hok.fresh (AF _)
  have rr:∀ m:Nat,Vals (AN m z) (AN m w1):=fun m=>by
   induction m with
   | zero=>exact .nil
   | succ m ih=>exact .cons r1 ih
  exact⟨.ref s.heap.objs.size,_,I.laid (t':=s.toks) (fun b o e=>AC _ e) (AF _) (show ObjOk X.prog X.w _ _ _ (.tup (AN k z)) from ⟨by rw[Es,Be]; lia,AN k w1,rr k,TupD.new _ _⟩),rfl,q _ _ (Same.upd hf) (.inl zAj)⟩
end L2
namespace D
open PySem L2
noncomputable def mulTupN:En->S->S->Option S:=fun _ a b=>match a,b with
 | .v (.t [x]),.v (.a (.int n))=>if 0 < n.toNat/\n.toNat<=1000 then some (.v (.t (AN n.toNat x))) else none
 | _,_=>none
theorem zFg:SimR2 K (rRepN K) mulTupN:=by
 intro C w Γ σ H x y a b s Q R ox oy e k
 unfold mulTupN at e
 split at e
 ·rename_i x' n
  split at e
  ·rename_i hl
   cases e
   obtain⟨p,vs,rfl,ht,hi⟩:=ox.invt
   obtain⟨v,r,rfl,i1,i2⟩:=hi.inv
   have:=i2.inv0
   subst this
   have ey:=oy.inva
   subst ey
   refine⟨p,v,n.toNat,rfl,by rw[Int.toNat_of_nonneg ⋯],ht,hl.1,hl.2,fun q H' hs hq=>?_⟩
   have i1':Im K H' v x':=i1.evo (L:=[]) (fun b o e _=>hs b o e) (fun _ z=>nomatch z)
   have ir:∀ m:Nat,Ims K H' (AN m v) (AN m x'):=fun m=>by
    induction m with
    | zero=>exact .nil
    | succ m ih=>exact .cons i1' ih
   exact k _ H' (R.same hs) (Evo.of_same hs) (by show Im K H' (.ref q) _; unfold Im; exact⟨q,_,rfl,hq,ir _⟩) trivial
  ·cases e
 ·cases e
def mulS3:En->S->S->Option S:=fun Γ x y=>(mulS Γ x y).or (mulTupN Γ x y)
theorem zH7:SimR2 K (fun x y H Q=>rMulS x y H Q\/rRepN K x y H Q) mulS3:=zFO.or zFg
end D
namespace D
open PySem L2
example (P:Am) (w:A0):(mixKind P w).hash (.inl 1)=1/\(mixKind P w).hash (.inl 2)=2:=⟨by rfl,by rfl⟩
end D
namespace L2
open PySem PySem.Spec PyProof.Rows PySem.W
structure Kds(prog:Am)(w:A0)(T:String)(r d:Addr)(n:Nat)(P:Nat->AD->Prop)(St:Nat->Heap->Prop):Prop where
 type:∀ s:AG,St 0 s.heap->s.TypeIs (.ref r) T
 there:∀ h:Heap,St 0 h->r < h.objs.size/\d < h.objs.size
 notList:(C9 T == C9 "list")=false
 notTuple:(C9 T == C9 "tuple")=false
 hint:∀ (A:BJ) (E:AD->AG->Prop) (s:AG) (Q:Bool->AG->Prop),St 0 s.heap->(∀ b tk,Q b { s with toks:=tk })->AQ (model prog w) A (Bv (.ref r)) Q E s
 iter:∀ (A:BJ) (E:AD->AG->Prop) (s:AG) (Q:AD->AG->Prop),St 0 s.heap->Q (.ref r) s->AQ (model prog w) A (GB (.ref r)) Q E s
 walks:∀ (A:BJ),A.handled=none->KU prog w A r [r,d] [r] n P St
section
variable {prog:Am}{w:A0}{A:BJ}{E:AD->AG->Prop}{s:AG}{T:String}{r d:Addr}{n:Nat}{P:Nat->AD->Prop}{St:Nat->Heap->Prop}
theorem zEc(K:Kds prog w T r d n P St)(hh:A.handled=none)(hok:St 0 s.heap)(S:Addr)(hSr:S≠r)(hSd:S≠d)(res:AD)(c₀:Nat)(hS:s.heap.get? S=some { cls:=.type "list",data:=.seq #[] c₀ })
  (hR:∀ h' tk acc' c',(∀ b o,b≠S->b≠r->s.heap.get? b=some o->h'.get? b=some o)->h'.get? S=some { cls:=.type "list",dict:=none,data:=.seq acc' c',slots:=#[] }->De P acc' n->R (.ok (.ret res)) { s with heap:=h',toks:=tk }) (hn:n<=AB) :
  AQ (model prog w) A.in1 (Ba (.ref S) (.ref r) res)
   (fun fin s'=>match fin with | .done f=>R (.ok f) s' | .again c'=>c'.quiet=true/\Ee (model prog w) A c' R s') (fun e s'=>R (.error e) s') s:=by
 have hSf:S∉[r,d]:=by simp only[AH,AS,or_false,not_or]; exact⟨hSr,hSd⟩
 have W:=K.walks A.in1 hh
 have key:∀ (h:Heap) (c₁ tk:Nat),St 0 h->(∀ b o,b≠S->b≠r->s.heap.get? b=some o->h.get? b=some o) ->
   h.get? S=some { cls:=.type "list",data:=.seq #[] c₁ }->Ee (model prog w) A (.builtin "list.extend.loop" ⟨[.ref S,.ref r,res],[]⟩) R { s with heap:=h,toks:=tk }:=by
  intro h c₁ tk hst hk hS₁
  refine codeAny_extend_loopS W.toS hn S hSf res n 0 _ #[] c₁ rfl (Ca _) hst hS₁ (ItemsOf.nil _) fun s' acc' c' hm hS' hacc=>?_
  rw[Moved.eq_with hm]
  refine hR s'.heap s'.toks acc' c' (fun b o hb hb2 e=>hm.heap b o (fun hmem=>?_) (hk b o hb hb2 e)) hS' hacc
  rcases AH.mp hmem with e' | hmem
  ·exact hb e'
  ·exact hb2 (AE.mp hmem)
 unfold Ba
 refine AA (EG (T:=T) (K.type s hok) ?_)
 have h1:Fl (.ref S) (.ref r)=false:=by simp[Fl,hSr]
 simp only[h1,K.notList,K.notTuple,Ii,D3,if_false]
 refine AA (K.iter _ _ _ _ hok ?_)
 refine AA (Br (K.hint _ _ _ _ hok fun b tk=>?_))
 refine CO (fun _=>?_) (fun _=>AJ ⟨Eo GI _,key _ c₀ _ hok (fun b o _ _ e=>e) hS⟩)
 refine AA (C5 ?_)
 refine AA ?_
 show AQ _ _ (Je S (·.push .none) >>= fun _=>Je S (·.pop)) _ _ _
 refine AA (Gy hS rfl ?_)
 have hS₂:=Cg (DJ (·.push CY)) hS rfl
 refine Gy (hz:=by seq_fits) hS₂ rfl ?_
 have hS₃:=Cg (DJ (·.pop)) hS₂ rfl
 refine AJ ⟨Eo GI _,key _ _ _ ?_ (fun b o hb _ e=>?_) hS₃⟩
 ·refine W.frame 0 _ _ hok fun b hb o e=>?_
  have hbS:b≠S:=fun h=>hSf (h ▸ hb)
  exact (Bm _ _ (BD hbS)).trans ((Bm _ _ (BD hbS)).trans e)
 ·exact (Bm _ _ (BD hb)).trans ((Bm _ _ (BD hb)).trans e)
theorem zLU(K:Kds prog w T r d n P St)(hh:A.handled=none)(hok:St 0 s.heap)(S:Addr)(hSr:S≠r)(hSd:S≠d)(hS:s.heap.get? S=some { cls:=.type "list",data:=.seq #[] })
  (hR:∀ h' tk acc' c',(∀ b o,b≠S->b≠r->s.heap.get? b=some o->h'.get? b=some o)->h'.get? S=some { cls:=.type "list",dict:=none,data:=.seq acc' c',slots:=#[] }->De P acc' n->R (.ok (.ret .none)) { s with heap:=h',toks:=tk }) (hn:n<=AB) :
  AQ (model prog w) A.in1 (Builtin.«list.__init__» ⟨[.ref S,.ref r],[]⟩)
   (fun fin s'=>match fin with | .done f=>R (.ok f) s' | .again c'=>c'.quiet=true/\Ee (model prog w) A c' R s') (fun e s'=>R (.error e) s') s:=by
 show AQ _ _ (do let old ← GA (.ref S); J0 (.ref S) (fun _=>#[]); letGo old.toList.reverse; Ba (.ref S) (.ref r) .none) _ _ s
 refine AA ?_
 unfold GA
 refine AA (CG hS rfl (AJ ?_))
 show AQ _ _ (Je S (fun _=>#[]) >>= fun _=>letGo (#[]:Array AD).toList.reverse >>= fun _=>Ba (.ref S) (.ref r) .none) _ _ s
 refine AA (Gy hS rfl ?_)
 have hS₂:=Cg (DJ (fun _=>(#[]:Array AD))) hS rfl
 have oth:∀ b o,b≠S->s.heap.get? b=some o->(s.heap.update S (DJ (fun _=>(#[]:Array AD)))).get? b=some o :=
  fun b o hb e=>(Bm _ _ (BD hb)).trans e
 refine AA (FY ?_)
 refine zEc K hh ((K.walks A hh).frame 0 _ _ hok fun b hb o e=>oth b o (fun z=>by
  subst z
  simp only[AH,AS,or_false]at hb
  rcases hb with q | q
  ·exact hSr q
  ·exact hSd q) e) S hSr hSd .none _ hS₂ (fun h' tk acc' c' hk hS' hacc=>?_) hn
 exact hR h' tk acc' c' (fun b o hb hb2 e=>hk b o hb hb2 (oth b o hb e)) hS' hacc
theorem zGo(K:Kds prog w T r d n P St)(hh:A.handled=none)(hok:St 0 s.heap)(hn:n<=AB)
  (hQ:∀ h' tk acc' c',(∀ b o,b≠r->s.heap.get? b=some o->h'.get? b=some o)->h'.get? s.heap.objs.size=some { cls:=.type "list",dict:=none,data:=.seq acc' c',slots:=#[] }->De P acc' n->Q (.ref s.heap.objs.size) { s with heap:=h',toks:=tk }) :
  AQ (model prog w) A (call (.type "list") [.ref r]) Q E s:=by
 refine KY (Q₁:=fun obj s₁=>obj=.ref s.heap.objs.size/\s₁={ s with heap:=s.heap.push { cls:=.type "list",data:=.seq #[] } }) PySem.F.called_list (PySem.F.typeCall_list_1 _) PySem.F.entry_list_init
  (code_list_new _ ⟨rfl,rfl⟩) fun obj s₁ h₁=>?_
 obtain⟨rfl,rfl⟩:=h₁
 have hS:(s.heap.push { cls:=.type "list",data:=.seq #[] }).get? s.heap.objs.size=some { cls:=.type "list",data:=.seq #[] }:=AI _ rfl
 have hlt:=K.there _ hok
 refine⟨⟨_,hS,rfl⟩,PySem.F.args_list_init_2 _ _,zLU (A:=A.in1) K hh ((K.walks A hh).frame 0 _ _ hok fun b _ o e=>AC _ e) _ (B4 hlt.1) (B4 hlt.2) hS (fun h' tk acc' c' hk hS' hacc=>?_) hn⟩
 exact⟨rfl,hQ h' tk acc' c' (fun b o hb e=>hk b o (Ae (AK e)) hb (AC _ e)) hS' hacc⟩
end
section
variable {prog:Am}{w:A0}{A:BJ}{E:AD->AG->Prop}{s:AG}
theorem zLZ(hT:s.TypeIs (.ref r) "list_reverseiterator")(h:Q false s):AQ (model prog w) A (Bv (.ref r)) Q E s:=by
 unfold Bv
 refine AA (CN (r:=none) hT (by rw[B5,BP]; kernel_rfl) ?_)
 wp_delta
 refine AA (CN (r:=some (.builtin "list_reverseiterator.__length_hint__")) hT (by rw[B5,BP]; kernel_rfl) ?_)
 generalize hid:("list_reverseiterator.__length_hint__":String)=id0
 wp_delta
 rw[show splitId id0=some ("list_reverseiterator","__length_hint__") from by subst hid; decide +kernel]
 subst hid
 refine AA (Cb (T:="list_reverseiterator") (b:=true) hT (by rw[Cc]; kernel_rfl) ?_)
 refine CO (fun hab=>absurd hab ∅) (fun _=>?_)
 refine CO (fun _=>?_) (fun hab=>absurd (by decide +kernel) hab)
 refine CO (fun hab=>absurd hab (by decide +kernel)) (fun _=>?_)
 exact AJ h
theorem zHL:Slot "reversed" "__length_hint__" "reversed.__length_hint__" :=
 .of (owner:="reversed") (n:="__length_hint__") (by rw[B5,BP]; kernel_rfl) (by decide +kernel) (by decide +kernel) (by decide +kernel)
  (by first | exact .inl (by decide +kernel) | exact .inr (by decide +kernel)) (by rw[Cc]; kernel_rfl)
theorem zFn:KS table "reversed.__length_hint__"=some Builtin.«reversed.__length_hint__»:=Jd (by kernel_rfl)
theorem zGi(a:AD):Hv "reversed.__length_hint__" ⟨[a],[]⟩:=by
 unfold Hv; rw[HZ (id:="reversed.__length_hint__") (n:=['_','_','t','n','i','h','_','h','t','g','n','e','l','_','_']) (o:=['d','e','s','r','e','v','e','r']) (by kernel_rfl) zDy]; kernel_rfl
theorem zMR{r l:Addr}{i:Nat}{xs:Array AD}{Q:Bool->AG->Prop}(he:IsRv s.heap r l ((i:Int) - 1))(hl:s.heap.IsTuple l xs)(hz:xs.size<=AB)(hi:i<=xs.size)(h:∀ b tk,Q b { s with toks:=tk }):AQ (model prog w) A (Bv (.ref r)) Q E s:=by
 have hT:s.TypeIs (.ref r) "reversed":=⟨_,he,rfl⟩
 unfold Bv
 refine AA (CN (r:=none) hT (by rw[B5,BP]; kernel_rfl) ?_)
 wp_delta
 refine AA (CN (r:=some (.builtin "reversed.__length_hint__")) hT (by rw[B5,BP]; kernel_rfl) ?_)
 generalize hid:("reversed.__length_hint__":String)=id0
 wp_delta
 rw[show splitId id0=some ("reversed","__length_hint__") from by subst hid; decide +kernel]
 subst hid
 refine AA (Cb (T:="reversed") (b:=true) hT (by rw[Cc]; kernel_rfl) ?_)
 refine CO (fun hab=>absurd hab ∅) (fun _=>?_)
 refine CO (fun hab=>absurd hab (by decide +kernel)) (fun _=>?_)
 refine AA (C5 ?_)
 refine AA (Bz (zHL.bind _) ?_)
 try dsimp only
 refine AA (CC (A6 zHL hT zFn ?_ (zGi _)))
 unfold Builtin.«reversed.__length_hint__»
 refine AA (Bz (a:=Bl r) rfl ?_)
 try dsimp only
 refine AA (Ap he rfl (x:=.ref l) rfl ?_)
 have h62:(AB:Int) < 2 ^ 62:=by decide
 refine CO (fun hab=>absurd (show false=true from hab) ∅) (fun _=>?_)
 refine AA (JV hl (by have:=hz; rw[Be]at this; lia) ?_)
 refine AA (Bz (a:=some (xs.size:Int)) (by first | rfl | kernel_rfl) ?_)
 try dsimp only
 refine AA (Ap he rfl (x:=Cu ((i:Int) - 1)) rfl ?_)
 try dsimp only[Cu]
 refine CO (fun hab=>?_) (fun _=>?_)
 ·exact absurd hab ⋯
 ·unfold retInt
  refine AA (Gs ?_)
  refine AJ ⟨_,rfl,?_⟩
  refine AA (Bz (a:=some ((i:Int) - 1+1)) (by first | rfl | kernel_rfl) ?_)
  try dsimp only
  have e1:(i:Int) - 1+1=i:=by lia
  rw[e1]
  have e2:FS (i:Int)=true:=by
   unfold FS
   rw[AW]
   exact⟨decide_eq_true ⋯,decide_eq_true ⋯⟩
  have e3:Bo (i:Int).toNat=false:=by
   unfold Bo
   exact decide_eq_false (by rw[Bn]; lia)
  rw[if_neg (by rw[e2]; decide),if_neg ⋯,if_neg (by rw[e3]; decide)]
  exact AJ (h _ _)
end
section
variable {prog:Am}{w:A0}{r l:Addr}
theorem zLl(hne:l≠r)(items:Array AD):Kds prog w "list_reverseiterator" r l items.size (fun i v=>items[items.size - 1 - i]?=some v) (fun i h=>i<=items.size/\h.IsRevIter r l ((items.size:Int) - 1 - (i:Int))/\h.IsList l items) where
 type:=fun s st=>st.2.1.typeIs
 there:=fun h st=>by
  obtain⟨_,⟨o,e,_⟩,⟨o2,e2,_⟩⟩:=st
  exact⟨AK e,AK e2⟩
 notList:=by decide
 notTuple:=by decide
 hint:=fun A E s Q st h=>zLZ st.2.1.typeIs (h false s.toks)
 iter:=fun A E s Q st h=>Fe st.2.1 h
 walks:=fun A hh=>Walks.listRev hh r l hne items
theorem zHZ(hne:l≠r)(items:Array AD)(hz:items.size<=AB):Kds prog w "reversed" r l items.size (fun i v=>items[items.size - 1 - i]?=some v) (fun i h=>i<=items.size/\IsRv h r l ((items.size:Int) - 1 - (i:Int))/\h.IsTuple l items) where
 type:=fun s st=>⟨_,st.2.1,rfl⟩
 there:=fun h st=>by
  obtain⟨_,e,⟨o2,e2,_⟩⟩:=st
  exact⟨AK e,AK e2⟩
 notList:=by decide
 notTuple:=by decide
 hint:=fun A E s Q st h=>by
  have:=st.2.1
  simp only[Int.natCast_zero,HA]at this
  exact zMR this st.2.2 hz (AF _) h
 iter:=fun A E s Q st h=>zFG st.2.1 h
 walks:=fun A hh=>{
  sub:=fun b hb=>by simp at hb; simp[hb]
  frame:=fun i h h' x hk=>⟨x.1,hk r (by simp) _ x.2.1,by
   obtain⟨o,e,q⟩:=x.2.2
   exact⟨o,hk l (by simp) _ e,q⟩⟩
  item:=fun i s Q E hi x hQ=>by
   have e:(items.size:Int) - 1 - (i:Int)=((items.size - 1 - i:Nat):Int):=by omega
   have hit:=x.2.1
   rw[e]at hit
   have hx:items[items.size - 1 - i]?=some (items[items.size - 1 - i]'(by omega)):=Array.getElem?_eq_getElem (by omega)
   refine zMc hit x.2.2 hz hx fun h' tk hit' hs'=>?_
   have e2:((items.size - 1 - i:Nat):Int) - 1=(items.size:Int) - 1 - ((i+1:Nat):Int):=by omega
   rw[e2]at hit'
   refine hQ _ h' tk hx ⟨hi,hit',?_⟩ fun b o hb eo=>hs'.extBut b o (fun h=>hb (by simp[h])) eo
   obtain⟨o,eo,q⟩:=x.2.2
   exact⟨o,(hs'.2 l hne).trans eo,q⟩
  done:=fun s Q E x hQ=>by
   have e:(items.size:Int) - 1 - (items.size:Int)=-1:=by omega
   have hit:=x.2.1
   rw[e]at hit
   exact zOj hh hit fun h' he'=>hQ h' s.toks fun b o hb eo=>he' b o (fun h=>hb (by simp[h])) eo
  self:=fun _ _ _ _ x hQ=>zFG x.2.1 hQ }
end
theorem zDU{items:List AD}{acc:Array AD}(h:De (fun i v=>items.toArray[items.toArray.size - 1 - i]?=some v) acc items.toArray.size):acc.toList=items.reverse:=by
 have h1:acc.size=items.length:=by have:=h.1; simpa using this
 refine H9 fun i=>?_
 rcases C0 i items.length with hi | hi
 ·have hi':i < acc.size:=by lia
  have:=h.2 i acc[i] (by simp[hi'])
  rw[HG hi]
  simp only[AL,List.getElem?_toArray]at this
  rw[this]
  simp[hi']
 ·rw[BN (by simpa using by lia),BN (by simpa using hi)]
theorem Vals.rev:∀ {xs:List V} {us:List AD},Vals xs us->Vals xs.reverse us.reverse
 | _,_,.nil=>.nil
 | _,_,.cons r t=>by
  simp only[DQ]
  exact (Vals.rev t).append (.cons r .nil)
section
variable {X:Cx}
def tLRev (K:AM) (ta:TA):TE:=fun σ H Q=>ta σ H fun vs H1=>∃ (a:Addr) (xs:List V),vs=[.ref a]/\(SqL K H1 a xs\/SqT K H1 a xs)/\∀ l,H1 l=none->Q (.ref l) (upd H1 l (.lst xs.reverse))
theorem zMQ(hr:X.A.handled=none)(hg0:Gl X "list")(hm0:X.mg "list"=none)(hg1:Gl X "reversed")(hm1:X.mg "reversed"=none)(ha:PA X [e1] ta)
  (hs:AU [e1] X.env=[(false,eval e1 X.env)]:=by rfl)
  (hs3:AU [.Call (.Name "reversed" p1) [e1] [] pos1] X.env=[(false,eval (.Call (.Name "reversed" p1) [e1] [] pos1) X.env)]:=by rfl) :
  PE X (.Call (.Name "list" p0) [.Call (.Name "reversed" p1) [e1] [] pos1] [] pos0) (tLRev X.K ta):=by
 intro pins s σ H Q I h
 refine Gn (zBH I hg0 hm0 F0 (An ?_ hs3 rfl))
 rw[hs3]
 refine Dx ?_
 refine Gn (zBH I hg1 hm1 Ha (An (thn (ha pos1 pins s σ H _ I h) fun us s1 ⟨vs,H1,I1,r1,q1⟩=>?_) (by rw[hs]; rfl) (by rfl)))
 obtain⟨a,xs,e,hq,q⟩:=q1
 subst e
 obtain⟨u1,e,r⟩:=r1.one
 subst e
 cases r
 have fin:∀ (s2:AG) (its:List AD) (h':Heap) (tk:Nat) (acc:Array AD) (c:Nat),s2.heap.objs.size=s1.heap.objs.size+1->s2={ s1 with heap:=s2.heap,toks:=s2.toks }->(∀ b o,s1.heap.get? b=some o->s2.heap.get? b=some o)->Vals xs its->xs.length<=AB ->
   (∀ b o,b≠s1.heap.objs.size->s2.heap.get? b=some o->h'.get? b=some o)->h'.get? s2.heap.objs.size=some { cls:=.type "list",dict:=none,data:=.seq acc c,slots:=#[] }->acc.toList=its.reverse ->
   EP X pins σ Q (.ref s2.heap.objs.size) { s2 with heap:=h',toks:=tk }:=fun s2 its h' tk acc c hz he k12 rv hl kp hS ea=>by
  have kk:∀ b o,s1.heap.get? b=some o->h'.get? b=some o:=fun b o e=>kp b o (Ae (AK e)) (k12 b o e)
  have hf:H1 s2.heap.objs.size=none:=I1.hok.fresh ⋯
  refine⟨.ref s2.heap.objs.size,upd H1 s2.heap.objs.size (.lst xs.reverse),?_,rfl,q _ hf⟩
  rw[he]
  refine I1.laid (t':=tk) kk (by show s1.heap.objs.size<=s2.heap.objs.size; lia) ⟨by simpa using hl,its.reverse,c,rv.rev,?_⟩
  rw[← ea,Df]
  exact hS
 rcases hq with h1 | h1
 ·obtain⟨its,rv,pl,z⟩:=I1.list h1
  have l1:=rv.length
  have hlist:s1.heap.IsList a its.toArray:=pl.isList
  have lt1:a < s1.heap.objs.size:=by obtain⟨o,e,_⟩:=hlist; exact AK e
  refine Ip hlist (DK ?_)
  refine zGo (s:={ s1 with heap:=s1.heap.push (KZ a ((its.toArray.size:Int) - 1)) }) (zLl (Ae lt1) its.toArray) hr ⟨Ca _,⟨_,AI _ rfl,rfl,by simp[KZ]⟩,hlist.at fun o e=>AC _ e⟩ (by rw[AL]; lia) fun h' tk acc c kp hS hacc=>?_
  exact fin { s1 with heap:=s1.heap.push (KZ a ((its.toArray.size:Int) - 1)) } its h' tk acc c (A5 _ _) rfl (fun b o e=>AC _ e) rv ⋯ kp hS (zDU hacc)
 ·obtain⟨its,rv,pl,z⟩:=I1.tuple h1
  have l1:=rv.length
  have htup:s1.heap.IsTuple a its.toArray:=pl
  have lt1:a < s1.heap.objs.size:=by obtain⟨o,e,_⟩:=htup; exact AK e
  refine EH zFX ∅ (Hk _) (IA _) (fun obj=>Ds obj _) IB (zFU a its.toArray (by rw[AL]; lia)) ⟨htup,?_⟩
  have g:=AI s1.heap (o:={ cls:=.type "reversed",data:=.fields #[.ref a,Cu ((its.toArray.size:Int) - 1)] }) rfl
  refine⟨⟨_,g,rfl⟩,DK ?_⟩
  refine zGo (zHZ (Ae lt1) its.toArray (by rw[AL]; lia)) hr ⟨Ca _,by simpa using g,by
   obtain⟨o,e,q⟩:=htup
   exact⟨o,AC _ e,q⟩⟩ (by rw[AL]; lia) fun h' tk acc c kp hS hacc=>?_
  exact fin _ its h' tk acc c (A5 _ _) rfl (fun b o e=>AC _ e) rv ⋯ kp hS (zDU hacc)
end
end L2
namespace D
open PySem L2
def dLRev (fa:DA):DE:=fun Γ=>(fa Γ).bind fun p=>match p.1 with
 | [a]=>(seqS p.2 a).map fun xs=>(.l xs.reverse,p.2)
 | _=>none
theorem zLV(ha:SimA K ta fa):SimE K (tLRev K ta) (dLRev fa):=by
 intro C w Γ σ H s Γ' Q R e k
 obtain⟨⟨as,G1⟩,e1,e⟩:=bind_some e
 dsimp only at e
 split at e
 ·obtain⟨xs,e2,e⟩:=zAI e
  cases e
  refine ha C w Γ σ H _ _ _ R e1 fun vs H1 R1 ev1 o1 n1=>?_
  obtain⟨v,rfl,o2⟩:=soks1 o1
  obtain⟨p,us,rfl,h1,i1⟩:=zEH R1 o2 e2
  exact⟨p,us,rfl,h1,fun l hl=>k _ _ (R1.new hl) (ev1.trans (Evo.new hl)) (R1.newl hl i1.rev) ⟨l,rfl,zA4 ev1 R1.lst hl⟩⟩
 ·cases e
section
variable {ι:Type}{K:Fg}{X:ι->Cx}{mg:Str->Option AD}{k:Nat}{a:Expr}{da:DA}{Γ:En}
theorem zNY(M:Fm K mg k X)(hm0:mg "list"=none)(hm1:mg "reversed"=none)(ha:AX K X [a] da)(hg0:∀ j,Gl (X j) "list":=by intro _; rfl)(hg1:∀ j,Gl (X j) "reversed":=by intro _; rfl)
  (hs:∀ j,AU [a] (X j).env=[(false,eval a (X j).env)]:=by intro _; rfl)
  (hs3:∀ j,AU [.Call (.Name "reversed" p1) [a] [] pos1] (X j).env=[(false,eval (.Call (.Name "reversed" p1) [a] [] pos1) (X j).env)]:=by intro _; rfl) :
  EX K X (.Call (.Name "list" p0) [.Call (.Name "reversed" p1) [a] [] pos1] [] pos0) (dLRev da) :=
 let ⟨t,q,u⟩:=ha; ⟨tLRev K t,fun j=>by have:=zMQ (p0:=p0) (p1:=p1) (pos0:=pos0) (pos1:=pos1) (M.room j).hd (hg0 j) (by rw[M.mg]; exact hm0) (hg1 j) (by rw[M.mg]; exact hm1) (q j) (hs j) (hs3 j); rw[M.K j]at this; exact this,zLV u⟩
@[simp] theorem zRF:dLRev da Γ=(da Γ).bind fun p=>match p.1 with
 | [a]=>(seqS p.2 a).map fun xs=>(.l xs.reverse,p.2)
 | _=>none:=(rfl)
end
end D
namespace L2
open PySem PySem.Spec PyProof.Rows
def Itw (K:AM) (a1:Addr) (n:Nat):It :=
 ⟨fun i H=>∃ xs x,SqL K H a1 xs/\xs.length=n/\i < n/\xs[n - 1 - i]?=some x,
  fun i H v H'=>H'=H/\∀ xs,SqL K H a1 xs->xs[n - 1 - i]?=some v,
  fun i H=>i=n⟩
theorem zLG{P:Am}{w:A0}{K:AM}{tg:Expr}{e a1:Addr}(n:Nat)(hle:a1≠e) :
  Turn P w K tg (Itw K a1 n) [e] e (fun i h=>h.IsRevIter e a1 ((n:Int) - 1 - (i:Int))) where
 mem:=by simp
 obj:=fun i h st b hb=>by
  have q:b=e:=by simpa using hb
  subst q
  obtain⟨o,e,c,d⟩:=st
  exact⟨o,e,fun v z=>by rw[d]at z; cases z⟩
 keep:=fun i h h' st k=>st.at fun o q=>k e (by simp) o q
 item:=by
  intro X hP hw hK hc i pins s σ H E I hf st hg
  subst hP hw hK
  obtain⟨xs,x,h1,hn,hi,hx⟩:=hg
  obtain⟨its1,v1,o1,z1⟩:=I.list h1
  obtain⟨u1,e1,r1⟩:=v1.get hx
  have l1:=v1.length
  have ei:(n:Int) - 1 - (i:Int)=((n - 1 - i:Nat):Int):=by lia
  have st':s.heap.IsRevIter e a1 ((n - 1 - i:Nat):Int):=by rw[← ei]; exact st
  obtain⟨f0,f1,f2,f3,f4,f5⟩:=hf e (by simp)
  refine wpAny_pyNext_rev_item (items:=its1.toArray) st' o1.isList (x:=u1) (by simpa using e1) fun h' he sb=>?_
  have I1:Inv X pins σ H { s with heap:=h' }:=I.turned (t':=s.toks) (fun b o hb q=>(sb.2 b hb).trans q) f0 f1 f3 f4 f5
  have he':h'.IsRevIter e a1 ((n:Int) - 1 - ((i+1:Nat):Int)):=by
   have:(n:Int) - 1 - ((i+1:Nat):Int)=((n - 1 - i:Nat):Int) - 1:=by lia
   rw[this]; exact he
  obtain⟨o,q1,q2,q3⟩:=id he'
  exact⟨u1,rfl,zFw (s:={ s with heap:=h' }) q1 q2 q3 ∅ ⟨x,H,I1,r1,⟨rfl,fun ys hy=>by rw[I.list_inj hy h1]; exact hx⟩,he',fun b hb=>(hf b hb).1⟩⟩
 done:=by
  intro X hP hw hK hc i pins s σ H E I hf st hg
  subst hP hw hK
  have hg:i=n:=hg
  subst hg
  obtain⟨f0,f1,f2,f3,f4,f5⟩:=hf e (by simp)
  have st':s.heap.IsRevIter e a1 (-1):=by
   have:(i:Int) - 1 - (i:Int)=-1:=by lia
   rw[← this]; exact st
  exact wpAny_pyNext_rev_end (I.ok.hd hc) st' fun h' eb=>⟨rfl,I.turned (t':=s.toks) (fun b o hb q=>eb b o hb q) f0 f1 f3 f4 f5⟩
 self:=fun _ _ _ _ _ st h=>Fe st h
section
variable {X:Cx}{tg:Expr}
def iRevL (K:AM) (ta:TA):TI:=fun σ H R=>ta σ H fun vs H1=>∃ (a1:Addr) (xs:List V),vs=[.ref a1]/\SqL K H1 a1 xs/\R (Itw K a1 xs.length) H1
theorem zNt{e1:Expr}{ta:TA}{p pos:Pos}(hg:Gl X "reversed")(hm:X.mg "reversed"=none)(ha:PA X [e1] ta)(hs:AU [e1] X.env=[(false,eval e1 X.env)]:=by rfl) :
  PI X tg (.Call (.Name "reversed" p) [e1] [] pos) (iRevL X.K ta):=by
 intro pins s σ H R I h
 refine Gn (zBH I hg hm Ha (An (thn (ha pos pins s σ H _ I h) fun us s1 ⟨vs,H1,I1,r1,q1⟩=>?_) (by rw[hs]; rfl) (by rfl)))
 obtain⟨a1,xs,e,h1,q⟩:=q1
 subst e
 obtain⟨u1,e,r⟩:=r1.one
 subst e
 cases r
 obtain⟨its1,v1,o1,z1⟩:=I1.list h1
 have l1:=v1.length
 have hlist:s1.heap.IsList a1 its1.toArray:=o1.isList
 have lt1:a1 < s1.heap.objs.size:=by obtain⟨o,e,_⟩:=hlist; exact AK e
 refine Ip hlist ?_
 have st':(s1.heap.push (KZ a1 ((its1.toArray.size:Int) - 1))).IsRevIter s1.heap.objs.size a1 ((xs.length:Int) - 1 - ((0:Nat):Int)):=by
  have:((xs.length:Int) - 1 - ((0:Nat):Int))=(its1.toArray.size:Int) - 1:=by rw[AL]; lia
  rw[this]
  exact⟨_,AI _ rfl,rfl,rfl⟩
 refine Fe st' ?_
 refine⟨_,_,_,_,H1,rfl,I1.kept (t':=s1.toks) fun b o e=>AC _ e,zLG xs.length (Ae lt1),st',fun c hc=>?_,q⟩
 have e:c=s1.heap.objs.size:=by simpa using hc
 subst e
 exact I1.fpOk (AF _) (I1.hok.fresh (AF _))
end
end L2
namespace D
open PySem L2
def dRevL (fa:DA):DI:=fun Γ=>(fa Γ).bind fun p=>match p.1 with
 | [a]=>(sqlOf p.2 a).bind fun xs=>gd xs.length ((xs.reverse,srcS p.2 a),p.2)
 | _=>none
section
variable {K:Fg}
theorem zKQ(ha:SimA K ta fa):SimI K (iRevL K ta) (dRevL fa):=by
 intro C w Γ σ H its src Γ' R Rp e k
 obtain⟨⟨as,G1⟩,e1,e⟩:=bind_some e
 dsimp only at e
 split at e
 ·obtain⟨xs,e2,e⟩:=bind_some e
  obtain⟨hz,e⟩:=zBP e
  cases e
  refine ha C w Γ σ H _ _ _ Rp e1 fun vs H1 R1 ev1 o1 n1=>?_
  obtain⟨v,rfl,o2⟩:=soks1 o1
  obtain⟨p,us,rfl,h1,i1,st⟩:=zBj R1 o2 e2
  refine⟨p,us,rfl,h1,k _ H1 R1 ev1 ⟨by simpa using hz,fun L' hs av H2 ev=>?_⟩⟩
  have hL:LL L' H1:=fun q hq=>R1.lst q (hs q hq)
  have h2:=st L' hs av H2 ev
  have i2:=i1.evo ev hL
  have l2:=i2.len
  refine⟨fun i t e=>?_,by show _=_; simp[l2]⟩
  have hi:i < xs.length:=by simpa using (Aa.mp e).1
  rw[HG hi]at e
  obtain⟨v,e3,hv⟩:=i2.get e
  refine⟨⟨us,v,h2,rfl,by lia,by rw[l2]; exact e3⟩,fun x H3 y=>?_⟩
  obtain⟨rfl,k1⟩:=y
  have q1:=k1 us h2
  rw[l2,e3]at q1; cases q1
  exact⟨fun b o e=>e,hv⟩
 ·cases e
end
section
variable {ι:Type}{K:Fg}{X:ι->Cx}{mg:Str->Option AD}{k:Nat}{a:Expr}{da:DA}{p pos:Pos}{Γ:En}
theorem zMW(M:Fm K mg k X)(hm:mg "reversed"=none)(ha:AX K X [a] da)(hg:∀ j,Gl (X j) "reversed":=by intro _; rfl)(hs:∀ j,AU [a] (X j).env=[(false,eval a (X j).env)]:=by intro _; rfl) :
  IX K X tg (.Call (.Name "reversed" p) [a] [] pos) (dRevL da) :=
 let ⟨t,q,u⟩:=ha; ⟨iRevL K t,fun j=>by have:=zNt (tg:=tg) (p:=p) (pos:=pos) (hg j) (by rw[M.mg]; exact hm) (q j) (hs j); rw[M.K j]at this; exact this,zKQ u⟩
@[simp] theorem zRK:dRevL da Γ=(da Γ).bind fun p=>match p.1 with
 | [a]=>(sqlOf p.2 a).bind fun xs=>gd xs.length ((xs.reverse,srcS p.2 a),p.2)
 | _=>none:=(rfl)
end
@[simp high,simp ↓ high] theorem zSG{α:Type}{x y:α}:ifO (some 3) 3 x y=x:=rfl
end D
namespace L2
open PySem PySem.Spec PyProof.Rows
section
variable {X:Cx}{x:Str}{p pos:Pos}{e:Expr}{es:List Expr}{t:TA}{k:Nat}
def tCallV (i:Nat) (C:Addr->Sp->Prop) (t:TA):TE:=fun σ H Q=>∃ f sp,σ[i]?=some (some (.ref f))/\C f sp/\t σ H fun vs H1=>sp (vs++[]) H1 Q E0
theorem zLQ(hC:Mod X.K X.mg X.base->∀ f sp,C f sp->∃ fd ps,FnOk X.prog X.w X.K X.mg X.base CX0 k f fd ps sp/\Cj X.K (.ref f)=true/\Binds X.K fd ps [])
  (hr:Room k X.A) (hN:X.N[i]?=some x) (hv:Vis X.env.scope x) (ha:PA X (e::es) t) (hd:(x == ("__debug__":Str))=false:=by decide) (hcd:(x == ("__classdict__":Str))=false:=by decide)
  (he:AU (e::es) X.env=(false,eval e X.env)::AU es X.env:=by rfl) (hpl:(CL pos (AU es X.env)).any (·.1)=false:=by rfl) :
  PE X (.Call (.Name x p) (e::es) [] pos) (tCallV i C t):=by
 intro pins s σ H Q I h
 obtain⟨f,sp,e1,c,h⟩:=h
 obtain⟨fd,ps,F,hk,hb⟩:=hC I.mod f sp c
 refine EL ?_
 refine thn (zGH (X:=X) (i:=i) (x:=x) (pos:=p) hN hv hd hcd pins s σ H (fun v H'=>v=.ref f/\H'=H) I ⟨.ref f,e1,rfl,rfl⟩) fun u s1 ⟨v,H1,I1,r1,q1⟩=>?_
 obtain⟨rfl,rfl⟩:=q1
 obtain rfl:u=Bl f:=r1
 refine G7 (h₀:=X.base) I1.ok.mod.kin hk (thn (ha pos pins s1 σ _ _ I1 h) fun us s2 ⟨vs,H2,I2,r,q⟩=>⟨I2.kIn,?_⟩) he hpl
 exact zKp F hr hb .nil pass0 I2 r q
end
end L2
namespace D
open PySem L2
abbrev Tb:=List (Str×Nat×DF)
def TbOk (P:Am) (wd:A0) (K:Fg) (mg:Str->Option AD) (base:Heap) (k:Nat) (tb:Tb):Prop:=∀ q∈tb,FD P wd K mg base k q.1 none q.2.1 q.2.2
section
variable {P:Am}{wd:A0}{K:Fg}{mg:Str->Option AD}{base:Heap}{k:Nat}
theorem FD.mono(D0:FD P wd K mg base k' x ip n F)(h:k'<=k):FD P wd K mg base k x ip n F:=by
 obtain⟨f,fd,ps,h1,h2⟩:=D0.ex
 exact⟨⟨f,fd,ps,h1.mono h,h2⟩,D0.len⟩
theorem zGq:TbOk P wd K mg base k []:=fun _ h=>nomatch h
theorem zEs(D0:FD P wd K mg base k' x none n F)(r:TbOk P wd K mg base k tb)(h:k'<=k:=by first | exact AF _ | decide | lia):TbOk P wd K mg base k ((x,n,F)::tb):=fun q hq=>by
 rcases AH.mp hq with rfl | hq
 ·exact D0.mono h
 ·exact r q hq
end
noncomputable def dFn (n:Str):DE:=fun Γ=>some (.v (.f n),Γ)
def dCallV (i:Nat) (tb:Tb) (fa:DA):DE:=fun Γ=>match Γ[i]? with
 | some (some (.v (.f n)))=>match tb.find? fun q=>decide (q.1=n) with
  | some q=>dCall none q.2.2 [] fa Γ
  | none=>none
 | _=>none
def NK (K:Fg) (mg:Str->Option AD) (n:Str):Prop:=∃ f,EO K Al n=some (some (.ref f))/\mg n=some (.ref f)
theorem zO9(h:EO K Al n=some (some (.ref f))):SimE K (tC (.ref f)) (dFn n):=by
 intro C w Γ σ H s Γ' Q R e k
 cases e
 exact k _ H R .refl (show Im K H _ (.f n) from Im.fn ⟨f,rfl,h⟩) trivial
def CallC (K:Fg) (tb:Tb) (f:Addr) (sp:Sp):Prop:=∃ q∈tb,EO K Al q.1=some (some (.ref f))/\sp=spD K none q.2.1 q.2.2
theorem zJq(hl:∀ q∈tb,∀ gs r,q.2.2 gs=some r->gs.length=q.2.1)(ha:SimA K t fa):SimE K (tCallV i (CallC K tb) t) (dCallV i tb fa):=by
 intro C w Γ σ H s Γ' Q R e k
 unfold dCallV at e
 split at e
 ·rename_i n hn
  split at e
  ·rename_i q hq
   obtain⟨v,e1,hv⟩:=R.val i _ hn
   obtain⟨f,rfl,hf⟩:=(show Im K H v (.f n) from hv).invf
   have hm:=List.mem_of_find?_eq_some hq
   have hqn:q.1=n:=by simpa using List.find?_some hq
   exact⟨f,spD K none q.2.1 q.2.2,e1,⟨q,hm,by rw[hqn]; exact hf,rfl⟩,zGO (hl q hm) ha C w Γ σ H s Γ' Q R e k⟩
  ·cases e
 ·cases e
section
variable {ι:Type}{P:Am}{wd:A0}{base:Heap}{K:Fg}{mg:Str->Option AD}{k k' n:Nat}{X:ι->Cx}{e:Expr}{es:List Expr}{pos p:Pos}{da:DA}{x:Str}{tb:Tb}{Γ:En}
theorem zMI(M:Fm K mg k X)(h:NK K mg x)(hg:∀ j,Gl (X j) x:=by intro _; rfl)(hd:(x == ("__debug__":Str))=false:=by decide):EX K X (.Name x pos) (dFn x):=by
 obtain⟨f,h1,h2⟩:=h
 exact⟨_,fun j=>zNK (v:=.ref f) (hg j) (by rw[M.mg]; exact h2) rfl hd,zO9 h1⟩
theorem zD8(i:Nat)(M:Fm K mg k X)(B:Fb P wd base X)(T0:TbOk P wd K mg base k' tb)(ha:AX K X (e::es) da)(hk:k'<=k:=by first | exact AF _ | decide | lia)
  (hN:∀ j,(X j).N[i]?=some x:=by intro _; rfl) (hv:∀ j,Vis (X j).env.scope x:=by intro _; first | exact Fk rfl | exact EW (Fk rfl) | exact EW (EW rfl)) (hd:(x == ("__debug__":Str))=false:=by decide) (hcd:(x == ("__classdict__":Str))=false:=by decide)
  (he:∀ j,AU (e::es) (X j).env=(false,eval e (X j).env)::AU es (X j).env:=by intro _; rfl) (hpl:∀ j,(CL pos (AU es (X j).env)).any (·.1)=false:=by intro _; rfl) :
  EX K X (.Call (.Name x p) (e::es) [] pos) (dCallV i tb da):=by
 obtain⟨t,q,u⟩:=ha
 refine⟨tCallV i (CallC K tb) t,fun j=>?_,zJq (fun q hq=>(T0 q hq).len) u⟩
 refine zLQ (k:=k') (fun hm f sp hc=>?_) ((M.room j).mono hk) (hN j) (hv j) (q j) hd hcd (he j) (hpl j)
 obtain⟨q,hq,h1,rfl⟩:=hc
 obtain⟨f',fd,ps,g1,g2,g3,g4⟩:=(T0 q hq).ex
 have hm':Mod K mg base:=by rw[← M.K j,← M.mg j,← B.b j]; exact hm
 have e:=PySem.W.mg_of hm'.kin hm'.glob h1
 rw[g2]at e
 cases e
 exact⟨fd,ps,by rw[B.P,B.w,M.K,M.mg,B.b]; exact g1,by rw[M.K]; exact g3,by rw[M.K]; exact g4⟩
@[simp,simp ↓] theorem zSo{n:Str}:dFn n Γ=some (.v (.f n),Γ):=rfl
end
noncomputable def fuelX:Nat:=100000
theorem zC3:fuelX=100000:=rfl
inductive Rs where
 | mk (e v:T) (ks:List Rs)
noncomputable def Rs.e:Rs->T | .mk e _ _=>e
noncomputable def Rs.v:Rs->T | .mk _ v _=>v
mutual
def Rs.pre:Rs->List Rs
 | .mk e v ks=>.mk e v ks::pres ks
def pres:List Rs->List Rs
 | []=>[]
 | r::rs=>r.pre++pres rs
end
theorem zAr:pres []=[]:=by unfold pres; rfl
theorem zAm(r:Rs)(rs:List Rs):pres (r::rs)=r.pre++pres rs:=by rw[pres]
theorem zA5(e v:T)(ks:List Rs):(Rs.mk e v ks).pre=.mk e v ks::pres ks:=by rw[Rs.pre]
theorem zDz:∀ (a b:List Rs),pres (a++b)=pres a++pres b
 | [],b=>by rw[zAr]; rfl
 | r::a,b=>by rw[B9,zAm,zAm,zDz a b,By]
mutual
def Rs.In (ins:DF):Rs->Prop
 | .mk e _ ks=>(ins [.v e]=some (.v (.t (ks.map Rs.e)),[])\/ins [.v e]=some (.l (ks.map Rs.e),[]))/\Ins ins ks
def Ins (ins:DF):List Rs->Prop
 | []=>True
 | r::rs=>r.In ins/\Ins ins rs
end
mutual
def Rs.Put (put:DF):Rs->Prop
 | .mk e v ks=>put [.v e,.r (ks.map Rs.v)]=some (.v v,[])/\Puts put ks
def Puts (put:DF):List Rs->Prop
 | []=>True
 | r::rs=>r.Put put/\Puts put rs
end
theorem zAn:Ins ins (r::rs) ↔ r.In ins/\Ins ins rs:=by rw[Ins]
theorem zBz:(Rs.mk e v ks).In ins ↔ (ins [.v e]=some (.v (.t (ks.map Rs.e)),[])\/ins [.v e]=some (.l (ks.map Rs.e),[]))/\Ins ins ks:=by rw[Rs.In]
theorem zAv:Puts put (r::rs) ↔ r.Put put/\Puts put rs:=by rw[Puts]
theorem zBm:(Rs.mk e v ks).Put put ↔ put [.v e,.r (ks.map Rs.v)]=some (.v v,[])/\Puts put ks:=by rw[Rs.Put]
theorem zBX:Ins ins []:=by unfold Ins; trivial
theorem zBS:Puts put []:=by unfold Puts; trivial
theorem zHm:∀ {a b:List Rs},Ins ins a->Ins ins b->Ins ins (a++b)
 | [],_,_,h=>h
 | _::_,_,h,h'=>zAn.mpr ⟨(zAn.mp h).1,zHm (zAn.mp h).2 h'⟩
theorem zDV(h:Γ[i]?=some (~~~(.f n)))(hf:tb.find? (fun q=>decide (q.1=n))=some (n,a,F)):dCallV i tb fa Γ=dCall none F [] fa Γ:=by
 unfold dCallV
 rw[h]
 dsimp only
 rw[hf]
def awC:DT:=dTru (jV 3)
def awB (tb:Tb):DS:=dSeq (dSet 4 (dMut 3 hPop qQ)) (dSeq (dDrop (dMut 2 hAppend (jW (jV 4) qQ))) (dDrop (dMut 3 hExtend (jW (dLRev (jW (dCallV 1 tb (jW (jV 4) qQ)) qQ)) qQ))))
def awD (tb:Tb):DS:=dSeq (dSet 2 (dLst qQ)) (dSeq (dSet 3 (dLst (jW (jV 0) qQ))) (dSeq (dWhile awC (awB tb) fuelX) (dRet (jV 2))))
@[simp] theorem zJe(h:xs.length+ys.length<=AB):hExtend Γ xs [.l ys]=some (.a .non,xs++ys):=by
 unfold hExtend
 dsimp only
 simp[zNz,gd,h]
section
variable {tb:Tb}{n:Str}{ka:Nat}{ins:DF}
theorem zNE(hf:tb.find? (fun q=>decide (q.1=n))=some (n,ka,ins)):∀ (m:Nat) (st:List Rs) (acc:List T) (w:T) (p4:Option G) (fuel:Nat),(pres st).length=m->m < fuel->acc.length+m<=90000->st.length<=90000->Ins ins st ->
  ∃ p4',dWhile awC (awB tb) fuel [some (.v w),some (.v (.f n)),some (.l acc),some (.l (st.reverse.map Rs.e)),p4]=some (.nx [some (.v w),some (.v (.f n)),some (.l (acc++(pres st).map Rs.e)),some (.l []),p4']):=by
 intro m
 induction m with
 | zero =>
  intro st acc w p4 fuel hm hfu hb hs hi
  cases st with
  | nil =>
   obtain⟨f,rfl⟩:∃ f,fuel=f+1:=⟨fuel - 1,by lia⟩
   exact⟨p4,by rw[zA2]; simp[awC,zAr]⟩
  | cons r rs =>
   cases r with
   | mk e v ks=>rw[zAm,zA5]at hm; simp at hm
 | succ m ih =>
  intro st acc w p4 fuel hm hfu hb hs hi
  obtain⟨f,rfl⟩:∃ f,fuel=f+1:=⟨fuel - 1,by lia⟩
  cases st with
  | nil=>rw[zAr]at hm; cases hm
  | cons r rs =>
   cases r with
   | mk e v ks =>
    obtain⟨h1,h2⟩:=zAn.mp hi
    obtain⟨h3,h4⟩:=zBz.mp h1
    rw[zAm,zA5]at hm
    have hlen:∀ l:List Rs,l.length<=(pres l).length:=fun l=>by
     induction l with
     | nil=>simp
     | cons x l ih =>
      cases x with
      | mk a b c=>rw[zAm,zA5]; simp; lia
    have hk:=hlen ks
    have hr:=hlen rs
    simp only[B9,B8,Ax]at hm
    obtain⟨p4',e4⟩:=ih (ks++rs) (acc++[e]) w (some (.v e)) f (by rw[zDz,Ax]; lia) ⋯ (by simp; lia) (by simp; lia) (zHm h4 h2)
    refine⟨p4',?_⟩
    have hl1:acc.length < AB:=AY (show acc.length < 100000 by lia) ∅
    have hl2:rs.length+ks.length<=AB:=Ai (show rs.length+ks.length<=100000 by lia) ∅
    have e0:(B2 Rs.e (Rs.mk e v ks::rs).reverse)=B2 Rs.e rs.reverse++[e]:=by simp[Rs.e]
    have pop:(awB tb) [some (.v w),some (.v (.f n)),some (.l acc),some (.l (B2 Rs.e rs.reverse++[e])),p4]=some (.nx [some (.v w),some (.v (.f n)),some (.l (acc++[e])),some (.l (B2 Rs.e rs.reverse++(ks.map Rs.e).reverse)),some (.v e)]):=by
     have cv:dCallV 1 tb (jW (jV 4) qQ) [some (.v w),some (.v (.f n)),some (.l (acc++[e])),some (.l (B2 Rs.e rs.reverse)),some (.v e)]=dCall none ins [] (jW (jV 4) qQ) [some (.v w),some (.v (.f n)),some (.l (acc++[e])),some (.l (B2 Rs.e rs.reverse)),some (.v e)]:=zDV rfl hf
     have ex:∀ Γ,hExtend Γ (B2 Rs.e rs.reverse) [.l (ks.map Rs.e).reverse]=some (.a .non,B2 Rs.e rs.reverse++(ks.map Rs.e).reverse):=fun Γ=>zJe (by simpa using hl2)
     have hs':rs.length+1<=AB:=Ai (show rs.length+1<=100000 by simp at hs; lia) ∅
     have hq:(B2 Rs.e rs.reverse).length+1<=AB:=by simpa using hs'
     have hl0:acc.length<=AB:=Dv hl1
     generalize B2 Rs.e rs.reverse=RR at cv ex hq ⊢
     have hq':RR.length<=AB:=by lia
     rcases h3 with h3 | h3
     ·simp[awB,cv,h3,hl1,ex,gd,hq,hq',hl0]
     ·simp[awB,cv,h3,hl1,ex,gd,hq,hq',hl0]
    rw[zA2,e0]
    have tr:awC [some (.v w),some (.v (.f n)),some (.l acc),some (.l (B2 Rs.e rs.reverse++[e])),p4]=some (true,[some (.v w),some (.v (.f n)),some (.l acc),some (.l (B2 Rs.e rs.reverse++[e])),p4]):=by
     simp[awC]
    rw[tr,Ac,if_pos rfl,pop,Ac]
    dsimp only
    have e5:B2 Rs.e rs.reverse++(ks.map Rs.e).reverse=B2 Rs.e (ks++rs).reverse:=by simp
    rw[e5,e4,zDz]
    rw[zAm,zA5]
    simp[Rs.e]
theorem zFk(hf:tb.find? (fun q=>decide (q.1=n))=some (n,ka,ins))(r:Rs)(h:r.In ins)(hb:r.pre.length<=80000):fnD none 2 5 (awD tb) [.v r.e,.v (.f n)]=some (.l (r.pre.map Rs.e),[]):=by
 have hp:pres [r]=r.pre:=by rw[zAm,zAr,Do]
 obtain⟨p4',e⟩:=zNE hf r.pre.length [r] [] r.e none fuelX (by rw[hp]) (by rw[zC3]; lia) (by simp; lia) (by simp) (zAn.mpr ⟨h,zBX⟩)
 rw[hp]at e
 simp only[DQ,List.reverse_nil,Ce,Ab,A7]at e
 have g1:(1:Nat)<=AB:=by decide
 simp[fnD,awD,gd,e,g1]
end
def fwE:DE:=dMut 1 hPop qQ
def fwB (tb1 tb2:Tb):DS:=dSeq (dSet 5 (dComp (some (1,3)) [none,some 3] (dSeqI (dCallV 1 tb1 (jW (jV 4) qQ))) (gdName 0) dYes fwE))
 (dDrop (dMut 3 hAppend (jW (dCallV 2 tb2 (jW (jV 4) (jW (jV 5) qQ))) qQ)))
def fwD (FA:DF) (tb1 tb2:Tb):DS:=dSeq (dSet 3 (dLst qQ))
 (dSeq (dFor none (dRevL (jW (dCall none FA [] (jW (jV 0) (jW (jV 1) qQ))) qQ)) (gdName 4) (fwB tb1 tb2))
 (dRet (dOp ixS (jV 3) (dC (.int 0)))))
theorem zJj:∀ (es vs t0:List T) (o:Option G),es.length=vs.length->t0.length+vs.length<=100000->∃ o',compD (gdName 0) dYes fwE es [o,some (.l (t0++vs.reverse))]=some (vs,[o',some (.l t0)])
 | [],[],t0,o,_,_=>⟨o,by simp[zAO]⟩
 | [],_::_,_,_,h,_=>by cases h
 | _::_,[],_,_,h,_=>by cases h
 | e::es,v::vs,t0,o,h,hb=>by
  obtain⟨o',h2⟩:=zJj es vs t0 (some (.v e)) (by simpa using h) (by simp at hb; lia)
  refine⟨o',?_⟩
  have e1:t0++(v::vs).reverse=(t0++vs.reverse)++[v]:=by simp
  have hq:(t0++vs.reverse).length+1<=AB:=Ai (show _<=100001 by simp at hb ⊢; lia) ∅
  rw[e1,zAQ]
  generalize t0++vs.reverse=RR at h2 hq ⊢
  unfold fwE at h2 ⊢
  simp[gd,hq,h2]
section
variable {tb1 tb2:Tb}{n m:Str}{ka kb:Nat}{ins put:DF}
theorem zMm(hf:tb1.find? (fun q=>decide (q.1=n))=some (n,ka,ins))(hg:tb2.find? (fun q=>decide (q.1=m))=some (m,kb,put)){e v:T}{ks:List Rs}{t0:List T}{w:T}{p5:Option G}(h1:ins [.v e]=some (.v (.t (ks.map Rs.e)),[])\/ins [.v e]=some (.l (ks.map Rs.e),[]))
  (h2:put [.v e,.r (ks.map Rs.v)]=some (.v v,[])) (hb:t0.length+ks.length<=90000) :
  fwB tb1 tb2 [some (.v w),some (.v (.f n)),some (.v (.f m)),some (.l (t0++(ks.map Rs.v).reverse)),some (.v e),p5]=some (.nx [some (.v w),some (.v (.f n)),some (.v (.f m)),some (.l (t0++[v])),some (.v e),some (.l (ks.map Rs.v))]):=by
 obtain⟨o',hc⟩:=zJj (ks.map Rs.e) (ks.map Rs.v) t0 none (by simp) (by simp; lia)
 have cv:dCallV 1 tb1 (jW (jV 4) qQ) [some (.v w),some (.v (.f n)),some (.v (.f m)),some (.l (t0++(ks.map Rs.v).reverse)),some (.v e),p5]=dCall none ins [] (jW (jV 4) qQ) [some (.v w),some (.v (.f n)),some (.v (.f m)),some (.l (t0++(ks.map Rs.v).reverse)),some (.v e),p5]:=zDV rfl hf
 have cw:dCallV 2 tb2 (jW (jV 4) (jW (jV 5) qQ)) [some (.v w),some (.v (.f n)),some (.v (.f m)),some (.l t0),some (.v e),some (.l (ks.map Rs.v))]=dCall none put [] (jW (jV 4) (jW (jV 5) qQ)) [some (.v w),some (.v (.f n)),some (.v (.f m)),some (.l t0),some (.v e),some (.l (ks.map Rs.v))]:=zDV rfl hg
 have hz:(ks.map Rs.e).length<=AB:=Ai (show (ks.map Rs.e).length<=100000 by simp; lia) ∅
 have ht:t0.length < AB:=AY (show t0.length < 100000 by lia) ∅
 have ht':t0.length<=AB:=Dv ht
 generalize t0++(ks.map Rs.v).reverse=RR at hc cv ⊢
 generalize ks.map Rs.e=EE at h1 hc hz ⊢
 generalize ks.map Rs.v=VV at h2 hc cw ⊢
 rcases h1 with h1 | h1
 ·simp[fwB,cv,h1,hc,cw,h2,gd,hz,ht,ht']
 ·simp[fwB,cv,h1,hc,cw,h2,gd,hz,ht,ht']
mutual
theorem zKh(hf:tb1.find? (fun q=>decide (q.1=n))=some (n,ka,ins))(hg:tb2.find? (fun q=>decide (q.1=m))=some (m,kb,put))(w:T):∀ (r:Rs) (t0 more:List T) (p4 p5:Option G),r.In ins->r.Put put->t0.length+r.pre.length<=90000 ->
  ∃ p4' p5',forD (gdName 4) (fwB tb1 tb2) (r.pre.reverse.map Rs.e++more) [some (.v w),some (.v (.f n)),some (.v (.f m)),some (.l t0),p4,p5]=forD (gdName 4) (fwB tb1 tb2) more [some (.v w),some (.v (.f n)),some (.v (.f m)),some (.l (t0++[r.v])),p4',p5']
 | .mk e v ks,t0,more,p4,p5,hi,hp,hb=>by
  obtain⟨h1,h2⟩:=zBz.mp hi
  obtain⟨h3,h4⟩:=zBm.mp hp
  rw[zA5]at hb ⊢
  simp only[B8]at hb
  have hlen:∀ l:List Rs,l.length<=(pres l).length:=fun l=>by
   induction l with
   | nil=>simp
   | cons x l ih =>
    cases x with
    | mk a b c=>rw[zAm,zA5]; simp; lia
  have hk:=hlen ks
  obtain⟨q4,q5,e1⟩:=zKy hf hg w ks t0 (e::more) p4 p5 h2 h4 ⋯
  refine⟨some (.v e),some (.l (ks.map Rs.v)),?_⟩
  rw[DQ,Cf,By,Ab,A7]
  show forD _ _ (B2 Rs.e (pres ks).reverse++(e::more)) _=_
  rw[e1,zDZ]
  simp only[zJL]
  rw[show (List.set [some (G.v w),some (.v (.f n)),some (.v (.f m)),some (.l (t0++(ks.map Rs.v).reverse)),q4,q5] 4 (some (.v e)))=[some (.v w),some (.v (.f n)),some (.v (.f m)),some (.l (t0++(ks.map Rs.v).reverse)),some (.v e),q5] from rfl]
  rw[Ac,zMm hf hg h1 h3 ⋯,Ac]
  rfl
theorem zKy(hf:tb1.find? (fun q=>decide (q.1=n))=some (n,ka,ins))(hg:tb2.find? (fun q=>decide (q.1=m))=some (m,kb,put))(w:T):∀ (ks:List Rs) (t0 more:List T) (p4 p5:Option G),Ins ins ks->Puts put ks->t0.length+(pres ks).length<=90000 ->
  ∃ p4' p5',forD (gdName 4) (fwB tb1 tb2) ((pres ks).reverse.map Rs.e++more) [some (.v w),some (.v (.f n)),some (.v (.f m)),some (.l t0),p4,p5]=forD (gdName 4) (fwB tb1 tb2) more [some (.v w),some (.v (.f n)),some (.v (.f m)),some (.l (t0++(ks.map Rs.v).reverse)),p4',p5']
 | [],t0,more,p4,p5,_,_,_=>⟨p4,p5,by simp[zAr]⟩
 | r::rs,t0,more,p4,p5,hi,hp,hb=>by
  obtain⟨h1,h2⟩:=zAn.mp hi
  obtain⟨h3,h4⟩:=zAv.mp hp
  rw[zAm]at hb ⊢
  simp only[Ax]at hb
  have hlen:∀ l:List Rs,l.length<=(pres l).length:=fun l=>by
   induction l with
   | nil=>simp
   | cons x l ih =>
    cases x with
    | mk a b c=>rw[zAm,zA5]; simp; lia
  have hk:=hlen rs
  obtain⟨q4,q5,e1⟩:=zKy hf hg w rs t0 (r.pre.reverse.map Rs.e++more) p4 p5 h2 h4 ⋯
  obtain⟨q6,q7,e2⟩:=zKh hf hg w r (t0++(rs.map Rs.v).reverse) more q4 q5 h1 h3 (by simp; lia)
  refine⟨q6,q7,?_⟩
  rw[List.reverse_append,Cf,By,e1,e2]
  simp
end
theorem zEv(hf:tb1.find? (fun q=>decide (q.1=n))=some (n,ka,ins))(hg:tb2.find? (fun q=>decide (q.1=m))=some (m,kb,put))(r:Rs)(h1:r.In ins)(h2:r.Put put)(hb:r.pre.length<=80000) :
  fnD none 3 6 (fwD (fnD none 2 5 (awD tb1)) tb1 tb2) [.v r.e,.v (.f n),.v (.f m)]=some (.v r.v,[]):=by
 have ha:=zFk hf r h1 hb
 obtain⟨q4,q5,e⟩:=zKh hf hg r.e r [] [] none none h1 h2 (by simp; lia)
 rw[Do,zBU]at e
 have hz:(r.pre.map Rs.e).length<=AB:=Ai (show (r.pre.map Rs.e).length<=100000 by simp; lia) ∅
 have e2:(B2 Rs.e r.pre).reverse=B2 Rs.e r.pre.reverse:=by simp
 generalize fnD none 2 5 (awD tb1)=FA at ha ⊢
 generalize r.pre.map Rs.e=EE at ha hz e2
 rw[← e2]at e
 simp[fnD,fwD,ha,gd,hz,e]
end
def SimP (K:Fg) (trs:List (TE×TE)) (ks:List Key) (fa:DA):Prop:=∀ (C:Fr) (w:W) (Γ:En) (σ:St) (H:Hp) (ss:List S) (Γ':En) (Q:List (V×V)->Hp->Prop),Rep K C w Γ σ H->fa Γ=some (ss,Γ') ->
 (∀ vs H',Rep K C w Γ' σ H'->Evo w.L H H'->SOks K C w σ H' vs ss->vs.length=ks.length->Q ((ks.map kV).zip vs) H')->tPairs trs σ H Q
theorem zLd:SimP K [] [] qQ:=by
 intro C w Γ σ H ss Γ' Q R e k
 cases e
 exact k [] H R .refl trivial rfl
theorem zKX(key:Key)(hv:SimE K tv fv)(hr:SimP K trs ks fa):SimP K ((tC (kV key),tv)::trs) (key::ks) (jW fv fa):=by
 intro C w Γ σ H ss Γ' Q R e k
 obtain⟨p,e1,e⟩:=bind_some e
 obtain⟨q,e2,e⟩:=bind_some e
 cases e
 show tv σ H _
 refine hv C w Γ σ H p.1 p.2 _ R e1 fun v1 H1 R1 ev1 o1 _=>?_
 exact hr C w p.2 σ H1 q.1 q.2 _ R1 e2 fun vs H2 R2 ev2 o2 hl=>k (v1::vs) H2 R2 (ev1.trans ev2) ⟨o1.evo ev2 R1.lst,o2⟩ (by simp[hl])
def dDispK (ks:List Key) (fa:DA):DE:=fun Γ=>(fa Γ).bind fun p=>(trees p.1).bind fun ts=>if ks.length<=15/\ks.Nodup then some (.d (.inl (ks.zip ts)),p.2) else none
theorem zGv{kvs:List (Key×V)}{k:Key}{v:V}(h:k∉kvs.map (·.1)):putK kvs k v=kvs++[(k,v)]:=by
 unfold putK
 rw[if_neg]
 intro z
 obtain⟨a,ha,e⟩:=Cy.mp z
 exact h (Bh.mpr ⟨a,ha,of_decide_eq_true e⟩)
theorem zEC:∀ (ks:List Key) {vs:List V} {ts:List T},Ims K H vs ts->FB (fun (a:Key×V) (b:Key×T)=>a.1=b.1/\Im K H a.2 b.2) (ks.zip vs) (ks.zip ts)
 | [],_,_,_=>.nil
 | a::r,vs,[],h=>by rw[h.inv0]; exact .nil
 | a::r,vs,t::ts,h=>by
  obtain⟨v,us,rfl,h1,h2⟩:=h.inv
  exact .cons ⟨rfl,h1⟩ (zEC r h2)
theorem zDO:∀ (more kvs:List (Key×V)),((kvs++more).map (·.1)).Nodup->mergeK kvs more=kvs++more
 | [],kvs,_=>by simp[mergeK]
 | p::r,kvs,h=>by
  show mergeK (putK kvs p.1 p.2) r=_
  have hn:p.1∉kvs.map (·.1):=fun z=>by
   rw[Cf,Ab]at h
   exact (List.nodup_append.mp h).2.2 _ z _ AZ rfl
  rw[zGv hn,zDO r (kvs++[p]) (by simpa using h)]
  simp
theorem zJg(h:SimP K trs ks fa):SimE K (tDisp trs) (dDispK ks fa):=by
 intro C w Γ σ H s Γ' Q R e k
 obtain⟨⟨ss,G1⟩,e1,e⟩:=bind_some e
 obtain⟨ts,e2,e⟩:=bind_some e
 split at e
 ·rename_i hk
  cases e
  intro p hp
  obtain⟨n1,n2,ow⟩:=R.fresh hp
  refine h C w Γ σ _ ss G1 _ (R.new hp) e1 fun vs H2 R2 ev2 o2 hl=>?_
  have hp2:H2 p=some (.dK []):=ev2 p _ zAj n1
  have hi:=zCu o2 e2
  have hts:ts.length=ks.length:=by rw[← hi.len]; exact hl
  refine⟨hp2,ks.zip vs,?_,by simp[List.length_zip,hl]; exact hk.1,?_⟩
  ·refine List.ext_getElem (by simp) fun i h1 h2=>?_
   simp
  have em:mergeK [] (ks.zip vs)=ks.zip vs:=by
   rw[zDO _ _ (by
    rw[Ce,List.map_fst_zip ⋯]
    exact hk.2)]
   rfl
  rw[em]
  refine k _ _ (R2.tmp n1 n2 ow hp2 trivial) (fun c o hcc nn=>?_) ⟨p,_,rfl,n1,n2,ow,zAj,?_⟩ ⟨p,rfl,hp⟩
  ·have ne:=zAW hcc hp
   rw[zAN ne]
   exact ev2 c o (by rw[zAN ne]; exact hcc) nn
  ·have ev3:Evo (p::w.L) H2 (upd H2 p (.dK (ks.zip vs))):=fun c o e n=>by rw[zAN (fun z:c=p=>n (by rw[z]; exact AZ))]; exact e
   have hL3:LL (p::w.L) H2:=fun q hq=>by
    rcases AH.mp hq with z | z
    ·subst z; exact⟨_,hp2,trivial⟩
    ·exact R2.lst q z
   have hi3:=hi.evo ev3 hL3
   exact (show DOk K _ (.dK (ks.zip vs)) (.inl (ks.zip ts)) from zEC ks hi3)
 ·cases e
section
variable {ι:Type}{K:Fg}{mg:Str->Option AD}{k:Nat}{X:ι->Cx}{fa:DA}{pos:Pos}{Γ:En}
def PX (K:Fg) (X:ι->Cx) (pos:Pos) (keys:List (Option Expr)) (values:List Expr) (ks:List Key) (fa:DA):Prop:=∃ trs,(∀ j,PPs (X j) pos keys values trs)/\SimP K trs ks fa
theorem zPD:PX K X pos [] [] [] qQ:=⟨[],fun _=>zNa,zLd⟩
theorem zGm(hv:EX K X e fv)(hr:PX K X pos keys values ks fa):PX K X pos (some (.Constant (.str x) j0 p0)::keys) (e::values) (.inr x::ks) (jW fv fa) :=
 let ⟨_,p,s⟩:=hv; let ⟨_,q,u⟩:=hr; ⟨_,fun j=>zK5 zJu (p j) (q j),zKX (.inr x) s u⟩
theorem zLh(h:PX K X pos keys values ks fa)(hall:keys.all (·.isSome)=true:=by rfl)(hl:keys.length=values.length:=by rfl)(h0:keys≠[]:=by exact nofun)(h15:keys.length<=15:=by decide):EX K X (.Dict keys values pos) (dDispK ks fa) :=
 let ⟨_,p,s⟩:=h; ⟨_,fun j=>zND (p j) hall hl h0 h15,zJg s⟩
@[simp,simp ↓] theorem zQv:dDispK ks fa Γ=bnd (fa Γ) (f:=⟨fun p=>bnd (trees p.1) (f:=⟨fun ts=>if ks.length<=15/\ks.Nodup then some (.d (.inl (ks.zip ts)),p.2) else none⟩)⟩):=rfl
end
end D
namespace D
open PySem L2
end D
namespace L2
open PySem PySem.Spec PyProof.Rows
theorem zL6(l:Addr)(v:AD)(n:Nat)(dd:Option Addr)(sl:Array (Option AD))(t:Tok) :
  Fc (Builtin.«tuple.__mul__» ⟨[.ref l,.int 0 t],[]⟩) (fun _ R s=>s.heap.get? l=some { cls:=.type "tuple",dict:=dd,data:=.seq #[v] n,slots:=sl }/\R (.ok (.ret (.ref s.heap.objs.size))) { s with heap:=s.heap.push { cls:=.type "tuple",data:=.seq #[] } }) :=
 .of_wp fun prog w A R s h=>by
  obtain⟨hp,g,d,tk,os⟩:=s; obtain⟨hl,h⟩:=h
  have f1:=DU; have f2:=CF
  wp_walk using CM hl
  exact⟨_,rfl,h⟩
def rRep0 (K:AM):R2:=fun x y H Q=>∃ a z,x=.ref a/\y=.int 0/\D.Tp K H a [z]/\∀ p H',Same H H'->D.Tp K H' p []->Q (.ref p) H'
theorem zNy:OpR X (CA .Mult) (rRep0 X.K):=by
 intro pins s σ H x y v u Q I rx ry h
 obtain⟨a,z,rfl,rfl,ht,q⟩:=h
 cases rx
 obtain⟨t,rfl⟩:=ry
 obtain⟨its,rv,⟨⟨cls,dd,data,sl⟩,ho,hc,n,hd⟩,hz2⟩:=I.tuple ht.sq
 obtain⟨w1,rfl,r1⟩:=vals1 rv
 simp only at hc hd
 subst hc hd
 refine DC (T:="tuple") (U:="int") ∅ ⟨_,ho,rfl⟩ (fun s'=>DX s' _ t) zBd E6 CJ zCN Ej.lookup
  (Bw CJ (DX s _ t) Ek (ET _ _) (zCP _ t a _ n dd sl) ⟨ho,rfl,⟨_,ho,rfl⟩,?_⟩)
 refine Bw CZ ⟨_,ho,rfl⟩ Da (DP _ _) (zL6 a w1 n dd sl t) ⟨ho,?_⟩
 have hf:H s.heap.objs.size=none:=I.hok.fresh (AF _)
 exact⟨.ref s.heap.objs.size,_,I.laid (t':=s.toks) (fun b o e=>AC _ e) (AF _) (show ObjOk X.prog X.w _ _ _ (.tup []) from ⟨by simp,[],.nil,TupD.new _ _⟩),rfl,q _ _ (Same.upd hf) (.inl zAj)⟩
end L2
namespace D
open PySem L2
def mulTup0:En->S->S->Option S:=fun _ a b=>match a,b with
 | .v (.t [_]),.v (.a (.int n))=>if n=0 then some (.v (.t [])) else none
 | _,_=>none
theorem zFi:SimR2 K (rRep0 K) mulTup0:=by
 intro C w Γ σ H x y a b s Q R ox oy e k
 unfold mulTup0 at e
 split at e
 ·split at e
  ·rename_i hl
   cases e
   obtain⟨p,vs,rfl,ht,hi⟩:=ox.invt
   obtain⟨v,r,rfl,i1,i2⟩:=hi.inv
   have:=i2.inv0
   subst this
   have ey:=oy.inva
   subst ey
   subst hl
   exact⟨p,v,rfl,rfl,ht,fun q H' hs hq=>k _ H' (R.same hs) (Evo.of_same hs) (by show Im K H' (.ref q) _; unfold Im; exact⟨q,_,rfl,hq,.nil⟩) trivial⟩
  ·cases e
 ·cases e
def mulS4:En->S->S->Option S:=fun Γ x y=>(mulS3 Γ x y).or (mulTup0 Γ x y)
end D
namespace L2
open PySem PySem.Spec PyProof.Rows
section
variable {prog:Am}{w:A0}{A:BJ}{E:AD->AG->Prop}{I:Addr}{fp wr:List Addr}{n:Nat}{St:Nat->Heap->Prop}{its:List AD}
theorem zFJ(W:KU prog w A I fp wr n (fun i v=>its[i]?=some v) St):∀ (m i:Nat) (s:AG) (Q:List AD->AG->Prop),St i s.heap->i+m<=n ->
  (∀ h' tk,St (i+m) h'->(∀ b o,b∉wr->s.heap.get? b=some o->h'.get? b=some o)->Q ((its.drop i).take m) { s with heap:=h',toks:=tk })->AQ (model prog w) A (draw (.ref I) m) Q E s
 | 0,i,s,Q,st,_,hQ=>AJ (by simpa using hQ s.heap s.toks st fun _ _ _ e=>e)
 | m+1,i,s,Q,st,hle,hQ=>by
  show AQ _ _ (D5 (.ref I) >>= _) Q E s
  refine AA (W.item i s _ _ ⋯ st fun v h' tk hv st' hk=>?_)
  refine AA (Br (zFJ W m (i+1) _ _ st' ⋯ fun h2 tk2 st2 hk2=>AJ ?_))
  have hv':its[i]?=some v:=hv
  obtain⟨hi,e⟩:=Aa.mp hv'
  have hd:its.drop i=v::its.drop (i+1):=by rw[ED hi,e]
  have:=hQ h2 tk2 (by rw[show i+(m+1)=i+1+m by lia]; exact st2) fun b o hb eo=>hk2 b o hb (hk b o hb eo)
  rw[hd,List.take_succ_cons]at this
  exact this
end
section
variable {X:Cx}{pins:List (Addr×Obj)}{s:AG}{σ:St}{H:Hp}{p:Addr}{vs:List V}
theorem zHH(hc:X.calm=true)(I:Inv X pins σ H s)(hq:SqL X.K H p vs)(hn:targets.length=vs.length)(hst:targets.findIdx? (·.1)=none)
  (h:∀ its s',Vals vs its->Inv X pins σ H s'->AQ (model X.prog X.w) X.A (Dt (targets.map (·.2)) its) Q E s'):AQ (model X.prog X.w) X.A (unpack (.ref p) targets) Q E s:=by
 obtain⟨its0,rv0,pl,hz⟩:=I.list hq
 have hl:=pl.isList
 unfold unpack
 rw[hst]
 refine AA (Br ?_)
 unfold IJ
 refine AA ?_
 unfold notIterableAtAll
 refine AA (CN hl.typeIs slot_list_iter.lookup ?_)
 refine AJ ?_
 simp only[D3,if_false]
 refine AA (Br (wpAny_of_in1 (zD4 hc I (.inl hq) fun its o St rv W st0 hlt=>?_)))
 have W1:=W.of_in1
 have hlen:its.length=vs.length:=rv.length.symm
 refine AA (Br (zFJ W1 targets.length 0 _ _ st0 ⋯ fun h1 tk1 st1 hk1=>?_))
 have hall:(its.drop 0).take targets.length=its:=by rw[GW]; exact BR ⋯
 rw[hall,if_neg ⋯]
 refine AA (Br (W1.done _ _ _ (by rw[show 0+targets.length=its.length by lia]at st1; exact st1) fun h2 tk2 hk2=>?_))
 simp only[Option.isSome_none,D3,if_false]
 refine AJ (h its _ rv ?_)
 exact I.kept fun b o e=>by
  have hb:b∉[s.heap.objs.size]:=fun z=>by rw[AE.mp z]at e; exact absurd (AK e) (BE _)
  exact hk2 b o hb (hk1 b o hb (AC _ e))
end
section
variable {X:Cx}{pos:Pos}
def gTupL (K:AM) (n:Nat) (t:TGs):TG:=fun v σ H Q=>∃ a xs,v=.ref a/\SqL K H a xs/\xs.length=n/\t xs σ H Q
theorem zNd(K:AM)(hK:X.K=K)(hc:X.calm=true)(h:PGs X es t)
  (hn:(BS es X.env).length=n:=by rfl) (hst:(BS es X.env).findIdx? (·.1)=none:=by rfl):PG X (.Tuple es k pos) (gTupL K n t):=by
 subst hK
 intro pins s σ H v u Q I r hw
 obtain⟨a,xs,e1,hq,hl,hw⟩:=hw
 subst e1
 cases r
 rw[assign_Tuple]
 exact AA (Du (zHH hc I hq ⋯ hst fun its s' rv I'=>h pins s' σ H xs its Q I' rv hw))
end
end L2
namespace D
open PySem L2
variable {K:Fg}
noncomputable def dUnpL (n:Nat) (g:En->List T->Option En) (f:DE):DS:=fun Γ=>(f Γ).bind fun p=>match p.1 with
 | .l xs=>if xs.length=n then (g p.2 xs).map .nx else none
 | _=>none
theorem zKO(h:SimE K te f)(hg:SimGs K ip gs fs):SimS K ip (tAsg te (gTupL K n gs)) (dUnpL n fs f):=by
 intro C w Γ σ H D o hp R e k
 obtain⟨⟨s,G1⟩,e1,e⟩:=bind_some e
 dsimp only at e
 split at e
 ·rename_i xs
  split at e
  ·rename_i hn
   obtain⟨Γ2,e3,e⟩:=zAI e
   subst e
   refine h C w Γ σ H _ G1 _ R e1 fun v H1 R1 ev1 o1 n1=>?_
   obtain⟨p,us,rfl,_,_,_,h1,h2⟩:=o1
   exact⟨p,us,rfl,SqL.of h1,by rw[h2.len]; exact hn,hg C w G1 σ H1 us xs Γ2 _ hp R1 h2 e3 fun σ' R'=>k w σ' H1 R'⟩
  ·cases e
 ·cases e
section
variable {ι:Type}{mg:Str->Option AD}{k:Nat}{X:ι->Cx}{ip:Option Nat}{e:Expr}{es:List Expr}{pos p0:Pos}{fa:DE}
theorem zHr(n:Nat)(M:Fm K mg k X)(he:EX K X e fa)(hg:GXs K X ip es gg)(hn:∀ j,(BS es (X j).env).length=n:=by intro _; rfl)(hst:∀ j,(BS es (X j).env).findIdx? (·.1)=none:=by intro _; rfl)
  (hs:∀ j,Cp [.Tuple es kk p0] e pos.line (X j).env=pure false:=by intro _; rfl) (hw:∀ j,Cq [.Tuple es kk p0] e (X j).env=pure none:=by intro _; rfl) (h1:∀ j,(BS [.Tuple es kk p0] (X j).env).map (·.2)=[assign (.Tuple es kk p0) (X j).env]:=by intro _; rfl):SX K X ip (.Assign [.Tuple es kk p0] e pos) (dUnpL n gg fa) :=
 let ⟨_,p,s⟩:=he; let ⟨_,q,u⟩:=hg; ⟨_,fun j=>zGc (p j) (zNd K (M.K j) (M.calm j) (q j) (hn j) (hst j)) (hs j) (hw j) (h1 j),zKO s u⟩
end
end D
namespace D
open PySem L2
open PySem.SeqAt
end D
namespace D
open PySem L2
abbrev EE:=AD->AG->Prop
end D
namespace D
open PySem L2
def PC (X:Cx) (ops:List G6) (rs:List Expr) (tc:V->TE):Prop :=
 ∀ (pos:Pos) (pins:List (Addr×Obj)) (s:AG) (σ:St) (H:Hp) (Q:VK) (x:V) (v:AD),Inv X pins σ H s->RelV x v->tc x σ H Q->AQ (model X.prog X.w) X.A (IC pos v ops (IL rs X.env)) (EP X pins σ Q) X.xe s
noncomputable def tLast (r:R2) (tb:TE):V->TE:=fun x σ H Q=>tb σ H fun y H1=>r x y H1 Q
noncomputable def tLink (r:R2) (tb:TE) (tc:V->TE):V->TE:=fun x σ H Q=>tb σ H fun y H1=>r x y H1 fun z H2=>∃ k,z=.bl k/\(if k=true then tc y σ H2 Q else Q (.bl false) H2)
section
variable {X:Cx}{a b:Expr}{ta tb:TE}{pos:Pos}
theorem zMu(ho:OpR X (BQ op) r)(hb:PE X b tb):PC X [op] [b] (tLast r tb):=by
 intro pos pins s σ H Q x v I rv h
 show AQ _ _ (IC pos v [op] [eval b X.env]) _ _ _
 exact J1 (thn (hb pins s σ H _ I h) fun u s1 ⟨y,H1,I1,r1,q1⟩=>ho pins s1 σ H1 x y v u Q I1 rv r1 q1)
theorem zNR(ho:OpR X (BQ op) r)(hb:PE X b tb)(hc:PC X (op'::ops) (c::rs) tc):PC X (op::op'::ops) (b::c::rs) (tLink r tb tc):=by
 intro pos pins s σ H Q x v I rv h
 show AQ _ _ (IC pos v (op::op'::ops) (eval b X.env::eval c X.env::IL rs X.env)) _ _ _
 refine J2 (thn (hb pins s σ H _ I h) fun u s1 ⟨y,H1,I1,r1,q1⟩=>thn (ho pins s1 σ H1 x y v u _ I1 rv r1 q1) fun d s3 ⟨z,H3,I3,r3,k,e,q3⟩=>?_)
 subst e
 cases r3
 refine ES ?_
 cases k with
 | false=>exact GR ⟨.bl false,H3,I3,rfl,q3⟩
 | true=>exact GS (hc pos pins s3 σ H3 Q y u I3 r1 q3)
theorem zKE(ha:PE X a ta)(hc:PC X (op::op'::ops) (b::c::rs) tc)(hm:Hl (op::op'::ops) (b::c::rs)=false) :
  PE X (.Compare a (op::op'::ops) (b::c::rs) pos) (fun σ H Q=>ta σ H fun x H1=>tc x σ H1 Q):=by
 intro pins s σ H Q I h
 exact J3 (thn (ha pins s σ H _ I h) fun v s1 ⟨x,H1,I1,r1,q1⟩=>hc pos pins s1 σ H1 Q x v I1 r1 q1) hm
end
def tTst (Q:Bool->Hp->Prop):VK:=fun v H=>∃ k,v=.bl k/\Q k H
def PD (X:Cx) (ops:List G6) (rs:List Expr) (tc:V->TE):Prop :=
 ∀ (pos:Pos) (pins:List (Addr×Obj)) (s:AG) (σ:St) (H:Hp) (Q:Bool->Hp->Prop) (x:V) (v:AD),Inv X pins σ H s->RelV x v->tc x σ H (tTst Q)->AQ (model X.prog X.w) X.A (Jf pos v ops (IL rs X.env)) (TP X pins σ Q) X.xe s
section
variable {X:Cx}{a b:Expr}{ta tb:TE}{pos:Pos}
theorem zM8(ho:OpR X (BQ op) r)(hb:PE X b tb):PD X [op] [b] (tLast r tb):=by
 intro pos pins s σ H Q x v I rv h
 show AQ _ _ (Jf pos v [op] [eval b X.env]) _ _ _
 refine J4 (thn (hb pins s σ H _ I h) fun u s1 ⟨y,H1,I1,r1,q1⟩=>thn (ho pins s1 σ H1 x y v u _ I1 rv r1 q1) fun d s2 ⟨z,H2,I2,r2,k,e,q2⟩=>?_)
 subst e
 cases r2
 exact ES ⟨H2,I2,q2⟩
theorem zMZ(ho:OpR X (BQ op) r)(hb:PE X b tb)(hc:PD X (op'::ops) (c::rs) tc):PD X (op::op'::ops) (b::c::rs) (tLink r tb tc):=by
 intro pos pins s σ H Q x v I rv h
 show AQ _ _ (Jf pos v (op::op'::ops) (eval b X.env::eval c X.env::IL rs X.env)) _ _ _
 refine J5 (thn (hb pins s σ H _ I h) fun u s1 ⟨y,H1,I1,r1,q1⟩=>thn (ho pins s1 σ H1 x y v u _ I1 rv r1 q1) fun d s3 ⟨z,H3,I3,r3,k,e,q3⟩=>?_)
 subst e
 cases r3
 refine ES ?_
 cases k with
 | false =>
  obtain⟨k',e',q'⟩:=q3
  cases e'
  exact GR ⟨H3,I3,q'⟩
 | true=>exact GS (hc pos pins s3 σ H3 Q y u I3 r1 q3)
theorem zJi(ha:PE X a ta)(hc:PD X (op::op'::ops) (b::c::rs) tc)(hm:Hl (op::op'::ops) (b::c::rs)=false) :
  PT X (.Compare a (op::op'::ops) (b::c::rs) pos) (tTest fun σ H Q=>ta σ H fun x H1=>tc x σ H1 Q):=by
 intro pins s σ H Q I h
 exact J6 (thn (ha pins s σ H _ I h) fun v s1 ⟨x,H1,I1,r1,q1⟩=>hc pos pins s1 σ H1 Q x v I1 r1 q1) hm
end
noncomputable def dLast (h:En->S->S->Option S) (fb:DE):S->DE:=fun a Γ=>(fb Γ).bind fun q=>(h q.2 a q.1).map fun s=>(s,q.2)
def dLink (h:En->S->S->Option S) (fb:DE) (fc:S->DE):S->DE:=fun a Γ=>(fb Γ).bind fun q=>(h q.2 a q.1).bind fun z=>match z with
 | .v (.a (.bl k))=>if k=true then fc q.1 q.2 else some (.v (.a (.bl false)),q.2)
 | _=>none
noncomputable def dChainN (fa:DE) (fc:S->DE):DE:=fun Γ=>(fa Γ).bind fun p=>fc p.1 p.2
def SimC (K:Fg) (tc:V->TE) (fc:S->DE):Prop:=∀ (C:Fr) (w:W) (Γ:En) (σ:St) (H:Hp) (x:V) (a s:S) (Γ':En) (Q:VK),Rep K C w Γ σ H->SOk K C w σ H x a->fc a Γ=some (s,Γ') ->
 (∀ v H',Rep K C w Γ' σ H'->Evo w.L H H'->SOk K C w σ H' v s->Nw H v s->Q v H')->tc x σ H Q
section
variable {K:Fg}
theorem zFL(hr:SimR2 K r h)(hb:SimE K tb fb):SimC K (tLast r tb) (dLast h fb):=by
 intro C w Γ σ H x a s Γ' Q R ox e k
 obtain⟨⟨q,G2⟩,e2,e⟩:=bind_some e
 obtain⟨z,e3,e⟩:=zAI e
 cases e
 refine hb C w Γ σ H q G2 _ R e2 fun v2 H2 R2 ev2 o2 n2=>?_
 exact hr C w G2 σ H2 x v2 _ _ _ _ R2 (ox.evo ev2 R.lst) o2 e3 fun v H3 R3 ev3 o3 n3=>k v H3 R3 (ev2.trans ev3) o3 (n3.back ev2 R2.lst)
theorem zFZ(hr:SimR2 K r h)(hb:SimE K tb fb)(hc:SimC K tc fc):SimC K (tLink r tb tc) (dLink h fb fc):=by
 intro C w Γ σ H x a s Γ' Q R ox e k
 obtain⟨⟨q,G2⟩,e2,e⟩:=bind_some e
 obtain⟨z,e3,e⟩:=bind_some e
 dsimp only at e3 e
 refine hb C w Γ σ H q G2 _ R e2 fun v2 H2 R2 ev2 o2 n2=>?_
 refine hr C w G2 σ H2 x v2 _ _ _ _ R2 (ox.evo ev2 R.lst) o2 e3 fun v H3 R3 ev3 o3 n3=>?_
 split at e
 ·rename_i c
  refine⟨c,SOk.inva o3,?_⟩
  cases c with
  | true =>
   rw[if_pos rfl]at e ⊢
   exact hc C w G2 σ H3 v2 q s Γ' Q R3 (o2.evo ev3 R2.lst) e fun v H4 R4 ev4 o4 n4=>k v H4 R4 ((ev2.trans ev3).trans ev4) o4 (n4.back (ev2.trans ev3) R3.lst)
  | false =>
   rw[if_neg AO]at e ⊢
   cases e
   exact k _ H3 R3 (ev2.trans ev3) SOk.atom trivial
 ·cases e
theorem zEE(ha:SimE K ta fa)(hc:SimC K tc fc):SimE K (fun σ H Q=>ta σ H fun x H1=>tc x σ H1 Q) (dChainN fa fc):=by
 intro C w Γ σ H s Γ' Q R e k
 obtain⟨⟨p,G1⟩,e1,e⟩:=bind_some e
 refine ha C w Γ σ H p G1 _ R e1 fun v1 H1 R1 ev1 o1 n1=>?_
 exact hc C w G1 σ H1 v1 p s Γ' Q R1 o1 e fun v H2 R2 ev2 o2 n2=>k v H2 R2 (ev1.trans ev2) o2 (n2.back ev1 R1.lst)
end
def HX {ι:Type} (K:Fg) (X:ι->Cx) (ops:List G6) (rs:List Expr) (f:S->DE):Prop:=∃ t,(∀ j,PC (X j) ops rs t)/\SimC K t f
def HT {ι:Type} (K:Fg) (X:ι->Cx) (ops:List G6) (rs:List Expr) (f:S->DE):Prop:=∃ t,(∀ j,PD (X j) ops rs t)/\SimC K t f
section
variable {ι:Type}{K:Fg}{X:ι->Cx}{a b c:Expr}{pos:Pos}{fa fb:DE}
theorem zMT(hc:CmpR K X op h)(hb:EX K X b fb):HX K X [op] [b] (dLast h fb) :=
 let ⟨_,p,q⟩:=hc.ex; let ⟨_,b1,b2⟩:=hb; ⟨_,fun j=>zMu (p j) (b1 j),zFL q b2⟩
theorem zEj(hc:CmpR K X op h)(hb:EX K X b fb)(ht:HX K X (op'::ops) (c::rs) fc):HX K X (op::op'::ops) (b::c::rs) (dLink h fb fc) :=
 let ⟨_,p,q⟩:=hc.ex; let ⟨_,b1,b2⟩:=hb; let ⟨_,c1,c2⟩:=ht; ⟨_,fun j=>zNR (p j) (b1 j) (c1 j),zFZ q b2 c2⟩
theorem zKA(ha:EX K X a fa)(ht:HX K X (op::op'::ops) (b::c::rs) fc)(hm:Hl (op::op'::ops) (b::c::rs)=false:=by with_unfolding_all rfl) :
  EX K X (.Compare a (op::op'::ops) (b::c::rs) pos) (dChainN fa fc) :=
 let ⟨_,a1,a2⟩:=ha; let ⟨_,c1,c2⟩:=ht; ⟨_,fun j=>zKE (a1 j) (c1 j) hm,zEE a2 c2⟩
theorem zNZ(hc:CmpR K X op h)(hb:EX K X b fb):HT K X [op] [b] (dLast h fb) :=
 let ⟨_,p,q⟩:=hc.ex; let ⟨_,b1,b2⟩:=hb; ⟨_,fun j=>zM8 (p j) (b1 j),zFL q b2⟩
theorem zEp(hc:CmpR K X op h)(hb:EX K X b fb)(ht:HT K X (op'::ops) (c::rs) fc):HT K X (op::op'::ops) (b::c::rs) (dLink h fb fc) :=
 let ⟨_,p,q⟩:=hc.ex; let ⟨_,b1,b2⟩:=hb; let ⟨_,c1,c2⟩:=ht; ⟨_,fun j=>zMZ (p j) (b1 j) (c1 j),zFZ q b2 c2⟩
theorem zJv(ha:EX K X a fa)(ht:HT K X (op::op'::ops) (b::c::rs) fc)(hm:Hl (op::op'::ops) (b::c::rs)=false:=by with_unfolding_all rfl) :
  TX K X (.Compare a (op::op'::ops) (b::c::rs) pos) (dTest (dChainN fa fc)) :=
 let ⟨_,a1,a2⟩:=ha; let ⟨_,c1,c2⟩:=ht; ⟨_,fun j=>zJi (a1 j) (c1 j) hm,zCR (zEE a2 c2)⟩
end
end D
namespace L2
open PySem PySem.Spec PyProof.Rows
theorem zKL(l:Addr)(v v':AD)(n:Nat)(dd:Option Addr)(sl:Array (Option AD))(t:Tok) :
  Fc (Builtin.«tuple.__mul__» ⟨[.ref l,.int 0 t],[]⟩) (fun _ R s=>s.heap.get? l=some { cls:=.type "tuple",dict:=dd,data:=.seq #[v,v'] n,slots:=sl }/\R (.ok (.ret (.ref s.heap.objs.size))) { s with heap:=s.heap.push { cls:=.type "tuple",data:=.seq #[] } }) :=
 .of_wp fun prog w A R s h=>by
  obtain⟨hp,g,d,tk,os⟩:=s; obtain⟨hl,h⟩:=h
  have f1:=DU; have f2:=CF
  wp_walk using CM hl
  exact⟨_,rfl,h⟩
theorem zJt(l:Addr)(n:Nat)(dd:Option Addr)(sl:Array (Option AD))(t:Tok) :
  Fc (Builtin.«tuple.__mul__» ⟨[.ref l,.int 0 t],[]⟩) (fun _ R s=>s.heap.get? l=some { cls:=.type "tuple",dict:=dd,data:=.seq #[] n,slots:=sl }/\R (.ok (.ret (.ref l))) s) :=
 .of_wp fun prog w A R s h=>by
  obtain⟨hp,g,d,tk,os⟩:=s; obtain⟨hl,h⟩:=h
  have f1:=DU; have f2:=CF
  wp_walk using CM hl
  exact⟨_,rfl,h⟩
def rRepZ (K:AM):R2:=fun x y H Q=>∃ a zs,x=.ref a/\y=.int 0/\D.Tp K H a zs/\(zs=[]\/zs.length=2)/\∀ p H',Same H H'->D.Tp K H' p []->Q (.ref p) H'
theorem zNj:OpR X (CA .Mult) (rRepZ X.K):=by
 intro pins s σ H x y v u Q I rx ry h
 obtain⟨a,zs,rfl,rfl,ht,hz,q⟩:=h
 cases rx
 obtain⟨t,rfl⟩:=ry
 obtain⟨its,rv,⟨⟨cls,dd,data,sl⟩,ho,hc,n,hd⟩,hz2⟩:=I.tuple ht.sq
 simp only at hc hd
 subst hc hd
 refine DC (T:="tuple") (U:="int") ∅ ⟨_,ho,rfl⟩ (fun s'=>DX s' _ t) zBd E6 CJ zCN Ej.lookup
  (Bw CJ (DX s _ t) Ek (ET _ _) (zCP _ t a _ n dd sl) ⟨ho,rfl,⟨_,ho,rfl⟩,?_⟩)
 have hf:H s.heap.objs.size=none:=I.hok.fresh (AF _)
 rcases hz with rfl | hz
 ·have:its=[]:=Ea.mp (by rw[← rv.length]; rfl)
  subst this
  refine Bw CZ ⟨_,ho,rfl⟩ Da (DP _ _) (zJt a n dd sl t) ⟨ho,?_⟩
  exact⟨.ref a,H,I,rfl,q a H (Same.refl H) ht⟩
 ·match its,(show its.length=2 by rw[← rv.length]; exact hz) with
  | [w1,w2],_ =>
   refine Bw CZ ⟨_,ho,rfl⟩ Da (DP _ _) (zKL a w1 w2 n dd sl t) ⟨ho,?_⟩
   exact⟨.ref s.heap.objs.size,_,I.laid (t':=s.toks) (fun b o e=>AC _ e) (AF _) (show ObjOk X.prog X.w _ _ _ (.tup []) from ⟨by simp,[],.nil,TupD.new _ _⟩),rfl,q _ _ (Same.upd hf) (.inl zAj)⟩
end L2
namespace D
open PySem L2
def mulTupZ:En->S->S->Option S:=fun _ a b=>match a,b with
 | .v (.t xs),.v (.a (.int n))=>if n=0/\(xs=[]\/xs.length=2) then some (.v (.t [])) else none
 | _,_=>none
theorem zFo:SimR2 K (rRepZ K) mulTupZ:=by
 intro C w Γ σ H x y a b s Q R ox oy e k
 unfold mulTupZ at e
 split at e
 ·split at e
  ·rename_i hl
   cases e
   obtain⟨p,vs,rfl,ht,hi⟩:=ox.invt
   have ey:=oy.inva
   subst ey
   obtain⟨hl0,hl⟩:=hl
   subst hl0
   refine⟨p,vs,rfl,rfl,ht,?_,fun q H' hs hq=>k _ H' (R.same hs) (Evo.of_same hs) (by show Im K H' (.ref q) _; unfold Im; exact⟨q,_,rfl,hq,.nil⟩) trivial⟩
   rcases hl with rfl | hl
   ·exact .inl hi.inv0
   ·exact .inr (hi.len.trans hl)
  ·cases e
 ·cases e
def mulS5:En->S->S->Option S:=fun Γ x y=>(mulS4 Γ x y).or (mulTupZ Γ x y)
section
variable {ι:Type}{K:Fg}{mg:Str->Option AD}{k:Nat}{X:ι->Cx}{a b:Expr}{pos:Pos}{fa fb:DE}
theorem zNI(M:Fm K mg k X)(ha:EX K X a fa)(hb:EX K X b fb):EX K X (.BinOp a .Mult b pos) (dOp mulS5 fa fb):=zC2 (fun j=>by have:=((zHl.or (zNL (X:=X j))).or (zNy (X:=X j))).or (zNj (X:=X j)); rw[M.K j]at this; exact this) ((zH7.or zFi).or zFo) ha hb
end
@[simp] theorem zRa:mulS5 Γ (.v (.t [x])) (.v (⇑0))= ~~~(.t []):=(rfl)
@[simp] theorem zRp:mulS5 Γ (.v (.t [x])) (.v (⇑1))= ~~~(.t [x]):=(rfl)
@[simp] theorem zRA:mulS5 Γ (.v (.t [])) (.v (⇑0))= ~~~(.t []):=(rfl)
@[simp] theorem zQ3:mulS5 Γ (.v (.t [x,y])) (.v (⇑0))= ~~~(.t []):=(rfl)
def dDGetT (fo fk:DE):DE:=fun Γ=>(fo Γ).bind fun p=>if (dictOf p.2 p.1).isSome=true then (fk p.2).bind fun q=>(dictOf q.2 p.1).bind fun d=>match d,q.1 with
 | .inl kvs,.v t=>(keyT t).map fun k=>(.v ((valT kvs k).getD (.a .non)),q.2)
 | _,_=>none
 else none
theorem zKu(ho:SimE K td fo)(hk:SimE K ty fk):SimE K (tDGet1 td ty) (dDGetT fo fk):=by
 intro C w Γ σ H s Γ' Q R e k
 obtain⟨⟨a,G1⟩,e1,e⟩:=bind_some e
 dsimp only at e
 split at e
 rotate_left
 ·cases e
 rename_i hs0
 obtain⟨d0,hs0⟩:=C3.mp hs0
 obtain⟨⟨b,G2⟩,e2,e⟩:=bind_some e
 obtain⟨d,e3,e⟩:=bind_some e
 dsimp only at e
 split at e
 rotate_left
 ·cases e
 rename_i kvs t
 obtain⟨ky,e4,e⟩:=zAI e
 cases e
 refine ho C w Γ σ H a G1 _ R e1 fun v H1 R1 ev1 o1 n1=>?_
 obtain⟨p,ob,rfl,hp,hd⟩:=zHu R1 o1 hs0
 refine⟨p,rfl,hd.isD hp,?_⟩
 refine hk C w G1 σ H1 _ _ _ R1 e2 fun y H2 R2 ev2 o2 n2=>?_
 obtain⟨p2,ob2,ep,hp2,hd2⟩:=zHu R2 (o1.evo ev2 R1.lst) e3
 cases ep
 obtain⟨l,rfl,h1⟩:=hd2.invK
 have hy:=zEl o2 e4
 subst hy
 refine⟨_,DGet.k hp2,?_⟩
 rcases h1.val ky with ⟨a,b⟩ | ⟨v,t',a,b,c⟩
 ·rw[a]
  refine k _ H2 R2 (ev1.trans ev2) ?_ trivial
  rw[b]
  exact SOk.atom
 ·rw[a]
  refine k _ H2 R2 (ev1.trans ev2) ?_ trivial
  rw[b]
  exact c
section
variable {ι:Type}{K:Fg}{mg:Str->Option AD}{k:Nat}{X:ι->Cx}{o e:Expr}{fo fk:DE}{apos cpos:Pos}
theorem zLI(M:Fm K mg k X)(ho:EX K X o fo)(hk:EX K X e fk)(m:∀ j,M1 (X j) o "get" apos e cpos:=by intro _; exact⟨rfl,rfl,rfl,rfl⟩):EX K X (.Call (.Attribute o "get" apos) [e] [] cpos) (dDGetT fo fk) :=
 let ⟨_,p,s⟩:=ho; let ⟨_,q,u⟩:=hk; ⟨_,fun j=>zK3 (un1 M j) (p j) (q j) (m j),zKu s u⟩
end
@[simp low] theorem zTB{α:Type}{x y:α}:ifB b (x:=⟨x⟩) (y:=⟨y⟩)=if b=true then x else y:=rfl
end D
namespace D
open PySem L2
open PySem.SeqAt
end D
namespace L2
open PySem PySem.Spec PyProof.Rows PySem.W
section
variable {prog:Am}{w:A0}{A:BJ}{E:AD->AG->Prop}{s:AG}{T:String}{r d:Addr}{n:Nat}{P:Nat->AD->Prop}{St:Nat->Heap->Prop}
theorem zHK(K:Kds prog w T r d n P St)(hh:A.handled=none)(hok:St 0 s.heap)(hn:n<=AB)
  (h:∀ (h':Heap) (tk:Nat) (acc:Array AD),(∀ b o,b≠r->s.heap.get? b=some o->h'.get? b=some o)->De P acc n->R acc.toList { s with heap:=h',toks:=tk }):AQ (model prog w) A (collect (.ref r)) R E s:=by
 have hlt:=K.there _ hok
 unfold collect
 refine AA (KO (D8 PySem.F.entry_proto_collect ?_)); rw[Cn PySem.F.plain_proto_collect _]
 refine AA (m:=JB []) (Au (AJ ⟨Eo Ga _,D8 PySem.F.entry_list_iadd ?_⟩)); rw[Cn Ga _]
 have g1:(s.heap.push { cls:=.type "list",data:=.seq ([]:List AD).toArray }).get? s.heap.objs.size=some { cls:=.type "list",data:=.seq #[] }:=AI _ rfl
 have fin:∀ (h':Heap) (tk:Nat) (acc:Array AD) (c:Nat),(∀ b o,b≠r->s.heap.get? b=some o->h'.get? b=some o)->h'.get? s.heap.objs.size=some { cls:=.type "list",dict:=none,data:=.seq acc c,slots:=#[] }->De P acc n ->
   AQ (model prog w) A (load s.heap.objs.size >>= fun o=>match o.data with | .seq xs _=>pure xs.toList | _=>unsupported "internal:collect") R E { s with heap:=h',toks:=tk }:=fun h' tk acc c hk hS hacc=>AA (Ig hS (AJ (h h' tk acc hk hacc)))
 show AQ (model prog w) A.in1 (Ba (.ref s.heap.objs.size) (.ref r) (.ref s.heap.objs.size)) _ _ { s with heap:=s.heap.push { cls:=.type "list",data:=.seq ([]:List AD).toArray } }
 refine B3 (zEc (A:=A) (s:={ s with heap:=s.heap.push { cls:=.type "list",data:=.seq ([]:List AD).toArray } })
  (R:=fun (q:Result) (s':AG)=>∃ (h':Heap) (tk:Nat) (acc:Array AD) (c:Nat),q=.ok (.ret (.ref s.heap.objs.size))/\s'={ s with heap:=h',toks:=tk }/\(∀ b o,b≠r->s.heap.get? b=some o->h'.get? b=some o)/\h'.get? s.heap.objs.size=some { cls:=.type "list",dict:=none,data:=.seq acc c,slots:=#[] }/\De P acc n)
  K hh ((K.walks A hh).frame 0 _ _ hok fun b _ o e=>AC _ e) s.heap.objs.size (B4 hlt.1) (B4 hlt.2) (.ref s.heap.objs.size) 0 g1
  (fun h' tk acc c hk hS hacc=>⟨h',tk,acc,c,rfl,rfl,fun b o hb e=>hk b o (Ae (AK e)) hb (AC _ e),hS,hacc⟩) hn) (fun fi s' x=>?_) fun e s' x=>?_
 ·cases fi with
  | done f =>
   obtain⟨h',tk,acc,c,e,rfl,hk,hS,hacc⟩:=x
   cases e
   exact fin h' tk acc c hk hS hacc
  | again c₁ =>
   refine⟨x.1,FG x.2 fun q s₂ y=>?_⟩
   obtain⟨h',tk,acc,c,rfl,rfl,hk,hS,hacc⟩:=y
   exact fin h' tk acc c hk hS hacc
 ·obtain⟨_,_,_,_,e',_⟩:=x
  cases e'
theorem zE9(K:Kds prog w T r d n P St)(hh:A.handled=none)(hok:St 0 s.heap)(hn:n<=AB)
  (h:∀ (h':Heap) (tk:Nat) (acc:Array AD),(∀ b o,b≠r->s.heap.get? b=some o->h'.get? b=some o)->De P acc n->Q (.ref h'.objs.size) { s with heap:=h'.push { cls:=.type "tuple",data:=.seq acc },toks:=tk }):AQ (model prog w) A (call (.type "tuple") [.ref r]) Q E s:=by
 refine KY (Q₁:=fun obj s₁=>s₁.TypeIs obj "tuple"/\Q obj s₁) Er (PySem.F.typeCall_tuple_1 _) PySem.F.entry_object_init ?_ fun obj s₁ h₁=>⟨h₁.1,PySem.F.args_object_init_2 obj _,object_init_meets Er.init.lookup Er.made ∅ prog w A.in1 _ s₁ ⟨h₁.1,rfl,h₁.2⟩⟩
 refine codeAny_of_tree ?_
 show AQ _ A.in1.in1 (do checkBuiltinCall "tuple.__new__" ⟨[.type "tuple",.ref r],[]⟩; again (.builtin "tuple.__new__" ⟨[.type "tuple",.ref r],[]⟩)) _ _ s
 refine AA (Bz (PySem.F.newCall_tuple_1 _) (AJ ⟨Eo Gb _,D8 PySem.F.entry_tuple_new ?_⟩))
 rw[Cn Gb _]
 have hsub:=KP
 have hinit:=JE
 have hmh:=KQ
 have hTI:=K.type s hok
 have nt:=K.notTuple
 wp_walk using EG hTI,zHK (A:=A.in1.in1) K (by exact hh) hok hn
 intro h' tk acc kp hacc
 show AQ _ _ (BH acc.toList.toArray >>= fun v=>ret v) _ _ _
 unfold BH
 refine AA (Au ?_ (by show acc.toList.toArray.size<=AB; simp only[Df]; rw[hacc.1]; exact hn))
 refine AJ ?_
 rw[Df]
 exact⟨⟨_,AI _ rfl,rfl⟩,h h' tk acc kp hacc⟩
end
section
variable {X:Cx}
def tTRev (K:AM) (ta:TA):TE:=fun σ H Q=>ta σ H fun vs H1=>∃ (a:Addr) (xs:List V),vs=[.ref a]/\SqT K H1 a xs/\∀ l,H1 l=none->Q (.ref l) (upd H1 l (.tup xs.reverse))
theorem zMd(hr:X.A.handled=none)(hg0:Gl X "tuple")(hm0:X.mg "tuple"=none)(hg1:Gl X "reversed")(hm1:X.mg "reversed"=none)(ha:PA X [e1] ta)
  (hs:AU [e1] X.env=[(false,eval e1 X.env)]:=by rfl)
  (hs3:AU [.Call (.Name "reversed" p1) [e1] [] pos1] X.env=[(false,eval (.Call (.Name "reversed" p1) [e1] [] pos1) X.env)]:=by rfl) :
  PE X (.Call (.Name "tuple" p0) [.Call (.Name "reversed" p1) [e1] [] pos1] [] pos0) (tTRev X.K ta):=by
 intro pins s σ H Q I h
 refine Gn (zBH I hg0 hm0 Fx (An ?_ hs3 rfl))
 rw[hs3]
 refine Dx (Gn (zBH I hg1 hm1 Ha (An (thn (ha pos1 pins s σ H _ I h) fun us s1 ⟨vs,H1,I1,r1,q1⟩=>?_) (by rw[hs]; rfl) (by rfl))))
 obtain⟨a,xs,e,hq,q⟩:=q1
 subst e
 obtain⟨u1,e,r⟩:=r1.one
 subst e
 cases r
 obtain⟨its,rv,pl,z⟩:=I1.tuple hq
 have l1:=rv.length
 have htup:s1.heap.IsTuple a its.toArray:=pl
 have lt1:a < s1.heap.objs.size:=by obtain⟨o,e,_⟩:=htup; exact AK e
 refine EH zFX ∅ (Hk _) (IA _) (fun obj=>Ds obj _) IB (zFU a its.toArray (by rw[AL]; lia)) ⟨htup,?_⟩
 have g:=AI s1.heap (o:={ cls:=.type "reversed",data:=.fields #[.ref a,Cu ((its.toArray.size:Int) - 1)] }) rfl
 refine⟨⟨_,g,rfl⟩,DK ?_⟩
 refine zE9 (zHZ (Ae lt1) its.toArray (by rw[AL]; lia)) hr ⟨Ca _,by simpa using g,by
  obtain⟨o,e,q⟩:=htup
  exact⟨o,AC _ e,q⟩⟩ (by rw[AL]; lia) fun h' tk acc kp hacc=>?_
 have ea:=zDU hacc
 have kk:∀ b o,s1.heap.get? b=some o->h'.get? b=some o:=fun b o e=>kp b o (Ae (AK e)) (AC _ e)
 have I2:Inv X pins σ H1 { s1 with heap:=h' }:=I1.kept (t':=s1.toks) kk
 refine⟨.ref h'.objs.size,upd H1 h'.objs.size (.tup xs.reverse),?_,rfl,q _ (I2.hok.fresh (AF _))⟩
 refine I2.laid (t':=tk) (fun b o e=>AC _ e) (AF _) ⟨by rw[List.length_reverse]; lia,its.reverse,rv.rev,?_⟩
 rw[← ea]
 exact⟨_,AI _ rfl,rfl,⟨_,rfl⟩,rfl⟩
end
end L2
namespace D
open PySem L2
def dTRev (fa:DA):DE:=fun Γ=>(fa Γ).bind fun p=>match p.1 with
 | [.v (.t xs)]=>some (.v (.t xs.reverse),p.2)
 | _=>none
theorem zLf(ha:SimA K ta fa):SimE K (tTRev K ta) (dTRev fa):=by
 intro C w Γ σ H s Γ' Q R e k
 obtain⟨⟨as,G1⟩,e1,e⟩:=bind_some e
 dsimp only at e
 split at e
 ·rename_i xs
  cases e
  refine ha C w Γ σ H _ _ _ R e1 fun vs H1 R1 ev1 o1 n1=>?_
  obtain⟨v,rfl,o2⟩:=soks1 o1
  obtain⟨p,us,rfl,h1,i1⟩:=(show Im K H1 v (.t xs) from o2).inv
  exact⟨p,us,rfl,h1.sq,fun l hl=>k _ _ (R1.new hl) (ev1.trans (Evo.new hl)) (R1.newt hl i1.rev) trivial⟩
 ·cases e
section
variable {ι:Type}{K:Fg}{X:ι->Cx}{mg:Str->Option AD}{k:Nat}{a b:Expr}{da:DE}{db:DA}{p pos pos2:Pos}{Γ:En}
theorem zMe(M:Fm K mg k X)(hm0:mg "tuple"=none)(hm1:mg "reversed"=none)(ha:AX K X [a] db)(hg0:∀ j,Gl (X j) "tuple":=by intro _; rfl)(hg1:∀ j,Gl (X j) "reversed":=by intro _; rfl)
  (hs:∀ j,AU [a] (X j).env=[(false,eval a (X j).env)]:=by intro _; rfl)
  (hs3:∀ j,AU [.Call (.Name "reversed" p1) [a] [] pos1] (X j).env=[(false,eval (.Call (.Name "reversed" p1) [a] [] pos1) (X j).env)]:=by intro _; rfl) :
  EX K X (.Call (.Name "tuple" p0) [.Call (.Name "reversed" p1) [a] [] pos1] [] pos0) (dTRev db) :=
 let ⟨t,q,u⟩:=ha; ⟨tTRev K t,fun j=>by have:=zMd (p0:=p0) (p1:=p1) (pos0:=pos0) (pos1:=pos1) (M.room j).hd (hg0 j) (by rw[M.mg]; exact hm0) (hg1 j) (by rw[M.mg]; exact hm1) (q j) (hs j) (hs3 j); rw[M.K j]at this; exact this,zLf u⟩
@[simp] theorem zQ5:dTRev db Γ=(db Γ).bind fun p=>match p.1 with
 | [.v (.t xs)]=>some (.v (.t xs.reverse),p.2)
 | _=>none:=(rfl)
end
end D
namespace Lw
open PySem.W (mg_of mg_none_of nsIn fnOf)
open PyProof.Rows (boot_all boot_bool boot_isinstance boot_max boot_min boot_sorted boot_sum boot_tuple)
open PySem L2 D
def top (i:Nat):Stmt:=PySem.Challenge.pw_fivecups_k27_papers_bent.main.body.getD i (.Pass ⟨0,0,0,0⟩)
section
variable {P:Am}{wd:A0}{K:AM}{mg:Str->Option AD}{base:Heap}
abbrev zCc:Nat:=60
abbrev zEZ:Nat:=12
abbrev zCm:Nat:=60
abbrev zDM:Nat:=60
abbrev zAy:Nat:=12
abbrev zCr:Nat:=60
abbrev zDC:Nat:=60
abbrev zDQ:Nat:=12
abbrev zEI:Nat:=12
local macro_rules | `(tactic| walk_at "s") => `(tactic| exact ⟨rfl,rfl,rfl,by decide +kernel,rfl,by decide +kernel,by decide +kernel⟩)
abbrev st_9:Stmt:=top 34
theorem sc_9:FnScope ["_law_script","_law_k","_law_cell","_law_seed"] ["_law_script","_law_k"] (defScope st_9):=by walk_at "s"
def d_9:DS:=dSeq (dSet 2 (dOp addS (dOp mulS (dC (.int 7919)) (jV 1)) (dC (.int 11))))
 (dSeq (dIf (dTest (dOp ltS (jV 1) (dCB lenS (jW (jV 0) qQ)))) (dSet 2 (dOp ixS (jV 0) (jV 1))) (dIf (dTest (dOp gtS (dCB lenS (jW (jV 0) qQ)) (dC (.int 0)))) (dSet 2 (dOp addS (jV 2) (dOp mulS (dOp modS (dOp ixS (jV 0) (dOp modS (jV 1) (dCB lenS (jW (jV 0) qQ)))) (dC (.int 2147483629))) (dC (.int 69623))))) dNext))
 (dSeq (dSet 3 (dOp addS (dOp modS (dOp addS (dOp mulS (dOp modS (jV 2) (dC (.int 2147483629))) (dC (.int 48271))) (dOp mulS (dC (.int 40692)) (jV 1))) (dC (.int 2147483629))) (dC (.int 1))))
 (dRet (dLst (jW (dOp ixS (dLst (jW (dC (.int 0)) (jW (jV 2) qQ))) (dCB intS (jW (dOp geS (jV 2) (dOp powS (dC (.int 10)) (dC (.int 18)))) qQ))) (jW (jV 3) qQ))))))
def F_9:DF:=fnD none 2 4 d_9
theorem ok_9(Fn:Fun K "_law_box" "_law_box" st_9 f fd)(hm:mg "_law_box"=some (.ref f))(hb:Binds K fd ["_law_script","_law_k"] [])(z_int:mg "int"=none)(z_len:mg "len"=none):FD P wd K mg base (1) "_law_box" none 2 F_9 :=
 zAU (k:=0) Fn sc_9 hm hb fun cdv A outer s H E M B=>zAA (zAH 2 (zAP M (zBA jJ (jZ 1)) jJ) (hN:=fun _=>sc_9.nd))
 (zAA (zAR (tx_c zBC (jZ 1) (zAS M (zAc M) z_len Af (jQ (jZ 0) jY))) (zAD (zAH 2 (zAE M (jZ 0) (jZ 1)) (hN:=fun _=>sc_9.nd))) (zAD (zAR (tx_c zCE (zAS M (zAc M) z_len Af (jQ (jZ 0) jY)) jJ) (zAD (zAH 2 (zAP M (jZ 2) (zBA (zBL (zAE M (jZ 0) (zBL (jZ 1) (zAS M (zAc M) z_len Af (jQ (jZ 0) jY)))) jJ) jJ)) (hN:=fun _=>sc_9.nd))) zAL)))
 (zAA (zAH 3 (zAP M (zBL (zAP M (zBA (zBL (jZ 2) jJ) jJ) (zBA jJ (jZ 1))) jJ) jJ) (hN:=fun _=>sc_9.nd))
 (zAD (zAF (zAX (jQ (zAE M (zAX (jQ jJ (jQ (jZ 2) jY))) (zBF M (zDE) z_int (by decide +kernel) (jQ (ex_c zP9 (jZ 2) (zOb jJ jJ)) jY))) (jQ (jZ 3) jY)))))))
abbrev zH3:Stmt:=top 35
theorem zIx:FnScope ["_law_box_here","_law_wide","_law_digit","_law_one"] ["_law_box_here","_law_wide"] (defScope zH3):=by walk_at "s"
def d_10:DS:=dSeq (dIf (dTest (dOp gtS (dOp ixS (jV 0) (dC (.int 0))) (dC (.int 0)))) (dSeq (dSet 2 (dOp modS (dOp ixS (jV 0) (dC (.int 0))) (jV 1)))
 (dSeq (dSetIx 0 (dOp fdivS (dOp ixS (jV 0) (dC (.int 0))) (jV 1)) (dC (.int 0)))
 (dRet (jV 2)))) dNext)
 (dSeq (dSet 3 (dOp modS (dOp mulS (dOp ixS (jV 0) (dC (.int 1))) (dC (.int 69623))) (dC (.int 2147483647))))
 (dSeq (dSetIx 0 (dOp addS (dOp modS (dOp addS (dOp mulS (jV 3) (dC (.int 48271))) (dC (.int 30103))) (dC (.int 2147483629))) (dC (.int 1))) (dC (.int 1)))
 (dRet (dOp modS (dOp fdivS (dOp addS (dOp mulS (jV 3) (dC (.int 2147483647))) (dOp ixS (jV 0) (dC (.int 1)))) (dC (.int 8191))) (jV 1)))))
def F_10:DF:=fnD (some 0) 2 4 d_10
theorem zQm(Fn:Fun K "_law_take" "_law_take" zH3 f fd)(hm:mg "_law_take"=some (.ref f))(hb:Binds K fd ["_law_box_here","_law_wide"] []) :FD P wd K mg base (1) "_law_take" (some 0) 2 F_10 :=
 zAU (k:=0) Fn zIx hm hb fun cdv A outer s H E M B=>zAA (zAR (tx_c zCE (zAE M (jZ 0) jJ) jJ) (zAA (zAH 2 (zBL (zAE M (jZ 0) jJ) (jZ 1)) (hN:=fun _=>zIx.nd))
 (zAA (zCT 0 (zCL (zAE M (jZ 0) jJ) (jZ 1)) (pv' 0) jJ)
 (zAD (zAF (jZ 2))))) zAL)
 (zAA (zAH 3 (zBL (zBA (zAE M (jZ 0) jJ) jJ) jJ) (hN:=fun _=>zIx.nd))
 (zAA (zCT 0 (zAP M (zBL (zAP M (zBA (jZ 3) jJ) jJ) jJ) jJ) (pv' 0) jJ)
 (zAD (zAF (zBL (zCL (zAP M (zBA (jZ 3) jJ) (zAE M (jZ 0) jJ)) jJ) (jZ 1))))))
abbrev st_4:Stmt:=top 39
theorem sc_4:FnScope ["_law_box_here","_law_questions","_law_room","_law_down","_law_form","_law_first","_law_one","_law_second","_law_other","_law_head"] ["_law_box_here","_law_questions","_law_room","_law_down"] (defScope st_4):=by walk_at "s"
def d_4 (rec:DF):DS:=dSeq (dSet 4 (dCall (some 0) F_10 [] (jW (jV 0) (jW (dC (.int 10)) qQ))))
 (dSeq (dIf (dOr (dTest (dOp ltS (jV 2) (dC (.int 2)))) (dOr (dTest (dOp ltS (jV 3) (dC (.int 2)))) (dTest (dOp eqS (jV 4) (dC (.int 0)))))) (dRet (dOp ixS (dLst (jW (dTup (jW (dC (.str "ask")) (jW (dCall (some 0) F_10 [] (jW (jV 0) (jW (jV 1) qQ))) qQ))) (jW (dTup (jW (dC (.str "yes")) qQ)) (jW (dTup (jW (dC (.str "no")) qQ)) qQ)))) (dCB max2S (jW (dC (.int 0)) (jW (dOp subS (dCall (some 0) F_10 [] (jW (jV 0) (jW (dC (.int 8)) qQ))) (dC (.int 5))) qQ))))) dNext)
 (dSeq (dIf (dOr (dTest (dOp ltS (jV 4) (dC (.int 3)))) (dTest (dOp ltS (jV 2) (dC (.int 3))))) (dRet (dTup (jW (dC (.str "not")) (jW (dCall (some 0) rec [] (jW (jV 0) (jW (jV 1) (jW (dOp subS (jV 2) (dC (.int 1))) (jW (dOp subS (jV 3) (dC (.int 1))) qQ))))) qQ)))) dNext)
 (dSeq (dSet 5 (dOp addS (dC (.int 1)) (dCall (some 0) F_10 [] (jW (jV 0) (jW (dOp subS (jV 2) (dC (.int 2))) qQ)))))
 (dSeq (dSet 6 (dCall (some 0) rec [] (jW (jV 0) (jW (jV 1) (jW (jV 5) (jW (dOp subS (jV 3) (dC (.int 1))) qQ))))))
 (dSeq (dIf (dAnd (dTest (dOp eqS (jV 4) (dC (.int 9)))) (dAnd (dTest (dOp gtS (jV 2) (dC (.int 3)))) (dTest (dOp ltS (jV 5) (dOp subS (jV 2) (dC (.int 2))))))) (dSeq (dSet 7 (dOp addS (dC (.int 1)) (dCall (some 0) F_10 [] (jW (jV 0) (jW (dOp subS (dOp subS (jV 2) (dC (.int 2))) (jV 5)) qQ)))))
 (dSeq (dSet 8 (dCall (some 0) rec [] (jW (jV 0) (jW (jV 1) (jW (jV 7) (jW (dOp subS (jV 3) (dC (.int 1))) qQ))))))
 (dRet (dTup (jW (dC (.str "most")) (jW (jV 6) (jW (jV 8) (jW (dCall (some 0) rec [] (jW (jV 0) (jW (jV 1) (jW (dOp subS (dOp subS (dOp subS (jV 2) (dC (.int 1))) (jV 5)) (jV 7)) (jW (dOp subS (jV 3) (dC (.int 1))) qQ))))) qQ)))))))) dNext)
 (dSeq (dSet 9 (dOp ixS (dLst (jW (dC (.str "and")) (jW (dC (.str "or")) (jW (dC (.str "either")) qQ)))) (dOp modS (jV 4) (dC (.int 3)))))
 (dRet (dTup (jW (jV 9) (jW (jV 6) (jW (dCall (some 0) rec [] (jW (jV 0) (jW (jV 1) (jW (dOp subS (dOp subS (jV 2) (dC (.int 1))) (jV 5)) (jW (dOp subS (jV 3) (dC (.int 1))) qQ))))) qQ)))))))))))
def F_4:Nat->DF
 | 0=>fun _=>none
 | n+1=>fnD (some 0) 4 10 (d_4 (F_4 n))
theorem ok_4(Fn:Fun K "_law_saying" "_law_saying" st_4 f fd)(hm:mg "_law_saying"=some (.ref f))(hb:Binds K fd ["_law_box_here","_law_questions","_law_room","_law_down"] [])(z_max:mg "max"=none)(D_10:FD P wd K mg base (1) "_law_take" (some 0) 2 F_10)(n:Nat):FD P wd K mg base (1+n) "_law_saying" (some 0) 4 (F_4 n):=by
 induction n with
 | zero=>exact zBY Fn hm hb rfl
 | succ n ih =>
  have Drec:=ih
  exact zAU (k:=1+n) Fn sc_4 hm hb fun cdv A outer s H E M B=>zAA (zAH 4 (zAB M B D_10 (jQ (jZ 0) (jQ jJ jY))) (hN:=fun _=>sc_4.nd))   (zAA (zAR (tx_w (zAs (tx_c zBC (jZ 2) jJ) (zAs (tx_c zBC (jZ 3) jJ) (zA8 (tx_c (zAV M) (jZ 4) jJ))))) (zAD (zAF (zAE M (zAX (jQ (zAC (jQ zAG (jQ (zAB M B D_10 (jQ (jZ 0) (jQ (jZ 1) jY))) jY))) (jQ (zAC (jQ zAG jY)) (jQ (zAC (jQ zAG jY)) jY)))) (zAS M (zMU M) z_max boot_max (jQ jJ (jQ (zAd (zAB M B D_10 (jQ (jZ 0) (jQ jJ jY))) jJ) jY)))))) zAL)   (zAA (zAR (tx_w (zAs (tx_c zBC (jZ 4) jJ) (zA8 (tx_c zBC (jZ 2) jJ)))) (zAD (zAF (zAC (jQ zAG (jQ (zAB M B Drec (jQ (jZ 0) (jQ (jZ 1) (jQ (zAd (jZ 2) jJ) (jQ (zAd (jZ 3) jJ) jY))))) jY))))) zAL)   (zAA (zAH 5 (zAP M jJ (zAB M B D_10 (jQ (jZ 0) (jQ (zAd (jZ 2) jJ) jY)))) (hN:=fun _=>sc_4.nd))   (zAA (zAH 6 (zAB M B Drec (jQ (jZ 0) (jQ (jZ 1) (jQ (jZ 5) (jQ (zAd (jZ 3) jJ) jY))))) (hN:=fun _=>sc_4.nd))   (zAA (zAR (tx_w (zDI (tx_c (zAV M) (jZ 4) jJ) (zDI (tx_c zCE (jZ 2) jJ) (zDh (tx_c zBC (jZ 5) (zAd (jZ 2) jJ)))))) (zAA (zAH 7 (zAP M jJ (zAB M B D_10 (jQ (jZ 0) (jQ (zAd (zAd (jZ 2) jJ) (jZ 5)) jY)))) (hN:=fun _=>sc_4.nd))   (zAA (zAH 8 (zAB M B Drec (jQ (jZ 0) (jQ (jZ 1) (jQ (jZ 7) (jQ (zAd (jZ 3) jJ) jY))))) (hN:=fun _=>sc_4.nd))   (zAD (zAF (zAC (jQ zAG (jQ (jZ 6) (jQ (jZ 8) (jQ (zAB M B Drec (jQ (jZ 0) (jQ (jZ 1) (jQ (zAd (zAd (zAd (jZ 2) jJ) (jZ 5)) (jZ 7)) (jQ (zAd (jZ 3) jJ) jY))))) jY))))))))) zAL)   (zAA (zAH 9 (zAE M (zAX (jQ zAG (jQ zAG (jQ zAG jY)))) (zBL (jZ 4) jJ)) (hN:=fun _=>sc_4.nd))   (zAD (zAF (zAC (jQ (jZ 9) (jQ (jZ 6) (jQ (zAB M B Drec (jQ (jZ 0) (jQ (jZ 1) (jQ (zAd (zAd (jZ 2) jJ) (jZ 5)) (jQ (zAd (jZ 3) jJ) jY))))) jY))))))))))))
abbrev st_7:Stmt:=top 42
theorem sc_7:FnScope ["_law_box_here","_law_questions","_law_most","_law_down","_law_form","_law_head","_law_room","_law_last","_law_third","_law_first","_law_one"] ["_law_box_here","_law_questions","_law_most","_law_down"] (defScope st_7):=by walk_at "s"
def d_7 (rec:DF):DS:=dSeq (dSet 4 (dCall (some 0) F_10 [] (jW (jV 0) (jW (dC (.int 8)) qQ))))
 (dSeq (dIf (dOr (dTest (dOp ltS (jV 2) (dC (.int 4)))) (dOr (dTest (dOp ltS (jV 3) (dC (.int 2)))) (dTest (dOp eqS (jV 4) (dC (.int 0)))))) (dRet (dCall (some 0) (F_4 zAy) [] (jW (jV 0) (jW (jV 1) (jW (dC (.int 1)) (jW (dC (.int 1)) qQ)))))) dNext)
 (dSeq (dIf (dTest (dOp eqS (jV 4) (dC (.int 1)))) (dRet (dTup (jW (dC (.str "not")) (jW (dCall (some 0) rec [] (jW (jV 0) (jW (jV 1) (jW (jV 2) (jW (dOp subS (jV 3) (dC (.int 1))) qQ))))) qQ)))) dNext)
 (dSeq (dPar3 5 6 7 (jW (dOp ixS (dLst (jW (dC (.str "and")) (jW (dC (.str "or")) qQ))) (dOp modS (jV 4) (dC (.int 2)))) (jW (dOp fdivS (jV 2) (dC (.int 2))) (jW (dTup qQ) qQ))))
 (dSeq (dIf (dAnd (dTest (dOp eqS (jV 4) (dC (.int 4)))) (dTest (dOp gtS (jV 2) (dC (.int 15))))) (dPar2 5 6 (jW (dC (.str "either")) (jW (dOp fdivS (jV 2) (dC (.int 8))) qQ))) dNext)
 (dSeq (dIf (dAnd (dTest (dOp ltS (jV 4) (dC (.int 4)))) (dTest (dOp gtS (jV 2) (dC (.int 27))))) (dSeq (dSet 8 (dOp addS (dC (.int 1)) (dCall (some 0) F_10 [] (jW (jV 0) (jW (dOp fdivS (dOp subS (jV 2) (dC (.int 24))) (dC (.int 4))) qQ)))))
 (dSeq (dPar2 5 6 (jW (dC (.str "most")) (jW (dOp fdivS (dOp subS (jV 2) (dOp mulS (dC (.int 4)) (jV 8))) (dC (.int 12))) qQ)))
 (dSet 7 (dTup (jW (dCall (some 0) rec [] (jW (jV 0) (jW (jV 1) (jW (jV 8) (jW (dOp subS (jV 3) (dC (.int 1))) qQ))))) qQ))))) dNext)
 (dSeq (dSet 9 (dOp addS (dC (.int 1)) (dCall (some 0) F_10 [] (jW (jV 0) (jW (dOp subS (jV 6) (dC (.int 1))) qQ)))))
 (dSeq (dSet 10 (dCall (some 0) rec [] (jW (jV 0) (jW (jV 1) (jW (jV 9) (jW (dOp subS (jV 3) (dC (.int 1))) qQ))))))
 (dRet (dOp addS (dTup (jW (jV 5) (jW (jV 10) (jW (dCall (some 0) rec [] (jW (jV 0) (jW (jV 1) (jW (dOp subS (jV 6) (jV 9)) (jW (dOp subS (jV 3) (dC (.int 1))) qQ))))) qQ)))) (jV 7))))))))))
def F_7:Nat->DF
 | 0=>fun _=>none
 | n+1=>fnD (some 0) 4 11 (d_7 (F_7 n))
theorem ok_7(Fn:Fun K "_law_weighed" "_law_weighed" st_7 f fd)(hm:mg "_law_weighed"=some (.ref f))(hb:Binds K fd ["_law_box_here","_law_questions","_law_most","_law_down"] [])(D_10:FD P wd K mg base (1) "_law_take" (some 0) 2 F_10)(D_4:FD P wd K mg base (13) "_law_saying" (some 0) 4 (F_4 zAy))(n:Nat):FD P wd K mg base (13+n) "_law_weighed" (some 0) 4 (F_7 n):=by
 induction n with
 | zero=>exact zBY Fn hm hb rfl
 | succ n ih =>
  have Drec:=ih
  exact zAU (k:=13+n) Fn sc_7 hm hb fun cdv A outer s H E M B=>zAA (zAH 4 (zAB M B D_10 (jQ (jZ 0) (jQ jJ jY))) (hN:=fun _=>sc_7.nd))   (zAA (zAR (tx_w (zAs (tx_c zBC (jZ 2) jJ) (zAs (tx_c zBC (jZ 3) jJ) (zA8 (tx_c (zAV M) (jZ 4) jJ))))) (zAD (zAF (zAB M B D_4 (jQ (jZ 0) (jQ (jZ 1) (jQ jJ (jQ jJ jY))))))) zAL)   (zAA (zAR (tx_c (zAV M) (jZ 4) jJ) (zAD (zAF (zAC (jQ zAG (jQ (zAB M B Drec (jQ (jZ 0) (jQ (jZ 1) (jQ (jZ 2) (jQ (zAd (jZ 3) jJ) jY))))) jY))))) zAL)   (zAA (zNC 5 6 7 M (jQ (zAE M (zAX (jQ zAG (jQ zAG jY))) (zBL (jZ 4) jJ)) (jQ (zCL (jZ 2) jJ) (jQ (zAC jY) jY))) (hN:=fun _=>sc_7.nd))   (zAA (zAR (tx_w (zDI (tx_c (zAV M) (jZ 4) jJ) (zDh (tx_c zCE (jZ 2) jJ)))) (zAD (zCq 5 6 M (jQ zAG (jQ (zCL (jZ 2) jJ) jY)) (hN:=fun _=>sc_7.nd))) zAL)   (zAA (zAR (tx_w (zDI (tx_c zBC (jZ 4) jJ) (zDh (tx_c zCE (jZ 2) jJ)))) (zAA (zAH 8 (zAP M jJ (zAB M B D_10 (jQ (jZ 0) (jQ (zCL (zAd (jZ 2) jJ) jJ) jY)))) (hN:=fun _=>sc_7.nd))   (zAA (zCq 5 6 M (jQ zAG (jQ (zCL (zAd (jZ 2) (zBA jJ (jZ 8))) jJ) jY)) (hN:=fun _=>sc_7.nd))   (zAD (zAH 7 (zAC (jQ (zAB M B Drec (jQ (jZ 0) (jQ (jZ 1) (jQ (jZ 8) (jQ (zAd (jZ 3) jJ) jY))))) jY)) (hN:=fun _=>sc_7.nd))))) zAL)   (zAA (zAH 9 (zAP M jJ (zAB M B D_10 (jQ (jZ 0) (jQ (zAd (jZ 6) jJ) jY)))) (hN:=fun _=>sc_7.nd))   (zAA (zAH 10 (zAB M B Drec (jQ (jZ 0) (jQ (jZ 1) (jQ (jZ 9) (jQ (zAd (jZ 3) jJ) jY))))) (hN:=fun _=>sc_7.nd))   (zAD (zAF (zAP M (zAC (jQ (jZ 5) (jQ (jZ 10) (jQ (zAB M B Drec (jQ (jZ 0) (jQ (jZ 1) (jQ (zAd (jZ 6) (jZ 9)) (jQ (zAd (jZ 3) jJ) jY))))) jY)))) (jZ 7)))))))))))
def zEb (rec:DF):DE:=dCall none rec [] (jW (jV 0) qQ)
def zDK (rec:DF):DT:=dTru (dCB isiS (jW (jV 0) (jW (dC (.ty "tuple")) qQ)))
abbrev st_8:Stmt:=top 40
theorem sc_8:FnScope ["_law_saying_here","_law_some"] ["_law_saying_here"] (defScope st_8):=by walk_at "s"
def d_8 (rec:DF):DS:=dSeq (dSet 1 (dComp none [none] (dSeqI (dSl (jV 0) (dPart (dC (.int 1))) dNoPart)) (gdName 0) ((zDK rec)) ((zEb rec))))
 (dSeq (dIf (dTest (dOp (inS false) (dOp ixS (jV 0) (dC (.int 0))) (dTup (jW (dC (.str "yes")) (jW (dC (.str "no")) (jW (dC (.str "ask")) qQ)))))) (dRet (dC (.int 1))) dNext)
 (dSeq (dIf (dTest (dOp eqS (dOp ixS (jV 0) (dC (.int 0))) (dC (.str "not")))) (dRet (dOp ixS (jV 1) (dC (.int 0)))) dNext)
 (dSeq (dIf (dTest (dOp eqS (dOp ixS (jV 0) (dC (.int 0))) (dC (.str "most")))) (dRet (dOp addS (dOp mulS (dC (.int 12)) (dOp addS (dOp ixS (jV 1) (dC (.int 0))) (dOp ixS (jV 1) (dC (.int 1))))) (dOp mulS (dC (.int 4)) (dOp ixS (jV 1) (dC (.int 2)))))) dNext)
 (dRet (dOp mulS (dOp addS (dOp ixS (jV 1) (dC (.int 0))) (dOp ixS (jV 1) (dC (.int 1)))) (dOp ixS (dLst (jW (dC (.int 2)) (jW (dC (.int 8)) qQ))) (dCB intS (jW (dOp eqS (dOp ixS (jV 0) (dC (.int 0))) (dC (.str "either"))) qQ))))))))
def F_8:Nat->DF
 | 0=>fun _=>none
 | n+1=>fnD none 1 2 (d_8 (F_8 n))
theorem ok_8(Fn:Fun K "_law_weight" "_law_weight" st_8 f fd)(hm:mg "_law_weight"=some (.ref f))(hb:Binds K fd ["_law_saying_here"] [])(z_int:mg "int"=none)(z_isinstance:mg "isinstance"=none)(z_tuple:mg "tuple"=none)(n:Nat):FD P wd K mg base (0+n) "_law_weight" none 1 (F_8 n):=by
 induction n with
 | zero=>exact zBY Fn hm hb rfl
 | succ n ih =>
  have Drec:=ih
  exact zAU (k:=0+n) Fn sc_8 hm hb fun cdv A outer s H E M B=>zAA (zCi 1 none (N':=["_law_one"]) (ix:=[none]) M (fun _=>⟨rfl,by kernel_rfl⟩) (zAh M (zAe M (jZ 0) (zAT jJ) zAb)) (zAJ 0 (hN:=fun _=>(by show (["_law_one"]:List Str).Nodup; decide +kernel))) (zEJ (tx_v M.comp (zAS M.comp (zAz M.comp) z_isinstance boot_isinstance (jQ (jZ 0) (jQ (zBE M.comp z_tuple BM) jY))))) (zAB M.comp B.comp Drec (jQ (jZ 0) jY)) (hix:=hix0) (hN:=fun _=>sc_8.nd))   (zAA (zAR (tx_c (zME M) (zAE M (jZ 0) jJ) (zAC (jQ zAG (jQ zAG (jQ zAG jY))))) (zAD (zAF jJ)) zAL)   (zAA (zAR (tx_c (zAV M) (zAE M (jZ 0) jJ) zAG) (zAD (zAF (zAE M (jZ 1) jJ))) zAL)   (zAA (zAR (tx_c (zAV M) (zAE M (jZ 0) jJ) zAG) (zAD (zAF (zAP M (zBA jJ (zAP M (zAE M (jZ 1) jJ) (zAE M (jZ 1) jJ))) (zBA jJ (zAE M (jZ 1) jJ))))) zAL)   (zAD (zAF (zBA (zAP M (zAE M (jZ 1) jJ) (zAE M (jZ 1) jJ)) (zAE M (zAX (jQ jJ (jQ jJ jY))) (zBF M (zDE) z_int (by decide +kernel) (jQ (ex_c (zAV M) (zAE M (jZ 0) jJ) zAG) jY)))))))))
def zEQ (rec:DF):DE:=dCall none rec [] (jW (jV 0) qQ)
def zDS (rec:DF):DT:=dTru (dCB isiS (jW (jV 0) (jW (dC (.ty "tuple")) qQ)))
abbrev st_1:Stmt:=top 41
theorem sc_1:FnScope ["_law_saying_here"] ["_law_saying_here"] (defScope st_1):=by walk_at "s"
def d_1 (rec:DF):DS:=dRet (dOp addS (dC (.int 1)) (dCB sumS (jW (dComp none [none] (dSeqI (dSl (jV 0) (dPart (dC (.int 1))) dNoPart)) (gdName 0) ((zDS rec)) ((zEQ rec))) qQ)))
def F_1:Nat->DF
 | 0=>fun _=>none
 | n+1=>fnD none 1 1 (d_1 (F_1 n))
theorem ok_1(Fn:Fun K "_law_many_parts" "_law_many_parts" st_1 f fd)(hm:mg "_law_many_parts"=some (.ref f))(hb:Binds K fd ["_law_saying_here"] [])(z_isinstance:mg "isinstance"=none)(z_sum:mg "sum"=none)(z_tuple:mg "tuple"=none)(n:Nat):FD P wd K mg base (0+n) "_law_many_parts" none 1 (F_1 n):=by
 induction n with
 | zero=>exact zBY Fn hm hb rfl
 | succ n ih =>
  have Drec:=ih
  exact zAU (k:=0+n) Fn sc_1 hm hb fun cdv A outer s H E M B=>zAD (zAF (zAP M jJ (zAS M (zPE M) z_sum boot_sum (jQ (zAw none (N':=["_law_one"]) (ix:=[none]) M (fun _=>⟨rfl,by kernel_rfl⟩) (zAh M (zAe M (jZ 0) (zAT jJ) zAb)) (zAJ 0 (hN:=fun _=>(by show (["_law_one"]:List Str).Nodup; decide +kernel))) (zEJ (tx_v M.comp (zAS M.comp (zAz M.comp) z_isinstance boot_isinstance (jQ (jZ 0) (jQ (zBE M.comp z_tuple BM) jY))))) (zAB M.comp B.comp Drec (jQ (jZ 0) jY)) (hix:=hix0)) jY))))
def zCG:DT:=dOr (dTest (dOp gtS (dCall none (F_8 zEI) [] (jW (jV 4) qQ)) (jV 3))) (dTest (dOp gtS (dCall none (F_1 zEZ) [] (jW (jV 4) qQ)) (jV 2)))
def zDk:DS:=dSet 4 (dOp ixS (jV 4) (dOp addS (dC (.int 1)) (dCall (some 0) F_10 [] (jW (jV 0) (jW (dOp subS (dCB lenS (jW (jV 4) qQ)) (dC (.int 1))) qQ)))))
abbrev zIf:Stmt:=top 43
theorem zFq:FnScope ["_law_box_here","_law_questions","_law_room","_law_most","_law_found"] ["_law_box_here","_law_questions","_law_room","_law_most"] (defScope zIf):=by walk_at "s"
def d_11:DS:=dSeq (dSet 4 (dCall (some 0) (F_4 zAy) [] (jW (jV 0) (jW (jV 1) (jW (jV 2) (jW (dC (.int 5)) qQ))))))
 (dSeq (dIf (dTest (dOp eqS (dCall (some 0) F_10 [] (jW (jV 0) (jW (dC (.int 2)) qQ))) (dC (.int 0)))) (dSet 4 (dCall (some 0) (F_7 zDQ) [] (jW (jV 0) (jW (jV 1) (jW (jV 3) (jW (dC (.int 5)) qQ)))))) dNext)
 (dSeq (dWhile (zCG) (zDk) fuelX)
 (dRet (jV 4))))
def F_11:DF:=fnD (some 0) 4 5 d_11
theorem zPX(Fn:Fun K "_law_light" "_law_light" zIf f fd)(hm:mg "_law_light"=some (.ref f))(hb:Binds K fd ["_law_box_here","_law_questions","_law_room","_law_most"] [])(z_len:mg "len"=none)(D_10:FD P wd K mg base (1) "_law_take" (some 0) 2 F_10)(D_4:FD P wd K mg base (13) "_law_saying" (some 0) 4 (F_4 zAy))(D_7:FD P wd K mg base (25) "_law_weighed" (some 0) 4 (F_7 zDQ))(D_8:FD P wd K mg base (12) "_law_weight" none 1 (F_8 zEI))(D_1:FD P wd K mg base (12) "_law_many_parts" none 1 (F_1 zEZ)):FD P wd K mg base (26) "_law_light" (some 0) 4 F_11 :=
 zAU (k:=25) Fn zFq hm hb fun cdv A outer s H E M B=>zAA (zAH 4 (zAB M B D_4 (jQ (jZ 0) (jQ (jZ 1) (jQ (jZ 2) (jQ jJ jY))))) (hN:=fun _=>zFq.nd))
 (zAA (zAR (tx_c (zAV M) (zAB M B D_10 (jQ (jZ 0) (jQ jJ jY))) jJ) (zAD (zAH 4 (zAB M B D_7 (jQ (jZ 0) (jQ (jZ 1) (jQ (jZ 3) (jQ jJ jY))))) (hN:=fun _=>zFq.nd))) zAL)
 (zAA (zBT fuelX (fun _=>Ao) (tx_w (zAs (tx_c zCE (zAB M B D_8 (jQ (jZ 4) jY)) (jZ 3)) (zA8 (tx_c zCE (zAB M B D_1 (jQ (jZ 4) jY)) (jZ 2))))) (zAD (zAH 4 (zAE M (jZ 4) (zAP M jJ (zAB M B D_10 (jQ (jZ 0) (jQ (zAd (zAS M (zAc M) z_len Af (jQ (jZ 4) jY)) jJ) jY))))) (hN:=fun _=>zFq.nd))))
 (zAD (zAF (jZ 4)))))
def zF8 (rec:DF):DE:=dCall none rec [] (jW (jV 0) qQ)
def zDD (rec:DF):DT:=dTru (dCB isiS (jW (jV 0) (jW (dC (.ty "tuple")) qQ)))
abbrev st_5:Stmt:=top 46
theorem sc_5:FnScope ["_law_saying_here","_law_some","_law_one","_law_both"] ["_law_saying_here"] (defScope st_5):=by walk_at "s"
def d_5 (rec:DF):DS:=dSeq (dSet 1 (dComp none [none] (dSeqI (dSl (jV 0) (dPart (dC (.int 1))) dNoPart)) (gdName 0) ((zDD rec)) ((zF8 rec))))
 (dSeq (dIf (dTest (dOp eqS (dOp ixS (jV 0) (dC (.int 0))) (dC (.str "or")))) (dRet (dTup (jW (dC (.str "not")) (jW (dTup (jW (dC (.str "and")) (jW (dTup (jW (dC (.str "not")) (jW (dOp ixS (jV 1) (dC (.int 0))) qQ))) (jW (dTup (jW (dC (.str "not")) (jW (dOp ixS (jV 1) (dC (.int 1))) qQ))) qQ)))) qQ)))) dNext)
 (dSeq (dIf (dTest (dOp eqS (dOp ixS (jV 0) (dC (.int 0))) (dC (.str "either")))) (dSeq (dSet 2 (dTup (jW (dC (.str "and")) (jW (dOp ixS (jV 1) (dC (.int 0))) (jW (dTup (jW (dC (.str "not")) (jW (dOp ixS (jV 1) (dC (.int 1))) qQ))) qQ)))))
 (dRet (dTup (jW (dC (.str "not")) (jW (dTup (jW (dC (.str "and")) (jW (dTup (jW (dC (.str "not")) (jW (jV 2) qQ))) (jW (dTup (jW (dC (.str "not")) (jW (dTup (jW (dC (.str "and")) (jW (dTup (jW (dC (.str "not")) (jW (dOp ixS (jV 1) (dC (.int 0))) qQ))) (jW (dOp ixS (jV 1) (dC (.int 1))) qQ)))) qQ))) qQ)))) qQ))))) dNext)
 (dSeq (dIf (dTest (dOp eqS (dOp ixS (jV 0) (dC (.int 0))) (dC (.str "most")))) (dSeq (dSet 2 (dTup (jW (dC (.str "not")) (jW (dTup (jW (dC (.str "and")) (jW (dTup (jW (dC (.str "not")) (jW (dOp ixS (jV 1) (dC (.int 0))) qQ))) (jW (dTup (jW (dC (.str "not")) (jW (dOp ixS (jV 1) (dC (.int 1))) qQ))) qQ)))) qQ))))
 (dSeq (dSet 3 (dTup (jW (dC (.str "and")) (jW (dOp ixS (jV 1) (dC (.int 0))) (jW (dOp ixS (jV 1) (dC (.int 1))) qQ)))))
 (dRet (dTup (jW (dC (.str "not")) (jW (dTup (jW (dC (.str "and")) (jW (dTup (jW (dC (.str "not")) (jW (jV 3) qQ))) (jW (dTup (jW (dC (.str "not")) (jW (dTup (jW (dC (.str "and")) (jW (dOp ixS (jV 1) (dC (.int 2))) (jW (jV 2) qQ)))) qQ))) qQ)))) qQ)))))) dNext)
 (dRet (dOp addS (dOp addS (dSl (jV 0) dNoPart (dPart (dC (.int 1)))) (dCB tupleS (jW (jV 1) qQ))) (dOp mulS5 (dSl (jV 0) (dPart (dC (.int 1))) dNoPart) (dCB intS (jW (dOp eqS (dOp ixS (jV 0) (dC (.int 0))) (dC (.str "ask"))) qQ))))))))
def F_5:Nat->DF
 | 0=>fun _=>none
 | n+1=>fnD none 1 4 (d_5 (F_5 n))
theorem ok_5(Fn:Fun K "_law_spelled" "_law_spelled" st_5 f fd)(hm:mg "_law_spelled"=some (.ref f))(hb:Binds K fd ["_law_saying_here"] [])(z_int:mg "int"=none)(z_isinstance:mg "isinstance"=none)(z_tuple:mg "tuple"=none)(n:Nat):FD P wd K mg base (0+n) "_law_spelled" none 1 (F_5 n):=by
 induction n with
 | zero=>exact zBY Fn hm hb rfl
 | succ n ih =>
  have Drec:=ih
  exact zAU (k:=0+n) Fn sc_5 hm hb fun cdv A outer s H E M B=>zAA (zCi 1 none (N':=["_law_one"]) (ix:=[none]) M (fun _=>⟨rfl,by kernel_rfl⟩) (zAh M (zAe M (jZ 0) (zAT jJ) zAb)) (zAJ 0 (hN:=fun _=>(by show (["_law_one"]:List Str).Nodup; decide +kernel))) (zEJ (tx_v M.comp (zAS M.comp (zAz M.comp) z_isinstance boot_isinstance (jQ (jZ 0) (jQ (zBE M.comp z_tuple BM) jY))))) (zAB M.comp B.comp Drec (jQ (jZ 0) jY)) (hix:=hix0) (hN:=fun _=>sc_5.nd))   (zAA (zAR (tx_c (zAV M) (zAE M (jZ 0) jJ) zAG) (zAD (zAF (zAC (jQ zAG (jQ (zAC (jQ zAG (jQ (zAC (jQ zAG (jQ (zAE M (jZ 1) jJ) jY))) (jQ (zAC (jQ zAG (jQ (zAE M (jZ 1) jJ) jY))) jY)))) jY))))) zAL)   (zAA (zAR (tx_c (zAV M) (zAE M (jZ 0) jJ) zAG) (zAA (zAH 2 (zAC (jQ zAG (jQ (zAE M (jZ 1) jJ) (jQ (zAC (jQ zAG (jQ (zAE M (jZ 1) jJ) jY))) jY)))) (hN:=fun _=>sc_5.nd))   (zAD (zAF (zAC (jQ zAG (jQ (zAC (jQ zAG (jQ (zAC (jQ zAG (jQ (jZ 2) jY))) (jQ (zAC (jQ zAG (jQ (zAC (jQ zAG (jQ (zAC (jQ zAG (jQ (zAE M (jZ 1) jJ) jY))) (jQ (zAE M (jZ 1) jJ) jY)))) jY))) jY)))) jY)))))) zAL)   (zAA (zAR (tx_c (zAV M) (zAE M (jZ 0) jJ) zAG) (zAA (zAH 2 (zAC (jQ zAG (jQ (zAC (jQ zAG (jQ (zAC (jQ zAG (jQ (zAE M (jZ 1) jJ) jY))) (jQ (zAC (jQ zAG (jQ (zAE M (jZ 1) jJ) jY))) jY)))) jY))) (hN:=fun _=>sc_5.nd))   (zAA (zAH 3 (zAC (jQ zAG (jQ (zAE M (jZ 1) jJ) (jQ (zAE M (jZ 1) jJ) jY)))) (hN:=fun _=>sc_5.nd))   (zAD (zAF (zAC (jQ zAG (jQ (zAC (jQ zAG (jQ (zAC (jQ zAG (jQ (jZ 3) jY))) (jQ (zAC (jQ zAG (jQ (zAC (jQ zAG (jQ (zAE M (jZ 1) jJ) (jQ (jZ 2) jY)))) jY))) jY)))) jY))))))) zAL)   (zAD (zAF (zAP M (zAP M (zAe M (jZ 0) zAb (zAT jJ)) (zBF M (zA6 M) z_tuple BM (jQ (jZ 1) jY))) (zNI M (zAe M (jZ 0) (zAT jJ) zAb) (zBF M (zDE) z_int (by decide +kernel) (jQ (ex_c (zAV M) (zAE M (jZ 0) jJ) zAG) jY)))))))))
def zEt:DE:=dIndex (jV 1) (jW (jV 0) qQ)
abbrev zIE:Stmt:=top 38
theorem zQH:FnScope ["_law_turning"] ["_law_turning"] (defScope zIE):=by walk_at "s"
def d_12:DS:=dRet (dCB tupleS (jW (dComp none [none,some 0] (dRng1 (jW (dCB lenS (jW (jV 0) qQ)) qQ)) (gdName 0) dYes (zEt)) qQ))
def F_12:DF:=fnD none 1 1 d_12
theorem zPU(Fn:Fun K "_law_back" "_law_back" zIE f fd)(hm:mg "_law_back"=some (.ref f))(hb:Binds K fd ["_law_turning"] [])(z_len:mg "len"=none)(z_range:mg "range"=none)(z_tuple:mg "tuple"=none):FD P wd K mg base (1) "_law_back" none 1 F_12 :=
 zAU (k:=0) Fn zQH hm hb fun cdv A outer s H E M B=>zAD (zAF (zBF M (zA6 M) z_tuple BM (jQ (zAw none (N':=["_law_place","_law_turning"]) (ix:=[none,some 0]) M (fun _=>⟨rfl,by kernel_rfl⟩) (zDe M z_range (jQ (zAS M (zAc M) z_len Af (jQ (jZ 0) jY)) jY)) (zAJ 0 (hN:=fun _=>(by show (["_law_place","_law_turning"]:List Str).Nodup; decide +kernel))) zA7 (zF6 M.comp (jZ 1) (jQ (jZ 0) jY)) (hix:=hix0)) jY)))
def zE3:DE:=dOp ixS (jV 1) (jV 0)
abbrev zJF:Stmt:=top 37
theorem zQM:FnScope ["_law_one","_law_other"] ["_law_one","_law_other"] (defScope zJF):=by walk_at "s"
def d_13:DS:=dRet (dCB tupleS (jW (dComp none [none,some 1] (dSeqI (jV 0)) (gdName 0) dYes (zE3)) qQ))
def F_13:DF:=fnD none 2 2 d_13
theorem zQG(Fn:Fun K "_law_then" "_law_then" zJF f fd)(hm:mg "_law_then"=some (.ref f))(hb:Binds K fd ["_law_one","_law_other"] [])(z_tuple:mg "tuple"=none):FD P wd K mg base (1) "_law_then" none 2 F_13 :=
 zAU (k:=0) Fn zQM hm hb fun cdv A outer s H E M B=>zAD (zAF (zBF M (zA6 M) z_tuple BM (jQ (zAw none (N':=["_law_place","_law_other"]) (ix:=[none,some 1]) M (fun _=>⟨rfl,by kernel_rfl⟩) (zAh M (jZ 0)) (zAJ 0 (hN:=fun _=>(by show (["_law_place","_law_other"]:List Str).Nodup; decide +kernel))) zA7 (zAE M.comp (jZ 1) (jZ 0)) (hix:=hix0)) jY)))
def zHb:DE:=dCall none F_13 [] (jW (dCall none F_13 [] (jW (jV 2) (jW (jV 0) qQ))) (jW (jV 1) qQ))
def zHQ:DS:=dSetIx 4 (dOp ixS (jV 2) (dOp modS (dOp addS (jV 5) (jV 3)) (dC (.int 5)))) (jV 6)
def zEo:DT:=dTest (dOp neS (dOp ixS (jV 1) (dOp ixS (jV 2) (dUn negS (dC (.int 1))))) (dC (.int 0)))
def zEx:DS:=dDrop (dMut 2 hAppend (jW (dOp ixS (jV 1) (dOp ixS (jV 2) (dUn negS (dC (.int 1))))) qQ))
abbrev zIJ:Stmt:=top 52
theorem zCa:FnScope ["_law_box_here","_law_ring_here","_law_row","_law_far","_law_by","_law_k","_law_place","_law_away"] ["_law_box_here","_law_ring_here"] (defScope zIJ):=by walk_at "s"
def d_14:DS:=dSeq (dSet 2 (dLst (jW (dC (.int 0)) qQ)))
 (dSeq (dWhile (zEo) (zEx) fuelX)
 (dSeq (dSet 3 (dCall (some 0) F_10 [] (jW (jV 0) (jW (dC (.int 5)) qQ))))
 (dSeq (dSet 4 (dOp mulS (dLst (jW (dC (.int 0)) qQ)) (dC (.int 5))))
 (dSeq (dFor (some 0) (dEnum (jW (dLst (jW (dC (.int 0)) (jW (dC (.int 2)) (jW (dC (.int 1)) (jW (dC (.int 4)) (jW (dC (.int 3)) qQ)))))) qQ)) (gdTup 2 (gdCons (gdName 5) (gdCons (gdName 6) gdNil))) (zHQ))
 (dSeq (dSet 4 (dCB tupleS (jW (jV 4) qQ)))
 (dSeq (dSet 7 (dCall none F_12 [] (jW (jV 4) qQ)))
 (dRet (dComp none [none,some 4,some 7] (dSeqI (dTup (jW (dTup (jW (dC (.int 1)) (jW (dC (.int 2)) (jW (dC (.int 3)) (jW (dC (.int 4)) (jW (dC (.int 0)) qQ)))))) (jW (dTup (jW (dC (.int 2)) (jW (dC (.int 0)) (jW (dC (.int 4)) (jW (dC (.int 1)) (jW (dC (.int 3)) qQ)))))) qQ)))) (gdName 0) dYes (zHb)))))))))
def F_14:DF:=fnD (some 0) 2 8 d_14
theorem zPN(Fn:Fun K "_law_pair" "_law_pair" zIJ f fd)(hm:mg "_law_pair"=some (.ref f))(hb:Binds K fd ["_law_box_here","_law_ring_here"] [])(z_enumerate:mg "enumerate"=none)(z_tuple:mg "tuple"=none)(D_10:FD P wd K mg base (1) "_law_take" (some 0) 2 F_10)(D_12:FD P wd K mg base (1) "_law_back" none 1 F_12)(D_13:FD P wd K mg base (1) "_law_then" none 2 F_13):FD P wd K mg base (2) "_law_pair" (some 0) 2 F_14 :=
 zAU (k:=1) Fn zCa hm hb fun cdv A outer s H E M B=>zAA (zAH 2 (zAX (jQ jJ jY)) (hN:=fun _=>zCa.nd))
 (zAA (zBT fuelX (fun _=>Ao) (tx_c (zBD M) (zAE M (jZ 1) (zAE M (jZ 2) (zBI jJ))) jJ) (zAD (zA9 (zBG M A9 BC (fun _=>zBB) zA1 (pv' 2) (jQ (zAE M (jZ 1) (zAE M (jZ 2) (zBI jJ))) jY)))))
 (zAA (zAH 3 (zAB M B D_10 (jQ (jZ 0) (jQ jJ jY))) (hN:=fun _=>zCa.nd))
 (zAA (zAH 4 (zBA (zAX (jQ jJ jY)) jJ) (hN:=fun _=>zCa.nd))
 (zAA (zBK M (fun _=>Ao) (zE2 M z_enumerate (jQ (zAX (jQ jJ (jQ jJ (jQ jJ (jQ jJ (jQ jJ jY)))))) jY)) (zAq 2 M (zAK (zAJ 5 (hN:=fun _=>zCa.nd)) (zAK (zAJ 6 (hN:=fun _=>zCa.nd)) zAi))) (zAD (zCT 4 (zAE M (jZ 2) (zBL (zAP M (jZ 5) (jZ 3)) jJ)) (pv' 4) (jZ 6))))
 (zAA (zAH 4 (zBF M (zA6 M) z_tuple BM (jQ (jZ 4) jY)) (hN:=fun _=>zCa.nd))
 (zAA (zAH 7 (zAB M B D_12 (jQ (jZ 4) jY)) (hN:=fun _=>zCa.nd))
 (zAD (zAF (zAw none (N':=["_law_one","_law_by","_law_away"]) (ix:=[none,some 4,some 7]) M (fun _=>⟨rfl,by kernel_rfl⟩) (zAh M (zAC (jQ (zAC (jQ jJ (jQ jJ (jQ jJ (jQ jJ (jQ jJ jY)))))) (jQ (zAC (jQ jJ (jQ jJ (jQ jJ (jQ jJ (jQ jJ jY)))))) jY)))) (zAJ 0 (hN:=fun _=>(by show (["_law_one","_law_by","_law_away"]:List Str).Nodup; decide +kernel))) zA7 (zAB M.comp B.comp D_13 (jQ (zAB M.comp B.comp D_13 (jQ (jZ 2) (jQ (jZ 0) jY))) (jQ (jZ 1) jY))) (hix:=hix0))))))))))
abbrev zIz:Stmt:=top 47
theorem zFu:FnScope ["_law_steps","_law_turning","_law_q","_law_yes","_law_no"] ["_law_steps","_law_turning"] (defScope zIz):=by walk_at "s"
def d_15:DS:=dSeq (dUnp (gdTup 3 (gdCons (gdName 2) (gdCons (gdName 3) (gdCons (gdName 4) gdNil)))) (dOp ixS (jV 0) (dUn negS (dC (.int 1)))))
 (dRet (dOp addS (dSl (jV 0) dNoPart (dPart (dUn negS (dC (.int 1))))) (dTup (jW (dTup (jW (jV 2) (jW (dCall none F_13 [] (jW (jV 3) (jW (jV 1) qQ))) (jW (dCall none F_13 [] (jW (jV 4) (jW (jV 1) qQ))) qQ)))) qQ))))
def F_15:DF:=fnD none 2 5 d_15
theorem zPQ(Fn:Fun K "_law_followed" "_law_followed" zIz f fd)(hm:mg "_law_followed"=some (.ref f))(hb:Binds K fd ["_law_steps","_law_turning"] [])(D_13:FD P wd K mg base (1) "_law_then" none 2 F_13):FD P wd K mg base (2) "_law_followed" none 2 F_15 :=
 zAU (k:=1) Fn zFu hm hb fun cdv A outer s H E M B=>zAA (zBp (zAE M (jZ 0) (zBI jJ)) (zAq 3 M (zAK (zAJ 2 (hN:=fun _=>zFu.nd)) (zAK (zAJ 3 (hN:=fun _=>zFu.nd)) (zAK (zAJ 4 (hN:=fun _=>zFu.nd)) zAi)))))
 (zAD (zAF (zAP M (zAe M (jZ 0) zAb (zAT (zBI jJ))) (zAC (jQ (zAC (jQ (jZ 2) (jQ (zAB M B D_13 (jQ (jZ 3) (jQ (jZ 1) jY))) (jQ (zAB M B D_13 (jQ (jZ 4) (jQ (jZ 1) jY))) jY)))) jY)))))
def zEV (rec:DF):DS:=dSeq (dUnp (gdTup 2 (gdCons (gdName 14) (gdCons (gdName 7) gdNil))) (dCall (some 0) rec [] (jW (jV 0) (jW (dOp ixS (jV 1) (jV 12)) (jW (jV 2) (jW (jV 13) qQ))))))
 (dSeq (dPar2 6 11 (jW (dOp addS (jV 6) (jV 14)) (jW (dOp addS (jV 11) (dTup (jW (jV 7) qQ))) qQ)))
 (dSet 10 (dOp addS (jV 10) (dTup (jW (dCB lenS (jW (jV 6) qQ)) qQ)))))
abbrev st_2:Stmt:=top 53
theorem sc_2:FnScope ["_law_box_here","_law_saying_here","_law_questions","_law_ring_here","_law_plain","_law_side","_law_steps","_law_paper","_law_a","_law_b","_law_places","_law_papers","_law_at_here","_law_aim","_law_more"] ["_law_box_here","_law_saying_here","_law_questions","_law_ring_here"] (defScope st_2):=by walk_at "s"
def d_2 (rec:DF):DS:=dSeq (dSet 4 (dTup (jW (dC (.int 0)) (jW (dC (.int 1)) (jW (dC (.int 2)) (jW (dC (.int 3)) (jW (dC (.int 4)) qQ)))))))
 (dSeq (dIf (dTest (dOp eqS (dOp ixS (jV 1) (dC (.int 0))) (dC (.str "ask")))) (dRet (dTup (jW (dTup (jW (dTup (jW (dOp ixS (jV 1) (dC (.int 1))) (jW (jV 3) (jW (jV 4) qQ)))) qQ)) (jW (dTup (jW (dC (.str "step")) qQ)) qQ)))) dNext)
 (dSeq (dIf (dOr (dTest (dOp eqS (dOp ixS (jV 1) (dC (.int 0))) (dC (.str "yes")))) (dTest (dOp eqS (dOp ixS (jV 1) (dC (.int 0))) (dC (.str "no"))))) (dSeq (dSet 5 (dOp ixS (dLst (jW (jV 4) (jW (jV 3) qQ))) (dCB intS (jW (dOp eqS (dOp ixS (jV 1) (dC (.int 0))) (dC (.str "yes"))) qQ))))
 (dRet (dTup (jW (dTup (jW (dTup (jW (dCall (some 0) F_10 [] (jW (jV 0) (jW (jV 2) qQ))) (jW (jV 5) (jW (jV 5) qQ)))) qQ)) (jW (dTup (jW (dC (.str "step")) qQ)) qQ))))) dNext)
 (dSeq (dIf (dTest (dOp eqS (dOp ixS (jV 1) (dC (.int 0))) (dC (.str "not")))) (dSeq (dUnp (gdTup 2 (gdCons (gdName 6) (gdCons (gdName 7) gdNil))) (dCall (some 0) rec [] (jW (jV 0) (jW (dOp ixS (jV 1) (dC (.int 1))) (jW (jV 2) (jW (dCall none F_12 [] (jW (jV 3) qQ)) qQ))))))
 (dRet (dTup (jW (dCall none F_15 [] (jW (jV 6) (jW (jV 3) qQ))) (jW (dTup (jW (dC (.str "not")) (jW (jV 7) qQ))) qQ))))) dNext)
 (dSeq (dUnpL 2 (gdCons (gdName 8) (gdCons (gdName 9) gdNil)) (dCall (some 0) F_14 [] (jW (jV 0) (jW (jV 3) qQ))))
 (dSeq (dUnp (gdTup 3 (gdCons (gdName 6) (gdCons (gdName 10) (gdCons (gdName 11) gdNil)))) (dTup (jW (dTup qQ) (jW (dTup qQ) (jW (dTup qQ) qQ)))))
 (dSeq (dFor (some 0) (dSeqI (dTup (jW (dTup (jW (dC (.int 1)) (jW (jV 8) qQ))) (jW (dTup (jW (dC (.int 2)) (jW (jV 9) qQ))) (jW (dTup (jW (dC (.int 1)) (jW (dCall none F_12 [] (jW (jV 8) qQ)) qQ))) (jW (dTup (jW (dC (.int 2)) (jW (dCall none F_12 [] (jW (jV 9) qQ)) qQ))) qQ)))))) (gdTup 2 (gdCons (gdName 12) (gdCons (gdName 13) gdNil))) ((zEV rec)))
 (dRet (dTup (jW (jV 6) (jW (dOp addS (dOp addS (dOp addS (dTup (jW (dC (.str "and")) qQ)) (dSl (jV 10) dNoPart (dPart (dC (.int 3))))) (dTup (jW (jV 8) (jW (jV 9) qQ)))) (jV 11)) qQ))))))))))
def F_2:Nat->DF
 | 0=>fun _=>none
 | n+1=>fnD (some 0) 4 15 (d_2 (F_2 n))
theorem ok_2(Fn:Fun K "_law_own" "_law_own" st_2 f fd)(hm:mg "_law_own"=some (.ref f))(hb:Binds K fd ["_law_box_here","_law_saying_here","_law_questions","_law_ring_here"] [])(z_int:mg "int"=none)(z_len:mg "len"=none)(D_10:FD P wd K mg base (1) "_law_take" (some 0) 2 F_10)(D_12:FD P wd K mg base (1) "_law_back" none 1 F_12)(D_14:FD P wd K mg base (2) "_law_pair" (some 0) 2 F_14)(D_15:FD P wd K mg base (2) "_law_followed" none 2 F_15)(n:Nat):FD P wd K mg base (2+n) "_law_own" (some 0) 4 (F_2 n):=by
 induction n with
 | zero=>exact zBY Fn hm hb rfl
 | succ n ih =>
  have Drec:=ih
  exact zAU (k:=2+n) Fn sc_2 hm hb fun cdv A outer s H E M B=>zAA (zAH 4 (zAC (jQ jJ (jQ jJ (jQ jJ (jQ jJ (jQ jJ jY)))))) (hN:=fun _=>sc_2.nd))   (zAA (zAR (tx_c (zAV M) (zAE M (jZ 1) jJ) zAG) (zAD (zAF (zAC (jQ (zAC (jQ (zAC (jQ (zAE M (jZ 1) jJ) (jQ (jZ 3) (jQ (jZ 4) jY)))) jY)) (jQ (zAC (jQ zAG jY)) jY))))) zAL)   (zAA (zAR (tx_w (zAs (tx_c (zAV M) (zAE M (jZ 1) jJ) zAG) (zA8 (tx_c (zAV M) (zAE M (jZ 1) jJ) zAG)))) (zAA (zAH 5 (zAE M (zAX (jQ (jZ 4) (jQ (jZ 3) jY))) (zBF M (zDE) z_int (by decide +kernel) (jQ (ex_c (zAV M) (zAE M (jZ 1) jJ) zAG) jY))) (hN:=fun _=>sc_2.nd))   (zAD (zAF (zAC (jQ (zAC (jQ (zAC (jQ (zAB M B D_10 (jQ (jZ 0) (jQ (jZ 2) jY))) (jQ (jZ 5) (jQ (jZ 5) jY)))) jY)) (jQ (zAC (jQ zAG jY)) jY)))))) zAL)   (zAA (zAR (tx_c (zAV M) (zAE M (jZ 1) jJ) zAG) (zAA (zBp (zAB M B Drec (jQ (jZ 0) (jQ (zAE M (jZ 1) jJ) (jQ (jZ 2) (jQ (zAB M B D_12 (jQ (jZ 3) jY)) jY))))) (zAq 2 M (zAK (zAJ 6 (hN:=fun _=>sc_2.nd)) (zAK (zAJ 7 (hN:=fun _=>sc_2.nd)) zAi))))   (zAD (zAF (zAC (jQ (zAB M B D_15 (jQ (jZ 6) (jQ (jZ 3) jY))) (jQ (zAC (jQ zAG (jQ (jZ 7) jY))) jY)))))) zAL)   (zAA (zHr 2 M (zAB M B D_14 (jQ (jZ 0) (jQ (jZ 3) jY))) (zAK (zAJ 8 (hN:=fun _=>sc_2.nd)) (zAK (zAJ 9 (hN:=fun _=>sc_2.nd)) zAi)))   (zAA (zBp (zAC (jQ (zAC jY) (jQ (zAC jY) (jQ (zAC jY) jY)))) (zAq 3 M (zAK (zAJ 6 (hN:=fun _=>sc_2.nd)) (zAK (zAJ 10 (hN:=fun _=>sc_2.nd)) (zAK (zAJ 11 (hN:=fun _=>sc_2.nd)) zAi)))))   (zAA (zBK M (fun _=>Ao) (zAh M (zAC (jQ (zAC (jQ jJ (jQ (jZ 8) jY))) (jQ (zAC (jQ jJ (jQ (jZ 9) jY))) (jQ (zAC (jQ jJ (jQ (zAB M B D_12 (jQ (jZ 8) jY)) jY))) (jQ (zAC (jQ jJ (jQ (zAB M B D_12 (jQ (jZ 9) jY)) jY))) jY)))))) (zAq 2 M (zAK (zAJ 12 (hN:=fun _=>sc_2.nd)) (zAK (zAJ 13 (hN:=fun _=>sc_2.nd)) zAi))) (zAA (zBp (zAB M B Drec (jQ (jZ 0) (jQ (zAE M (jZ 1) (jZ 12)) (jQ (jZ 2) (jQ (jZ 13) jY))))) (zAq 2 M (zAK (zAJ 14 (hN:=fun _=>sc_2.nd)) (zAK (zAJ 7 (hN:=fun _=>sc_2.nd)) zAi))))   (zAA (zCq 6 11 M (jQ (zAP M (jZ 6) (jZ 14)) (jQ (zAP M (jZ 11) (zAC (jQ (jZ 7) jY))) jY)) (hN:=fun _=>sc_2.nd))   (zAD (zAH 10 (zAP M (jZ 10) (zAC (jQ (zAS M (zAc M) z_len Af (jQ (jZ 6) jY)) jY))) (hN:=fun _=>sc_2.nd))))))   (zAD (zAF (zAC (jQ (jZ 6) (jQ (zAP M (zAP M (zAP M (zAC (jQ zAG jY)) (zAe M (jZ 10) zAb (zAT jJ))) (zAC (jQ (jZ 8) (jQ (jZ 9) jY)))) (jZ 11)) jY)))))))))))
abbrev zHx:Stmt:=top 48
theorem zIA:FnScope ["_law_saying_here","_law_ring_here","_law_steps","_law_plain","_law_due"] ["_law_saying_here","_law_ring_here","_law_steps"] (defScope zHx):=by walk_at "s"
def d_16:DS:=dSeq (dSet 3 (dTup (jW (dC (.int 0)) (jW (dC (.int 1)) (jW (dC (.int 2)) (jW (dC (.int 3)) (jW (dC (.int 4)) qQ)))))))
 (dSeq (dSet 4 (dDGetT (dDispK [.inr "yes",.inr "no",.inr "ask"] (jW (dTup (jW (jV 1) (jW (jV 1) qQ))) (jW (dTup (jW (jV 3) (jW (jV 3) qQ))) (jW (dTup (jW (jV 1) (jW (jV 3) qQ))) qQ)))) (dOp ixS (jV 0) (dC (.int 0)))))
 (dSeq (dIf (dOr (dTest (dOp neS (dCB lenS (jW (jV 2) qQ)) (dC (.int 1)))) (dTest (dOp neS (dSl (dOp ixS (jV 2) (dC (.int 0))) (dPart (dC (.int 1))) dNoPart) (jV 4)))) (dRet (dC (.bl false))) dNext)
 (dRet (dOrV (dOp neS (dOp ixS (jV 0) (dC (.int 0))) (dC (.str "ask"))) (dOp eqS (dOp ixS (jV 0) (dC (.int 1))) (dOp ixS (dOp ixS (jV 2) (dC (.int 0))) (dC (.int 0))))))))
def F_16:DF:=fnD none 3 5 d_16
theorem zP8(Fn:Fun K "_law_step_holds" "_law_step_holds" zHx f fd)(hm:mg "_law_step_holds"=some (.ref f))(hb:Binds K fd ["_law_saying_here","_law_ring_here","_law_steps"] [])(z_len:mg "len"=none):FD P wd K mg base (1) "_law_step_holds" none 3 F_16 :=
 zAU (k:=0) Fn zIA hm hb fun cdv A outer s H E M B=>zAA (zAH 3 (zAC (jQ jJ (jQ jJ (jQ jJ (jQ jJ (jQ jJ jY)))))) (hN:=fun _=>zIA.nd))
 (zAA (zAH 4 (zLI M (zLh (zGm (zAC (jQ (jZ 1) (jQ (jZ 1) jY))) (zGm (zAC (jQ (jZ 3) (jQ (jZ 3) jY))) (zGm (zAC (jQ (jZ 1) (jQ (jZ 3) jY))) zPD)))) (zAE M (jZ 0) jJ)) (hN:=fun _=>zIA.nd))
 (zAA (zAR (tx_w (zAs (tx_c (zBD M) (zAS M (zAc M) z_len Af (jQ (jZ 2) jY)) jJ) (zA8 (tx_c (zBD M) (zAe M (zAE M (jZ 2) jJ) (zAT jJ) zAb) (jZ 4))))) (zAD (zAF zBQ)) zAL)
 (zAD (zAF (zQp (ex_c (zBD M) (zAE M (jZ 0) jJ) zAG) (zB6 (ex_c (zAV M) (zAE M (jZ 0) jJ) (zAE M (zAE M (jZ 2) jJ) jJ))))))))
def zNb:DT:=dTest (dOp neS (dOp ixS (jV 0) (dOp ixS (jV 1) (dUn negS (dC (.int 1))))) (dC (.int 0)))
def zNi:DS:=dDrop (dMut 1 hAppend (jW (dOp ixS (jV 0) (dOp ixS (jV 1) (dUn negS (dC (.int 1))))) qQ))
abbrev zIu:Stmt:=top 44
theorem zMJ:FnScope ["_law_thing","_law_row"] ["_law_thing"] (defScope zIu):=by walk_at "s"
def d_17:DS:=dSeq (dIf (dTest (dOp neS (dCB sortedS (jW (jV 0) qQ)) (dLst (jW (dC (.int 0)) (jW (dC (.int 1)) (jW (dC (.int 2)) (jW (dC (.int 3)) (jW (dC (.int 4)) qQ)))))))) (dRet (dC (.bl false))) dNext)
 (dSeq (dSet 1 (dLst (jW (dC (.int 0)) qQ)))
 (dSeq (dWhile (zNb) (zNi) fuelX)
 (dRet (dOp eqS (dCB lenS (jW (jV 1) qQ)) (dC (.int 5))))))
def F_17:DF:=fnD none 1 2 d_17
theorem zPm(Fn:Fun K "_law_is_ring" "_law_is_ring" zIu f fd)(hm:mg "_law_is_ring"=some (.ref f))(hb:Binds K fd ["_law_thing"] [])(z_len:mg "len"=none)(z_sorted:mg "sorted"=none):FD P wd K mg base (1) "_law_is_ring" none 1 F_17 :=
 zAU (k:=0) Fn zMJ hm hb fun cdv A outer s H E M B=>zAA (zAR (tx_c (zBD M) (zAS M (zFD M) z_sorted boot_sorted (jQ (jZ 0) jY)) (zAX (jQ jJ (jQ jJ (jQ jJ (jQ jJ (jQ jJ jY))))))) (zAD (zAF zBQ)) zAL)
 (zAA (zAH 1 (zAX (jQ jJ jY)) (hN:=fun _=>zMJ.nd))
 (zAA (zBT fuelX (fun _=>Ao) (tx_c (zBD M) (zAE M (jZ 0) (zAE M (jZ 1) (zBI jJ))) jJ) (zAD (zA9 (zBG M A9 BC (fun _=>zBB) zA1 (pv' 1) (jQ (zAE M (jZ 0) (zAE M (jZ 1) (zBI jJ))) jY)))))
 (zAD (zAF (ex_c (zAV M) (zAS M (zAc M) z_len Af (jQ (jZ 1) jY)) jJ)))))
def zEw:DE:=dCB isiS (jW (jV 0) (jW (dC (.ty "int")) qQ))
abbrev zJE:Stmt:=top 49
theorem zQZ:FnScope ["_law_thing"] ["_law_thing"] (defScope zJE):=by walk_at "s"
def d_18:DS:=dSeq (dIf (dOr (dNot (dTru (dCB isiS (jW (jV 0) (jW (dC (.ty "tuple")) qQ))))) (dNot (dTru (dCB allS (jW (dComp none [none] (dSeqI (jV 0)) (gdName 0) dYes (zEw)) qQ))))) (dRet (dC (.bl false))) dNext)
 (dRet (dCall none F_17 [] (jW (jV 0) qQ)))
def F_18:DF:=fnD none 1 1 d_18
theorem zQR(Fn:Fun K "_law_is_aim" "_law_is_aim" zJE f fd)(hm:mg "_law_is_aim"=some (.ref f))(hb:Binds K fd ["_law_thing"] [])(z_all:mg "all"=none)(z_int:mg "int"=none)(z_isinstance:mg "isinstance"=none)(z_tuple:mg "tuple"=none)(D_17:FD P wd K mg base (1) "_law_is_ring" none 1 F_17):FD P wd K mg base (2) "_law_is_aim" none 1 F_18 :=
 zAU (k:=1) Fn zQZ hm hb fun cdv A outer s H E M B=>zAA (zAR (tx_w (zAs (zBM (tx_v M (zAS M (zAz M) z_isinstance boot_isinstance (jQ (jZ 0) (jQ (zBE M z_tuple BM) jY))))) (zA8 (zBM (tx_v M (zAS M (zEB M) z_all IM (jQ (zAw none (N':=["_law_one"]) (ix:=[none]) M (fun _=>⟨rfl,by kernel_rfl⟩) (zAh M (jZ 0)) (zAJ 0 (hN:=fun _=>(by show (["_law_one"]:List Str).Nodup; decide +kernel))) zA7 (zAS M.comp (zAz M.comp) z_isinstance boot_isinstance (jQ (jZ 0) (jQ (zBE M.comp z_int (by decide +kernel)) jY))) (hix:=hix0)) jY))))))) (zAD (zAF zBQ)) zAL)
 (zAD (zAF (zAB M B D_17 (jQ (jZ 0) jY))))
abbrev zIk:Stmt:=top 45
theorem zPb:FnScope ["_law_a","_law_b"] ["_law_a","_law_b"] (defScope zIk):=by walk_at "s"
def d_19:DS:=dRet (dCall none F_13 [] (jW (dCall none F_13 [] (jW (jV 0) (jW (jV 1) qQ))) (jW (dCall none F_13 [] (jW (dCall none F_12 [] (jW (jV 0) qQ)) (jW (dCall none F_12 [] (jW (jV 1) qQ)) qQ))) qQ)))
def F_19:DF:=fnD none 2 2 d_19
theorem zPe(Fn:Fun K "_law_there_back" "_law_there_back" zIk f fd)(hm:mg "_law_there_back"=some (.ref f))(hb:Binds K fd ["_law_a","_law_b"] [])(D_12:FD P wd K mg base (1) "_law_back" none 1 F_12)(D_13:FD P wd K mg base (1) "_law_then" none 2 F_13):FD P wd K mg base (2) "_law_there_back" none 2 F_19 :=
 zAU (k:=1) Fn zPb hm hb fun cdv A outer s H E M B=>zAD (zAF (zAB M B D_13 (jQ (zAB M B D_13 (jQ (jZ 0) (jQ (jZ 1) jY))) (jQ (zAB M B D_13 (jQ (zAB M B D_12 (jQ (jZ 0) jY)) (jQ (zAB M B D_12 (jQ (jZ 1) jY)) jY))) jY))))
def zHO (rec:DF):DE:=dCall none rec [] (jW (dOp ixS (jV 4) (jV 0)) (jW (jV 1) (jW (jV 2) (jW (jV 3) qQ))))
def zBs (rec:DF):DE:=dCB isiS (jW (jV 0) (jW (dC (.ty "int")) qQ))
abbrev zIB:Stmt:=top 50
theorem zCY:FnScope ["_law_saying_here","_law_ring_here","_law_steps","_law_paper","_law_i","_law_j","_law_k","_law_a","_law_b","_law_some","_law_told"] ["_law_saying_here","_law_ring_here","_law_steps","_law_paper"] (defScope zIB):=by walk_at "s"
def d_20 (rec:DF):DS:=dSeq (dUnp (gdTup 5 (gdCons (gdName 4) (gdCons (gdName 5) (gdCons (gdName 6) (gdCons (gdName 7) (gdCons (gdName 8) gdNil)))))) (dSl (jV 3) (dPart (dC (.int 1))) (dPart (dC (.int 6)))))
 (dSeq (dIf (dOr (dTest (dOp neS (dOp ixS (jV 0) (dC (.int 0))) (dC (.str "and")))) (dNot (dTru (dCB allS (jW (dComp none [none] (dSeqI (dTup (jW (jV 4) (jW (jV 5) (jW (jV 6) qQ))))) (gdName 0) dYes ((zBs rec))) qQ))))) (dRet (dC (.bl false))) dNext)
 (dSeq (dIf (dOr (dNot (dTest (dChainN (dC (.int 0)) (dLink ltS (jV 4) (dLink ltS (jV 5) (dLink ltS (jV 6) (dLast ltS (dCB lenS (jW (jV 2) qQ))))))))) (dOr (dNot (dTru (dCall none F_18 [] (jW (jV 7) qQ)))) (dOr (dNot (dTru (dCall none F_18 [] (jW (jV 8) qQ)))) (dTest (dOp neS (dCall none F_19 [] (jW (jV 7) (jW (jV 8) qQ))) (jV 1)))))) (dRet (dC (.bl false))) dNext)
 (dSeq (dSet 9 (dLst (jW (dTup (jW (dC (.int 1)) (jW (jV 7) (jW (dSl (jV 2) dNoPart (dPart (jV 4))) qQ)))) (jW (dTup (jW (dC (.int 2)) (jW (jV 8) (jW (dSl (jV 2) (dPart (jV 4)) (dPart (jV 5))) qQ)))) (jW (dTup (jW (dC (.int 1)) (jW (dCall none F_12 [] (jW (jV 7) qQ)) (jW (dSl (jV 2) (dPart (jV 5)) (dPart (jV 6))) qQ)))) (jW (dTup (jW (dC (.int 2)) (jW (dCall none F_12 [] (jW (jV 8) qQ)) (jW (dSl (jV 2) (dPart (jV 6)) dNoPart) qQ)))) qQ))))))
 (dSeq (dSet 10 (dComp none [none,none,none,none,some 0] (dZipM (jW (jV 9) (jW (dSl (jV 3) (dPart (dC (.int 6))) dNoPart) qQ))) (gdTup 2 (gdCons (gdTup 3 (gdCons (gdName 0) (gdCons (gdName 1) (gdCons (gdName 2) gdNil)))) (gdCons (gdName 3) gdNil))) dYes ((zHO rec))))
 (dRet (dOp (inS true) (dC (.bl false)) (jV 10)))))))
def F_20 (rec:DF):DF:=fnD none 4 11 (d_20 rec)
theorem zPL(Fn:Fun K "_law_and_holds" "_law_and_holds" zIB f fd)(hm:mg "_law_and_holds"=some (.ref f))(hb:Binds K fd ["_law_saying_here","_law_ring_here","_law_steps","_law_paper"] [])(z_all:mg "all"=none)(z_int:mg "int"=none)(z_isinstance:mg "isinstance"=none)(z_len:mg "len"=none)(z_zip:mg "zip"=none)(D_12:FD P wd K mg base (1) "_law_back" none 1 F_12)(D_18:FD P wd K mg base (2) "_law_is_aim" none 1 F_18)(D_19:FD P wd K mg base (2) "_law_there_back" none 2 F_19)(hlr:2<=lr)(Drec:FD P wd K mg base lr "_law_holds" none 4 recF):FD P wd K mg base (lr+1) "_law_and_holds" none 4 (F_20 recF) :=
 zAU (k:=lr) Fn zCY hm hb fun cdv A outer s H E M B=>zAA (zBp (zAe M (jZ 3) (zAT jJ) (zAT jJ)) (zAq 5 M (zAK (zAJ 4 (hN:=fun _=>zCY.nd)) (zAK (zAJ 5 (hN:=fun _=>zCY.nd)) (zAK (zAJ 6 (hN:=fun _=>zCY.nd)) (zAK (zAJ 7 (hN:=fun _=>zCY.nd)) (zAK (zAJ 8 (hN:=fun _=>zCY.nd)) zAi)))))))   (zAA (zAR (tx_w (zAs (tx_c (zBD M) (zAE M (jZ 0) jJ) zAG) (zA8 (zBM (tx_v M (zAS M (zEB M) z_all IM (jQ (zAw none (N':=["_law_one"]) (ix:=[none]) M (fun _=>⟨rfl,by kernel_rfl⟩) (zAh M (zAC (jQ (jZ 4) (jQ (jZ 5) (jQ (jZ 6) jY))))) (zAJ 0 (hN:=fun _=>(by show (["_law_one"]:List Str).Nodup; decide +kernel))) zA7 (zAS M.comp (zAz M.comp) z_isinstance boot_isinstance (jQ (jZ 0) (jQ (zBE M.comp z_int (by decide +kernel)) jY))) (hix:=hix0)) jY))))))) (zAD (zAF zBQ)) zAL)   (zAA (zAR (tx_w (zAs (zBM (zJv jJ (zEp zBC (jZ 4) (zEp zBC (jZ 5) (zEp zBC (jZ 6) (zNZ zBC (zAS M (zAc M) z_len Af (jQ (jZ 2) jY)))))))) (zAs (zBM (tx_v M (zAB M B D_18 (jQ (jZ 7) jY)))) (zAs (zBM (tx_v M (zAB M B D_18 (jQ (jZ 8) jY)))) (zA8 (tx_c (zBD M) (zAB M B D_19 (jQ (jZ 7) (jQ (jZ 8) jY))) (jZ 1))))))) (zAD (zAF zBQ)) zAL)   (zAA (zAH 9 (zAX (jQ (zAC (jQ jJ (jQ (jZ 7) (jQ (zAe M (jZ 2) zAb (zAT (jZ 4))) jY)))) (jQ (zAC (jQ jJ (jQ (jZ 8) (jQ (zAe M (jZ 2) (zAT (jZ 4)) (zAT (jZ 5))) jY)))) (jQ (zAC (jQ jJ (jQ (zAB M B D_12 (jQ (jZ 7) jY)) (jQ (zAe M (jZ 2) (zAT (jZ 5)) (zAT (jZ 6))) jY)))) (jQ (zAC (jQ jJ (jQ (zAB M B D_12 (jQ (jZ 8) jY)) (jQ (zAe M (jZ 2) (zAT (jZ 6)) zAb) jY)))) jY))))) (hN:=fun _=>zCY.nd))   (zAA (zCi 10 none (N':=["_law_at_here","_law_aim","_law_row","_law_one","_law_saying_here"]) (ix:=[none,none,none,none,some 0]) M (fun _=>⟨rfl,by kernel_rfl⟩) (zMr M z_zip (jQ (jZ 9) (jQ (zAe M (jZ 3) (zAT jJ) zAb) jY))) (zAq 2 M.comp (zAK (zAq 3 M.comp (zAK (zAJ 0 (hN:=fun _=>(by show (["_law_at_here","_law_aim","_law_row","_law_one","_law_saying_here"]:List Str).Nodup; decide +kernel))) (zAK (zAJ 1 (hN:=fun _=>(by show (["_law_at_here","_law_aim","_law_row","_law_one","_law_saying_here"]:List Str).Nodup; decide +kernel))) (zAK (zAJ 2 (hN:=fun _=>(by show (["_law_at_here","_law_aim","_law_row","_law_one","_law_saying_here"]:List Str).Nodup; decide +kernel))) zAi)))) (zAK (zAJ 3 (hN:=fun _=>(by show (["_law_at_here","_law_aim","_law_row","_law_one","_law_saying_here"]:List Str).Nodup; decide +kernel))) zAi))) zA7 (zAB M.comp B.comp Drec (jQ (zAE M.comp (jZ 4) (jZ 0)) (jQ (jZ 1) (jQ (jZ 2) (jQ (jZ 3) jY))))) (hix:=hix0) (hN:=fun _=>zCY.nd))   (zAD (zAF (ex_c (zGt M) zBQ (jZ 10))))))))
abbrev st_0:Stmt:=top 51
theorem sc_0:FnScope ["_law_saying_here","_law_ring_here","_law_steps","_law_paper","_law_away"] ["_law_saying_here","_law_ring_here","_law_steps","_law_paper"] (defScope st_0):=by walk_at "s"
def d_0 (rec:DF):DS:=dSeq (dIf (dTest (dOp eqS (jV 3) (dTup (jW (dC (.str "step")) qQ)))) (dRet (dCall none F_16 [] (jW (jV 0) (jW (jV 1) (jW (jV 2) qQ))))) dNext)
 (dSeq (dIf (dOr (dNot (dTru (dCB isiS (jW (jV 3) (jW (dC (.ty "tuple")) qQ))))) (dTest (dOp (inS true) (dCB lenS (jW (jV 3) qQ)) (dTup (jW (dC (.int 2)) (jW (dC (.int 10)) qQ)))))) (dRet (dC (.bl false))) dNext)
 (dSeq (dIf (dTest (dOp eqS (dCB lenS (jW (jV 3) qQ)) (dC (.int 10)))) (dRet (dAndV (dOp eqS (dOp ixS (jV 3) (dC (.int 0))) (dC (.str "and"))) (dCall none (F_20 rec) [] (jW (jV 0) (jW (jV 1) (jW (jV 2) (jW (jV 3) qQ))))))) dNext)
 (dSeq (dIf (dOr (dTest (dOp neS (dOp ixS (jV 3) (dC (.int 0))) (dC (.str "not")))) (dOr (dTest (dOp neS (dOp ixS (jV 0) (dC (.int 0))) (dC (.str "not")))) (dTest (dOp eqS (dCB lenS (jW (jV 2) qQ)) (dC (.int 0)))))) (dRet (dC (.bl false))) dNext)
 (dSeq (dSet 4 (dCall none F_12 [] (jW (jV 1) qQ)))
 (dRet (dCall none rec [] (jW (dOp ixS (jV 0) (dC (.int 1))) (jW (jV 4) (jW (dCall none F_15 [] (jW (jV 2) (jW (jV 4) qQ))) (jW (dOp ixS (jV 3) (dC (.int 1))) qQ))))))))))
def F_0:Nat->DF
 | 0=>fun _=>none
 | n+1=>fnD none 4 5 (d_0 (F_0 n))
theorem ok_0(Fn:Fun K "_law_holds" "_law_holds" st_0 f fd)(hm:mg "_law_holds"=some (.ref f))(hb:Binds K fd ["_law_saying_here","_law_ring_here","_law_steps","_law_paper"] [])(z_isinstance:mg "isinstance"=none)(z_len:mg "len"=none)(z_tuple:mg "tuple"=none)(D_12:FD P wd K mg base (1) "_law_back" none 1 F_12)(D_15:FD P wd K mg base (2) "_law_followed" none 2 F_15)(D_16:FD P wd K mg base (1) "_law_step_holds" none 3 F_16)(D_20:∀ (lr:Nat) (recF:DF),2<=lr->FD P wd K mg base lr "_law_holds" none 4 recF->FD P wd K mg base (lr+1) "_law_and_holds" none 4 (F_20 recF))(n:Nat):FD P wd K mg base (2+2 * n) "_law_holds" none 4 (F_0 n):=by
 induction n with
 | zero=>exact zBY Fn hm hb rfl
 | succ n ih =>
  have Drec:=ih
  have D_20:=D_20 (2+2 * n) (F_0 n) ⋯ ih
  exact zAU (k:=2+2 * n+1) Fn sc_0 hm hb fun cdv A outer s H E M B=>zAA (zAR (tx_c (zAV M) (jZ 3) (zAC (jQ zAG jY))) (zAD (zAF (zAB M B D_16 (jQ (jZ 0) (jQ (jZ 1) (jQ (jZ 2) jY)))))) zAL)   (zAA (zAR (tx_w (zAs (zBM (tx_v M (zAS M (zAz M) z_isinstance boot_isinstance (jQ (jZ 3) (jQ (zBE M z_tuple BM) jY))))) (zA8 (tx_c (zGt M) (zAS M (zAc M) z_len Af (jQ (jZ 3) jY)) (zAC (jQ jJ (jQ jJ jY))))))) (zAD (zAF zBQ)) zAL)   (zAA (zAR (tx_c (zAV M) (zAS M (zAc M) z_len Af (jQ (jZ 3) jY)) jJ) (zAD (zAF (zBo (ex_c (zAV M) (zAE M (jZ 3) jJ) zAG) (zB6 (zAB M B D_20 (jQ (jZ 0) (jQ (jZ 1) (jQ (jZ 2) (jQ (jZ 3) jY))))))))) zAL)   (zAA (zAR (tx_w (zAs (tx_c (zBD M) (zAE M (jZ 3) jJ) zAG) (zAs (tx_c (zBD M) (zAE M (jZ 0) jJ) zAG) (zA8 (tx_c (zAV M) (zAS M (zAc M) z_len Af (jQ (jZ 2) jY)) jJ))))) (zAD (zAF zBQ)) zAL)   (zAA (zAH 4 (zAB M B D_12 (jQ (jZ 1) jY)) (hN:=fun _=>sc_0.nd))   (zAD (zAF (zAB M B Drec (jQ (zAE M (jZ 0) jJ) (jQ (jZ 4) (jQ (zAB M B D_15 (jQ (jZ 2) (jQ (jZ 4) jY))) (jQ (zAE M (jZ 3) jJ) jY)))))))))))
def zMw:DS:=dSeq (dSet 15 (dOp ixS (dLst (jW (dTup (jW (dC (.int 0)) (jW (dC (.int 1)) (jW (dC (.int 2)) (jW (dC (.int 3)) (jW (dC (.int 4)) qQ)))))) (jW (jV 14) qQ))) (dCB intS (jW (dOp eqS (dOp ixS (jV 13) (dC (.int 0))) (dC (.str "yes"))) qQ))))
 (dSeq (dPar2 16 17 (jW (dTup (jW (dTup (jW (dC (.int 0)) (jW (jV 15) (jW (jV 15) qQ)))) qQ)) (jW (dTup (jW (dC (.str "step")) qQ)) qQ)))
 (dSeq (dIf (dTest (dOp eqS (dOp ixS (jV 13) (dC (.int 0))) (dC (.str "ask")))) (dSet 16 (dTup (jW (dTup (jW (dOp ixS (jV 13) (dC (.int 1))) (jW (jV 14) (jW (dTup (jW (dC (.int 0)) (jW (dC (.int 1)) (jW (dC (.int 2)) (jW (dC (.int 3)) (jW (dC (.int 4)) qQ)))))) qQ)))) qQ))) dNext)
 (dSeq (dPar2 10 12 (jW (dOp addS (jV 10) (jV 16)) (jW (dOp addS (jV 12) (dTup (jW (jV 17) qQ))) qQ)))
 (dSet 11 (dOp addS (jV 11) (dTup (jW (dCB lenS (jW (jV 10) qQ)) qQ)))))))
def zN5:DE:=dCall none F_13 [] (jW (dCall none F_13 [] (jW (jV 2) (jW (jV 0) qQ))) (jW (jV 1) qQ))
def zMN:DS:=dSetIx 4 (jV 6) (jV 5)
def zNr:DT:=dTest (dOp neS (dOp ixS (jV 2) (dOp ixS (jV 3) (dUn negS (dC (.int 1))))) (dC (.int 0)))
def zN7:DS:=dDrop (dMut 3 hAppend (jW (dOp ixS (jV 2) (dOp ixS (jV 3) (dUn negS (dC (.int 1))))) qQ))
abbrev zI9:Stmt:=top 54
theorem zA0:FnScope ["_law_one","_law_other","_law_ring_here","_law_row","_law_by","_law_place","_law_to","_law_away","_law_a","_law_b","_law_steps","_law_places","_law_papers","_law_saying_here","_law_aim","_law_side","_law_more","_law_paper"] ["_law_one","_law_other","_law_ring_here"] (defScope zI9):=by walk_at "s"
def d_21:DS:=dSeq (dSet 3 (dLst (jW (dC (.int 0)) qQ)))
 (dSeq (dWhile (zNr) (zN7) fuelX)
 (dSeq (dSet 4 (dOp mulS (dLst (jW (dC (.int 0)) qQ)) (dC (.int 5))))
 (dSeq (dFor none (dZip (jW (dLst (jW (dC (.int 0)) (jW (dC (.int 1)) (jW (dC (.int 4)) (jW (dC (.int 3)) (jW (dC (.int 2)) qQ)))))) (jW (jV 3) qQ))) (gdTup 2 (gdCons (gdName 5) (gdCons (gdName 6) gdNil))) (zMN))
 (dSeq (dUnp (gdTup 2 (gdCons (gdName 7) (gdCons (gdName 4) gdNil))) (dTup (jW (dCall none F_12 [] (jW (dCB tupleS (jW (jV 4) qQ)) qQ)) (jW (dCB tupleS (jW (jV 4) qQ)) qQ))))
 (dSeq (dUnpL 2 (gdCons (gdName 8) (gdCons (gdName 9) gdNil)) (dComp none [none,some 4,some 7] (dSeqI (dTup (jW (dTup (jW (dC (.int 1)) (jW (dC (.int 2)) (jW (dC (.int 0)) (jW (dC (.int 3)) (jW (dC (.int 4)) qQ)))))) (jW (dTup (jW (dC (.int 3)) (jW (dC (.int 4)) (jW (dC (.int 2)) (jW (dC (.int 0)) (jW (dC (.int 1)) qQ)))))) qQ)))) (gdName 0) dYes (zN5)))
 (dSeq (dUnp (gdTup 3 (gdCons (gdName 10) (gdCons (gdName 11) (gdCons (gdName 12) gdNil)))) (dTup (jW (dTup qQ) (jW (dTup qQ) (jW (dTup qQ) qQ)))))
 (dSeq (dFor none (dSeqI (dTup (jW (dTup (jW (jV 0) (jW (jV 8) qQ))) (jW (dTup (jW (jV 1) (jW (jV 9) qQ))) (jW (dTup (jW (jV 0) (jW (dCall none F_12 [] (jW (jV 8) qQ)) qQ))) (jW (dTup (jW (jV 1) (jW (dCall none F_12 [] (jW (jV 9) qQ)) qQ))) qQ)))))) (gdTup 2 (gdCons (gdName 13) (gdCons (gdName 14) gdNil))) (zMw))
 (dRet (dTup (jW (jV 10) (jW (dOp addS (dOp addS (dOp addS (dTup (jW (dC (.str "and")) qQ)) (dSl (jV 11) dNoPart (dPart (dC (.int 3))))) (dTup (jW (jV 8) (jW (jV 9) qQ)))) (jV 12)) qQ)))))))))))
def F_21:DF:=fnD none 3 18 d_21
theorem zPt(Fn:Fun K "_law_by_no_rings" "_law_by_no_rings" zI9 f fd)(hm:mg "_law_by_no_rings"=some (.ref f))(hb:Binds K fd ["_law_one","_law_other","_law_ring_here"] [])(z_int:mg "int"=none)(z_len:mg "len"=none)(z_tuple:mg "tuple"=none)(z_zip:mg "zip"=none)(D_12:FD P wd K mg base (1) "_law_back" none 1 F_12)(D_13:FD P wd K mg base (1) "_law_then" none 2 F_13):FD P wd K mg base (2) "_law_by_no_rings" none 3 F_21 :=
 zAU (k:=1) Fn zA0 hm hb fun cdv A outer s H E M B=>zAA (zAH 3 (zAX (jQ jJ jY)) (hN:=fun _=>zA0.nd))
 (zAA (zBT fuelX (fun _=>Ao) (tx_c (zBD M) (zAE M (jZ 2) (zAE M (jZ 3) (zBI jJ))) jJ) (zAD (zA9 (zBG M A9 BC (fun _=>zBB) zA1 (pv' 3) (jQ (zAE M (jZ 2) (zAE M (jZ 3) (zBI jJ))) jY)))))
 (zAA (zAH 4 (zBA (zAX (jQ jJ jY)) jJ) (hN:=fun _=>zA0.nd))
 (zAA (zBK M (fun _=>Ao) (zPB M z_zip (jQ (zAX (jQ jJ (jQ jJ (jQ jJ (jQ jJ (jQ jJ jY)))))) (jQ (jZ 3) jY))) (zAq 2 M (zAK (zAJ 5 (hN:=fun _=>zA0.nd)) (zAK (zAJ 6 (hN:=fun _=>zA0.nd)) zAi))) (zAD (zCT 4 (jZ 6) (pv' 4) (jZ 5))))
 (zAA (zBp (zAC (jQ (zAB M B D_12 (jQ (zBF M (zA6 M) z_tuple BM (jQ (jZ 4) jY)) jY)) (jQ (zBF M (zA6 M) z_tuple BM (jQ (jZ 4) jY)) jY))) (zAq 2 M (zAK (zAJ 7 (hN:=fun _=>zA0.nd)) (zAK (zAJ 4 (hN:=fun _=>zA0.nd)) zAi))))
 (zAA (zHr 2 M (zAw none (N':=["_law_near","_law_by","_law_away"]) (ix:=[none,some 4,some 7]) M (fun _=>⟨rfl,by kernel_rfl⟩) (zAh M (zAC (jQ (zAC (jQ jJ (jQ jJ (jQ jJ (jQ jJ (jQ jJ jY)))))) (jQ (zAC (jQ jJ (jQ jJ (jQ jJ (jQ jJ (jQ jJ jY)))))) jY)))) (zAJ 0 (hN:=fun _=>(by show (["_law_near","_law_by","_law_away"]:List Str).Nodup; decide +kernel))) zA7 (zAB M.comp B.comp D_13 (jQ (zAB M.comp B.comp D_13 (jQ (jZ 2) (jQ (jZ 0) jY))) (jQ (jZ 1) jY))) (hix:=hix0)) (zAK (zAJ 8 (hN:=fun _=>zA0.nd)) (zAK (zAJ 9 (hN:=fun _=>zA0.nd)) zAi)))
 (zAA (zBp (zAC (jQ (zAC jY) (jQ (zAC jY) (jQ (zAC jY) jY)))) (zAq 3 M (zAK (zAJ 10 (hN:=fun _=>zA0.nd)) (zAK (zAJ 11 (hN:=fun _=>zA0.nd)) (zAK (zAJ 12 (hN:=fun _=>zA0.nd)) zAi)))))
 (zAA (zBK M (fun _=>Ao) (zAh M (zAC (jQ (zAC (jQ (jZ 0) (jQ (jZ 8) jY))) (jQ (zAC (jQ (jZ 1) (jQ (jZ 9) jY))) (jQ (zAC (jQ (jZ 0) (jQ (zAB M B D_12 (jQ (jZ 8) jY)) jY))) (jQ (zAC (jQ (jZ 1) (jQ (zAB M B D_12 (jQ (jZ 9) jY)) jY))) jY)))))) (zAq 2 M (zAK (zAJ 13 (hN:=fun _=>zA0.nd)) (zAK (zAJ 14 (hN:=fun _=>zA0.nd)) zAi))) (zAA (zAH 15 (zAE M (zAX (jQ (zAC (jQ jJ (jQ jJ (jQ jJ (jQ jJ (jQ jJ jY)))))) (jQ (jZ 14) jY))) (zBF M (zDE) z_int (by decide +kernel) (jQ (ex_c (zAV M) (zAE M (jZ 13) jJ) zAG) jY))) (hN:=fun _=>zA0.nd))
 (zAA (zCq 16 17 M (jQ (zAC (jQ (zAC (jQ jJ (jQ (jZ 15) (jQ (jZ 15) jY)))) jY)) (jQ (zAC (jQ zAG jY)) jY)) (hN:=fun _=>zA0.nd))
 (zAA (zAR (tx_c (zAV M) (zAE M (jZ 13) jJ) zAG) (zAD (zAH 16 (zAC (jQ (zAC (jQ (zAE M (jZ 13) jJ) (jQ (jZ 14) (jQ (zAC (jQ jJ (jQ jJ (jQ jJ (jQ jJ (jQ jJ jY)))))) jY)))) jY)) (hN:=fun _=>zA0.nd))) zAL)
 (zAA (zCq 10 12 M (jQ (zAP M (jZ 10) (jZ 16)) (jQ (zAP M (jZ 12) (zAC (jQ (jZ 17) jY))) jY)) (hN:=fun _=>zA0.nd))
 (zAD (zAH 11 (zAP M (jZ 11) (zAC (jQ (zAS M (zAc M) z_len Af (jQ (jZ 10) jY)) jY))) (hN:=fun _=>zA0.nd))))))))
 (zAD (zAF (zAC (jQ (jZ 10) (jQ (zAP M (zAP M (zAP M (zAC (jQ zAG jY)) (zAe M (jZ 11) zAb (zAT jJ))) (zAC (jQ (jZ 8) (jQ (jZ 9) jY)))) (jZ 12)) jY))))))))))))
abbrev zI6:Stmt:=top 25
theorem zPW:FnScope ["paper","word","many"] ["paper","word","many"] (defScope zI6):=by walk_at "s"
def d_22:DS:=dRet (dAndV (dCB isiS (jW (jV 0) (jW (dC (.ty "tuple")) qQ))) (dAndV (dOp eqS (dCB lenS (jW (jV 0) qQ)) (jV 2)) (dOp eqS (dOp ixS (jV 0) (dC (.int 0))) (jV 1))))
def F_22:DF:=fnD none 3 3 d_22
theorem zQC(Fn:Fun K "is_form" "is_form" zI6 f fd)(hm:mg "is_form"=some (.ref f))(hb:Binds K fd ["paper","word","many"] [])(z_isinstance:mg "isinstance"=none)(z_len:mg "len"=none)(z_tuple:mg "tuple"=none):FD P wd K mg base (1) "is_form" none 3 F_22 :=
 zAU (k:=0) Fn zPW hm hb fun cdv A outer s H E M B=>zAD (zAF (zBo (zAS M (zAz M) z_isinstance boot_isinstance (jQ (jZ 0) (jQ (zBE M z_tuple BM) jY))) (zBo (ex_c (zAV M) (zAS M (zAc M) z_len Af (jQ (jZ 0) jY)) (jZ 2)) (zB6 (ex_c (zAV M) (zAE M (jZ 0) jJ) (jZ 1))))))
def zEn:DE:=dIndex (jV 1) (jW (jV 0) qQ)
abbrev zIG:Stmt:=top 17
theorem zQI:FnScope ["turning"] ["turning"] (defScope zIG):=by walk_at "s"
def d_23:DS:=dRet (dCB tupleS (jW (dComp none [none,some 0] (dRng1 (jW (dCB lenS (jW (jV 0) qQ)) qQ)) (gdName 0) dYes (zEn)) qQ))
def F_23:DF:=fnD none 1 1 d_23
theorem zQF(Fn:Fun K "back" "back" zIG f fd)(hm:mg "back"=some (.ref f))(hb:Binds K fd ["turning"] [])(z_len:mg "len"=none)(z_range:mg "range"=none)(z_tuple:mg "tuple"=none):FD P wd K mg base (1) "back" none 1 F_23 :=
 zAU (k:=0) Fn zQI hm hb fun cdv A outer s H E M B=>zAD (zAF (zBF M (zA6 M) z_tuple BM (jQ (zAw none (N':=["place","turning"]) (ix:=[none,some 0]) M (fun _=>⟨rfl,by kernel_rfl⟩) (zDe M z_range (jQ (zAS M (zAc M) z_len Af (jQ (jZ 0) jY)) jY)) (zAJ 0 (hN:=fun _=>(by show (["place","turning"]:List Str).Nodup; decide +kernel))) zA7 (zF6 M.comp (jZ 1) (jQ (jZ 0) jY)) (hix:=hix0)) jY)))
def zE4:DE:=dOp ixS (jV 1) (jV 0)
abbrev zI5:Stmt:=top 16
theorem zPk:FnScope ["one","other"] ["one","other"] (defScope zI5):=by walk_at "s"
def d_24:DS:=dRet (dCB tupleS (jW (dComp none [none,some 1] (dSeqI (jV 0)) (gdName 0) dYes (zE4)) qQ))
def F_24:DF:=fnD none 2 2 d_24
theorem zQa(Fn:Fun K "then" "then" zI5 f fd)(hm:mg "then"=some (.ref f))(hb:Binds K fd ["one","other"] [])(z_tuple:mg "tuple"=none):FD P wd K mg base (1) "then" none 2 F_24 :=
 zAU (k:=0) Fn zPk hm hb fun cdv A outer s H E M B=>zAD (zAF (zBF M (zA6 M) z_tuple BM (jQ (zAw none (N':=["place","other"]) (ix:=[none,some 1]) M (fun _=>⟨rfl,by kernel_rfl⟩) (zAh M (jZ 0)) (zAJ 0 (hN:=fun _=>(by show (["place","other"]:List Str).Nodup; decide +kernel))) zA7 (zAE M.comp (jZ 1) (jZ 0)) (hix:=hix0)) jY)))
abbrev zIj:Stmt:=top 22
theorem zMH:FnScope ["steps","turning","last"] ["steps","turning"] (defScope zIj):=by walk_at "s"
def d_25:DS:=dSeq (dSet 2 (dOp ixS (jV 0) (dUn negS (dC (.int 1)))))
 (dRet (dOp addS (dSl (jV 0) dNoPart (dPart (dUn negS (dC (.int 1))))) (dTup (jW (dTup (jW (dOp ixS (jV 2) (dC (.int 0))) (jW (dCall none F_24 [] (jW (dOp ixS (jV 2) (dC (.int 1))) (jW (jV 1) qQ))) (jW (dCall none F_24 [] (jW (dOp ixS (jV 2) (dC (.int 2))) (jW (jV 1) qQ))) qQ)))) qQ))))
def F_25:DF:=fnD none 2 3 d_25
theorem zP4(Fn:Fun K "last_followed" "last_followed" zIj f fd)(hm:mg "last_followed"=some (.ref f))(hb:Binds K fd ["steps","turning"] [])(D_24:FD P wd K mg base (1) "then" none 2 F_24):FD P wd K mg base (2) "last_followed" none 2 F_25 :=
 zAU (k:=1) Fn zMH hm hb fun cdv A outer s H E M B=>zAA (zAH 2 (zAE M (jZ 0) (zBI jJ)) (hN:=fun _=>zMH.nd))
 (zAD (zAF (zAP M (zAe M (jZ 0) zAb (zAT (zBI jJ))) (zAC (jQ (zAC (jQ (zAE M (jZ 2) jJ) (jQ (zAB M B D_24 (jQ (zAE M (jZ 2) jJ) (jQ (jZ 1) jY))) (jQ (zAB M B D_24 (jQ (zAE M (jZ 2) jJ) (jQ (jZ 1) jY))) jY)))) jY)))))
abbrev zH6:Stmt:=top 29
theorem zPi:FnScope ["saying","ring","row","paper"] ["saying","ring","row","paper"] (defScope zH6):=by walk_at "s"
def d_26:DS:=dSeq (dIf (dOr (dTest (dOp neS (dOp ixS (jV 0) (dC (.int 0))) (dC (.str "not")))) (dTest (dOp eqS (dCB lenS (jW (jV 2) qQ)) (dC (.int 0))))) (dRet (dC .non)) dNext)
 (dRet (dLst (jW (dTup (jW (dOp ixS (jV 0) (dC (.int 1))) (jW (dCall none F_23 [] (jW (jV 1) qQ)) (jW (dCall none F_25 [] (jW (jV 2) (jW (dCall none F_23 [] (jW (jV 1) qQ)) qQ))) (jW (dOp ixS (jV 3) (dC (.int 1))) qQ))))) qQ)))
def F_26:DF:=fnD none 4 4 d_26
theorem zQO(Fn:Fun K "not_claims" "not_claims" zH6 f fd)(hm:mg "not_claims"=some (.ref f))(hb:Binds K fd ["saying","ring","row","paper"] [])(z_len:mg "len"=none)(D_23:FD P wd K mg base (1) "back" none 1 F_23)(D_25:FD P wd K mg base (2) "last_followed" none 2 F_25):FD P wd K mg base (3) "not_claims" none 4 F_26 :=
 zAU (k:=2) Fn zPi hm hb fun cdv A outer s H E M B=>zAA (zAR (tx_w (zAs (tx_c (zBD M) (zAE M (jZ 0) jJ) zAG) (zA8 (tx_c (zAV M) (zAS M (zAc M) z_len Af (jQ (jZ 2) jY)) jJ)))) (zAD (zAF zCl)) zAL)
 (zAD (zAF (zAX (jQ (zAC (jQ (zAE M (jZ 0) jJ) (jQ (zAB M B D_23 (jQ (jZ 1) jY)) (jQ (zAB M B D_25 (jQ (jZ 2) (jQ (zAB M B D_23 (jQ (jZ 1) jY)) jY))) (jQ (zAE M (jZ 3) jJ) jY))))) jY))))
abbrev zIq:Stmt:=top 24
theorem zQe:FnScope ["thing"] ["thing"] (defScope zIq):=by walk_at "s"
def d_27:DS:=dRet (dAndV (dCB isiS (jW (jV 0) (jW (dC (.ty "int")) qQ))) (dNotV (dCB isiS (jW (jV 0) (jW (dC (.ty "bool")) qQ)))))
def F_27:DF:=fnD none 1 1 d_27
theorem zPq(Fn:Fun K "is_whole" "is_whole" zIq f fd)(hm:mg "is_whole"=some (.ref f))(hb:Binds K fd ["thing"] [])(z_bool:mg "bool"=none)(z_int:mg "int"=none)(z_isinstance:mg "isinstance"=none):FD P wd K mg base (1) "is_whole" none 1 F_27 :=
 zAU (k:=0) Fn zQe hm hb fun cdv A outer s H E M B=>zAD (zAF (zBo (zAS M (zAz M) z_isinstance boot_isinstance (jQ (jZ 0) (jQ (zBE M z_int (by decide +kernel)) jY))) (zB6 (zOp (zAS M (zAz M) z_isinstance boot_isinstance (jQ (jZ 0) (jQ (zBE M z_bool boot_bool) jY)))))))
def zDl:DE:=dCall none F_27 [] (jW (jV 0) qQ)
abbrev zJK:Stmt:=top 26
theorem zPf:FnScope ["cuts","many"] ["cuts","many"] (defScope zJK):=by walk_at "s"
def d_28:DS:=dRet (dAndV (dCB allS (jW (dComp none [none] (dSeqI (jV 0)) (gdName 0) dYes (zDl)) qQ)) (dChainN (dC (.int 0)) (dLink ltS (dOp ixS (jV 0) (dC (.int 0))) (dLink ltS (dOp ixS (jV 0) (dC (.int 1))) (dLink ltS (dOp ixS (jV 0) (dC (.int 2))) (dLast ltS (jV 1)))))))
def F_28:DF:=fnD none 2 2 d_28
theorem zP6(Fn:Fun K "are_cuts" "are_cuts" zJK f fd)(hm:mg "are_cuts"=some (.ref f))(hb:Binds K fd ["cuts","many"] [])(z_all:mg "all"=none)(D_27:FD P wd K mg base (1) "is_whole" none 1 F_27):FD P wd K mg base (2) "are_cuts" none 2 F_28 :=
 zAU (k:=1) Fn zPf hm hb fun cdv A outer s H E M B=>zAD (zAF (zBo (zAS M (zEB M) z_all IM (jQ (zAw none (N':=["cut"]) (ix:=[none]) M (fun _=>⟨rfl,by kernel_rfl⟩) (zAh M (jZ 0)) (zAJ 0 (hN:=fun _=>(by show (["cut"]:List Str).Nodup; decide +kernel))) zA7 (zAB M.comp B.comp D_27 (jQ (jZ 0) jY)) (hix:=hix0)) jY)) (zB6 (zKA jJ (zEj zBC (zAE M (jZ 0) jJ) (zEj zBC (zAE M (jZ 0) jJ) (zEj zBC (zAE M (jZ 0) jJ) (zMT zBC (jZ 1)))))))))
abbrev zIC:Stmt:=top 19
theorem zQJ:FnScope ["cups","thing"] ["cups","thing"] (defScope zIC):=by walk_at "s"
def d_29:DS:=dRet (dOp eqS (dCB sortedS (jW (jV 1) qQ)) (dListRng (jW (jV 0) qQ)))
def F_29:DF:=fnD none 2 2 d_29
theorem zQN(Fn:Fun K "is_turning" "is_turning" zIC f fd)(hm:mg "is_turning"=some (.ref f))(hb:Binds K fd ["cups","thing"] [])(z_list:mg "list"=none)(z_range:mg "range"=none)(z_sorted:mg "sorted"=none):FD P wd K mg base (1) "is_turning" none 2 F_29 :=
 zAU (k:=0) Fn zQJ hm hb fun cdv A outer s H E M B=>zAD (zAF (ex_c (zAV M) (zAS M (zFD M) z_sorted boot_sorted (jQ (jZ 1) jY)) (zEU M z_list z_range (jQ (jZ 0) jY))))
def zNA:DT:=dTest (dOp neS (dOp ixS (jV 0) (dOp ixS (jV 2) (dUn negS (dC (.int 1))))) (jV 1))
def zNs:DS:=dDrop (dMut 2 hAppend (jW (dOp ixS (jV 0) (dOp ixS (jV 2) (dUn negS (dC (.int 1))))) qQ))
abbrev zI3:Stmt:=top 1
theorem zMC:FnScope ["turning","place","row"] ["turning","place"] (defScope zI3):=by walk_at "s"
def d_30:DS:=dSeq (dSet 2 (dLst (jW (jV 1) qQ)))
 (dSeq (dWhile (zNA) (zNs) fuelX)
 (dRet (dCB tupleS (jW (jV 2) qQ))))
def F_30:DF:=fnD none 2 3 d_30
theorem zQD(Fn:Fun K "row_from" "row_from" zI3 f fd)(hm:mg "row_from"=some (.ref f))(hb:Binds K fd ["turning","place"] [])(z_tuple:mg "tuple"=none):FD P wd K mg base (1) "row_from" none 2 F_30 :=
 zAU (k:=0) Fn zMC hm hb fun cdv A outer s H E M B=>zAA (zAH 2 (zAX (jQ (jZ 1) jY)) (hN:=fun _=>zMC.nd))
 (zAA (zBT fuelX (fun _=>Ao) (tx_c (zBD M) (zAE M (jZ 0) (zAE M (jZ 2) (zBI jJ))) (jZ 1)) (zAD (zA9 (zBG M A9 BC (fun _=>zBB) zA1 (pv' 2) (jQ (zAE M (jZ 0) (zAE M (jZ 2) (zBI jJ))) jY)))))
 (zAD (zAF (zBF M (zA6 M) z_tuple BM (jQ (jZ 2) jY)))))
def zNq:DE:=jV 0
def zM0:DT:=dAnd (dTest (dOp gtS (dCB lenS (jW (jV 0) qQ)) (dC (.int 1)))) (dTest (dOp eqS (dOp ixS (jV 0) (dC (.int 0))) (dCB min1S (jW (jV 0) qQ))))
def zN1:DE:=dCall none F_30 [] (jW (jV 1) (jW (jV 0) qQ))
abbrev zJJ:Stmt:=top 2
theorem zL9:FnScope ["turning","rows"] ["turning"] (defScope zJJ):=by walk_at "s"
def d_31:DS:=dSeq (dSet 1 (dComp none [none,some 0] (dRng1 (jW (dCB lenS (jW (jV 0) qQ)) qQ)) (gdName 0) dYes (zN1)))
 (dRet (dComp none [none] (dSeqI (jV 1)) (gdName 0) (zM0) (zNq)))
def F_31:DF:=fnD none 1 2 d_31
theorem zPx(Fn:Fun K "rings_of" "rings_of" zJJ f fd)(hm:mg "rings_of"=some (.ref f))(hb:Binds K fd ["turning"] [])(z_len:mg "len"=none)(z_min:mg "min"=none)(z_range:mg "range"=none)(D_30:FD P wd K mg base (1) "row_from" none 2 F_30):FD P wd K mg base (2) "rings_of" none 1 F_31 :=
 zAU (k:=1) Fn zL9 hm hb fun cdv A outer s H E M B=>zAA (zCi 1 none (N':=["place","turning"]) (ix:=[none,some 0]) M (fun _=>⟨rfl,by kernel_rfl⟩) (zDe M z_range (jQ (zAS M (zAc M) z_len Af (jQ (jZ 0) jY)) jY)) (zAJ 0 (hN:=fun _=>(by show (["place","turning"]:List Str).Nodup; decide +kernel))) zA7 (zAB M.comp B.comp D_30 (jQ (jZ 1) (jQ (jZ 0) jY))) (hix:=hix0) (hN:=fun _=>zL9.nd))
 (zAD (zAF (zAw none (N':=["row"]) (ix:=[none]) M (fun _=>⟨rfl,by kernel_rfl⟩) (zAh M (jZ 1)) (zAJ 0 (hN:=fun _=>(by show (["row"]:List Str).Nodup; decide +kernel))) (zEJ (tx_w (zDI (tx_c zCE (zAS M.comp (zAc M.comp) z_len Af (jQ (jZ 0) jY)) jJ) (zDh (tx_c (zAV M.comp) (zAE M.comp (jZ 0) jJ) (zAS M.comp (zN0 M.comp) z_min boot_min (jQ (jZ 0) jY))))))) (jZ 0) (hix:=hix0))))
def zNP:DE:=dCB lenS (jW (jV 0) qQ)
abbrev zIL:Stmt:=top 3
theorem zQf:FnScope ["turning"] ["turning"] (defScope zIL):=by walk_at "s"
def d_32:DS:=dRet (dOp eqS (dComp none [none] (dSeqI (dCall none F_31 [] (jW (jV 0) qQ))) (gdName 0) dYes (zNP)) (dLst (jW (dCB lenS (jW (jV 0) qQ)) qQ)))
def F_32:DF:=fnD none 1 1 d_32
theorem zQY(Fn:Fun K "is_ring" "is_ring" zIL f fd)(hm:mg "is_ring"=some (.ref f))(hb:Binds K fd ["turning"] [])(z_len:mg "len"=none)(D_31:FD P wd K mg base (2) "rings_of" none 1 F_31):FD P wd K mg base (3) "is_ring" none 1 F_32 :=
 zAU (k:=2) Fn zQf hm hb fun cdv A outer s H E M B=>zAD (zAF (ex_c (zAV M) (zAw none (N':=["ring"]) (ix:=[none]) M (fun _=>⟨rfl,by kernel_rfl⟩) (zAh M (zAB M B D_31 (jQ (jZ 0) jY))) (zAJ 0 (hN:=fun _=>(by show (["ring"]:List Str).Nodup; decide +kernel))) zA7 (zAS M.comp (zAc M.comp) z_len Af (jQ (jZ 0) jY)) (hix:=hix0)) (zAX (jQ (zAS M (zAc M) z_len Af (jQ (jZ 0) jY)) jY))))
abbrev zID:Stmt:=top 21
theorem zQS:FnScope ["thing"] ["thing"] (defScope zID):=by walk_at "s"
def d_33:DS:=dRet (dAndV (dCall none F_29 [] (jW (dC (.int 5)) (jW (jV 0) qQ))) (dCall none F_32 [] (jW (jV 0) qQ)))
def F_33:DF:=fnD none 1 1 d_33
theorem zPc(Fn:Fun K "is_ring_of_five" "is_ring_of_five" zID f fd)(hm:mg "is_ring_of_five"=some (.ref f))(hb:Binds K fd ["thing"] [])(D_29:FD P wd K mg base (1) "is_turning" none 2 F_29)(D_32:FD P wd K mg base (3) "is_ring" none 1 F_32):FD P wd K mg base (4) "is_ring_of_five" none 1 F_33 :=
 zAU (k:=3) Fn zQS hm hb fun cdv A outer s H E M B=>zAD (zAF (zBo (zAB M B D_29 (jQ jJ (jQ (jZ 0) jY))) (zB6 (zAB M B D_32 (jQ (jZ 0) jY)))))
def zE0:DE:=dCall none F_27 [] (jW (jV 0) qQ)
abbrev zI0:Stmt:=top 27
theorem zQX:FnScope ["thing"] ["thing"] (defScope zI0):=by walk_at "s"
def d_34:DS:=dRet (dAndV (dCB isiS (jW (jV 0) (jW (dC (.ty "tuple")) qQ))) (dAndV (dCB allS (jW (dComp none [none] (dSeqI (jV 0)) (gdName 0) dYes (zE0)) qQ)) (dCall none F_33 [] (jW (jV 0) qQ))))
def F_34:DF:=fnD none 1 1 d_34
theorem zQj(Fn:Fun K "is_any_ring_of_five" "is_any_ring_of_five" zI0 f fd)(hm:mg "is_any_ring_of_five"=some (.ref f))(hb:Binds K fd ["thing"] [])(z_all:mg "all"=none)(z_isinstance:mg "isinstance"=none)(z_tuple:mg "tuple"=none)(D_27:FD P wd K mg base (1) "is_whole" none 1 F_27)(D_33:FD P wd K mg base (4) "is_ring_of_five" none 1 F_33):FD P wd K mg base (5) "is_any_ring_of_five" none 1 F_34 :=
 zAU (k:=4) Fn zQX hm hb fun cdv A outer s H E M B=>zAD (zAF (zBo (zAS M (zAz M) z_isinstance boot_isinstance (jQ (jZ 0) (jQ (zBE M z_tuple BM) jY))) (zBo (zAS M (zEB M) z_all IM (jQ (zAw none (N':=["place"]) (ix:=[none]) M (fun _=>⟨rfl,by kernel_rfl⟩) (zAh M (jZ 0)) (zAJ 0 (hN:=fun _=>(by show (["place"]:List Str).Nodup; decide +kernel))) zA7 (zAB M.comp B.comp D_27 (jQ (jZ 0) jY)) (hix:=hix0)) jY)) (zB6 (zAB M B D_33 (jQ (jZ 0) jY))))))
abbrev zJH:Stmt:=top 18
theorem zQW:FnScope ["a","b"] ["a","b"] (defScope zJH):=by walk_at "s"
def d_35:DS:=dRet (dCall none F_24 [] (jW (dCall none F_24 [] (jW (jV 0) (jW (jV 1) qQ))) (jW (dCall none F_24 [] (jW (dCall none F_23 [] (jW (jV 0) qQ)) (jW (dCall none F_23 [] (jW (jV 1) qQ)) qQ))) qQ)))
def F_35:DF:=fnD none 2 2 d_35
theorem zPg(Fn:Fun K "there_back" "there_back" zJH f fd)(hm:mg "there_back"=some (.ref f))(hb:Binds K fd ["a","b"] [])(D_23:FD P wd K mg base (1) "back" none 1 F_23)(D_24:FD P wd K mg base (1) "then" none 2 F_24):FD P wd K mg base (2) "there_back" none 2 F_35 :=
 zAU (k:=1) Fn zQW hm hb fun cdv A outer s H E M B=>zAD (zAF (zAB M B D_24 (jQ (zAB M B D_24 (jQ (jZ 0) (jQ (jZ 1) jY))) (jQ (zAB M B D_24 (jQ (zAB M B D_23 (jQ (jZ 0) jY)) (jQ (zAB M B D_23 (jQ (jZ 1) jY)) jY))) jY))))
abbrev zIi:Stmt:=top 30
theorem zCw:FnScope ["saying","ring","row","paper","a","b","i","j","k","there"] ["saying","ring","row","paper"] (defScope zIi):=by walk_at "s"
def d_36:DS:=dSeq (dSet 4 (dOp ixS (jV 3) (dC (.int 4))))
 (dSeq (dSet 5 (dOp ixS (jV 3) (dC (.int 5))))
 (dSeq (dIf (dOr (dTest (dOp neS (dOp ixS (jV 0) (dC (.int 0))) (dC (.str "and")))) (dNot (dTru (dCall none F_28 [] (jW (dSl (jV 3) (dPart (dC (.int 1))) (dPart (dC (.int 4)))) (jW (dCB lenS (jW (jV 2) qQ)) qQ)))))) (dRet (dC .non)) dNext)
 (dSeq (dIf (dOr (dNot (dTru (dCall none F_34 [] (jW (jV 4) qQ)))) (dOr (dNot (dTru (dCall none F_34 [] (jW (jV 5) qQ)))) (dTest (dOp neS (dCall none F_35 [] (jW (jV 4) (jW (jV 5) qQ))) (jV 1))))) (dRet (dC .non)) dNext)
 (dSeq (dSet 6 (dOp ixS (jV 3) (dC (.int 1))))
 (dSeq (dSet 7 (dOp ixS (jV 3) (dC (.int 2))))
 (dSeq (dSet 8 (dOp ixS (jV 3) (dC (.int 3))))
 (dSeq (dSet 9 (dLst (jW (dTup (jW (dOp ixS (jV 0) (dC (.int 1))) (jW (jV 4) (jW (dSl (jV 2) dNoPart (dPart (jV 6))) (jW (dOp ixS (jV 3) (dC (.int 6))) qQ))))) (jW (dTup (jW (dOp ixS (jV 0) (dC (.int 2))) (jW (jV 5) (jW (dSl (jV 2) (dPart (jV 6)) (dPart (jV 7))) (jW (dOp ixS (jV 3) (dC (.int 7))) qQ))))) qQ))))
 (dRet (dOp addS (jV 9) (dLst (jW (dTup (jW (dOp ixS (jV 0) (dC (.int 1))) (jW (dCall none F_23 [] (jW (jV 4) qQ)) (jW (dSl (jV 2) (dPart (jV 7)) (dPart (jV 8))) (jW (dOp ixS (jV 3) (dC (.int 8))) qQ))))) (jW (dTup (jW (dOp ixS (jV 0) (dC (.int 2))) (jW (dCall none F_23 [] (jW (jV 5) qQ)) (jW (dSl (jV 2) (dPart (jV 8)) dNoPart) (jW (dOp ixS (jV 3) (dC (.int 9))) qQ))))) qQ))))))))))))
def F_36:DF:=fnD none 4 10 d_36
theorem zQb(Fn:Fun K "and_claims" "and_claims" zIi f fd)(hm:mg "and_claims"=some (.ref f))(hb:Binds K fd ["saying","ring","row","paper"] [])(z_len:mg "len"=none)(D_23:FD P wd K mg base (1) "back" none 1 F_23)(D_28:FD P wd K mg base (2) "are_cuts" none 2 F_28)(D_34:FD P wd K mg base (5) "is_any_ring_of_five" none 1 F_34)(D_35:FD P wd K mg base (2) "there_back" none 2 F_35):FD P wd K mg base (6) "and_claims" none 4 F_36 :=
 zAU (k:=5) Fn zCw hm hb fun cdv A outer s H E M B=>zAA (zAH 4 (zAE M (jZ 3) jJ) (hN:=fun _=>zCw.nd))
 (zAA (zAH 5 (zAE M (jZ 3) jJ) (hN:=fun _=>zCw.nd))
 (zAA (zAR (tx_w (zAs (tx_c (zBD M) (zAE M (jZ 0) jJ) zAG) (zA8 (zBM (tx_v M (zAB M B D_28 (jQ (zAe M (jZ 3) (zAT jJ) (zAT jJ)) (jQ (zAS M (zAc M) z_len Af (jQ (jZ 2) jY)) jY)))))))) (zAD (zAF zCl)) zAL)
 (zAA (zAR (tx_w (zAs (zBM (tx_v M (zAB M B D_34 (jQ (jZ 4) jY)))) (zAs (zBM (tx_v M (zAB M B D_34 (jQ (jZ 5) jY)))) (zA8 (tx_c (zBD M) (zAB M B D_35 (jQ (jZ 4) (jQ (jZ 5) jY))) (jZ 1)))))) (zAD (zAF zCl)) zAL)
 (zAA (zAH 6 (zAE M (jZ 3) jJ) (hN:=fun _=>zCw.nd))
 (zAA (zAH 7 (zAE M (jZ 3) jJ) (hN:=fun _=>zCw.nd))
 (zAA (zAH 8 (zAE M (jZ 3) jJ) (hN:=fun _=>zCw.nd))
 (zAA (zAH 9 (zAX (jQ (zAC (jQ (zAE M (jZ 0) jJ) (jQ (jZ 4) (jQ (zAe M (jZ 2) zAb (zAT (jZ 6))) (jQ (zAE M (jZ 3) jJ) jY))))) (jQ (zAC (jQ (zAE M (jZ 0) jJ) (jQ (jZ 5) (jQ (zAe M (jZ 2) (zAT (jZ 6)) (zAT (jZ 7))) (jQ (zAE M (jZ 3) jJ) jY))))) jY))) (hN:=fun _=>zCw.nd))
 (zAD (zAF (zAP M (jZ 9) (zAX (jQ (zAC (jQ (zAE M (jZ 0) jJ) (jQ (zAB M B D_23 (jQ (jZ 4) jY)) (jQ (zAe M (jZ 2) (zAT (jZ 7)) (zAT (jZ 8))) (jQ (zAE M (jZ 3) jJ) jY))))) (jQ (zAC (jQ (zAE M (jZ 0) jJ) (jQ (zAB M B D_23 (jQ (jZ 5) jY)) (jQ (zAe M (jZ 2) (zAT (jZ 8)) zAb) (jQ (zAE M (jZ 3) jJ) jY))))) jY)))))))))))))
abbrev zI2:Stmt:=top 15
theorem zPO:FnScope ["cups"] ["cups"] (defScope zI2):=by walk_at "s"
def d_37:DS:=dRet (dTupRng (jW (jV 0) qQ))
def F_37:DF:=fnD none 1 1 d_37
theorem zPw(Fn:Fun K "still" "still" zI2 f fd)(hm:mg "still"=some (.ref f))(hb:Binds K fd ["cups"] [])(z_range:mg "range"=none)(z_tuple:mg "tuple"=none):FD P wd K mg base (1) "still" none 1 F_37 :=
 zAU (k:=0) Fn zPO hm hb fun cdv A outer s H E M B=>zAD (zAF (zJ4 M z_tuple z_range (jQ (jZ 0) jY)))
abbrev zIY:Stmt:=top 28
theorem zPT:FnScope ["saying","ring","row"] ["saying","ring","row"] (defScope zIY):=by walk_at "s"
def d_38:DS:=dSeq (dIf (dTest (dOp neS (dCB lenS (jW (jV 2) qQ)) (dC (.int 1)))) (dRet (dC (.bl false))) dNext)
 (dSeq (dIf (dTest (dOp eqS (dOp ixS (jV 0) (dC (.int 0))) (dC (.str "ask")))) (dRet (dOp eqS (dOp ixS (jV 2) (dC (.int 0))) (dTup (jW (dOp ixS (jV 0) (dC (.int 1))) (jW (jV 1) (jW (dCall none F_37 [] (jW (dC (.int 5)) qQ)) qQ)))))) dNext)
 (dSeq (dIf (dTest (dOp eqS (dOp ixS (jV 0) (dC (.int 0))) (dC (.str "yes")))) (dRet (dOp eqS (dSl (dOp ixS (jV 2) (dC (.int 0))) (dPart (dC (.int 1))) dNoPart) (dTup (jW (jV 1) (jW (jV 1) qQ))))) dNext)
 (dRet (dAndV (dOp eqS (dOp ixS (jV 0) (dC (.int 0))) (dC (.str "no"))) (dOp eqS (dSl (dOp ixS (jV 2) (dC (.int 0))) (dPart (dC (.int 1))) dNoPart) (dTup (jW (dCall none F_37 [] (jW (dC (.int 5)) qQ)) (jW (dCall none F_37 [] (jW (dC (.int 5)) qQ)) qQ))))))))
def F_38:DF:=fnD none 3 3 d_38
theorem zQi(Fn:Fun K "is_step_for" "is_step_for" zIY f fd)(hm:mg "is_step_for"=some (.ref f))(hb:Binds K fd ["saying","ring","row"] [])(z_len:mg "len"=none)(D_37:FD P wd K mg base (1) "still" none 1 F_37):FD P wd K mg base (2) "is_step_for" none 3 F_38 :=
 zAU (k:=1) Fn zPT hm hb fun cdv A outer s H E M B=>zAA (zAR (tx_c (zBD M) (zAS M (zAc M) z_len Af (jQ (jZ 2) jY)) jJ) (zAD (zAF zBQ)) zAL)
 (zAA (zAR (tx_c (zAV M) (zAE M (jZ 0) jJ) zAG) (zAD (zAF (ex_c (zAV M) (zAE M (jZ 2) jJ) (zAC (jQ (zAE M (jZ 0) jJ) (jQ (jZ 1) (jQ (zAB M B D_37 (jQ jJ jY)) jY))))))) zAL)
 (zAA (zAR (tx_c (zAV M) (zAE M (jZ 0) jJ) zAG) (zAD (zAF (ex_c (zAV M) (zAe M (zAE M (jZ 2) jJ) (zAT jJ) zAb) (zAC (jQ (jZ 1) (jQ (jZ 1) jY)))))) zAL)
 (zAD (zAF (zBo (ex_c (zAV M) (zAE M (jZ 0) jJ) zAG) (zB6 (ex_c (zAV M) (zAe M (zAE M (jZ 2) jJ) (zAT jJ) zAb) (zAC (jQ (zAB M B D_37 (jQ jJ jY)) (jQ (zAB M B D_37 (jQ jJ jY)) jY))))))))))
abbrev zII:Stmt:=top 31
theorem zP0:FnScope ["saying","ring","row","paper"] ["saying","ring","row","paper"] (defScope zII):=by walk_at "s"
def d_39:DS:=dSeq (dIf (dTru (dCall none F_22 [] (jW (jV 3) (jW (dC (.str "step")) (jW (dC (.int 1)) qQ))))) (dRet (dIfE (dTru (dCall none F_38 [] (jW (jV 0) (jW (jV 1) (jW (jV 2) qQ))))) (dLst qQ) (dC .non))) dNext)
 (dSeq (dIf (dTru (dCall none F_22 [] (jW (jV 3) (jW (dC (.str "not")) (jW (dC (.int 2)) qQ))))) (dRet (dCall none F_26 [] (jW (jV 0) (jW (jV 1) (jW (jV 2) (jW (jV 3) qQ)))))) dNext)
 (dSeq (dIf (dTru (dCall none F_22 [] (jW (jV 3) (jW (dC (.str "and")) (jW (dC (.int 10)) qQ))))) (dRet (dCall none F_36 [] (jW (jV 0) (jW (jV 1) (jW (jV 2) (jW (jV 3) qQ)))))) dNext)
 (dRet (dC .non))))
def F_39:DF:=fnD none 4 4 d_39
theorem zPo(Fn:Fun K "claims_in" "claims_in" zII f fd)(hm:mg "claims_in"=some (.ref f))(hb:Binds K fd ["saying","ring","row","paper"] [])(D_22:FD P wd K mg base (1) "is_form" none 3 F_22)(D_26:FD P wd K mg base (3) "not_claims" none 4 F_26)(D_36:FD P wd K mg base (6) "and_claims" none 4 F_36)(D_38:FD P wd K mg base (2) "is_step_for" none 3 F_38):FD P wd K mg base (7) "claims_in" none 4 F_39 :=
 zAU (k:=6) Fn zP0 hm hb fun cdv A outer s H E M B=>zAA (zAR (tx_v M (zAB M B D_22 (jQ (jZ 3) (jQ zAG (jQ jJ jY))))) (zAD (zAF (zMM (tx_v M (zAB M B D_38 (jQ (jZ 0) (jQ (jZ 1) (jQ (jZ 2) jY))))) (zAX jY) zCl))) zAL)
 (zAA (zAR (tx_v M (zAB M B D_22 (jQ (jZ 3) (jQ zAG (jQ jJ jY))))) (zAD (zAF (zAB M B D_26 (jQ (jZ 0) (jQ (jZ 1) (jQ (jZ 2) (jQ (jZ 3) jY))))))) zAL)
 (zAA (zAR (tx_v M (zAB M B D_22 (jQ (jZ 3) (jQ zAG (jQ jJ jY))))) (zAD (zAF (zAB M B D_36 (jQ (jZ 0) (jQ (jZ 1) (jQ (jZ 2) (jQ (jZ 3) jY))))))) zAL)
 (zAD (zAF zCl))))
abbrev zIr:Stmt:=top 8
theorem zQB:FnScope ["saying"] ["saying"] (defScope zIr):=by walk_at "s"
def d_40:DS:=dRet (dIfE (dTest (dOp eqS (dOp ixS (jV 0) (dC (.int 0))) (dC (.str "ask")))) (dTup qQ) (dSl (jV 0) (dPart (dC (.int 1))) dNoPart))
def F_40:DF:=fnD none 1 1 d_40
theorem zPn(Fn:Fun K "inner" "inner" zIr f fd)(hm:mg "inner"=some (.ref f))(hb:Binds K fd ["saying"] []) :FD P wd K mg base (1) "inner" none 1 F_40 :=
 zAU (k:=0) Fn zQB hm hb fun cdv A outer s H E M B=>zAD (zAF (zMM (tx_c (zAV M) (zAE M (jZ 0) jJ) zAG) (zAC jY) (zAe M (jZ 0) (zAT jJ) zAb)))
def zNT:DT:=dTru (jV 3)
def zOA:DS:=dSeq (dSet 4 (dMut 3 hPop qQ))
 (dSeq (dDrop (dMut 2 hAppend (jW (jV 4) qQ)))
 (dDrop (dMut 3 hExtend (jW (dLRev (jW (dCallV 1 [("inner",1,F_40)] (jW (jV 4) qQ)) qQ)) qQ))))
abbrev zIs:Stmt:=top 5
theorem zFv:FnScope ["whole","inside_of","found","rest","part"] ["whole","inside_of"] (defScope zIs):=by walk_at "s"
def d_41:DS:=dSeq (dSet 2 (dLst qQ))
 (dSeq (dSet 3 (dLst (jW (jV 0) qQ)))
 (dSeq (dWhile (zNT) (zOA) fuelX)
 (dRet (jV 2))))
def F_41:DF:=fnD none 2 5 d_41
theorem zPZ(Fn:Fun K "all_within" "all_within" zIs f fd)(hm:mg "all_within"=some (.ref f))(hb:Binds K fd ["whole","inside_of"] [])(z_list:mg "list"=none)(z_reversed:mg "reversed"=none)(D_40:FD P wd K mg base (1) "inner" none 1 F_40):FD P wd K mg base (2) "all_within" none 2 F_41 :=
 zAU (k:=1) Fn zFv hm hb fun cdv A outer s H E M B=>zAA (zAH 2 (zAX jY) (hN:=fun _=>zFv.nd))
 (zAA (zAH 3 (zAX (jQ (jZ 0) jY)) (hN:=fun _=>zFv.nd))
 (zAA (zBT fuelX (fun _=>Ao) (tx_v M (jZ 3)) (zAA (zAH 4 (zEm M DV DW (fun _=>zFx) zE5 (pv' 3)) (hN:=fun _=>zFv.nd))
 (zAA (zA9 (zBG M A9 BC (fun _=>zBB) zA1 (pv' 2) (jQ (jZ 4) jY)))
 (zAD (zA9 (zBG M EA EB (fun _=>zDR) zC0 (pv' 3) (jQ (zNY M z_list z_reversed (jQ (zD8 (k':=1) 1 M B (zEs D_40 (zGq)) (jQ (jZ 4) jY)) jY)) jY)))))))
 (zAD (zAF (jZ 2)))))
abbrev zIQ:Stmt:=top 11
theorem zPY:FnScope ["s","t"] ["s","t"] (defScope zIQ):=by walk_at "s"
def d_42:DS:=dRet (dTup (jW (dC (.str "not")) (jW (dTup (jW (dC (.str "and")) (jW (dTup (jW (dC (.str "not")) (jW (jV 0) qQ))) (jW (dTup (jW (dC (.str "not")) (jW (jV 1) qQ))) qQ)))) qQ)))
def F_42:DF:=fnD none 2 2 d_42
theorem zQk(Fn:Fun K "either_or_both" "either_or_both" zIQ f fd)(hm:mg "either_or_both"=some (.ref f))(hb:Binds K fd ["s","t"] []) :FD P wd K mg base (1) "either_or_both" none 2 F_42 :=
 zAU (k:=0) Fn zPY hm hb fun cdv A outer s H E M B=>zAD (zAF (zAC (jQ zAG (jQ (zAC (jQ zAG (jQ (zAC (jQ zAG (jQ (jZ 0) jY))) (jQ (zAC (jQ zAG (jQ (jZ 1) jY))) jY)))) jY))))
abbrev zIZ:Stmt:=top 12
theorem zDc:FnScope ["part","inside","word","s","t"] ["part","inside"] (defScope zIZ):=by walk_at "s"
def d_43:DS:=dSeq (dSet 2 (dOp ixS (jV 0) (dC (.int 0))))
 (dSeq (dIf (dTest (dOp (inS false) (jV 2) (dTup (jW (dC (.str "yes")) (jW (dC (.str "no")) (jW (dC (.str "ask")) qQ)))))) (dRet (jV 0)) dNext)
 (dSeq (dIf (dTest (dOp eqS (jV 2) (dC (.str "or")))) (dRet (dCall none F_42 [] (jW (dOp ixS (jV 1) (dC (.int 0))) (jW (dOp ixS (jV 1) (dC (.int 1))) qQ)))) dNext)
 (dSeq (dIf (dTest (dOp eqS (jV 2) (dC (.str "either")))) (dSeq (dSet 3 (dOp ixS (jV 1) (dC (.int 0))))
 (dSeq (dSet 4 (dOp ixS (jV 1) (dC (.int 1))))
 (dRet (dCall none F_42 [] (jW (dTup (jW (dC (.str "and")) (jW (jV 3) (jW (dTup (jW (dC (.str "not")) (jW (jV 4) qQ))) qQ)))) (jW (dTup (jW (dC (.str "and")) (jW (dTup (jW (dC (.str "not")) (jW (jV 3) qQ))) (jW (jV 4) qQ)))) qQ)))))) dNext)
 (dSeq (dIf (dTest (dOp eqS (jV 2) (dC (.str "most")))) (dSeq (dSet 3 (dOp ixS (jV 1) (dC (.int 0))))
 (dSeq (dSet 4 (dOp ixS (jV 1) (dC (.int 1))))
 (dRet (dCall none F_42 [] (jW (dTup (jW (dC (.str "and")) (jW (jV 3) (jW (jV 4) qQ)))) (jW (dTup (jW (dC (.str "and")) (jW (dOp ixS (jV 1) (dC (.int 2))) (jW (dCall none F_42 [] (jW (jV 3) (jW (jV 4) qQ))) qQ)))) qQ)))))) dNext)
 (dRet (dCB tupleS (jW (dOp addS (dLst (jW (jV 2) qQ)) (jV 1)) qQ)))))))
def F_43:DF:=fnD none 2 5 d_43
theorem zPu(Fn:Fun K "spelled_of" "spelled_of" zIZ f fd)(hm:mg "spelled_of"=some (.ref f))(hb:Binds K fd ["part","inside"] [])(z_tuple:mg "tuple"=none)(D_42:FD P wd K mg base (1) "either_or_both" none 2 F_42):FD P wd K mg base (2) "spelled_of" none 2 F_43 :=
 zAU (k:=1) Fn zDc hm hb fun cdv A outer s H E M B=>zAA (zAH 2 (zAE M (jZ 0) jJ) (hN:=fun _=>zDc.nd))
 (zAA (zAR (tx_c (zME M) (jZ 2) (zAC (jQ zAG (jQ zAG (jQ zAG jY))))) (zAD (zAF (jZ 0))) zAL)
 (zAA (zAR (tx_c (zAV M) (jZ 2) zAG) (zAD (zAF (zAB M B D_42 (jQ (zAE M (jZ 1) jJ) (jQ (zAE M (jZ 1) jJ) jY))))) zAL)
 (zAA (zAR (tx_c (zAV M) (jZ 2) zAG) (zAA (zAH 3 (zAE M (jZ 1) jJ) (hN:=fun _=>zDc.nd))
 (zAA (zAH 4 (zAE M (jZ 1) jJ) (hN:=fun _=>zDc.nd))
 (zAD (zAF (zAB M B D_42 (jQ (zAC (jQ zAG (jQ (jZ 3) (jQ (zAC (jQ zAG (jQ (jZ 4) jY))) jY)))) (jQ (zAC (jQ zAG (jQ (zAC (jQ zAG (jQ (jZ 3) jY))) (jQ (jZ 4) jY)))) jY))))))) zAL)
 (zAA (zAR (tx_c (zAV M) (jZ 2) zAG) (zAA (zAH 3 (zAE M (jZ 1) jJ) (hN:=fun _=>zDc.nd))
 (zAA (zAH 4 (zAE M (jZ 1) jJ) (hN:=fun _=>zDc.nd))
 (zAD (zAF (zAB M B D_42 (jQ (zAC (jQ zAG (jQ (jZ 3) (jQ (jZ 4) jY)))) (jQ (zAC (jQ zAG (jQ (zAE M (jZ 1) jJ) (jQ (zAB M B D_42 (jQ (jZ 3) (jQ (jZ 4) jY))) jY)))) jY))))))) zAL)
 (zAD (zAF (zBF M (zA6 M) z_tuple BM (jQ (zAP M (zAX (jQ (jZ 2) jY)) (jZ 1)) jY))))))))
def zNO:DE:=dMut 1 hPop qQ
def zMn:DS:=dSeq (dSet 5 (dComp (some (1,3)) [none,some 3] (dSeqI (dCallV 1 [("inner",1,F_40)] (jW (jV 4) qQ))) (gdName 0) dYes (zNO)))
 (dDrop (dMut 3 hAppend (jW (dCallV 2 [("spelled_of",2,F_43)] (jW (jV 4) (jW (jV 5) qQ))) qQ)))
abbrev zIc:Stmt:=top 6
theorem zFt:FnScope ["whole","inside_of","put","told","part","inside"] ["whole","inside_of","put"] (defScope zIc):=by walk_at "s"
def d_44:DS:=dSeq (dSet 3 (dLst qQ))
 (dSeq (dFor none (dRevL (jW (dCall none F_41 [] (jW (jV 0) (jW (jV 1) qQ))) qQ)) (gdName 4) (zMn))
 (dRet (dOp ixS (jV 3) (dC (.int 0)))))
def F_44:DF:=fnD none 3 6 d_44
theorem zQl(Fn:Fun K "fold_within" "fold_within" zIc f fd)(hm:mg "fold_within"=some (.ref f))(hb:Binds K fd ["whole","inside_of","put"] [])(z_reversed:mg "reversed"=none)(D_40:FD P wd K mg base (1) "inner" none 1 F_40)(D_41:FD P wd K mg base (2) "all_within" none 2 F_41)(D_43:FD P wd K mg base (2) "spelled_of" none 2 F_43):FD P wd K mg base (3) "fold_within" none 3 F_44 :=
 zAU (k:=2) Fn zFt hm hb fun cdv A outer s H E M B=>zAA (zAH 3 (zAX jY) (hN:=fun _=>zFt.nd))
 (zAA (zBK M (fun _=>Ao) (zMW M z_reversed (jQ (zAB M B D_41 (jQ (jZ 0) (jQ (jZ 1) jY))) jY)) (zAJ 4 (hN:=fun _=>zFt.nd)) (zAA (zCi 5 (some (1,3)) (N':=["one","told"]) (ix:=[none,some 3]) M (fun _=>⟨rfl,by kernel_rfl⟩) (zAh M (zD8 (k':=1) 1 M B (zEs D_40 (zGq)) (jQ (jZ 4) jY))) (zAJ 0 (hN:=fun _=>(by show (["one","told"]:List Str).Nodup; decide +kernel))) zA7 (zEm M.comp DV DW (fun _=>zFx) zE5 (pv' 1)) (hix:=hix1 ∅) (hN:=fun _=>zFt.nd))
 (zAD (zA9 (zBG M A9 BC (fun _=>zBB) zA1 (pv' 3) (jQ (zD8 (k':=2) 2 M B (zEs D_43 (zGq)) (jQ (jZ 4) (jQ (jZ 5) jY))) jY))))))
 (zAD (zAF (zAE M (jZ 3) jJ))))
abbrev zI7:Stmt:=top 9
theorem zPp:FnScope ["saying","put"] ["saying","put"] (defScope zI7):=by walk_at "s"
def d_45:DS:=dRet (dCall none F_44 [] (jW (jV 0) (jW (dFn "inner") (jW (jV 1) qQ))))
def F_45:DF:=fnD none 2 2 d_45
theorem zQP(Fn:Fun K "folded" "folded" zI7 f fd)(hm:mg "folded"=some (.ref f))(hb:Binds K fd ["saying","put"] [])(n_inner:NK K mg "inner")(D_44:FD P wd K mg base (3) "fold_within" none 3 F_44):FD P wd K mg base (4) "folded" none 2 F_45 :=
 zAU (k:=3) Fn zPp hm hb fun cdv A outer s H E M B=>zAD (zAF (zAB M B D_44 (jQ (jZ 0) (jQ (zMI M n_inner) (jQ (jZ 1) jY)))))
abbrev zIW:Stmt:=top 13
theorem zPP:FnScope ["saying"] ["saying"] (defScope zIW):=by walk_at "s"
def d_46:DS:=dRet (dCall none F_45 [] (jW (jV 0) (jW (dFn "spelled_of") qQ)))
def F_46:DF:=fnD none 1 1 d_46
theorem zPM(Fn:Fun K "spelled" "spelled" zIW f fd)(hm:mg "spelled"=some (.ref f))(hb:Binds K fd ["saying"] [])(n_spelled_of:NK K mg "spelled_of")(D_45:FD P wd K mg base (4) "folded" none 2 F_45):FD P wd K mg base (5) "spelled" none 1 F_46 :=
 zAU (k:=4) Fn zPP hm hb fun cdv A outer s H E M B=>zAD (zAF (zAB M B D_45 (jQ (jZ 0) (jQ (zMI M n_spelled_of) jY))))
def zCI:DT:=dTru (jV 4)
def zBu:DS:=dSeq (dSet 5 (dMut 4 hPop qQ))
 (dSeq (dSet 6 (dCall none F_39 [] (jW (dOp ixS (jV 5) (dC (.int 0))) (jW (dOp ixS (jV 5) (dC (.int 1))) (jW (dOp ixS (jV 5) (dC (.int 2))) (jW (dOp ixS (jV 5) (dC (.int 3))) qQ))))))
 (dSeq (dIf (dTest (dOp (isNoneS false) (jV 6) (dC .non))) (dRet (dC (.bl false))) dNext)
 (dDrop (dMut 4 hExtend (jW (jV 6) qQ)))))
abbrev zIh:Stmt:=top 32
theorem zFs:FnScope ["saying","ring","dance","paper","rest","claim","inside"] ["saying","ring","dance","paper"] (defScope zIh):=by walk_at "s"
def d_47:DS:=dSeq (dSet 4 (dLst (jW (dTup (jW (dCall none F_46 [] (jW (jV 0) qQ)) (jW (jV 1) (jW (dOp ixS (jV 2) (dC (.int 2))) (jW (jV 3) qQ))))) qQ)))
 (dSeq (dWhile (zCI) (zBu) fuelX)
 (dRet (dC (.bl true))))
def F_47:DF:=fnD none 4 7 d_47
theorem zQg(Fn:Fun K "paper_holds" "paper_holds" zIh f fd)(hm:mg "paper_holds"=some (.ref f))(hb:Binds K fd ["saying","ring","dance","paper"] [])(D_39:FD P wd K mg base (7) "claims_in" none 4 F_39)(D_46:FD P wd K mg base (5) "spelled" none 1 F_46):FD P wd K mg base (8) "paper_holds" none 4 F_47 :=
 zAU (k:=7) Fn zFs hm hb fun cdv A outer s H E M B=>zAA (zAH 4 (zAX (jQ (zAC (jQ (zAB M B D_46 (jQ (jZ 0) jY)) (jQ (jZ 1) (jQ (zAE M (jZ 2) jJ) (jQ (jZ 3) jY))))) jY)) (hN:=fun _=>zFs.nd))
 (zAA (zBT fuelX (fun _=>Ao) (tx_v M (jZ 4)) (zAA (zAH 5 (zEm M DV DW (fun _=>zFx) zE5 (pv' 4)) (hN:=fun _=>zFs.nd))
 (zAA (zAH 6 (zAB M B D_39 (jQ (zAE M (jZ 5) jJ) (jQ (zAE M (jZ 5) jJ) (jQ (zAE M (jZ 5) jJ) (jQ (zAE M (jZ 5) jJ) jY))))) (hN:=fun _=>zFs.nd))
 (zAA (zAR (tx_c zPh (jZ 6) zCl) (zAD (zAF zBQ)) zAL)
 (zAD (zA9 (zBG M EA EB (fun _=>zDR) zC0 (pv' 4) (jQ (jZ 6) jY))))))))
 (zAD (zAF zBQ)))
def zEY (rec:DF):DE:=dOp addS (dTup (jW (jV 1) qQ)) (jV 0)
def zDX (rec:DF):DS:=dDrop (dMut 1 hExtend (jW (dComp none [none,some 2] (dSeqI (dCall none rec [] (jW (jV 3) qQ))) (gdName 0) dYes ((zEY rec))) qQ))
abbrev st_6:Stmt:=top 55
theorem sc_6:FnScope ["_law_paper","_law_found","_law_at_here","_law_one"] ["_law_paper"] (defScope st_6):=by walk_at "s"
def d_6 (rec:DF):DS:=dSeq (dSet 1 (dLst (jW (dTup qQ) qQ)))
 (dSeq (dIf (dTru (dCB isiS (jW (jV 0) (jW (dC (.ty "tuple")) qQ)))) (dFor none (dEnum (jW (jV 0) qQ)) (gdTup 2 (gdCons (gdName 2) (gdCons (gdName 3) gdNil))) ((zDX rec))) dNext)
 (dRet (jV 1)))
def F_6:Nat->DF
 | 0=>fun _=>none
 | n+1=>fnD none 1 4 (d_6 (F_6 n))
theorem ok_6(Fn:Fun K "_law_spots" "_law_spots" st_6 f fd)(hm:mg "_law_spots"=some (.ref f))(hb:Binds K fd ["_law_paper"] [])(z_enumerate:mg "enumerate"=none)(z_isinstance:mg "isinstance"=none)(z_tuple:mg "tuple"=none)(n:Nat):FD P wd K mg base (0+n) "_law_spots" none 1 (F_6 n):=by
 induction n with
 | zero=>exact zBY Fn hm hb rfl
 | succ n ih =>
  have Drec:=ih
  exact zAU (k:=0+n) Fn sc_6 hm hb fun cdv A outer s H E M B=>zAA (zAH 1 (zAX (jQ (zAC jY) jY)) (hN:=fun _=>sc_6.nd))   (zAA (zAR (tx_v M (zAS M (zAz M) z_isinstance boot_isinstance (jQ (jZ 0) (jQ (zBE M z_tuple BM) jY)))) (zAD (zBK M (fun _=>Ao) (zE2 M z_enumerate (jQ (jZ 0) jY)) (zAq 2 M (zAK (zAJ 2 (hN:=fun _=>sc_6.nd)) (zAK (zAJ 3 (hN:=fun _=>sc_6.nd)) zAi))) (zAD (zA9 (zBG M EA EB (fun _=>zDR) zC0 (pv' 1) (jQ (zAw none (N':=["_law_way","_law_at_here"]) (ix:=[none,some 2]) M (fun _=>⟨rfl,by kernel_rfl⟩) (zAh M (zAB M B Drec (jQ (jZ 3) jY))) (zAJ 0 (hN:=fun _=>(by show (["_law_way","_law_at_here"]:List Str).Nodup; decide +kernel))) zA7 (zAP M.comp (zAC (jQ (jZ 1) jY)) (jZ 0)) (hix:=hix0)) jY)))))) zAL)   (zAD (zAF (jZ 1))))
def zBx:DS:=dSet 0 (dOp ixS (jV 0) (jV 2))
abbrev zIO:Stmt:=top 57
theorem zId:FnScope ["_law_paper","_law_way","_law_at_here"] ["_law_paper","_law_way"] (defScope zIO):=by walk_at "s"
def d_48:DS:=dSeq (dFor none (dSeqI (jV 1)) (gdName 2) (zBx))
 (dRet (jV 0))
def F_48:DF:=fnD none 2 3 d_48
theorem zQE(Fn:Fun K "_law_at" "_law_at" zIO f fd)(hm:mg "_law_at"=some (.ref f))(hb:Binds K fd ["_law_paper","_law_way"] []) :FD P wd K mg base (1) "_law_at" none 2 F_48 :=
 zAU (k:=0) Fn zId hm hb fun cdv A outer s H E M B=>zAA (zBK M (fun _=>Ao) (zAh M (jZ 1)) (zAJ 2 (hN:=fun _=>zId.nd)) (zAD (zAH 0 (zAE M (jZ 0) (jZ 2)) (hN:=fun _=>zId.nd))))
 (zAD (zAF (jZ 0)))
abbrev st_3:Stmt:=top 56
theorem sc_3:FnScope ["_law_paper","_law_way","_law_thing"] ["_law_paper","_law_way","_law_thing"] (defScope st_3):=by walk_at "s"
def d_3 (rec:DF):DS:=dSeq (dIf (dTest (dOp eqS (dCB lenS (jW (jV 1) qQ)) (dC (.int 0)))) (dRet (jV 2)) dNext)
 (dRet (dOp addS (dOp addS (dSl (jV 0) dNoPart (dPart (dOp ixS (jV 1) (dC (.int 0))))) (dTup (jW (dCall none rec [] (jW (dOp ixS (jV 0) (dOp ixS (jV 1) (dC (.int 0)))) (jW (dSl (jV 1) (dPart (dC (.int 1))) dNoPart) (jW (jV 2) qQ)))) qQ))) (dSl (jV 0) (dPart (dOp addS (dOp ixS (jV 1) (dC (.int 0))) (dC (.int 1)))) dNoPart)))
def F_3:Nat->DF
 | 0=>fun _=>none
 | n+1=>fnD none 3 3 (d_3 (F_3 n))
theorem ok_3(Fn:Fun K "_law_put" "_law_put" st_3 f fd)(hm:mg "_law_put"=some (.ref f))(hb:Binds K fd ["_law_paper","_law_way","_law_thing"] [])(z_len:mg "len"=none)(n:Nat):FD P wd K mg base (0+n) "_law_put" none 3 (F_3 n):=by
 induction n with
 | zero=>exact zBY Fn hm hb rfl
 | succ n ih =>
  have Drec:=ih
  exact zAU (k:=0+n) Fn sc_3 hm hb fun cdv A outer s H E M B=>zAA (zAR (tx_c (zAV M) (zAS M (zAc M) z_len Af (jQ (jZ 1) jY)) jJ) (zAD (zAF (jZ 2))) zAL)   (zAD (zAF (zAP M (zAP M (zAe M (jZ 0) zAb (zAT (zAE M (jZ 1) jJ))) (zAC (jQ (zAB M B Drec (jQ (zAE M (jZ 0) (zAE M (jZ 1) jJ)) (jQ (zAe M (jZ 1) (zAT jJ) zAb) (jQ (jZ 2) jY)))) jY))) (zAe M (jZ 0) (zAT (zAP M (zAE M (jZ 1) jJ) jJ)) zAb))))
def zEh:DS:=dSetIx 4 (dOp ixS (jV 3) (dOp modS (dOp addS (jV 5) (dC (.int 1))) (jV 1))) (jV 6)
def zCs:DT:=dTest (dOp gtS (dCB lenS (jW (jV 2) qQ)) (dC (.int 0)))
def zDg:DS:=dDrop (dMut 3 hAppend (jW (dMut 2 hPopAt (jW (dCall (some 0) F_10 [] (jW (jV 0) (jW (dCB lenS (jW (jV 2) qQ)) qQ))) qQ)) qQ))
abbrev zIl:Stmt:=top 36
theorem zDf:FnScope ["_law_box_here","_law_cups","_law_left","_law_row","_law_found","_law_k","_law_place"] ["_law_box_here","_law_cups"] (defScope zIl):=by walk_at "s"
def d_49:DS:=dSeq (dSet 2 (dListRng (jW (dC (.int 1)) (jW (jV 1) qQ))))
 (dSeq (dSet 3 (dLst (jW (dC (.int 0)) qQ)))
 (dSeq (dWhile (zCs) (zDg) fuelX)
 (dSeq (dSet 4 (dOp mulS (dLst (jW (dC (.int 0)) qQ)) (jV 1)))
 (dSeq (dFor (some 0) (dEnum (jW (jV 3) qQ)) (gdTup 2 (gdCons (gdName 5) (gdCons (gdName 6) gdNil))) (zEh))
 (dRet (dCB tupleS (jW (jV 4) qQ)))))))
def F_49:DF:=fnD (some 0) 2 7 d_49
theorem zPj(Fn:Fun K "_law_ring" "_law_ring" zIl f fd)(hm:mg "_law_ring"=some (.ref f))(hb:Binds K fd ["_law_box_here","_law_cups"] [])(z_enumerate:mg "enumerate"=none)(z_len:mg "len"=none)(z_list:mg "list"=none)(z_range:mg "range"=none)(z_tuple:mg "tuple"=none)(D_10:FD P wd K mg base (1) "_law_take" (some 0) 2 F_10):FD P wd K mg base (2) "_law_ring" (some 0) 2 F_49 :=
 zAU (k:=1) Fn zDf hm hb fun cdv A outer s H E M B=>zAA (zAH 2 (zEU M z_list z_range (jQ jJ (jQ (jZ 1) jY))) (hN:=fun _=>zDf.nd))
 (zAA (zAH 3 (zAX (jQ jJ jY)) (hN:=fun _=>zDf.nd))
 (zAA (zBT fuelX (fun _=>Ao) (tx_c zCE (zAS M (zAc M) z_len Af (jQ (jZ 2) jY)) jJ) (zAD (zA9 (zBG M A9 BC (fun _=>zBB) zA1 (pv' 3) (jQ (zBG M DV DW (fun _=>zLu) zKH (pv' 2) (jQ (zAB M B D_10 (jQ (jZ 0) (jQ (zAS M (zAc M) z_len Af (jQ (jZ 2) jY)) jY))) jY)) jY)))))
 (zAA (zAH 4 (zBA (zAX (jQ jJ jY)) (jZ 1)) (hN:=fun _=>zDf.nd))
 (zAA (zBK M (fun _=>Ao) (zE2 M z_enumerate (jQ (jZ 3) jY)) (zAq 2 M (zAK (zAJ 5 (hN:=fun _=>zDf.nd)) (zAK (zAJ 6 (hN:=fun _=>zDf.nd)) zAi))) (zAD (zCT 4 (zAE M (jZ 3) (zBL (zAP M (jZ 5) jJ) (jZ 1))) (pv' 4) (jZ 6))))
 (zAD (zAF (zBF M (zA6 M) z_tuple BM (jQ (jZ 4) jY))))))))
abbrev zIX:Stmt:=top 58
theorem zCD:FnScope ["_law_box_here","_law_paper","_law_ways","_law_way","_law_one","_law_other","_law_some","_law_found"] ["_law_box_here","_law_paper"] (defScope zIX):=by walk_at "s"
def d_50:DS:=dSeq (dSet 2 (dCall none (F_6 zDC) [] (jW (jV 1) qQ)))
 (dSeq (dSet 3 (dOp ixS (jV 2) (dCall (some 0) F_10 [] (jW (jV 0) (jW (dCB lenS (jW (jV 2) qQ)) qQ)))))
 (dSeq (dSet 4 (dCall none F_48 [] (jW (jV 1) (jW (jV 3) qQ))))
 (dSeq (dSet 5 (dCall none F_48 [] (jW (jV 1) (jW (dOp ixS (jV 2) (dCall (some 0) F_10 [] (jW (jV 0) (jW (dCB lenS (jW (jV 2) qQ)) qQ)))) qQ))))
 (dSeq (dSet 6 (dLst (jW (jV 5) (jW (dTup (jW (dC (.str "step")) qQ)) (jW (dTup (jW (dC (.str "not")) (jW (jV 4) qQ))) (jW (dC (.str "step")) (jW (dCall (some 0) F_10 [] (jW (jV 0) (jW (dC (.int 12)) qQ))) (jW (dCall (some 0) F_49 [] (jW (jV 0) (jW (dC (.int 5)) qQ))) (jW (dTup qQ) (jW (dTup (jW (jV 4) qQ)) qQ))))))))))
 (dSeq (dIf (dTru (dCB isiS (jW (jV 4) (jW (dC (.ty "int")) qQ)))) (dSet 6 (dLst (jW (dOp addS (jV 4) (dC (.int 1))) (jW (dOp subS (jV 4) (dC (.int 1))) (jW (dOp addS (jV 4) (dC (.int 1))) (jW (dOp subS (jV 4) (dC (.int 1))) (jW (dOp subS (dC (.int 0)) (jV 4)) (jW (jV 5) (jW (dC (.str "not")) (jW (dTup (jW (jV 4) qQ)) qQ)))))))))) dNext)
 (dSeq (dIf (dTru (dCB isiS (jW (jV 4) (jW (dC (.ty "tuple")) qQ)))) (dSet 6 (dOp addS (jV 6) (dLst (jW (dOp addS (jV 4) (dTup (jW (jV 5) qQ))) (jW (dSl (jV 4) dNoPart (dPart (dUn negS (dC (.int 1))))) (jW (dTRev (jW (jV 4) qQ)) qQ)))))) dNext)
 (dSeq (dSet 7 (dCall none (F_3 zDM) [] (jW (jV 1) (jW (jV 3) (jW (dOp ixS (jV 6) (dCall (some 0) F_10 [] (jW (jV 0) (jW (dCB lenS (jW (jV 6) qQ)) qQ)))) qQ)))))
 (dSeq (dIf (dTru (dCB isiS (jW (jV 7) (jW (dC (.ty "tuple")) qQ)))) (dRet (jV 7)) dNext)
 (dRet (dTup (jW (jV 7) qQ)))))))))))
def F_50:DF:=fnD (some 0) 2 8 d_50
theorem zQc(Fn:Fun K "_law_bent_paper" "_law_bent_paper" zIX f fd)(hm:mg "_law_bent_paper"=some (.ref f))(hb:Binds K fd ["_law_box_here","_law_paper"] [])(z_int:mg "int"=none)(z_isinstance:mg "isinstance"=none)(z_len:mg "len"=none)(z_reversed:mg "reversed"=none)(z_tuple:mg "tuple"=none)(D_10:FD P wd K mg base (1) "_law_take" (some 0) 2 F_10)(D_6:FD P wd K mg base (60) "_law_spots" none 1 (F_6 zDC))(D_48:FD P wd K mg base (1) "_law_at" none 2 F_48)(D_3:FD P wd K mg base (60) "_law_put" none 3 (F_3 zDM))(D_49:FD P wd K mg base (2) "_law_ring" (some 0) 2 F_49):FD P wd K mg base (61) "_law_bent_paper" (some 0) 2 F_50 :=
 zAU (k:=60) Fn zCD hm hb fun cdv A outer s H E M B=>zAA (zAH 2 (zAB M B D_6 (jQ (jZ 1) jY)) (hN:=fun _=>zCD.nd))
 (zAA (zAH 3 (zAE M (jZ 2) (zAB M B D_10 (jQ (jZ 0) (jQ (zAS M (zAc M) z_len Af (jQ (jZ 2) jY)) jY)))) (hN:=fun _=>zCD.nd))
 (zAA (zAH 4 (zAB M B D_48 (jQ (jZ 1) (jQ (jZ 3) jY))) (hN:=fun _=>zCD.nd))
 (zAA (zAH 5 (zAB M B D_48 (jQ (jZ 1) (jQ (zAE M (jZ 2) (zAB M B D_10 (jQ (jZ 0) (jQ (zAS M (zAc M) z_len Af (jQ (jZ 2) jY)) jY)))) jY))) (hN:=fun _=>zCD.nd))
 (zAA (zAH 6 (zAX (jQ (jZ 5) (jQ (zAC (jQ zAG jY)) (jQ (zAC (jQ zAG (jQ (jZ 4) jY))) (jQ zAG (jQ (zAB M B D_10 (jQ (jZ 0) (jQ jJ jY))) (jQ (zAB M B D_49 (jQ (jZ 0) (jQ jJ jY))) (jQ (zAC jY) (jQ (zAC (jQ (jZ 4) jY)) jY))))))))) (hN:=fun _=>zCD.nd))
 (zAA (zAR (tx_v M (zAS M (zAz M) z_isinstance boot_isinstance (jQ (jZ 4) (jQ (zBE M z_int (by decide +kernel)) jY)))) (zAD (zAH 6 (zAX (jQ (zAP M (jZ 4) jJ) (jQ (zAd (jZ 4) jJ) (jQ (zAP M (jZ 4) jJ) (jQ (zAd (jZ 4) jJ) (jQ (zAd jJ (jZ 4)) (jQ (jZ 5) (jQ zAG (jQ (zAC (jQ (jZ 4) jY)) jY))))))))) (hN:=fun _=>zCD.nd))) zAL)
 (zAA (zAR (tx_v M (zAS M (zAz M) z_isinstance boot_isinstance (jQ (jZ 4) (jQ (zBE M z_tuple BM) jY)))) (zAD (zAH 6 (zAP M (jZ 6) (zAX (jQ (zAP M (jZ 4) (zAC (jQ (jZ 5) jY))) (jQ (zAe M (jZ 4) zAb (zAT (zBI jJ))) (jQ (zMe M z_tuple z_reversed (jQ (jZ 4) jY)) jY))))) (hN:=fun _=>zCD.nd))) zAL)
 (zAA (zAH 7 (zAB M B D_3 (jQ (jZ 1) (jQ (jZ 3) (jQ (zAE M (jZ 6) (zAB M B D_10 (jQ (jZ 0) (jQ (zAS M (zAc M) z_len Af (jQ (jZ 6) jY)) jY)))) jY)))) (hN:=fun _=>zCD.nd))
 (zAA (zAR (tx_v M (zAS M (zAz M) z_isinstance boot_isinstance (jQ (jZ 7) (jQ (zBE M z_tuple BM) jY)))) (zAD (zAF (jZ 7))) zAL)
 (zAD (zAF (zAC (jQ (jZ 7) jY))))))))))))
abbrev zIa:Stmt:=top 59
theorem zCZ:FnScope ["_law_box_here","_law_steps","_law_questions","_law_at_here","_law_q","_law_yes","_law_no","_law_form","_law_some"] ["_law_box_here","_law_steps","_law_questions"] (defScope zIa):=by walk_at "s"
def d_51:DS:=dSeq (dSet 3 (dCall (some 0) F_10 [] (jW (jV 0) (jW (dCB lenS (jW (jV 1) qQ)) qQ))))
 (dSeq (dUnp (gdTup 3 (gdCons (gdName 4) (gdCons (gdName 5) (gdCons (gdName 6) gdNil)))) (dOp ixS (jV 1) (jV 3)))
 (dSeq (dSet 7 (dCall (some 0) F_10 [] (jW (jV 0) (jW (dC (.int 6)) qQ))))
 (dSeq (dSet 8 (dLst (jW (dTup (jW (dTup (jW (dCall (some 0) F_10 [] (jW (jV 0) (jW (jV 2) qQ))) (jW (jV 5) (jW (jV 6) qQ)))) qQ)) (jW (dTup (jW (dTup (jW (jV 4) (jW (dCall (some 0) F_49 [] (jW (jV 0) (jW (dC (.int 5)) qQ))) (jW (jV 6) qQ)))) qQ)) (jW (dTup (jW (dTup (jW (jV 4) (jW (jV 5) (jW (dCall (some 0) F_49 [] (jW (jV 0) (jW (dC (.int 5)) qQ))) qQ)))) qQ)) qQ)))))
 (dSeq (dSet 8 (dOp addS (jV 8) (dLst (jW (dTup (jW (dTup (jW (jV 4) (jW (jV 6) (jW (jV 5) qQ)))) qQ)) (jW (dTup qQ) (jW (dTup (jW (dOp ixS (jV 1) (jV 3)) (jW (dOp ixS (jV 1) (jV 3)) qQ))) qQ))))))
 (dRet (dOp addS (dOp addS (dSl (jV 1) dNoPart (dPart (jV 3))) (dOp ixS (jV 8) (jV 7))) (dSl (jV 1) (dPart (dOp addS (jV 3) (dC (.int 1)))) dNoPart)))))))
def F_51:DF:=fnD (some 0) 3 9 d_51
theorem zQV(Fn:Fun K "_law_bent_steps" "_law_bent_steps" zIa f fd)(hm:mg "_law_bent_steps"=some (.ref f))(hb:Binds K fd ["_law_box_here","_law_steps","_law_questions"] [])(z_len:mg "len"=none)(D_10:FD P wd K mg base (1) "_law_take" (some 0) 2 F_10)(D_49:FD P wd K mg base (2) "_law_ring" (some 0) 2 F_49):FD P wd K mg base (3) "_law_bent_steps" (some 0) 3 F_51 :=
 zAU (k:=2) Fn zCZ hm hb fun cdv A outer s H E M B=>zAA (zAH 3 (zAB M B D_10 (jQ (jZ 0) (jQ (zAS M (zAc M) z_len Af (jQ (jZ 1) jY)) jY))) (hN:=fun _=>zCZ.nd))
 (zAA (zBp (zAE M (jZ 1) (jZ 3)) (zAq 3 M (zAK (zAJ 4 (hN:=fun _=>zCZ.nd)) (zAK (zAJ 5 (hN:=fun _=>zCZ.nd)) (zAK (zAJ 6 (hN:=fun _=>zCZ.nd)) zAi)))))
 (zAA (zAH 7 (zAB M B D_10 (jQ (jZ 0) (jQ jJ jY))) (hN:=fun _=>zCZ.nd))
 (zAA (zAH 8 (zAX (jQ (zAC (jQ (zAC (jQ (zAB M B D_10 (jQ (jZ 0) (jQ (jZ 2) jY))) (jQ (jZ 5) (jQ (jZ 6) jY)))) jY)) (jQ (zAC (jQ (zAC (jQ (jZ 4) (jQ (zAB M B D_49 (jQ (jZ 0) (jQ jJ jY))) (jQ (jZ 6) jY)))) jY)) (jQ (zAC (jQ (zAC (jQ (jZ 4) (jQ (jZ 5) (jQ (zAB M B D_49 (jQ (jZ 0) (jQ jJ jY))) jY)))) jY)) jY)))) (hN:=fun _=>zCZ.nd))
 (zAA (zAH 8 (zAP M (jZ 8) (zAX (jQ (zAC (jQ (zAC (jQ (jZ 4) (jQ (jZ 6) (jQ (jZ 5) jY)))) jY)) (jQ (zAC jY) (jQ (zAC (jQ (zAE M (jZ 1) (jZ 3)) (jQ (zAE M (jZ 1) (jZ 3)) jY))) jY))))) (hN:=fun _=>zCZ.nd))
 (zAD (zAF (zAP M (zAP M (zAe M (jZ 1) zAb (zAT (jZ 3))) (zAE M (jZ 8) (jZ 7))) (zAe M (jZ 1) (zAT (zAP M (jZ 3) jJ)) zAb))))))))
def zCJ:DS:=dSeq (dSet 16 (dCall none (F_0 zCc) [] (jW (dCall none (F_5 zCr) [] (jW (jV 14) qQ)) (jW (jV 15) (jW (jV 12) (jW (jV 13) qQ))))))
 (dSeq (dSet 17 (dCall none F_47 [] (jW (jV 14) (jW (jV 15) (jW (dTup (jW (dC (.int 5)) (jW (jV 2) (jW (jV 12) qQ)))) (jW (jV 13) qQ))))))
 (dIf (dOr (dTest (dOp neS (jV 17) (jV 16))) (dNot (dTru (dCB isiS (jW (jV 17) (jW (dC (.ty "bool")) qQ)))))) (dRet (dC (.bl false))) dNext))
def zCK:DS:=dDrop (dMut 7 hAppend (jW (dTup (jW (dTup (jW (dC (.str "and")) (jW (jV 10) (jW (jV 11) qQ)))) (jW (jV 3) (jW (jV 12) (jW (jV 13) qQ))))) qQ))
def zBi:DS:=dSeq (dSet 9 (dTup (jW (jV 1) (jW (jV 3) (jW (jV 5) (jW (jV 6) qQ))))))
 (dSeq (dIf (dTest (dOp eqS (jV 8) (dC (.int 0)))) (dSet 9 (dTup (jW (jV 1) (jW (jV 3) (jW (jV 5) (jW (dCall (some 0) F_50 [] (jW (jV 0) (jW (jV 6) qQ))) qQ)))))) dNext)
 (dSeq (dIf (dTest (dOp eqS (jV 8) (dC (.int 1)))) (dSet 9 (dTup (jW (jV 1) (jW (jV 3) (jW (dCall (some 0) F_51 [] (jW (jV 0) (jW (jV 5) (jW (jV 2) qQ)))) (jW (jV 6) qQ)))))) dNext)
 (dSeq (dIf (dTest (dOp eqS (jV 8) (dC (.int 2)))) (dSet 9 (dTup (jW (jV 1) (jW (dCall (some 0) F_49 [] (jW (jV 0) (jW (dC (.int 5)) qQ))) (jW (jV 5) (jW (jV 6) qQ)))))) dNext)
 (dSeq (dIf (dTest (dOp eqS (jV 8) (dC (.int 3)))) (dSet 9 (dTup (jW (dTup (jW (dC (.str "not")) (jW (jV 1) qQ))) (jW (jV 3) (jW (jV 5) (jW (jV 6) qQ)))))) dNext)
 (dSeq (dIf (dTest (dOp eqS (jV 8) (dC (.int 4)))) (dSet 9 (dTup (jW (jV 4) (jW (jV 3) (jW (jV 5) (jW (jV 6) qQ)))))) dNext)
 (dDrop (dMut 7 hAppend (jW (jV 9) qQ))))))))
abbrev zIn:Stmt:=top 60
theorem zAu:FnScope ["_law_box_here","_law_saying_here","_law_questions","_law_ring_here","_law_plain","_law_steps","_law_paper","_law_given","_law_form","_law_other","_law_first","_law_second","_law_row","_law_sheet","_law_one","_law_aim","_law_due","_law_told"] ["_law_box_here","_law_saying_here","_law_questions","_law_ring_here"] (defScope zIn):=by walk_at "s"
def d_52:DS:=dSeq (dSet 4 (dCall none (F_5 zCr) [] (jW (jV 1) qQ)))
 (dSeq (dUnp (gdTup 2 (gdCons (gdName 5) (gdCons (gdName 6) gdNil))) (dCall (some 0) (F_2 zCm) [] (jW (jV 0) (jW (jV 4) (jW (jV 2) (jW (jV 3) qQ))))))
 (dSeq (dSet 7 (dLst (jW (dTup (jW (jV 1) (jW (jV 3) (jW (jV 5) (jW (jV 6) qQ))))) qQ)))
 (dSeq (dFor (some 0) (dSeqI (dTup (jW (dC (.int 0)) (jW (dC (.int 0)) (jW (dC (.int 1)) (jW (dOp addS (dC (.int 2)) (dCall (some 0) F_10 [] (jW (jV 0) (jW (dC (.int 3)) qQ)))) qQ)))))) (gdName 8) (zBi))
 (dSeq (dPar2 10 11 (jW (dCall (some 0) (F_4 zAy) [] (jW (jV 0) (jW (jV 2) (jW (dC (.int 1)) (jW (dC (.int 1)) qQ))))) (jW (dCall (some 0) (F_4 zAy) [] (jW (jV 0) (jW (jV 2) (jW (dC (.int 1)) (jW (dC (.int 1)) qQ))))) qQ)))
 (dSeq (dFor (some 0) (dSeqI (dTup (jW (dCall none F_21 [] (jW (jV 10) (jW (jV 11) (jW (jV 3) qQ)))) (jW (dCall (some 0) (F_2 zCm) [] (jW (jV 0) (jW (dTup (jW (dC (.str "and")) (jW (jV 10) (jW (jV 11) qQ)))) (jW (jV 2) (jW (jV 3) qQ))))) qQ)))) (gdTup 2 (gdCons (gdName 12) (gdCons (gdName 13) gdNil))) (zCK))
 (dSeq (dFor (some 0) (dSeqI (dOp addS (jV 7) (dSl (jV 7) dNoPart (dPart (dC (.int 1)))))) (gdTup 4 (gdCons (gdName 14) (gdCons (gdName 15) (gdCons (gdName 12) (gdCons (gdName 13) gdNil))))) (zCJ))
 (dRet (dCall none (F_0 zCc) [] (jW (jV 4) (jW (jV 3) (jW (jV 5) (jW (jV 6) qQ))))))))))))
def F_52:DF:=fnD (some 0) 4 18 d_52
theorem zPl(Fn:Fun K "_law_right" "_law_right" zIn f fd)(hm:mg "_law_right"=some (.ref f))(hb:Binds K fd ["_law_box_here","_law_saying_here","_law_questions","_law_ring_here"] [])(z_bool:mg "bool"=none)(z_isinstance:mg "isinstance"=none)(D_10:FD P wd K mg base (1) "_law_take" (some 0) 2 F_10)(D_4:FD P wd K mg base (13) "_law_saying" (some 0) 4 (F_4 zAy))(D_5:FD P wd K mg base (60) "_law_spelled" none 1 (F_5 zCr))(D_2:FD P wd K mg base (62) "_law_own" (some 0) 4 (F_2 zCm))(D_0:FD P wd K mg base (122) "_law_holds" none 4 (F_0 zCc))(D_21:FD P wd K mg base (2) "_law_by_no_rings" none 3 F_21)(D_47:FD P wd K mg base (8) "paper_holds" none 4 F_47)(D_49:FD P wd K mg base (2) "_law_ring" (some 0) 2 F_49)(D_50:FD P wd K mg base (61) "_law_bent_paper" (some 0) 2 F_50)(D_51:FD P wd K mg base (3) "_law_bent_steps" (some 0) 3 F_51):FD P wd K mg base (123) "_law_right" (some 0) 4 F_52 :=
 zAU (k:=122) Fn zAu hm hb fun cdv A outer s H E M B=>zAA (zAH 4 (zAB M B D_5 (jQ (jZ 1) jY)) (hN:=fun _=>zAu.nd))
 (zAA (zBp (zAB M B D_2 (jQ (jZ 0) (jQ (jZ 4) (jQ (jZ 2) (jQ (jZ 3) jY))))) (zAq 2 M (zAK (zAJ 5 (hN:=fun _=>zAu.nd)) (zAK (zAJ 6 (hN:=fun _=>zAu.nd)) zAi))))
 (zAA (zAH 7 (zAX (jQ (zAC (jQ (jZ 1) (jQ (jZ 3) (jQ (jZ 5) (jQ (jZ 6) jY))))) jY)) (hN:=fun _=>zAu.nd))
 (zAA (zBK M (fun _=>Ao) (zAh M (zAC (jQ jJ (jQ jJ (jQ jJ (jQ (zAP M jJ (zAB M B D_10 (jQ (jZ 0) (jQ jJ jY)))) jY)))))) (zAJ 8 (hN:=fun _=>zAu.nd)) (zAA (zAH 9 (zAC (jQ (jZ 1) (jQ (jZ 3) (jQ (jZ 5) (jQ (jZ 6) jY))))) (hN:=fun _=>zAu.nd))
 (zAA (zAR (tx_c (zAV M) (jZ 8) jJ) (zAD (zAH 9 (zAC (jQ (jZ 1) (jQ (jZ 3) (jQ (jZ 5) (jQ (zAB M B D_50 (jQ (jZ 0) (jQ (jZ 6) jY))) jY))))) (hN:=fun _=>zAu.nd))) zAL)
 (zAA (zAR (tx_c (zAV M) (jZ 8) jJ) (zAD (zAH 9 (zAC (jQ (jZ 1) (jQ (jZ 3) (jQ (zAB M B D_51 (jQ (jZ 0) (jQ (jZ 5) (jQ (jZ 2) jY)))) (jQ (jZ 6) jY))))) (hN:=fun _=>zAu.nd))) zAL)
 (zAA (zAR (tx_c (zAV M) (jZ 8) jJ) (zAD (zAH 9 (zAC (jQ (jZ 1) (jQ (zAB M B D_49 (jQ (jZ 0) (jQ jJ jY))) (jQ (jZ 5) (jQ (jZ 6) jY))))) (hN:=fun _=>zAu.nd))) zAL)
 (zAA (zAR (tx_c (zAV M) (jZ 8) jJ) (zAD (zAH 9 (zAC (jQ (zAC (jQ zAG (jQ (jZ 1) jY))) (jQ (jZ 3) (jQ (jZ 5) (jQ (jZ 6) jY))))) (hN:=fun _=>zAu.nd))) zAL)
 (zAA (zAR (tx_c (zAV M) (jZ 8) jJ) (zAD (zAH 9 (zAC (jQ (jZ 4) (jQ (jZ 3) (jQ (jZ 5) (jQ (jZ 6) jY))))) (hN:=fun _=>zAu.nd))) zAL)
 (zAD (zA9 (zBG M A9 BC (fun _=>zBB) zA1 (pv' 7) (jQ (jZ 9) jY)))))))))))
 (zAA (zCq 10 11 M (jQ (zAB M B D_4 (jQ (jZ 0) (jQ (jZ 2) (jQ jJ (jQ jJ jY))))) (jQ (zAB M B D_4 (jQ (jZ 0) (jQ (jZ 2) (jQ jJ (jQ jJ jY))))) jY)) (hN:=fun _=>zAu.nd))
 (zAA (zBK M (fun _=>Ao) (zAh M (zAC (jQ (zAB M B D_21 (jQ (jZ 10) (jQ (jZ 11) (jQ (jZ 3) jY)))) (jQ (zAB M B D_2 (jQ (jZ 0) (jQ (zAC (jQ zAG (jQ (jZ 10) (jQ (jZ 11) jY)))) (jQ (jZ 2) (jQ (jZ 3) jY))))) jY)))) (zAq 2 M (zAK (zAJ 12 (hN:=fun _=>zAu.nd)) (zAK (zAJ 13 (hN:=fun _=>zAu.nd)) zAi))) (zAD (zA9 (zBG M A9 BC (fun _=>zBB) zA1 (pv' 7) (jQ (zAC (jQ (zAC (jQ zAG (jQ (jZ 10) (jQ (jZ 11) jY)))) (jQ (jZ 3) (jQ (jZ 12) (jQ (jZ 13) jY))))) jY)))))
 (zAA (zBK M (fun _=>Ao) (zAh M (zAP M (jZ 7) (zAe M (jZ 7) zAb (zAT jJ)))) (zAq 4 M (zAK (zAJ 14 (hN:=fun _=>zAu.nd)) (zAK (zAJ 15 (hN:=fun _=>zAu.nd)) (zAK (zAJ 12 (hN:=fun _=>zAu.nd)) (zAK (zAJ 13 (hN:=fun _=>zAu.nd)) zAi))))) (zAA (zAH 16 (zAB M B D_0 (jQ (zAB M B D_5 (jQ (jZ 14) jY)) (jQ (jZ 15) (jQ (jZ 12) (jQ (jZ 13) jY))))) (hN:=fun _=>zAu.nd))
 (zAA (zAH 17 (zAB M B D_47 (jQ (jZ 14) (jQ (jZ 15) (jQ (zAC (jQ jJ (jQ (jZ 2) (jQ (jZ 12) jY)))) (jQ (jZ 13) jY))))) (hN:=fun _=>zAu.nd))
 (zAD (zAR (tx_w (zAs (tx_c (zBD M) (jZ 17) (jZ 16)) (zA8 (zBM (tx_v M (zAS M (zAz M) z_isinstance boot_isinstance (jQ (jZ 17) (jQ (zBE M z_bool boot_bool) jY)))))))) (zAD (zAF zBQ)) zAL)))))
 (zAD (zAF (zAB M B D_0 (jQ (jZ 4) (jQ (jZ 3) (jQ (jZ 5) (jQ (jZ 6) jY)))))))))))))
def zC5:DS:=dSeq (dSet 2 (dCall none F_9 [] (jW (jV 0) (jW (jV 1) qQ))))
 (dSeq (dSet 3 (dOp addS (dC (.int 1)) (dCall (some 0) F_10 [] (jW (jV 2) (jW (dC (.int 4)) qQ)))))
 (dSeq (dSet 4 (dCall (some 0) F_11 [] (jW (jV 2) (jW (jV 3) (jW (dC (.int 23)) (jW (dOp ixS (dLst (jW (dC (.int 4)) (jW (dC (.int 16)) (jW (dC (.int 40)) qQ)))) (dCall (some 0) F_10 [] (jW (jV 2) (jW (dC (.int 3)) qQ)))) qQ))))))
 (dIf (dNot (dTru (dCall (some 0) F_52 [] (jW (jV 2) (jW (jV 4) (jW (jV 3) (jW (dCall (some 0) F_49 [] (jW (jV 2) (jW (dC (.int 5)) qQ))) qQ))))))) (dRet (dC (.bl false))) dNext)))
abbrev zBq:Stmt:=top 61
theorem zDb:FnScope ["_law_script","_law_k","_law_box_here","_law_questions","_law_saying_here"] ["_law_script"] (defScope zBq):=by walk_at "s"
def zMF:DS:=dSeq (dFor none (dRng1 (jW (dOp addS (dC (.int 1)) (dCB lenS (jW (dSl (jV 0) dNoPart (dPart (dC (.int 3)))) qQ))) qQ)) (gdName 1) (zC5))
 (dRet (dC (.bl true)))
def zC4:DF:=fnD none 1 5 zMF
theorem zOW(Fn:Fun K "law" "law" zBq f fd)(z_len:mg "len"=none)(z_range:mg "range"=none)(D_9:FD P wd K mg base (1) "_law_box" none 2 F_9)(D_10:FD P wd K mg base (1) "_law_take" (some 0) 2 F_10)(D_11:FD P wd K mg base (26) "_law_light" (some 0) 4 F_11)(D_49:FD P wd K mg base (2) "_law_ring" (some 0) 2 F_49)(D_52:FD P wd K mg base (123) "_law_right" (some 0) 4 F_52):FnOk P wd K mg base CX0 124 f fd ["_law_script"] (spD K none 1 zC4) :=
 zPV (k:=123) Fn zDb fun cdv A outer s H E M B=>zAA (zBK M (fun _=>Ao) (zDe M z_range (jQ (zAP M jJ (zAS M (zAc M) z_len Af (jQ (zAe M (jZ 0) zAb (zAT jJ)) jY))) jY)) (zAJ 1 (hN:=fun _=>zDb.nd)) (zAA (zAH 2 (zAB M B D_9 (jQ (jZ 0) (jQ (jZ 1) jY))) (hN:=fun _=>zDb.nd))
 (zAA (zAH 3 (zAP M jJ (zAB M B D_10 (jQ (jZ 2) (jQ jJ jY)))) (hN:=fun _=>zDb.nd))
 (zAA (zAH 4 (zAB M B D_11 (jQ (jZ 2) (jQ (jZ 3) (jQ jJ (jQ (zAE M (zAX (jQ jJ (jQ jJ (jQ jJ jY)))) (zAB M B D_10 (jQ (jZ 2) (jQ jJ jY)))) jY))))) (hN:=fun _=>zDb.nd))
 (zAD (zAR (zBM (tx_v M (zAB M B D_52 (jQ (jZ 2) (jQ (jZ 4) (jQ (jZ 3) (jQ (zAB M B D_49 (jQ (jZ 2) (jQ jJ jY))) jY))))))) (zAD (zAF zBQ)) zAL))))))
 (zAD (zAF zBQ))
abbrev tb_1:Tb:=[("inner",1,F_40)]
abbrev tb_2:Tb:=[("spelled_of",2,F_43)]
end
theorem zOB(a b w:Int)(h0:0 < w)(h1:w < 1073741824):∃ r a' b',0<=r/\r < w/\F_10 [.l [iT a,iT b],.v (iT w)]=some (.v (iT r),[iT a',iT b']):=by
 have h2:CDiv a w:=⟨h0,h1⟩
 by_cases h:0 < a
 ·refine⟨a % w,a / w,b,GT _ ⋯,Ff _ h0,?_⟩
  simp[F_10,fnD,d_10,h,h0,h2,ixN]
 ·refine⟨(b * 69623 % 2147483647 * 2147483647+((b * 69623 % 2147483647 * 48271+30103) % 2147483629+1)) / 8191 % w,a,(b * 69623 % 2147483647 * 48271+30103) % 2147483629+1,GT _ ⋯,Ff _ h0,?_⟩
  simp[F_10,fnD,d_10,h,h0,h2,ixN,CMul,CDiv]
theorem zAZ(a b:Int)(w:Nat)(h0:0 < w)(h1:w<=1000000000):∃ (r:Nat) (a' b':Int),r < w/\F_10 [.l [iT a,iT b],.v (iT (w:Int))]=some (.v (iT (r:Int)),[iT a',iT b']):=by
 obtain⟨r,a',b',r0,r1,e⟩:=zOB a b w ⋯ ⋯
 obtain⟨n,rfl⟩:∃ n:Nat,r=n:=⟨r.toNat,by lia⟩
 exact⟨n,a',b',by lia,e⟩
theorem zOT(ns:List Int)(k:Int)(hk:0<=k)(hk1:k < 1000):∃ a b,F_9 [.k (intsT ns),.v (iT k)]=some (.l [iT a,iT b],[]):=by
 have hl:(intsT ns).length=ns.length:=by simp[intsT]
 have fin:∀ c:Int,∃ a,atI [T.a (V.int 0),T.a (V.int c)] (if (1000000000000000000:Int)<=c then 1 else 0)=some (iT a):=fun c=>by
  split
  ·exact⟨c,rfl⟩
  ·exact⟨0,rfl⟩
 have c1:CMul 7919 k:=.inl ⟨by decide,by decide⟩
 have c2:CMul 40692 k:=.inl ⟨by decide,by decide⟩
 have c3:∀ m:Int,CMul m 69623:=fun m=>.inr ⟨by decide,by decide⟩
 have c4:∀ m:Int,CMul m 48271:=fun m=>.inr ⟨by decide,by decide⟩
 have c5:CPow 10 18:=⟨by decide,by decide,by decide⟩
 by_cases h1:k < ns.length
 ·obtain⟨z,hz⟩:=zGW ns hk h1
  obtain⟨a,ha⟩:=fin z
  refine⟨a,(z % 2147483629 * 48271+40692 * k) % 2147483629+1,?_⟩
  simp[F_9,fnD,d_9,hl,h1,c1,c2,c3,c4,c5,hz,ha,gd,zEe]
 ·by_cases h2:0 < ns.length
  ·obtain⟨z,hz⟩:=zGW ns (i:=k % ns.length) (GT _ ⋯) (Ff _ ⋯)
   obtain⟨a,ha⟩:=fin (7919 * k+11+z % 2147483629 * 69623)
   refine⟨a,((7919 * k+11+z % 2147483629 * 69623) % 2147483629 * 48271+40692 * k) % 2147483629+1,?_⟩
   simp[F_9,fnD,d_9,hl,h1,h2,c1,c2,c3,c4,c5,hz,ha,gd,zEe]
  ·obtain⟨a,ha⟩:=fin (7919 * k+11)
   refine⟨a,((7919 * k+11) % 2147483629 * 48271+40692 * k) % 2147483629+1,?_⟩
   simp[F_9,fnD,d_9,hl,h1,h2,c1,c2,c3,c4,c5,ha,gd,zEe]
theorem zAl(h1:tg Γ t=some Γ1)(h2:b Γ1=some (.nx Γ2)):forD tg b (t::r) Γ=forD tg b r Γ2:=by
 rw[zDZ,h1,Ac,h2,Ac]
theorem zCf(h:f Γ=some (.nx Γ')):dSeq f g Γ=g Γ':=by rw[zHS,h]; rfl
@[simp] theorem zRZ(a b:String):(Bi a=Bi b)=(a=b):=by
 refine propext ⟨fun h=>?_,fun h=>by rw[h]⟩
 rw[HH,HH]at h
 have h2:=congrArg (fun s=>s.cps.toList) h
 simp only[List.toList_toArray]at h2
 refine String.toList_inj.mp (List.map_inj_right (fun x y e=>?_) |>.mp h2)
 exact Char.ext (UInt32.toNat_inj.mp e)
inductive Sy where
 | yes | no | ask (q:Nat) | nt (a:Sy) | an (a b:Sy) | or (a b:Sy) | ei (a b:Sy) | mo (a b c:Sy)
noncomputable abbrev sT (x:Str):T:=.a (.str x)
def Sy.t:Sy->T
 | .yes=>.t [sT "yes"]
 | .no=>.t [sT "no"]
 | .ask q=>.t [sT "ask",iT q]
 | .nt a=>.t [sT "not",a.t]
 | .an a b=>.t [sT "and",a.t,b.t]
 | .or a b=>.t [sT "or",a.t,b.t]
 | .ei a b=>.t [sT "either",a.t,b.t]
 | .mo a b c=>.t [sT "most",a.t,b.t,c.t]
noncomputable def Sy.kids:Sy->List Sy
 | .yes=>[]
 | .no=>[]
 | .ask _=>[]
 | .nt a=>[a]
 | .an a b=>[a,b]
 | .or a b=>[a,b]
 | .ei a b=>[a,b]
 | .mo a b c=>[a,b,c]
noncomputable def Sy.parts:Sy->Nat
 | .yes=>1
 | .no=>1
 | .ask _=>1
 | .nt a=>1+a.parts
 | .an a b=>1+a.parts+b.parts
 | .or a b=>1+a.parts+b.parts
 | .ei a b=>1+a.parts+b.parts
 | .mo a b c=>1+a.parts+b.parts+c.parts
noncomputable def Sy.down:Sy->Nat
 | .yes=>1
 | .no=>1
 | .ask _=>1
 | .nt a=>1+a.down
 | .an a b=>1+max a.down b.down
 | .or a b=>1+max a.down b.down
 | .ei a b=>1+max a.down b.down
 | .mo a b c=>1+max a.down (max b.down c.down)
noncomputable def Sy.wt:Sy->Nat
 | .yes=>1
 | .no=>1
 | .ask _=>1
 | .nt a=>a.wt
 | .an a b=>2 * (a.wt+b.wt)
 | .or a b=>2 * (a.wt+b.wt)
 | .ei a b=>8 * (a.wt+b.wt)
 | .mo a b c=>12 * (a.wt+b.wt)+4 * c.wt
noncomputable def Sy.qs (q:Nat):Sy->Prop
 | .yes=>True
 | .no=>True
 | .ask k=>k < q
 | .nt a=>a.qs q
 | .an a b=>a.qs q/\b.qs q
 | .or a b=>a.qs q/\b.qs q
 | .ei a b=>a.qs q/\b.qs q
 | .mo a b c=>a.qs q/\b.qs q/\c.qs q
theorem Sy.parts_pos:∀ s:Sy,1<=s.parts
 | .yes=>AF _
 | .no=>AF _
 | .ask _=>AF _
 | .nt a=>by simp only[Sy.parts]; lia
 | .an a b=>by simp only[Sy.parts]; lia
 | .or a b=>by simp only[Sy.parts]; lia
 | .ei a b=>by simp only[Sy.parts]; lia
 | .mo a b c=>by simp only[Sy.parts]; lia
theorem Sy.down_pos:∀ s:Sy,1<=s.down
 | .yes=>AF _
 | .no=>AF _
 | .ask _=>AF _
 | .nt a=>by simp only[Sy.down]; lia
 | .an a b=>by simp only[Sy.down]; lia
 | .or a b=>by simp only[Sy.down]; lia
 | .ei a b=>by simp only[Sy.down]; lia
 | .mo a b c=>by simp only[Sy.down]; lia
def Sy.rs (f:Sy->T):Sy->Rs
 | .yes=>.mk (Sy.t .yes) (f .yes) []
 | .no=>.mk (Sy.t .no) (f .no) []
 | .ask q=>.mk (Sy.t (.ask q)) (f (.ask q)) []
 | .nt a=>.mk (Sy.t (.nt a)) (f (.nt a)) [a.rs f]
 | .an a b=>.mk (Sy.t (.an a b)) (f (.an a b)) [a.rs f,b.rs f]
 | .or a b=>.mk (Sy.t (.or a b)) (f (.or a b)) [a.rs f,b.rs f]
 | .ei a b=>.mk (Sy.t (.ei a b)) (f (.ei a b)) [a.rs f,b.rs f]
 | .mo a b c=>.mk (Sy.t (.mo a b c)) (f (.mo a b c)) [a.rs f,b.rs f,c.rs f]
theorem Sy.rs_e(f:Sy->T)(s:Sy):(s.rs f).e=s.t:=by cases s <;> rfl
theorem Sy.rs_v(f:Sy->T)(s:Sy):(s.rs f).v=f s:=by cases s <;> rfl
theorem Sy.rs_pre(f:Sy->T):∀ s:Sy,(s.rs f).pre.length=s.parts
 | .yes=>by simp[Sy.rs,zA5,zAr,Sy.parts]
 | .no=>by simp[Sy.rs,zA5,zAr,Sy.parts]
 | .ask _=>by simp[Sy.rs,zA5,zAr,Sy.parts]
 | .nt a=>by simp[Sy.rs,zA5,zAr,zAm,Sy.parts,a.rs_pre f]; lia
 | .an a b=>by simp[Sy.rs,zA5,zAr,zAm,Sy.parts,a.rs_pre f,b.rs_pre f]; lia
 | .or a b=>by simp[Sy.rs,zA5,zAr,zAm,Sy.parts,a.rs_pre f,b.rs_pre f]; lia
 | .ei a b=>by simp[Sy.rs,zA5,zAr,zAm,Sy.parts,a.rs_pre f,b.rs_pre f]; lia
 | .mo a b c=>by simp[Sy.rs,zA5,zAr,zAm,Sy.parts,a.rs_pre f,b.rs_pre f,c.rs_pre f]; lia
theorem cut1(x:T)(r:List T):cutT (x::r) (some 1) none=r:=zBb (x::r) 1
theorem zBV(s:Sy):F_40 [.v s.t]=some (.v (.t (s.kids.map Sy.t)),[]):=by
 cases s <;> simp[F_40,fnD,d_40,Sy.t,Sy.kids,gd,cut1,zIF]
theorem Sy.rs_in(f:Sy->T):∀ s:Sy,(s.rs f).In F_40
 | .yes=>zBz.mpr ⟨.inl (zBV .yes),zBX⟩
 | .no=>zBz.mpr ⟨.inl (zBV .no),zBX⟩
 | .ask q=>zBz.mpr ⟨.inl (zBV (.ask q)),zBX⟩
 | .nt a=>zBz.mpr ⟨.inl (by simpa [Sy.kids,Sy.rs_e] using zBV (.nt a)),zAn.mpr ⟨a.rs_in f,zBX⟩⟩
 | .an a b=>zBz.mpr ⟨.inl (by simpa [Sy.kids,Sy.rs_e] using zBV (.an a b)),zAn.mpr ⟨a.rs_in f,zAn.mpr ⟨b.rs_in f,zBX⟩⟩⟩
 | .or a b=>zBz.mpr ⟨.inl (by simpa [Sy.kids,Sy.rs_e] using zBV (.or a b)),zAn.mpr ⟨a.rs_in f,zAn.mpr ⟨b.rs_in f,zBX⟩⟩⟩
 | .ei a b=>zBz.mpr ⟨.inl (by simpa [Sy.kids,Sy.rs_e] using zBV (.ei a b)),zAn.mpr ⟨a.rs_in f,zAn.mpr ⟨b.rs_in f,zBX⟩⟩⟩
 | .mo a b c=>zBz.mpr ⟨.inl (by simpa [Sy.kids,Sy.rs_e] using zBV (.mo a b c)),zAn.mpr ⟨a.rs_in f,zAn.mpr ⟨b.rs_in f,zAn.mpr ⟨c.rs_in f,zBX⟩⟩⟩⟩
theorem Sy.rs_put(f:Sy->T)(h:∀ s:Sy,put [.v s.t,.r (s.kids.map f)]=some (.v (f s),[])):∀ s:Sy,(s.rs f).Put put
 | .yes=>zBm.mpr ⟨h .yes,zBS⟩
 | .no=>zBm.mpr ⟨h .no,zBS⟩
 | .ask q=>zBm.mpr ⟨h (.ask q),zBS⟩
 | .nt a=>zBm.mpr ⟨by simpa [Sy.kids,Sy.rs_v] using h (.nt a),zAv.mpr ⟨a.rs_put f h,zBS⟩⟩
 | .an a b=>zBm.mpr ⟨by simpa [Sy.kids,Sy.rs_v] using h (.an a b),zAv.mpr ⟨a.rs_put f h,zAv.mpr ⟨b.rs_put f h,zBS⟩⟩⟩
 | .or a b=>zBm.mpr ⟨by simpa [Sy.kids,Sy.rs_v] using h (.or a b),zAv.mpr ⟨a.rs_put f h,zAv.mpr ⟨b.rs_put f h,zBS⟩⟩⟩
 | .ei a b=>zBm.mpr ⟨by simpa [Sy.kids,Sy.rs_v] using h (.ei a b),zAv.mpr ⟨a.rs_put f h,zAv.mpr ⟨b.rs_put f h,zBS⟩⟩⟩
 | .mo a b c=>zBm.mpr ⟨by simpa [Sy.kids,Sy.rs_v] using h (.mo a b c),zAv.mpr ⟨a.rs_put f h,zAv.mpr ⟨b.rs_put f h,zAv.mpr ⟨c.rs_put f h,zBS⟩⟩⟩⟩
def orS (s t:Sy):Sy:=.nt (.an (.nt s) (.nt t))
def Sy.spell:Sy->Sy
 | .yes=>.yes
 | .no=>.no
 | .ask q=>.ask q
 | .nt a=>.nt a.spell
 | .an a b=>.an a.spell b.spell
 | .or a b=>orS a.spell b.spell
 | .ei a b=>orS (.an a.spell (.nt b.spell)) (.an (.nt a.spell) b.spell)
 | .mo a b c=>orS (.an a.spell b.spell) (.an c.spell (orS a.spell b.spell))
theorem zOt(x y:T):F_42 [.v x,.v y]=some (.v (.t [sT "not",.t [sT "and",.t [sT "not",x],.t [sT "not",y]]]),[]):=by
 have g2:=sL 2
 have g3:=sL 3
 simp[F_42,fnD,d_42,gd,g2,g3]
theorem zFm(s:Sy):F_43 [.v s.t,.r (s.kids.map fun k=>k.spell.t)]=some (.v s.spell.t,[]):=by
 have g1:=sL 1
 have g2:=sL 2
 have g3:=sL 3
 have g4:=sL 4
 cases s <;> simp[F_43,fnD,d_43,Sy.t,Sy.kids,Sy.spell,orS,gd,g1,g2,g3,g4,zOt,inS,atomsOf,flatV,inV,eqV]
theorem zP5:F_44=fnD none 3 6 (fwD (fnD none 2 5 (awD tb_1)) tb_1 tb_2):=rfl
theorem zH4:tb_1.find? (fun q=>decide (q.1=("inner":Str)))=some (("inner":Str),1,F_40):=by rfl
theorem zET:tb_2.find? (fun q=>decide (q.1=("spelled_of":Str)))=some (("spelled_of":Str),2,F_43):=by rfl
theorem zH0(s:Sy)(h:s.parts<=80000):F_46 [.v s.t]=some (.v s.spell.t,[]):=by
 have:=zEv zH4 zET (s.rs fun k=>k.spell.t) (s.rs_in _) (s.rs_put _ zFm) (by rw[Sy.rs_pre]; exact h)
 rw[← zP5,Sy.rs_e,Sy.rs_v]at this
 simp[F_46,fnD,d_46,F_45,d_45,this]
theorem zAg(h:f Γ=some (.nx Γ'))(k:g Γ'=r):dSeq f g Γ=r:=by rw[zHS,h]; exact k
theorem zKo{np nN:Nat}{g:DS}{gs:List G}{s:S}{xs:List T}{rest:En}{r:G}(hl:gs.length=np)(h:g (gs.map some++AN (nN - np) none)=some (.rt s (some (.l xs)::rest)))(hr:resG (some 0) (some (.l xs)::rest) s=some r):fnD (some 0) np nN g gs=some (r,xs):=by
 unfold fnD
 rw[if_pos hl,h,Ac]
 dsimp only
 rw[hr]
 rfl
theorem zCV(q:Nat)(hq0:0 < q)(hq:q<=100):∀ (n:Nat) (a b:Int) (room down:Nat),1<=n->down<=n->1<=room->room<=1000->∃ (s:Sy) (a' b':Int),s.down<=max 1 down/\s.parts<=room/\s.qs q /\
  F_4 n [.l [iT a,iT b],.v (iT (q:Int)),.v (iT (room:Int)),.v (iT (down:Int))]=some (.v s.t,[iT a',iT b']):=by
 intro n
 induction n with
 | zero=>intro a b room down h; lia
 | succ n ih =>
  intro a b room down _ hd hr hr2
  obtain⟨f,a1,b1,hf,e1⟩:=zAZ a b 10 ∅ ∅
  have e1':F_10 [.l [iT a,iT b],.v (iT 10)]=some (.v (iT (f:Int)),[iT a1,iT b1]):=e1
  simp only[iT]at e1' ⊢
  clear e1
  by_cases leaf:room < 2\/down < 2\/f=0
  ·obtain⟨k,a2,b2,hk,e2⟩:=zAZ a1 b1 q hq0 ⋯
   obtain⟨g,a3,b3,hg,e3⟩:=zAZ a2 b2 8 ∅ ∅
   have e3':F_10 [.l [iT a2,iT b2],.v (iT 8)]=some (.v (iT (g:Int)),[iT a3,iT b3]):=e3
   simp only[iT]at e2 e3'
   have fin:∀ (s:Sy) (i:Nat),(if (5:Int) < (g:Int) then (g:Int) - 5 else 0)=(i:Int)->[Sy.t (.ask k),Sy.t .yes,Sy.t .no][i]?=some s.t->F_4 (n+1) [.l [⇑a,⇑b],.v (⇑(q:Int)),.v (⇑(room:Int)),.v (⇑(down:Int))]=some (.v s.t,[⇑a3,⇑b3]):=fun s i mx es=>by
    simp only[Sy.t,iT]at es
    by_cases h1:(room:Int) < 2
    ·simp[F_4,fnD,d_4,e1',e2,e3',h1,mx,zAk,es]
    ·by_cases h2:(down:Int) < 2
     ·simp[F_4,fnD,d_4,e1',e2,e3',h1,h2,mx,zAk,es]
     ·have h3:f=0:=by lia
      simp[F_4,fnD,d_4,e1',e2,e3',h1,h2,h3,mx,zAk,es]
   have hm:(1:Nat)<=max 1 down:=Nat.le_max_left _ _
   by_cases c1:g<=5
   ·exact⟨.ask k,a3,b3,hm,hr,hk,fin _ 0 (by rw[if_neg ⋯]; rfl) rfl⟩
   ·by_cases c2:g=6
    ·subst c2
     exact⟨.yes,a3,b3,hm,hr,trivial,fin _ 1 ∅ rfl⟩
    ·have:g=7:=by lia
     subst this
     exact⟨.no,a3,b3,hm,hr,trivial,fin _ 2 ∅ rfl⟩
  ·have m1:¬ (room:Int) < 2:=by lia
   have m2:¬ (down:Int) < 2:=by lia
   have m3:¬ f=0:=by lia
   have m3':¬ (f:Int)=0:=by lia
   have d1:(down:Int) - 1=((down - 1:Nat):Int):=by lia
   by_cases nt:f < 3\/room < 3
   ·obtain⟨s,a2,b2,h1,h2,h3,e2⟩:=ih a1 b1 (room - 1) (down - 1) ⋯ ⋯ ⋯ ⋯
    have r1:(room:Int) - 1=((room - 1:Nat):Int):=by lia
    refine⟨.nt s,a2,b2,by simp only[Sy.down]; lia,by simp only[Sy.parts]; lia,h3,?_⟩
    simp only[iT,Sy.t]at e2 ⊢
    generalize s.t=S at *
    by_cases h:(f:Int) < 3
    ·simp[F_4,fnD,d_4,e1',m1,m2,m3,m3',h,r1,d1,e2]
    ·have h':(room:Int) < 3:=by lia
     simp[F_4,fnD,d_4,e1',m1,m2,m3,m3',h,h',r1,d1,e2]
   ·have n1:¬ (f:Int) < 3:=by lia
    have n2:¬ (room:Int) < 3:=by lia
    obtain⟨k1,a2,b2,hk1,e2⟩:=zAZ a1 b1 (room - 2) ⋯ ⋯
    have r2:(room:Int) - 2=((room - 2:Nat):Int):=by lia
    obtain⟨x1,hx1⟩:∃ x1:Nat,x1=1+k1:=⟨1+k1,rfl⟩
    obtain⟨s1,a3,b3,h1,h2,h3,e3⟩:=ih a2 b2 x1 (down - 1) ⋯ ⋯ ⋯ ⋯
    have c1:(1:Int)+(k1:Int)=(x1:Int):=by lia
    by_cases mo:f=9/\room > 3/\x1 < room - 2
    ·obtain⟨k2,a4,b4,hk2,e4⟩:=zAZ a3 b3 (room - 2 - x1) ⋯ ⋯
     obtain⟨x2,hx2⟩:∃ x2:Nat,x2=1+k2:=⟨1+k2,rfl⟩
     have c2:(1:Int)+(k2:Int)=(x2:Int):=by lia
     obtain⟨s2,a5,b5,u1,u2,u3,e5⟩:=ih a4 b4 x2 (down - 1) ⋯ ⋯ ⋯ ⋯
     obtain⟨s3,a6,b6,v1,v2,v3,e6⟩:=ih a5 b5 (room - 1 - x1 - x2) (down - 1) ⋯ ⋯ ⋯ ⋯
     have r3:((room - 2:Nat):Int) - (x1:Int)=((room - 2 - x1:Nat):Int):=by lia
     have r4:(room:Int) - 1 - (x1:Int) - (x2:Int)=((room - 1 - x1 - x2:Nat):Int):=by lia
     have q1:(f:Int)=9:=by lia
     have q2:(3:Int) < (room:Int):=by lia
     have q3:(x1:Int) < ((room - 2:Nat):Int):=by lia
     refine⟨.mo s1 s2 s3,a6,b6,by simp only[Sy.down]; lia,by simp only[Sy.parts]; lia,⟨h3,u3,v3⟩,?_⟩
     simp only[iT,Sy.t]at e2 e3 e4 e5 e6 ⊢
     rw[q1]at e1'
     simp[F_4,fnD,d_4,e1',m1,m2,n2,r2,e2,c1,d1,e3,q2,q3,r3,e4,c2,e5,r4,e6]
    ·obtain⟨s2,a4,b4,u1,u2,u3,e4⟩:=ih a3 b3 (room - 1 - x1) (down - 1) ⋯ ⋯ ⋯ ⋯
     have r3:(room:Int) - 1 - (x1:Int)=((room - 1 - x1:Nat):Int):=by lia
     simp only[iT]at e2 e3 e4
     have fin:∀ (w:Str) (i:Nat),(f:Int) % 3=(i:Int)->[sT "and",sT "or",sT "either"][i]?=some (sT w)->F_4 (n+1) [.l [⇑a,⇑b],.v (⇑(q:Int)),.v (⇑(room:Int)),.v (⇑(down:Int))]=some (.v (.t [sT w,s1.t,s2.t]),[⇑a4,⇑b4]):=fun w i ei es=>by
      simp only[sT]at es ⊢
      by_cases q1:(f:Int)=9
      ·have hi:i=0:=by lia
       subst hi
       simp at es
       subst es
       by_cases q2:(3:Int) < (room:Int)
       ·have q3:¬ (x1:Int) < ((room - 2:Nat):Int):=by lia
        simp[F_4,fnD,d_4,e1',m1,m2,m3,m3',n1,n2,r2,e2,c1,d1,e3,q1,q2,q3,r3,e4]
       ·simp[F_4,fnD,d_4,e1',m1,m2,m3,m3',n1,n2,r2,e2,c1,d1,e3,q1,q2,r3,e4]
      ·simp[F_4,fnD,d_4,e1',m1,m2,m3,m3',n1,n2,r2,e2,c1,d1,e3,q1,ei,zAk,es,r3,e4]
     have hf3:f % 3=0\/f % 3=1\/f % 3=2:=by lia
     rcases hf3 with h | h | h
     ·exact⟨.an s1 s2,a4,b4,by simp only[Sy.down]; lia,by simp only[Sy.parts]; lia,⟨h3,u3⟩,fin "and" 0 ⋯ rfl⟩
     ·exact⟨.or s1 s2,a4,b4,by simp only[Sy.down]; lia,by simp only[Sy.parts]; lia,⟨h3,u3⟩,fin "or" 1 ⋯ rfl⟩
     ·exact⟨.ei s1 s2,a4,b4,by simp only[Sy.down]; lia,by simp only[Sy.parts]; lia,⟨h3,u3⟩,fin "either" 2 ⋯ rfl⟩
theorem lw_q(rec:DF)(s:Sy):zDK rec [~~~s.t]=some (true,[~~~s.t]):=by
 cases s <;> simp[zDK,Sy.t,isiS,tyN,subTy]
theorem lw_i(rec:DF)(i:Int):zDK rec [~~~(iT i)]=some (false,[~~~(iT i)]):=by
 simp[zDK,isiS,tyN,subTy]
theorem lw_e(rec:DF)(s:Sy)(m:Nat)(h:rec [.v s.t]=some (.v (iT (m:Int)),[])):zEb rec [~~~s.t]=some (.v (iT (m:Int)),[~~~s.t]):=by
 simp only[iT]at h ⊢
 simp[zEb,h]
theorem zHF:∀ (n:Nat) (s:Sy),s.down<=n->F_8 n [.v s.t]=some (.v (iT (s.wt:Int)),[]):=by
 intro n
 induction n with
 | zero=>intro s h; have:=s.down_pos; lia
 | succ n ih =>
  intro s h
  have g1:=sL 1
  have g2:=sL 2
  have g3:=sL 3
  have c12:∀ x:Int,CMul 12 x:=fun x=>.inl ⟨by decide,by decide⟩
  have c4:∀ x:Int,CMul 4 x:=fun x=>.inl ⟨by decide,by decide⟩
  have c2:∀ x:Int,CMul x 2:=fun x=>.inr ⟨by decide,by decide⟩
  have c8:∀ x:Int,CMul x 8:=fun x=>.inr ⟨by decide,by decide⟩
  have ea:∀ k:Sy,k.down<=n->zEb (F_8 n) [~~~k.t]=some (.v (⇑(k.wt:Int)),[~~~k.t]):=fun k hk=>lw_e _ k _ (ih k hk)
  have qi:=fun i:Int=>lw_i (F_8 n) i
  have qk:=lw_q (F_8 n)
  simp only[iT]at qi
  cases s with
  | yes=>simp[F_8,fnD,d_8,Sy.t,Sy.wt,cut1,zAO,gd,g1,g2,g3,inS,atomsOf,flatV,inV,eqV]
  | no=>simp[F_8,fnD,d_8,Sy.t,Sy.wt,cut1,zAO,gd,g1,g2,g3,inS,atomsOf,flatV,inV,eqV]
  | ask q=>simp[F_8,fnD,d_8,Sy.t,Sy.wt,cut1,zAQ,zAO,gd,g1,g2,g3,inS,atomsOf,flatV,inV,eqV,qi]
  | nt a =>
   have h1:=ea a (by simp only[Sy.down]at h; lia)
   simp[F_8,fnD,d_8,Sy.t,Sy.wt,cut1,zAQ,zAO,gd,g1,g2,g3,inS,atomsOf,flatV,inV,eqV,qk,h1]
  | an a b =>
   have h1:=ea a (by simp only[Sy.down]at h; lia)
   have h2:=ea b (by simp only[Sy.down]at h; lia)
   simp[F_8,fnD,d_8,Sy.t,Sy.wt,cut1,zAQ,zAO,gd,g1,g2,g3,inS,atomsOf,flatV,inV,eqV,qk,h1,h2,c2]
   lia
  | or a b =>
   have h1:=ea a (by simp only[Sy.down]at h; lia)
   have h2:=ea b (by simp only[Sy.down]at h; lia)
   simp[F_8,fnD,d_8,Sy.t,Sy.wt,cut1,zAQ,zAO,gd,g1,g2,g3,inS,atomsOf,flatV,inV,eqV,qk,h1,h2,c2]
   lia
  | ei a b =>
   have h1:=ea a (by simp only[Sy.down]at h; lia)
   have h2:=ea b (by simp only[Sy.down]at h; lia)
   simp[F_8,fnD,d_8,Sy.t,Sy.wt,cut1,zAQ,zAO,gd,g1,g2,g3,inS,atomsOf,flatV,inV,eqV,qk,h1,h2,c8]
   lia
  | mo a b c =>
   have h1:=ea a (by simp only[Sy.down]at h; lia)
   have h2:=ea b (by simp only[Sy.down]at h; lia)
   have h3:=ea c (by simp only[Sy.down]at h; lia)
   simp[F_8,fnD,d_8,Sy.t,Sy.wt,cut1,zAQ,zAO,gd,g1,g2,g3,inS,atomsOf,flatV,inV,eqV,qk,h1,h2,h3,c12,c4]
theorem lp_q(rec:DF)(s:Sy):zDS rec [~~~s.t]=some (true,[~~~s.t]):=by
 cases s <;> simp[zDS,Sy.t,isiS,tyN,subTy]
theorem lp_i(rec:DF)(i:Int):zDS rec [~~~(iT i)]=some (false,[~~~(iT i)]):=by
 simp[zDS,isiS,tyN,subTy]
theorem lp_e(rec:DF)(s:Sy)(m:Nat)(h:rec [.v s.t]=some (.v (iT (m:Int)),[])):zEQ rec [~~~s.t]=some (.v (iT (m:Int)),[~~~s.t]):=by
 simp only[iT]at h ⊢
 simp[zEQ,h]
theorem zH8:∀ (n:Nat) (s:Sy),s.down<=n->F_1 n [.v s.t]=some (.v (iT (s.parts:Int)),[]):=by
 intro n
 induction n with
 | zero=>intro s h; have:=s.down_pos; lia
 | succ n ih =>
  intro s h
  have g1:=sL 1
  have g2:=sL 2
  have g3:=sL 3
  have ea:∀ k:Sy,k.down<=n->zEQ (F_1 n) [~~~k.t]=some (.v (⇑(k.parts:Int)),[~~~k.t]):=fun k hk=>lp_e _ k _ (ih k hk)
  have qi:=fun i:Int=>lp_i (F_1 n) i
  have qk:=lp_q (F_1 n)
  simp only[iT]at qi
  cases s with
  | yes=>simp[F_1,fnD,d_1,Sy.t,Sy.parts,cut1,zAO,gd,sumS,intsOf]
  | no=>simp[F_1,fnD,d_1,Sy.t,Sy.parts,cut1,zAO,gd,sumS,intsOf]
  | ask q=>simp[F_1,fnD,d_1,Sy.t,Sy.parts,cut1,zAQ,zAO,gd,g1,sumS,intsOf,qi]
  | nt a =>
   have h1:=ea a (by simp only[Sy.down]at h; lia)
   simp[F_1,fnD,d_1,Sy.t,Sy.parts,cut1,zAQ,zAO,gd,g1,sumS,intsOf,qk,h1]
  | an a b =>
   have h1:=ea a (by simp only[Sy.down]at h; lia)
   have h2:=ea b (by simp only[Sy.down]at h; lia)
   simp[F_1,fnD,d_1,Sy.t,Sy.parts,cut1,zAQ,zAO,gd,g1,g2,sumS,intsOf,qk,h1,h2]
   lia
  | or a b =>
   have h1:=ea a (by simp only[Sy.down]at h; lia)
   have h2:=ea b (by simp only[Sy.down]at h; lia)
   simp[F_1,fnD,d_1,Sy.t,Sy.parts,cut1,zAQ,zAO,gd,g1,g2,sumS,intsOf,qk,h1,h2]
   lia
  | ei a b =>
   have h1:=ea a (by simp only[Sy.down]at h; lia)
   have h2:=ea b (by simp only[Sy.down]at h; lia)
   simp[F_1,fnD,d_1,Sy.t,Sy.parts,cut1,zAQ,zAO,gd,g1,g2,sumS,intsOf,qk,h1,h2]
   lia
  | mo a b c =>
   have h1:=ea a (by simp only[Sy.down]at h; lia)
   have h2:=ea b (by simp only[Sy.down]at h; lia)
   have h3:=ea c (by simp only[Sy.down]at h; lia)
   simp[F_1,fnD,d_1,Sy.t,Sy.parts,cut1,zAQ,zAO,gd,g1,g2,g3,sumS,intsOf,qk,h1,h2,h3]
   lia
theorem zFz(q n dn:Nat)(ih:∀ (a b:Int) (most:Nat),1<=most->most<=1000->∃ (s:Sy) (a' b':Int),s.down<=max 1 (dn - 1)/\s.qs q/\F_7 n [.l [iT a,iT b],.v (iT (q:Int)),.v (iT (most:Int)),.v (iT ((dn - 1:Nat):Int))]=some (.v s.t,[iT a',iT b']))(a b:Int)(y:Nat)(h2:2<=y)(hy:y<=1000) :
  ∃ (k x:Nat) (s1 s2:Sy) (a1 b1 a2 b2 a3 b3:Int),(s1.down<=max 1 (dn - 1)/\s1.qs q/\s2.down<=max 1 (dn - 1)/\s2.qs q)/\(1:Int)+(k:Int)=(x:Int) /\
   F_10 [.l [⇑a,⇑b],.v (⇑((y:Int) - 1))]=some (.v (⇑(k:Int)),[⇑a1,⇑b1]) /\
   F_7 n [.l [⇑a1,⇑b1],.v (⇑(q:Int)),.v (⇑(x:Int)),.v (⇑((dn - 1:Nat):Int))]=some (.v s1.t,[⇑a2,⇑b2]) /\
   F_7 n [.l [⇑a2,⇑b2],.v (⇑(q:Int)),.v (⇑((y:Int) - (x:Int))),.v (⇑((dn - 1:Nat):Int))]=some (.v s2.t,[⇑a3,⇑b3]):=by
 obtain⟨k,a1,b1,hk,e1⟩:=zAZ a b (y - 1) ⋯ ⋯
 obtain⟨s1,a2,b2,u1,u2,e2⟩:=ih a1 b1 (1+k) ⋯ ⋯
 obtain⟨s2,a3,b3,v1,v2,e3⟩:=ih a2 b2 (y - (1+k)) ⋯ ⋯
 rw[show ((y - 1:Nat):Int)=(y:Int) - 1 by lia]at e1
 rw[show ((y - (1+k):Nat):Int)=(y:Int) - ((1+k:Nat):Int) by lia]at e3
 exact⟨k,1+k,s1,s2,a1,b1,a2,b2,a3,b3,⟨u1,u2,v1,v2⟩,by lia,e1,e2,e3⟩
theorem zIt(q:Nat)(hq0:0 < q)(hq:q<=100):∀ (n:Nat) (a b:Int) (most down:Nat),1<=n->down<=n->1<=most->most<=1000->∃ (s:Sy) (a' b':Int),s.down<=max 1 down/\s.qs q /\
  F_7 n [.l [iT a,iT b],.v (iT (q:Int)),.v (iT (most:Int)),.v (iT (down:Int))]=some (.v s.t,[iT a',iT b']):=by
 intro n
 induction n with
 | zero=>intro a b most down h; lia
 | succ n ih =>
  intro a b most down _ hd hm hm2
  obtain⟨f,a1,b1,hf,e1⟩:=zAZ a b 8 ∅ ∅
  have e1':F_10 [.l [iT a,iT b],.v (iT 8)]=some (.v (iT (f:Int)),[iT a1,iT b1]):=e1
  simp only[iT]at e1' ⊢
  clear e1
  by_cases leaf:most < 4\/down < 2\/f=0
  ·obtain⟨s,a2,b2,h1,h2,h3,e2⟩:=zCV q hq0 hq zAy a1 b1 1 1 ∅ ∅ ∅ ∅
   have e2':F_4 zAy [.l [⇑a1,⇑b1],.v (⇑(q:Int)),.v (⇑1),.v (⇑1)]=some (.v s.t,[⇑a2,⇑b2]):=e2
   refine⟨s,a2,b2,by lia,h3,?_⟩
   by_cases h1:(most:Int) < 4
   ·simp[F_7,fnD,d_7,e1',h1,e2']
   ·by_cases h2:(down:Int) < 2
    ·simp[F_7,fnD,d_7,e1',h1,h2,e2']
    ·have h3:f=0:=by lia
     simp[F_7,fnD,d_7,e1',h1,h2,h3,e2']
  ·have l1:¬ (most:Int) < 4:=by lia
   have l2:¬ (down:Int) < 2:=by lia
   have l3:¬ f=0:=by lia
   have c4:(down:Int) - 1=((down - 1:Nat):Int):=by lia
   by_cases one:f=1
   ·subst one
    obtain⟨s,a2,b2,h1,h2,e2⟩:=ih a1 b1 most (down - 1) ⋯ ⋯ hm hm2
    refine⟨.nt s,a2,b2,by simp only[Sy.down]; lia,h2,?_⟩
    simp only[iT,Sy.t]at e2 ⊢
    simp[F_7,fnD,d_7,e1',l1,l2,c4,e2]
   ·have o1:¬ (f:Int)=1:=by lia
    have ih':=fun a b mm h1 h2=>ih a b mm (down - 1) ⋯ ⋯ h1 h2
    have d2:CDiv (most:Int) 2:=⟨by decide,by decide⟩
    have d8:CDiv (most:Int) 8:=⟨by decide,by decide⟩
    obtain⟨w0,ew,hw0⟩:∃ w0:Str,atI [.a (.str "and"),.a (.str "or")] ((f:Int) % 2)=some (sT w0)/\(w0="and"\/w0="or"):=by
     have:f % 2=0\/f % 2=1:=by lia
     rcases this with h | h
     ·exact⟨"and",by rw[show (f:Int) % 2=((0:Nat):Int) by lia]; rfl,.inl rfl⟩
     ·exact⟨"or",by rw[show (f:Int) % 2=((1:Nat):Int) by lia]; rfl,.inr rfl⟩
    obtain⟨hh,ehh⟩:∃ hh:Nat,hh=most / 2:=⟨most / 2,rfl⟩
    obtain⟨hg,ehg⟩:∃ hg:Nat,hg=most / 8:=⟨most / 8,rfl⟩
    have m2:(most:Int) / 2=(hh:Int):=by lia
    have m8:(most:Int) / 8=(hg:Int):=by lia
    by_cases mst:f < 4/\most > 27
    ·obtain⟨z4,ez4⟩:∃ z4:Nat,z4=(most - 24) / 4:=⟨(most - 24) / 4,rfl⟩
     obtain⟨k,a2,b2,hk,e2⟩:=zAZ a1 b1 z4 ⋯ ⋯
     obtain⟨x,hx⟩:∃ x:Nat,x=1+k:=⟨1+k,rfl⟩
     have c1:(1:Int)+(k:Int)=(x:Int):=by lia
     have d4:∀ z:Int,CDiv z 4:=fun z=>⟨by decide,by decide⟩
     have d12:∀ z:Int,CDiv z 12:=fun z=>⟨by decide,by decide⟩
     have cm4:CMul 4 (x:Int):=.inl ⟨by decide,by decide⟩
     have m24:((most:Int) - 24) / 4=(z4:Int):=by lia
     obtain⟨y,hy⟩:∃ y:Nat,y=(most - 4 * x) / 12:=⟨_,rfl⟩
     have m12:((most:Int) - 4 * (x:Int)) / 12=(y:Int):=by lia
     obtain⟨s0,a3,b3,h01,h02,e3⟩:=ih' a2 b2 x ⋯ ⋯
     obtain⟨k',x',s1,s2,a4,b4,a5,b5,a6,b6,⟨u1,u2,v1,v2⟩,c5,t1,t2,t3⟩:=zFz q n down ih' a3 b3 y ⋯ ⋯
     refine⟨.mo s1 s2 s0,a6,b6,by simp only[Sy.down]; lia,⟨u2,v2,h02⟩,?_⟩
     have f4:(f:Int) < 4:=by lia
     have f4':¬ (f:Int)=4:=by lia
     have b27:(27:Int) < (most:Int):=by lia
     simp only[iT,Sy.t]at e2 e3 ⊢
     simp[F_7,fnD,d_7,e1',l1,l2,l3,o1,one,ew,d2,m2,f4,f4',b27,d4,m24,e2,c1,d12,cm4,m12,c4,e3,t1,c5,t2,t3]
    ·by_cases ei:f=4/\most > 15
     ·obtain⟨k',x',s1,s2,a4,b4,a5,b5,a6,b6,⟨u1,u2,v1,v2⟩,c5,t1,t2,t3⟩:=zFz q n down ih' a1 b1 hg ⋯ ⋯
      refine⟨.ei s1 s2,a6,b6,by simp only[Sy.down]; lia,⟨u2,v2⟩,?_⟩
      obtain⟨rfl,h15⟩:=ei
      have b15:(15:Int) < (most:Int):=by lia
      simp only[Sy.t]
      have ew':atI [T.a (.str "and"),.a (.str "or")] 0=some (sT "and"):=rfl
      simp[F_7,fnD,d_7,e1',l1,l2,d2,m2,ew',b15,d8,m8,c4,t1,c5,t2,t3]
     ·obtain⟨k',x',s1,s2,a4,b4,a5,b5,a6,b6,⟨u1,u2,v1,v2⟩,c5,t1,t2,t3⟩:=zFz q n down ih' a1 b1 hh ⋯ ⋯
      have go:F_7 (n+1) [.l [⇑a,⇑b],.v (⇑(q:Int)),.v (⇑(most:Int)),.v (⇑(down:Int))]=some (.v (.t [sT w0,s1.t,s2.t]),[⇑a6,⇑b6]):=by
       by_cases f4:f=4
       ·have b15:¬ (15:Int) < (most:Int):=by lia
        have f4':(f:Int)=4:=by lia
        have f4'':¬ (f:Int) < 4:=by lia
        have z:atI [T.a (.str "and"),.a (.str "or")] ((4:Int) % 2)=some (sT "and"):=rfl
        rw[f4']at ew
        cases Ak (z.symm.trans ew)
        simp[F_7,fnD,d_7,e1',l1,l2,l3,o1,one,ew,d2,m2,f4',f4'',b15,c4,t1,c5,t2,t3]
       ·have f4':¬ (f:Int)=4:=by lia
        by_cases f3:(f:Int) < 4
        ·have b27:¬ (27:Int) < (most:Int):=by lia
         simp[F_7,fnD,d_7,e1',l1,l2,l3,o1,one,ew,d2,m2,f4,f4',f3,b27,c4,t1,c5,t2,t3]
        ·simp[F_7,fnD,d_7,e1',l1,l2,l3,o1,one,ew,d2,m2,f4,f4',f3,c4,t1,c5,t2,t3]
      rcases hw0 with rfl | rfl
      ·exact⟨.an s1 s2,a6,b6,by simp only[Sy.down]; lia,⟨u2,v2⟩,go⟩
      ·exact⟨.or s1 s2,a6,b6,by simp only[Sy.down]; lia,⟨u2,v2⟩,go⟩
theorem Sy.head(s:Sy)(h:s.kids≠[]):∃ w:Str,s.t=.t (sT w::s.kids.map Sy.t):=by
 cases s with
 | yes=>exact absurd rfl h
 | no=>exact absurd rfl h
 | ask q=>exact absurd rfl h
 | nt a=>exact⟨_,rfl⟩
 | an a b=>exact⟨_,rfl⟩
 | or a b=>exact⟨_,rfl⟩
 | ei a b=>exact⟨_,rfl⟩
 | mo a b c=>exact⟨_,rfl⟩
theorem Sy.leaf(s:Sy)(h:s.kids=[]):s.wt=1/\s.parts=1:=by
 cases s with
 | yes=>exact⟨rfl,rfl⟩
 | no=>exact⟨rfl,rfl⟩
 | ask q=>exact⟨rfl,rfl⟩
 | nt a=>cases h
 | an a b=>cases h
 | or a b=>cases h
 | ei a b=>cases h
 | mo a b c=>cases h
theorem Sy.kid{q:Nat}{s k:Sy}(h:k∈s.kids):k.down < s.down/\(s.qs q->k.qs q):=by
 cases s with
 | yes=>cases h
 | no=>cases h
 | ask q=>cases h
 | nt a =>
  simp only[Sy.kids,AH,AS,or_false]at h
  subst h
  exact⟨by simp only[Sy.down]; lia,fun z=>z⟩
 | an a b =>
  simp only[Sy.kids,AH,AS,or_false]at h
  rcases h with rfl | rfl
  ·exact⟨by simp only[Sy.down]; lia,fun z=>z.1⟩
  ·exact⟨by simp only[Sy.down]; lia,fun z=>z.2⟩
 | or a b =>
  simp only[Sy.kids,AH,AS,or_false]at h
  rcases h with rfl | rfl
  ·exact⟨by simp only[Sy.down]; lia,fun z=>z.1⟩
  ·exact⟨by simp only[Sy.down]; lia,fun z=>z.2⟩
 | ei a b =>
  simp only[Sy.kids,AH,AS,or_false]at h
  rcases h with rfl | rfl
  ·exact⟨by simp only[Sy.down]; lia,fun z=>z.1⟩
  ·exact⟨by simp only[Sy.down]; lia,fun z=>z.2⟩
 | mo a b c =>
  simp only[Sy.kids,AH,AS,or_false]at h
  rcases h with rfl | rfl | rfl
  ·exact⟨by simp only[Sy.down]; lia,fun z=>z.1⟩
  ·exact⟨by simp only[Sy.down]; lia,fun z=>z.2.1⟩
  ·exact⟨by simp only[Sy.down]; lia,fun z=>z.2.2⟩
theorem Sy.kids3(s:Sy):s.kids.length<=3:=by cases s <;> simp[Sy.kids]
theorem zEa(q room most:Nat)(h1:1<=room)(h2:1<=most):∀ (m:Nat) (s:Sy) (a b:Int) (fuel:Nat),s.down<=m->s.down<=12->m < fuel->s.qs q->∃ (s':Sy) (a' b':Int),s'.down<=s.down/\s'.qs q/\s'.wt<=most/\s'.parts<=room /\
  dWhile zCG zDk fuel [~~~[iT a,iT b],~~~(iT (q:Int)),~~~(iT (room:Int)),~~~(iT (most:Int)),~~~s.t]=↥([~~~[iT a',iT b'],~~~(iT (q:Int)),~~~(iT (room:Int)),~~~(iT (most:Int)),~~~s'.t]):=by
 intro m
 induction m with
 | zero=>intro s a b fuel h; have:=s.down_pos; lia
 | succ m ih =>
  intro s a b fuel hd h12 hf hq
  obtain⟨f,rfl⟩:∃ f,fuel=f+1:=⟨fuel - 1,by lia⟩
  have ew:=zHF zEI s h12
  have ep:=zH8 zEZ s h12
  by_cases c:s.wt > most\/s.parts > room
  ·have hk:s.kids≠[]:=fun z=>by have:=s.leaf z; lia
   obtain⟨w,et⟩:=s.head hk
   obtain⟨j,a1,b1,hj,e1⟩:=zAZ a b s.kids.length (CT.mpr hk) (by have:=s.kids3; lia)
   obtain⟨k,ek⟩:∃ k,s.kids[j]?=some k:=⟨s.kids[j],by simp[hj]⟩
   have hm:k∈s.kids:=Ct ek
   obtain⟨kd,kq⟩:=Sy.kid (q:=q) hm
   obtain⟨s',a',b',u1,u2,u3,u4,e2⟩:=ih k a1 b1 f ⋯ ⋯ ⋯ (kq hq)
   refine⟨s',a',b',by lia,u2,u3,u4,?_⟩
   rw[← e2,zA2]
   have test:zCG [~~~[iT a,iT b],~~~(iT (q:Int)),~~~(iT (room:Int)),~~~(iT (most:Int)),~~~s.t]=some (true,[~~~[iT a,iT b],~~~(iT (q:Int)),~~~(iT (room:Int)),~~~(iT (most:Int)),~~~s.t]):=by
    simp only[iT]at ew ep ⊢
    by_cases c1:s.wt > most
    ·have:(most:Int) < (s.wt:Int):=by lia
     simp[zCG,ew,this]
    ·have c1':¬ (most:Int) < (s.wt:Int):=by lia
     have:(room:Int) < (s.parts:Int):=by lia
     simp[zCG,ew,ep,c1',this]
   have body:zDk [~~~[iT a,iT b],~~~(iT (q:Int)),~~~(iT (room:Int)),~~~(iT (most:Int)),~~~s.t]=↥([~~~[iT a1,iT b1],~~~(iT (q:Int)),~~~(iT (room:Int)),~~~(iT (most:Int)),~~~k.t]):=by
    simp only[iT]at e1 ⊢
    have el:((s.kids.map Sy.t).length+1:Nat)=s.kids.length+1:=by simp
    have ei:atI (sT w::s.kids.map Sy.t) (1+(j:Int))=some k.t:=by
     rw[show (1:Int)+(j:Int)=((j+1:Nat):Int) by lia,zAk]
     simp[ek]
    rw[et]
    simp only[sT]at ei ⊢
    simp[zDk,e1,ei]
   rw[test,Ac,if_pos rfl,body,Ac]
  ·have c1:¬ (most:Int) < (s.wt:Int):=by lia
   have c2:¬ (room:Int) < (s.parts:Int):=by lia
   refine⟨s,a,b,AF _,hq,by lia,by lia,?_⟩
   rw[zA2]
   simp only[iT]at ew ep ⊢
   simp[zCG,ew,ep,c1,c2]
theorem zLS(q room most:Nat)(hq0:0 < q)(hq:q<=100)(h1:1<=room)(h1':room<=1000)(h2:1<=most)(h2':most<=1000)(a b:Int):∃ (s:Sy) (a' b':Int),s.down<=6/\s.qs q/\s.wt<=most/\s.parts<=room /\
  F_11 [.l [iT a,iT b],.v (iT (q:Int)),.v (iT (room:Int)),.v (iT (most:Int))]=some (.v s.t,[iT a',iT b']):=by
 obtain⟨s,a1,b1,u1,u2,u3,e1⟩:=zCV q hq0 hq zAy a b room 5 ∅ ∅ h1 h1'
 obtain⟨c,a2,b2,hc,e2⟩:=zAZ a1 b1 2 ∅ ∅
 have e1':F_4 zAy [.l [⇑a,⇑b],.v (⇑(q:Int)),.v (⇑(room:Int)),.v (⇑5)]=some (.v s.t,[⇑a1,⇑b1]):=e1
 have e2':F_10 [.l [⇑a1,⇑b1],.v (⇑2)]=some (.v (⇑(c:Int)),[⇑a2,⇑b2]):=e2
 by_cases c0:c=0
 ·obtain⟨s2,a3,b3,v1,v2,e3⟩:=zIt q hq0 hq zDQ a2 b2 most 5 ∅ ∅ h2 h2'
  have e3':F_7 zDQ [.l [⇑a2,⇑b2],.v (⇑(q:Int)),.v (⇑(most:Int)),.v (⇑5)]=some (.v s2.t,[⇑a3,⇑b3]):=e3
  obtain⟨s',a',b',w1,w2,w3,w4,e4⟩:=zEa q room most h1 h2 12 s2 a3 b3 fuelX ⋯ ⋯ (by rw[zC3]; lia) v2
  refine⟨s',a',b',by lia,w2,w3,w4,?_⟩
  simp only[iT]at e4
  simp[F_11,fnD,d_11,e1',e2',c0,e3',e4]
 ·obtain⟨s',a',b',w1,w2,w3,w4,e4⟩:=zEa q room most h1 h2 12 s a2 b2 fuelX ⋯ ⋯ (by rw[zC3]; lia) u3
  refine⟨s',a',b',by lia,w2,w3,w4,?_⟩
  simp only[iT]at e4
  simp[F_11,fnD,d_11,e1',e2',c0,e4]
theorem zAo:∀ s:Sy,s.spell.spell=s.spell
 | .yes=>rfl
 | .no=>rfl
 | .ask _=>rfl
 | .nt a=>by simp[Sy.spell,zAo a]
 | .an a b=>by simp[Sy.spell,zAo a,zAo b]
 | .or a b=>by simp[Sy.spell,orS,zAo a,zAo b]
 | .ei a b=>by simp[Sy.spell,orS,zAo a,zAo b]
 | .mo a b c=>by simp[Sy.spell,orS,zAo a,zAo b,zAo c]
theorem ls_q(rec:DF)(s:Sy):zDD rec [~~~s.t]=some (true,[~~~s.t]):=by
 cases s <;> simp[zDD,Sy.t,isiS,tyN,subTy]
theorem ls_i(rec:DF)(i:Int):zDD rec [~~~(iT i)]=some (false,[~~~(iT i)]):=by
 simp[zDD,isiS,tyN,subTy]
theorem zDN:∀ (n:Nat) (s:Sy),s.down<=n->F_5 n [.v s.t]=some (.v s.spell.t,[]):=by
 intro n
 induction n with
 | zero=>intro s h; have:=s.down_pos; lia
 | succ n ih =>
  intro s h
  have g0:=sL 0
  have g1:=sL 1
  have g2:=sL 2
  have g3:=sL 3
  have ea:∀ k:Sy,k.down<=n->zF8 (F_5 n) [~~~k.t]=some (.v k.spell.t,[~~~k.t]):=fun k hk=>by
   have:=ih k hk
   simp[zF8,this]
  have ct:∀ (x:T) (r:List T),cutT (x::r) none (some 1)=[x]:=fun x r=>zBc (x::r) 1
  have ls:=ls_q (F_5 n)
  have li:=ls_i (F_5 n)
  simp only[iT]at li
  cases s with
  | yes=>simp[F_5,fnD,d_5,Sy.t,Sy.spell,cut1,ct,zAO,gd,g0,g1,g2,g3]
  | no=>simp[F_5,fnD,d_5,Sy.t,Sy.spell,cut1,ct,zAO,gd,g0,g1,g2,g3]
  | ask q=>simp[F_5,fnD,d_5,Sy.t,Sy.spell,cut1,ct,zAQ,zAO,gd,g0,g1,g2,g3,li]
  | nt a =>
   have h1:=ea a (by simp only[Sy.down]at h; lia)
   have q1:=ls a
   simp only[Sy.t,Sy.spell]
   generalize a.t=A at *
   generalize a.spell.t=A' at *
   simp[F_5,fnD,d_5,cut1,ct,zAQ,zAO,gd,g0,g1,g2,g3,h1,q1]
  | an a b =>
   have h1:=ea a (by simp only[Sy.down]at h; lia)
   have h2:=ea b (by simp only[Sy.down]at h; lia)
   have q1:=ls a
   have q2:=ls b
   simp only[Sy.t,Sy.spell]
   generalize a.t=A at *
   generalize a.spell.t=A' at *
   generalize b.t=B at *
   generalize b.spell.t=B' at *
   simp[F_5,fnD,d_5,cut1,ct,zAQ,zAO,gd,g0,g1,g2,g3,h1,h2,q1,q2]
  | or a b =>
   have h1:=ea a (by simp only[Sy.down]at h; lia)
   have h2:=ea b (by simp only[Sy.down]at h; lia)
   have q1:=ls a
   have q2:=ls b
   simp only[Sy.t,Sy.spell,orS]
   generalize a.t=A at *
   generalize a.spell.t=A' at *
   generalize b.t=B at *
   generalize b.spell.t=B' at *
   simp[F_5,fnD,d_5,cut1,ct,zAQ,zAO,gd,g0,g1,g2,g3,h1,h2,q1,q2]
  | ei a b =>
   have h1:=ea a (by simp only[Sy.down]at h; lia)
   have h2:=ea b (by simp only[Sy.down]at h; lia)
   have q1:=ls a
   have q2:=ls b
   simp only[Sy.t,Sy.spell,orS]
   generalize a.t=A at *
   generalize a.spell.t=A' at *
   generalize b.t=B at *
   generalize b.spell.t=B' at *
   simp[F_5,fnD,d_5,cut1,ct,zAQ,zAO,gd,g0,g1,g2,g3,h1,h2,q1,q2]
  | mo a b c =>
   have h1:=ea a (by simp only[Sy.down]at h; lia)
   have h2:=ea b (by simp only[Sy.down]at h; lia)
   have h3:=ea c (by simp only[Sy.down]at h; lia)
   have q1:=ls a
   have q2:=ls b
   have q3:=ls c
   simp only[Sy.t,Sy.spell,orS]
   generalize a.t=A at *
   generalize a.spell.t=A' at *
   generalize b.t=B at *
   generalize b.spell.t=B' at *
   generalize c.t=C at *
   generalize c.spell.t=C' at *
   simp[F_5,fnD,d_5,cut1,ct,zAQ,zAO,gd,g0,g1,g2,g3,h1,h2,h3,q1,q2,q3]
theorem anl{a b:Sy}(h:a.down<=m)(i:b.down<=m):(Sy.an a b).down<=m+1:=by simp only[Sy.down]; lia
theorem orl{a b:Sy}(h:a.down<=m)(i:b.down<=m):(orS a b).down<=m+3:=by simp only[orS,Sy.down]; lia
theorem zAf:∀ s:Sy,s.spell.down+6<=7 * s.down
 | .yes=>AF _
 | .no=>AF _
 | .ask _=>AF _
 | .nt a=>by have:=zAf a; simp only[Sy.spell,Sy.down]; lia
 | .an a b=>by have:=zAf a; have:=zAf b; simp only[Sy.spell,Sy.down]; lia
 | .or a b=>by
  have:=zAf a; have:=zAf b
  have:=orl (m:=7*max a.down b.down-6) (a:=a.spell) (b:=b.spell) ⋯ ⋯
  simp only[Sy.spell,Sy.down]; lia
 | .ei a b=>by
  have:=zAf a; have:=zAf b
  simp only[Sy.spell,Sy.down]
  have h:a.down<=max a.down b.down:=⋯
  have i:b.down<=max a.down b.down:=⋯
  generalize max a.down b.down=m at *
  have:=orl (anl (m:=7*m-5) (a:=a.spell) (b:=.nt b.spell) ⋯ (by simp only[Sy.down]; lia)) (anl (a:=.nt a.spell) (b:=b.spell) (by simp only[Sy.down]; lia) ⋯)
  lia
 | .mo a b c=>by
  have:=zAf a; have:=zAf b; have:=zAf c
  simp only[Sy.spell,Sy.down]
  have h:a.down<=max a.down (max b.down c.down):=⋯
  have i:b.down<=max a.down (max b.down c.down):=⋯
  have j:c.down<=max a.down (max b.down c.down):=⋯
  generalize max a.down (max b.down c.down)=m at *
  have:=orl (anl (m:=7*m-3) (a:=a.spell) (b:=b.spell) ⋯ ⋯) (anl (a:=c.spell) ⋯ (Ai (orl (a:=a.spell) (b:=b.spell) (m:=7*m-6) ⋯ ⋯) ⋯))
  lia
noncomputable def allL (n:Nat):Nat->List (List Nat)
 | 0=>[[]]
 | m+1=>(allL n m).flatMap fun r=>(AV n).map fun k=>k::r
theorem zGZ:∀ {t:List Nat},(∀ k∈t,k < n)->t∈allL n t.length
 | [],_=>AE.mpr rfl
 | k::r,h=>Eb.mpr ⟨r,zGZ fun x hx=>h x (AR _ hx),Bh.mpr ⟨k,Dz.mpr (h k AZ),rfl⟩⟩
noncomputable def ndB:List Nat->Bool
 | []=>true
 | k::r=>!(r.contains k) && ndB r
theorem zJ3:∀ {t:List Nat},t.Nodup->ndB t=true
 | [],_=>rfl
 | k::r,h=>by
  have h':=Bf.mp h
  simp[ndB,h'.1,zJ3 h'.2]
def turns (n:Nat):List (List Nat):=(allL n n).filter ndB
theorem zDL(h:IsT n t):t∈turns n:=by
 refine Dn.mpr ⟨?_,zJ3 h.nd⟩
 have:=zGZ h.lt
 rw[h.len]at this
 exact this
def isTr:Option (G×List T)->Bool
 | some (.v (.a (.bl true)),[])=>true
 | _=>false
theorem zNu:∀ {x:Option (G×List T)},isTr x=true->x=some (.v (.a (.bl true)),[])
 | some (.v (.a (.bl true)),[]),_=>rfl
noncomputable def ringF (row:List Nat) (m:Nat):List (Nat×Nat)->List Nat->List Nat
 | [],f=>f
 | (p,k)::r,f=>ringF row m r (f.set p (row.getD ((k+1) % m) 0))
def ringOf (n:Nat) (row:List Nat):List Nat:=ringF row n row.zipIdx (AN n 0)
def isTb (n:Nat) (t:List Nat):Bool:=t.length == n && (t.all fun k=>decide (k < n)) && ndB t
theorem zKR:∀ {t:List Nat},ndB t=true->t.Nodup
 | [],_=>IY
 | k::r,h=>by
  simp only[ndB,AW,Bool.not_eq_true']at h
  refine Bf.mpr ⟨fun hm=>?_,zKR h.2⟩
  have:r.contains k=true:=by simpa using hm
  rw[h.1]at this; cases this
theorem zCH(h:isTb n t=true):IsT n t:=by
 simp only[isTb,AW,beq_iff_eq,Aw,decide_eq_true_eq]at h
 exact⟨h.1.1,h.1.2,zKR h.2⟩
theorem zLs:([3,4,5].all fun n=>(turns n).all fun row=>isTb n (ringOf n row) || row.getD 0 0 != 0)=true:=by decide +kernel
theorem zLj(t:List Nat):enumT (tvT t)=(t.zipIdx 0).map fun q=>.t [iT (q.2:Int),iT (q.1:Int)]:=by
 unfold enumT
 simp[List.zipIdx_map,DG]
theorem zJc:∀ (m:Nat) (ls fs:List Nat) (a b n:Int) (o4 o5 o6:Option G) (fuel:Nat),ls.length=m->m < fuel->ls.length+fs.length<=5->∃ fs' a' b',(fs'.Perm (fs++ls)/\(fs≠[]->fs'.getD 0 0=fs.getD 0 0)) /\
  dWhile zCs zDg fuel [~~~[iT a,iT b],~~~(iT n),some (.l (tvT ls)),some (.l (tvT fs)),o4,o5,o6]=↥([~~~[iT a',iT b'],~~~(iT n),~~~[],some (.l (tvT fs')),o4,o5,o6]):=by
 intro m
 induction m with
 | zero =>
  intro ls fs a b n o4 o5 o6 fuel hl hf h5
  obtain rfl:ls=[]:=Ea.mp hl
  obtain⟨f,rfl⟩:∃ f,fuel=f+1:=⟨fuel - 1,by lia⟩
  exact⟨fs,a,b,⟨by simp,fun _=>rfl⟩,by rw[zA2]; simp[zCs]⟩
 | succ m ih =>
  intro ls fs a b n o4 o5 o6 fuel hl hf h5
  obtain⟨f,rfl⟩:∃ f,fuel=f+1:=⟨fuel - 1,by lia⟩
  obtain⟨r,a',b',hr,e⟩:=zAZ a b ls.length ⋯ ⋯
  obtain⟨z,hz⟩:∃ z,ls[r]?=some z:=⟨ls[r],by simp[hr]⟩
  obtain⟨fs',a2,b2,⟨hp,hh⟩,e2⟩:=ih (ls.eraseIdx r) (fs++[z]) a' b' n o4 o5 o6 f (by rw[Gc hr]; lia) ⋯ (by rw[Gc hr]; simp; lia)
  refine⟨fs',a2,b2,⟨hp.trans (zIv hz),fun h0=>?_⟩,?_⟩
  ·rw[hh (by simp)]
   cases fs with
   | nil=>exact absurd rfl h0
   | cons x r=>rfl
  rw[← e2,zA2]
  have hpos:(0:Int) < ls.length:=by lia
  have hb:inR 9223372036854775807 (r:Int)=true:=zCe ⋯
  have g1:ls.length<=AB:=zAM ⋯
  have g2:fs.length<=AB:=zAM ⋯
  have g3:fs.length < AB:=zHv ⋯
  simp[zCs,zDg,hpos,e,hb,zGI hr,hz,gd,g1,g2,g3,show 0 < ls.length by lia,zKg]
theorem zLy(n:Nat)(row:List Nat)(hn:0 < n)(hrow:row.length=n)(b0 b2:Option G):∀ (its:List (Nat×Nat)) (f:List Nat) (o5 o6:Option G),(∀ q∈its,q.1 < f.length/\q.2 < 100)->∃ o5' o6',
  forD (gdTup 2 (gdCons (gdName 5) (gdCons (gdName 6) gdNil))) zEh (its.map fun q=>.t [iT (q.2:Int),iT (q.1:Int)]) [b0,~~~(iT (n:Int)),b2,some (.r (tvT row)),some (.l (tvT f)),o5,o6] =
   some (.nx [b0,~~~(iT (n:Int)),b2,some (.r (tvT row)),some (.l (tvT (ringF row n its f))),o5',o6']):=by
 intro its
 induction its with
 | nil=>intro f o5 o6 _; exact⟨o5,o6,by rw[A7,zBU]; rfl⟩
 | cons q r ih =>
  intro f o5 o6 h
  obtain⟨p,k⟩:=q
  have h1:=h (p,k) AZ
  have hm:(k+1) % n < n:=Nat.mod_lt _ hn
  have h2:atI (tvT row) (((k:Int)+1) % (n:Int))=some (iT ((row.getD ((k+1) % n) 0:Nat):Int)):=by
   have e:((k:Int)+1) % (n:Int)=(((k+1) % n:Nat):Int):=by simp
   rw[e]
   refine zGP ?_
   rw[D4,Bb ⋯]; rfl
  have hn':(0:Int) < (n:Int):=by lia
  have h3:ixN f.length (p:Int)=some p:=zHn h1.1
  obtain⟨o5',o6',e⟩:=ih (f.set p (row.getD ((k+1) % n) 0)) (~~~(iT (k:Int))) (~~~(iT (p:Int))) (fun q hq=>by have:=h q (AR _ hq); simpa using this)
  refine⟨o5',o6',?_⟩
  rw[Ab,zDZ]
  have hs:(tvT f).set p (iT ((row.getD ((k+1) % n) 0:Nat):Int))=tvT (f.set p (row.getD ((k+1) % n) 0)):=by simp[tvT,List.map_set]
  have h3':ixN (tvT f).length (p:Int)=some p:=by simpa using h3
  simp only[ringF]
  rw[← e,← hs]
  generalize row.getD ((k+1) % n) 0=z at *
  generalize tvT row=RR at *
  generalize tvT f=FF at *
  simp only[iT]at h2 ⊢
  simp[zEh,hn',hn,h2,h3']
theorem zMp(a b:Int)(n:Nat)(h3:3<=n)(hn:n<=5):∃ row a' b',IsT n (ringOf n row)/\row.Perm (AV n)/\row.getD 0 0=0/\F_49 [.l [iT a,iT b],.v (iT (n:Int))]=some (.v (tuT (ringOf n row)),[iT a',iT b']):=by
 obtain⟨row,a',b',⟨hp,hh⟩,e⟩:=zJc (n - 1) ((E7 1 (n - 1))) [0] a b n none none none fuelX (by simp) (by rw[zC3]; lia) (by simp; lia)
 have hpr:row.Perm (AV n):=by
  have e0:[0]++E7 1 (n - 1)=AV n:=by
   obtain⟨m,rfl⟩:∃ m,n=m+1:=⟨n - 1,by lia⟩
   rw[List.range_eq_range',IG]
   simp
  rw[← e0]; exact hp
 have hrt:=zCb hpr
 have h0:=hh (by simp)
 have hT:IsT n (ringOf n row):=by
  have:=Aw.mp zLs n (by simp; lia)
  have:=Aw.mp this row (zDL hrt)
  simp only[El,bne_iff_ne,ne_eq]at this
  rcases this with z | z
  ·exact zCH z
  ·exact absurd h0 z
 refine⟨row,a',b',hT,hpr,h0,?_⟩
 obtain⟨o5,o6,e2⟩:=zLy n row ⋯ hrt.len (~~~[iT a',iT b']) (~~~[]) row.zipIdx (AN n 0) none none (fun q hq=>by
  have h:=List.mem_zipIdx hq
  have hl:=hrt.len
  refine⟨?_,by lia⟩
  have:q.1∈row:=by rw[h.2.2]; exact B7 _
  simpa using hrt.lt _ this)
 have r1:rngS [.v (⇑1),.v (⇑(n:Int))]=some (rngT 1 (n - 1)):=zKM 1 n ⋯ ⋯
 have r2:rngT 1 (n - 1)=tvT (E7 1 (n - 1)):=by
  simp[rngT,List.range'_eq_map_range,DG]
 have m1:∀ Γ,mulS Γ (.l [⇑0]) (.v (⇑(n:Int)))=some (.l (tvT (AN n 0))):=fun Γ=>by
  rw[zL1 [⇑0] n (by simp; lia) ⋯]
  congr 2
  simp[tvT]
 have g1:=sL 1
 have gl:(tvT row).length<=AB:=zAM (by simp[hrt.len]; lia)
 have en:dEnum (jW (jV 3) qQ) [~~~[iT a',iT b'],~~~(iT (n:Int)),~~~[],some (.l (tvT row)),some (.l (tvT (AN n 0))),none,none]=some (((row.zipIdx 0).map fun q=>.t [iT (q.2:Int),iT (q.1:Int)],[3]),[~~~[iT a',iT b'],~~~(iT (n:Int)),~~~[],some (.l (tvT row)),some (.l (tvT (AN n 0))),none,none]):=by
  rw[← zLj]
  generalize tvT row=RR at *
  simp[dEnum,gd,gl]
 unfold ringOf
 simp only[tvT,Ab,A7,iT,Int.ofNat_zero]at e
 have e':dWhile zCs zDg fuelX [~~~[iT a,iT b],~~~(iT (n:Int)),some (.l (tvT (E7 1 (n - 1)))),~~~[⇑0],none,none,none]=↥([~~~[iT a',iT b'],~~~(iT (n:Int)),~~~[],some (.l (tvT row)),none,none,none]):=e
 rw[← r2]at e'
 generalize (row.zipIdx 0).map (fun q=>T.t [iT (q.2:Int),iT (q.1:Int)])=EE at *
 simp only[tuT]
 generalize tvT (ringF row n row.zipIdx (AN n 0))=Z at *
 generalize tvT (AN n 0)=R0 at *
 generalize tvT row=RR at *
 simp only[iT]at *
 simp[F_49,fnD,d_49,r1,gd,g1,e',m1,en,frz1,e2]
noncomputable def rings5:List (List Nat):=[[1,2,3,4,0],[1,2,4,0,3],[1,3,4,2,0],[1,3,0,4,2],[1,4,3,0,2],[1,4,0,2,3],[2,3,1,4,0],[2,4,1,0,3],[2,4,3,1,0],[2,0,3,4,1],[2,3,4,0,1],[2,0,4,1,3],[3,2,4,1,0],[3,4,0,1,2],[3,4,1,2,0],[3,0,4,2,1],[3,2,0,4,1],[3,0,1,4,2],[4,2,3,0,1],[4,3,0,2,1],[4,3,1,0,2],[4,0,3,1,2],[4,2,0,1,3],[4,0,1,2,3]]
noncomputable def natsT':List T->Option (List Nat)
 | []=>some []
 | .a (.int n)::r=>if 0<=n then (natsT' r).map fun ks=>n.toNat::ks else none
 | _=>none
theorem natsT'_eq:∀ {ts:List T} {ks:List Nat},natsT' ts=some ks->ts=tvT ks
 | [],ks,e=>by cases e; rfl
 | t::r,ks,e=>by
  unfold natsT' at e
  split at e
  ·rename_i h; cases h
  ·rename_i n r' h
   cases h
   split at e
   ·rename_i h0
    obtain⟨ms,e1,e⟩:=zAI e
    subst e
    rw[natsT'_eq e1]
    simp[tvT]; lia
   ·cases e
  ·cases e
theorem allB5:(rings5.all fun r=>rings5.contains (backL r) && isTb 5 r && isTr (F_34 [.v (tuT r)]))=true:=by decide +kernel
theorem allR5:((turns 5).all fun row=>row.getD 0 0 != 0 || rings5.contains (ringOf 5 row))=true:=by decide +kernel
structure Rg(r:List Nat):Prop where
 mem:r∈rings5
theorem Rg.facts(h:Rg r):Rg (backL r)/\IsT 5 r/\F_34 [.v (tuT r)]=some (.v (.a (.bl true)),[]):=by
 have:=Aw.mp allB5 r h.mem
 simp only[AW]at this
 exact⟨⟨by simpa using this.1.1⟩,zCH this.1.2,zNu this.2⟩
theorem Rg.isT(h:Rg r):IsT 5 r:=h.facts.2.1
theorem Rg.back(h:Rg r):Rg (backL r):=h.facts.1
theorem zJB{α:Type}{a b:List α}(hl:a.length=b.length)(h:∀ i,i < a.length->a[i]?=b[i]?):a=b:=by
 apply H9
 intro i
 by_cases hi:i < a.length
 ·exact h i hi
 ·rw[BN ⋯,BN ⋯]
theorem zBW(a b:List Nat):(thenL a b).length=a.length:=by simp[thenL]
theorem zDv(ha:IsT n a)(hb:IsT n b)(hc:IsT n c):thenL (thenL a b) c=thenL a (thenL b c):=by
 refine zJB (by simp[zBW]) fun i hi=>?_
 have hi':i < n:=by rw[zBW,zBW,ha.len]at hi; exact hi
 obtain⟨k,e1,k1⟩:=ha.get hi'
 obtain⟨m,e2,m1⟩:=hb.get k1
 obtain⟨z,e3,z1⟩:=hc.get m1
 rw[zBw (zBw e1 e2) e3,zBw e1 (zBw e2 e3)]
theorem zGy(h:i < n):(AV n)[i]?=some i:=by simp[h]
theorem zDu(ha:IsT n a):thenL a (AV n)=a:=by
 refine zJB (by simp[zBW]) fun i hi=>?_
 have hi':i < n:=by rw[zBW,ha.len]at hi; exact hi
 obtain⟨k,e1,k1⟩:=ha.get hi'
 rw[zBw e1 (zGy k1),e1]
theorem zJG(ha:IsT n a):thenL a (backL a)=AV n:=by
 refine zJB (by simp[zBW,ha.len]) fun i hi=>?_
 have hi':i < n:=by rw[zBW,ha.len]at hi; exact hi
 obtain⟨k,e1,k1⟩:=ha.get hi'
 rw[zBw e1 (zLg (by rw[ha.len]; exact k1)),zDH ha e1,zGy hi']
def lastF (st:List Stp) (t:List Nat):List Stp:=match st.getLast? with
 | some s=>st.dropLast++[(s.1,thenL s.2.1 t,thenL s.2.2 t)]
 | none=>[]
noncomputable def Sy.plain:Sy->Prop
 | .yes=>True
 | .no=>True
 | .ask _=>True
 | .nt a=>a.plain
 | .an a b=>a.plain/\b.plain
 | _=>False
theorem zAY:∀ s:Sy,s.spell.plain
 | .yes=>trivial
 | .no=>trivial
 | .ask _=>trivial
 | .nt a=>zAY a
 | .an a b=>⟨zAY a,zAY b⟩
 | .or a b=>⟨zAY a,zAY b⟩
 | .ei a b=>⟨⟨zAY a,zAY b⟩,⟨zAY a,zAY b⟩⟩
 | .mo a b c=>⟨⟨zAY a,zAY b⟩,⟨zAY c,⟨zAY a,zAY b⟩⟩⟩
theorem zAx:∀ s:Sy,s.spell.wt=s.wt
 | .yes=>rfl
 | .no=>rfl
 | .ask _=>rfl
 | .nt a=>by have:=zAx a; simp only[Sy.spell,Sy.wt]; try lia
 | .an a b=>by have:=zAx a; have:=zAx b; simp only[Sy.spell,Sy.wt]; try lia
 | .or a b=>by have:=zAx a; have:=zAx b; simp only[Sy.spell,orS,Sy.wt]; try lia
 | .ei a b=>by have:=zAx a; have:=zAx b; simp only[Sy.spell,orS,Sy.wt]; try lia
 | .mo a b c=>by have:=zAx a; have:=zAx b; have:=zAx c; simp only[Sy.spell,orS,Sy.wt]; try lia
theorem zAp:∀ s:Sy,s.qs q->s.spell.qs q
 | .yes,_=>trivial
 | .no,_=>trivial
 | .ask _,h=>h
 | .nt a,h=>zAp a h
 | .an a b,h=>⟨zAp a h.1,zAp b h.2⟩
 | .or a b,h=>⟨zAp a h.1,zAp b h.2⟩
 | .ei a b,h=>⟨⟨zAp a h.1,zAp b h.2⟩,⟨zAp a h.1,zAp b h.2⟩⟩
 | .mo a b c,h=>⟨⟨zAp a h.1,zAp b h.2.1⟩,⟨zAp c h.2.2,⟨zAp a h.1,zAp b h.2.1⟩⟩⟩
theorem zB3:(lastF st t).length=st.length:=by
 unfold lastF
 cases h:st.getLast? with
 | none=>rw[C2.mp h]; try rfl
 | some s =>
  have:st≠[]:=fun z=>by rw[z]at h; cases h
  have:=CT.mpr this
  simp only[Ax,HJ,Et]
  lia
theorem zCQ:∀ s:Sy,1<=s.wt
 | .yes=>AF _
 | .no=>AF _
 | .ask _=>AF _
 | .nt a=>by simp only[Sy.wt]; exact zCQ a
 | .an a b=>by have:=zCQ a; simp only[Sy.wt]; lia
 | .or a b=>by have:=zCQ a; simp only[Sy.wt]; lia
 | .ei a b=>by have:=zCQ a; simp only[Sy.wt]; lia
 | .mo a b c=>by have:=zCQ a; simp only[Sy.wt]; lia
inductive PP where
 | step | nt (p:PP) | an (i j k:Nat) (a b:List Nat) (p1 p2 p3 p4:PP)
def PP.t:PP->T
 | .step=>.t [sT "step"]
 | .nt p=>.t [sT "not",p.t]
 | .an i j k a b p1 p2 p3 p4=>.t [sT "and",iT (i:Int),iT (j:Int),iT (k:Int),tuT a,tuT b,p1.t,p2.t,p3.t,p4.t]
noncomputable def PP.size:PP->Nat
 | .step=>1
 | .nt p=>1+p.size
 | .an _ _ _ _ _ p1 p2 p3 p4=>1+p1.size+p2.size+p3.size+p4.size
abbrev spT (st:List Stp):T:=.t (st.map stT)
noncomputable def stepOk (s:Sy) (r:List Nat) (st:List Stp):Bool:=match s,st with
 | .ask q,[x]=>decide (x=(q,r,AV 5))
 | .yes,[x]=>decide (x.2=(r,r))
 | .no,[x]=>decide (x.2=(AV 5,AV 5))
 | _,_=>false
def chk:PP->Sy->List Nat->List Stp->Bool
 | .step,s,r,st=>stepOk s r st
 | .nt p,.nt s,r,st=>chk p s (backL r) (lastF st (backL r))
 | .an i j k a b p1 p2 p3 p4,.an s t,_,st=>chk p1 s a (st.take i) && (chk p2 t b ((st.take j).drop i) && (chk p3 s (backL a) ((st.take k).drop j) && chk p4 t (backL b) (st.drop k)))
 | _,_,_,_=>false
def tbL (a b:List Nat):List Nat:=thenL (thenL a b) (thenL (backL a) (backL b))
inductive Pf:Sy->List Nat->PP->Nat->Prop where
 | ask (q r):Pf (.ask q) r .step 1
 | yes (r):Pf .yes r .step 1
 | no (r):Pf .no r .step 1
 | nt {s r p n}:Pf s (backL r) p n->Pf (.nt s) r (.nt p) n
 | an {s t r a b p1 p2 p3 p4 n1 n2 n3 n4}:Rg a->Rg b->tbL a b=r->Pf s a p1 n1->Pf t b p2 n2->Pf s (backL a) p3 n3->Pf t (backL b) p4 n4 ->
   Pf (.an s t) r (.an n1 (n1+n2) (n1+n2+n3) a b p1 p2 p3 p4) (n1+n2+n3+n4)
theorem Pf.pos{s r p n}(h:Pf s r p n):1<=n:=by
 induction h with
 | ask=>exact AF _
 | yes=>exact AF _
 | no=>exact AF _
 | nt _ ih=>exact ih
 | an _ _ _ _ _ _ _ h1 _ _ _=>lia
theorem Pf.size{s r p n}(h:Pf s r p n):p.size<=n * s.down:=by
 induction h with
 | ask=>simp[PP.size,Sy.down]
 | yes=>simp[PP.size,Sy.down]
 | no=>simp[PP.size,Sy.down]
 | @nt s r p n h ih =>
  have:=h.pos
  simp only[PP.size,Sy.down,GJ,Hb]
  lia
 | @an s t r a b p1 p2 p3 p4 n1 n2 n3 n4 _ _ _ h1 h2 h3 h4 i1 i2 i3 i4 =>
  have:=h1.pos
  obtain⟨m,hm⟩:∃ m,m=max s.down t.down:=⟨_,rfl⟩
  have a1:n1 * s.down<=n1 * m:=CV _ ⋯
  have a2:n2 * t.down<=n2 * m:=CV _ ⋯
  have a3:n3 * s.down<=n3 * m:=CV _ ⋯
  have a4:n4 * t.down<=n4 * m:=CV _ ⋯
  simp only[PP.size,Sy.down,← hm,GJ,Hb,J7]
  lia
theorem zD6(h:StOk 5 q st)(ht:IsT 5 t):StOk 5 q (lastF st t):=by
 unfold lastF
 cases e:st.getLast? with
 | none=>exact fun s hs=>nomatch hs
 | some s =>
  have hs:=h s (Dl e)
  intro x hx
  rcases Bp.mp hx with z | z
  ·exact h x (HN _ z)
  ·rw[AE.mp z]
   exact⟨hs.1,zBh hs.2.1 ht,zBh hs.2.2 ht⟩
theorem zIP(h:StOk 5 q st)(ht:IsT 5 t):lastF (lastF st t) (backL t)=st:=by
 unfold lastF
 cases e:st.getLast? with
 | none=>rw[C2.mp e]; rfl
 | some s =>
  have hs:=h s (Dl e)
  have hn:st≠[]:=fun z=>by rw[z]at e; cases e
  have hb:=zJl ht
  have es:st=st.dropLast++[s]:=by
   have:=List.dropLast_concat_getLast hn
   rw[List.getLast?_eq_some_getLast hn]at e
   rw[← Ak e]; exact this.symm
  simp only[List.getLast?_append,List.getLast?_singleton,II,HP]
  rw[zDv hs.2.1 ht hb,zDv hs.2.2 ht hb,zJG ht,zDu hs.2.1,zDu hs.2.2]
  exact es.symm
theorem sokT(h:StOk n q st)(k:Nat):StOk n q (st.take k):=fun s hs=>h s (HQ hs)
theorem sokD(h:StOk n q st)(k:Nat):StOk n q (st.drop k):=fun s hs=>h s (HR hs)
theorem sokA(h:StOk n q a)(h':StOk n q b):StOk n q (a++b):=fun s hs=>(Bp.mp hs).elim (h s) (h' s)
noncomputable def wds:List Str:=["step","not","and","yes",""]
inductive Th:Nat->T->Prop where
 | int {d:Nat} (i:Int):Th d (iT i)
 | str {d:Nat} (w:Str):w∈wds->Th d (sT w)
 | tup {d:Nat} (xs:List T):(∀ x∈xs,Th d x)->xs.length<=40->Th (d+1) (.t xs)
theorem zEg(h:w∈wds):(JH w).canLay0=true:=by
 have:(wds.all fun w=>(JH w).canLay0)=true:=by decide +kernel
 exact Aw.mp this w h
theorem Th.mono(h:Th d x):d<=d'->Th d' x:=by
 intro hd
 induction h generalizing d' with
 | int i=>exact .int i
 | str w hw=>exact .str w hw
 | @tup d xs hx hl ih =>
  obtain⟨e,rfl⟩:∃ e,d'=e+1:=⟨d' - 1,by lia⟩
  exact .tup xs (fun x hm=>ih x hm ⋯) hl
theorem zCM(h:∀ x∈xs,∃ pd,toD x=some pd/\pd.canLay0=true):∃ ps,toDs xs=some ps/\A4 ps=true:=by
 induction xs with
 | nil=>exact⟨[],rfl,rfl⟩
 | cons x r ih =>
  obtain⟨p,e1,l1⟩:=h x AZ
  obtain⟨ps,e2,l2⟩:=ih fun y hy=>h y (AR _ hy)
  exact⟨p::ps,by rw[toDs,e1,e2]; rfl,by simp[A4,l1,l2]⟩
theorem Th.dat(h:Th d x):∃ pd,toD x=some pd/\pd.canLay0=true:=by
 induction h with
 | int i=>exact⟨.int i,rfl,rfl⟩
 | str w hw=>exact⟨.str w,rfl,zEg hw⟩
 | @tup d xs hx hl ih =>
  obtain⟨ps,e,l⟩:=zCM ih
  exact⟨.tuple ps,by simp[toD,e],by simp[BF,l]⟩
noncomputable def isW (w:Str):T->Bool
 | .a (.str y)=>decide (y=w)
 | _=>false
theorem Th.eq_word(h:Th d x)(hw:w∈wds)(Γ:En):eqS Γ (.v x) (.v (sT w))= ~~~(bT (isW w x)):=by
 have lw:=zEg hw
 cases h with
 | int i=>simp[isW,eqS,eqA,scis,mkB]
 | str y hy=>simp[isW]
 | @tup d xs hx hl =>
  obtain⟨ps,e,l⟩:=zCM (fun x hm=>(hx x hm).dat)
  have e0:eqA (fun x y=>decide (x=y)) Γ (.v (.t xs)) (.v (sT w))=none:=rfl
  show ((eqA (fun x y=>decide (x=y)) Γ (.v (.t xs)) (.v (sT w))).or (cmpD Aj Γ (.v (.t xs)) (.v (sT w))))=_
  have e1:cmpD Aj Γ (.v (.t xs)) (.v (sT w))= ~~~(bT false):=by
   unfold cmpD
   rw[show datS Γ (.v (.t xs))=some (.tuple ps) by show toD (.t xs)=_; simp[toD,e],show datS Γ (.v (sT w))=some (.str w) from rfl,Ac,Ac,if_pos ⟨by simp[BF,l],lw,by simp[Bc]⟩]
   simp[Aj,mkB]
  rw[e0,BZ,e1]
  rfl
def unT:T->List T
 | .t xs=>xs
 | _=>[]
def ringT (x:T):Bool:=rings5.any fun r=>decide (natsT' (unT x)=some r)
noncomputable def intB:T->Bool
 | .a (.int _)=>true
 | _=>false
theorem Th.isi_tup(h:Th d x)(Γ:En):isiS Γ [.v x,.v (.a (.ty "tuple"))]= ~~~(bT (match x with | .t _=>true | _=>false)):=by
 cases h with
 | int i=>simp[isiS,tyN,subTy]
 | str w hw=>simp[isiS,tyN,subTy]
 | tup xs hx hl=>simp[isiS,tyN,subTy]
theorem Th.isi_int(h:Th d x)(Γ:En):isiS Γ [.v x,.v (.a (.ty "int"))]= ~~~(bT (intB x)):=by
 cases h with
 | int i=>simp[isiS,tyN,subTy,intB]
 | str w hw=>simp[isiS,tyN,subTy,intB]
 | tup xs hx hl=>simp[isiS,tyN,subTy,intB]
theorem Th.whole(h:Th d x):F_27 [.v x]=some (.v (bT (intB x)),[]):=by
 cases h with
 | int i=>simp[F_27,fnD,d_27,isiS,tyN,subTy,intB]
 | str w hw=>simp[F_27,fnD,d_27,isiS,tyN,subTy,intB]
 | tup xs hx hl=>simp[F_27,fnD,d_27,isiS,tyN,subTy,intB]
theorem zKI(bs:List Bool):boolsOf (bs.map bT)=some bs:=by
 induction bs with
 | nil=>rfl
 | cons b r ih=>simp[boolsOf,ih]
noncomputable def intL (ys:List Int):List ER:=ys.map EZ
theorem zCA:∀ a c:List Int,Av (intL a) (intL c)=decide (a=c)
 | [],[]=>by simp[intL,Av]
 | [],y::s=>by simp[intL,Av]
 | x::r,[]=>by simp[intL,Av]
 | x::r,y::s=>by
  have:=zCA r s
  simp only[intL,Ab]at this ⊢
  rw[Av,this]
  have e:Aj (.int x) (.int y)=decide (x=y):=by
   by_cases h:x=y
   ·subst h; simp[Aj]
   ·simp[Aj,h]
  rw[e]
  by_cases h:x=y <;> by_cases h2:r=s <;> simp[h,h2]
theorem zGh:∀ ys:List Int,toDs (ys.map fun n=>T.a (.int n))=some (intL ys)
 | []=>rfl
 | y::r=>by rw[Ab,toDs,zGh r]; rfl
theorem zHf:∀ ys:List Int,A4 (intL ys)=true
 | []=>rfl
 | y::r=>by simp[intL,A4,BF]; exact zHf r
theorem zCW:∀ ys:List Int,BK (intL ys)=0
 | []=>rfl
 | y::r=>by have:=zCW r; simp only[intL]at this; simp[intL,BK,Bc,this]
theorem zF4(Γ:En)(a c:List Int):eqS Γ (.l (a.map fun n=>T.a (.int n))) (.l (c.map fun n=>T.a (.int n)))= ~~~(bT (decide (a=c)))/\neS Γ (.l (a.map fun n=>T.a (.int n))) (.l (c.map fun n=>T.a (.int n)))= ~~~(bT (!decide (a=c))):=by
 have dt:∀ a:List Int,datS Γ (.l (a.map fun n=>T.a (.int n)))=some (.list (intL a)):=fun a=>by
  have:=zGh a
  simp[datS,sqlOf,this]
 have l:∀ a:List Int,BF (.list (intL a))=true:=fun a=>by simp only[BF]; exact zHf a
 have dp:∀ a:List Int,Bc (.list (intL a))<=1:=fun a=>by simp only[Bc,zCW]; omega
 have q:Aj (.list (intL a)) (.list (intL c))=decide (a=c):=by rw[Aj]; exact zCA a c
 have c1:∀ f:ER->ER->Bool,cmpD f Γ (.l (a.map fun n=>T.a (.int n))) (.l (c.map fun n=>T.a (.int n)))= ~~~(bT (f (.list (intL a)) (.list (intL c)))):=fun f=>by
  unfold cmpD
  rw[dt,dt,Ac,Ac,if_pos ⟨l a,l c,by have:=dp a; omega⟩]
  rfl
 refine⟨?_,?_⟩
 ·show ((none:Option S).or (cmpD Aj Γ _ _))=_
  rw[BZ,c1,q]
 ·show ((none:Option S).or (cmpD (fun a b=>!PyData.eqv a b) Γ _ _))=_
  rw[BZ,c1,q]
def isVal (x:Option (G×List T)) (b:Bool):Bool:=match x with
 | some (.v (.a (.bl c)),[])=>c == b
 | _=>false
theorem zGX(h:isVal x b=true):x=some (.v (bT b),[]):=by
 unfold isVal at h
 split at h
 ·rw[beq_iff_eq.mp h]
 ·cases h
theorem zJC:((turns 5).all fun t=>isVal (F_33 [.v (tuT t)]) (rings5.contains t) && isVal (F_17 [.v (tuT t)]) (rings5.contains t))=true:=by decide +kernel
theorem zDr:∀ {xs:List T},xs.all intB=true->∃ zs:List Int,xs=zs.map fun n=>T.a (.int n)
 | [],_=>⟨[],rfl⟩
 | x::r,h=>by
  simp only[Gq,AW]at h
  obtain⟨zs,rfl⟩:=zDr h.2
  match x,h.1 with
  | .a (.int n),_=>exact⟨n::zs,rfl⟩
theorem zEP:∀ zs:List Int,intsOf (zs.map fun n=>T.a (.int n))=some zs
 | []=>rfl
 | z::r=>by rw[Ab,intsOf,zEP r]; rfl
theorem zF3(Γ:En)(zs:List Int)(h:zs.length<=40):sortedS Γ [.v (.t (zs.map fun n=>T.a (.int n)))]=some (.l ((sortI zs).map fun n=>T.a (.int n))):=by
 have e1:seqS Γ (.v (.t (zs.map fun n=>T.a (.int n))))=some (zs.map fun n=>T.a (.int n)):=rfl
 unfold sortedS
 dsimp only
 rw[e1,Ac,zEP,Ac,if_pos (by omega)]
theorem zDs:∀ {ys xs:List Nat},ys.Nodup->(∀ y∈ys,y∈xs)->xs.length=ys.length->ys.Perm xs
 | [],xs,_,_,h=>by rw[Ea.mp h]
 | y::r,xs,nd,hs,hl=>by
  have hy:=hs y AZ
  have h1:=Bf.mp nd
  have:=zDs (ys:=r) (xs:=xs.erase y) h1.2 (fun z hz=>(List.mem_erase_of_ne (fun (e:z=y)=>h1.1 (e ▸ hz))).mpr (hs z (AR _ hz))) (by rw[Gu hy]; simp at hl; omega)
  exact (this.cons y).trans (List.perm_cons_erase hy).symm
theorem zKc:∀ t:List Nat,intsOf (tvT t)=some (t.map fun (k:Nat)=>(k:Int))
 | []=>rfl
 | k::r=>by
  have:=zKc r
  simp only[tvT,iT]at this
  simp[intsOf,this]
theorem zKf(h:IsT n t):sortI (t.map fun (k:Nat)=>(k:Int))=(AV n).map fun (k:Nat)=>(k:Int):=by
 have p:(AV n).Perm t:=zDs EY (fun y hy=>h.mem (Dz.mp hy)) (by rw[h.len,List.length_range])
 refine zCx ((zCC _).trans (p.map _).symm) (zCS _) ?_
 rw[List.pairwise_map]
 exact Jg (fun {a b} (hab:a < b)=>by lia) List.pairwise_lt_range
theorem zFa:∀ (zs:List Int) (ks:List Nat),natsT' (zs.map fun n=>T.a (.int n))=some ks->zs=ks.map fun (k:Nat)=>(k:Int)
 | [],ks,e=>by cases e; rfl
 | z::r,ks,e=>by
  rw[Ab,natsT']at e
  split at e
  ·obtain⟨ms,e1,e⟩:=zAI e
   subst e
   rw[zFa r ms e1]
   simp; omega
  ·cases e
theorem zDW:∀ ks:List Nat,natsT' ((ks.map fun (k:Nat)=>(k:Int)).map fun n=>T.a (.int n))=some ks
 | []=>rfl
 | k::r=>by
  rw[Ab,Ab,natsT',if_pos ⋯,zDW r]
  simp
theorem zEW(zs:List Int):ringT (.t (zs.map fun n=>T.a (.int n)))=true ↔ ∃ r∈rings5,zs=r.map fun (k:Nat)=>(k:Int):=by
 unfold ringT
 rw[Cy]
 constructor
 ·rintro ⟨r,hr,e⟩
  exact⟨r,hr,zFa zs r (of_decide_eq_true e)⟩
 ·rintro ⟨r,hr,rfl⟩
  exact⟨r,hr,decide_eq_true (zDW r)⟩
theorem zGR:∀ (xs:List T) (ks:List Nat),natsT' xs=some ks->xs.all intB=true
 | [],_,_=>rfl
 | .a (.int n)::r,ks,e=>by
  rw[natsT']at e
  split at e
  ·obtain⟨ms,e1,_⟩:=zAI e
   simp[intB,zGR r ms e1]
  ·cases e
 | .a (.str _)::r,ks,e=>by cases e
 | .t _::r,ks,e=>by cases e
 | .a .non::r,ks,e=>by cases e
 | .a (.bl _)::r,ks,e=>by cases e
 | .l _::r,ks,e=>by cases e
 | .f _::r,ks,e=>by cases e
 | .x _ _::r,ks,e=>by cases e
 | .a (.byt _)::r,ks,e=>by cases e
 | .a (.ty _)::r,ks,e=>by cases e
 | .a (.ref _)::r,ks,e=>by cases e
theorem perm5(zs:List Int)(h:sortI zs=[0,1,2,3,4]):∃ t:List Nat,IsT 5 t/\zs=t.map fun (k:Nat)=>(k:Int):=by
 have p:=zCC zs
 rw[h]at p
 have hm:∀ z∈zs,0<=z/\z < 5:=fun z hz=>by
  have:=p.symm.subset hz
  simp at this
  lia
 refine⟨zs.map IP,zCb ?_,?_⟩
 ·have q:=(p.symm.map IP)
  exact q
 ·rw[DR]
  conv=>lhs; rw[← List.map_id zs]
  refine List.map_congr_left fun z hz=>?_
  have:=hm z hz
  show z=((z.toNat:Nat):Int)
  lia
theorem zKd(zs:List Int)(hl:zs.length<=40):F_33 [.v (.t (zs.map fun n=>T.a (.int n)))]=some (.v (bT (ringT (.t (zs.map fun n=>T.a (.int n))))),[])/\F_17 [.v (.t (zs.map fun n=>T.a (.int n)))]=some (.v (bT (ringT (.t (zs.map fun n=>T.a (.int n))))),[]):=by
 by_cases h:sortI zs=[0,1,2,3,4]
 ·obtain⟨t,ht,rfl⟩:=perm5 zs h
  have hr:=Aw.mp zJC t (zDL ht)
  simp only[AW]at hr
  have eb:ringT (.t ((t.map fun (k:Nat)=>(k:Int)).map fun n=>T.a (.int n)))=rings5.contains t:=by
   rw[DB,zEW]
   constructor
   ·rintro ⟨r,hr,e⟩
    have:t=r:=by
     have:=congrArg (B2 IP) e
     simpa [DR,DG] using this
    rw[this]; simpa using hr
   ·intro hc
    exact⟨t,by simpa using hc,rfl⟩
  have et:(t.map fun (k:Nat)=>(k:Int)).map (fun n=>T.a (.int n))=tvT t:=by rw[DR]; rfl
  rw[eb,et]
  exact⟨zGX hr.1,zGX hr.2⟩
 ·have eb:ringT (.t (zs.map fun n=>T.a (.int n)))=false:=by
   refine Cm.mpr fun z=>?_
   obtain⟨r,hr,e⟩:=(zEW zs).mp z
   have ht:IsT 5 r:=(Rg.mk hr).isT
   have:=zKf ht
   rw[← e]at this
   exact h this
  rw[eb]
  have es:=fun Γ=>zF3 Γ zs hl
  have c5:([⇑0,⇑1,⇑2,⇑3,⇑4]:List T)=([0,1,2,3,4]:List Int).map fun n=>T.a (.int n):=rfl
  have r5:=zDd 5
  have rr:=zCU 5 ∅
  rw[r5]at rr
  have rr':rngS [.v (⇑5)]=some (([0,1,2,3,4]:List Int).map fun n=>T.a (.int n)):=rr
  have e1:=fun Γ=>(zF4 Γ (sortI zs) [0,1,2,3,4]).1
  have e2:=fun Γ=>(zF4 Γ (sortI zs) [0,1,2,3,4]).2
  simp only[h,decide_false,E8]at e1 e2
  have g5:=sL 5
  have g5':(([0,1,2,3,4]:List Int).map fun n=>T.a (.int n)).length<=AB:=by decide
  generalize (sortI zs).map (fun n=>T.a (.int n))=SZ at *
  generalize zs.map (fun n=>T.a (.int n))=ZT at *
  refine⟨?_,?_⟩
  ·have et:F_29 [.v (⇑5),.v (.t ZT)]=some (.v (bT false),[]):=by
    generalize ([0,1,2,3,4]:List Int).map (fun n=>T.a (.int n))=R5 at *
    simp[F_29,fnD,d_29,es,rr',e1,gd,g5']
   simp only[bT]at *
   simp[F_33,fnD,d_33,et]
  ·rw[← c5]at e2
   simp only[bT]at *
   simp[F_17,fnD,d_17,es,e2,gd,g5]
theorem Th.ring(h:Th d x):F_34 [.v x]=some (.v (bT (ringT x)),[])/\F_18 [.v x]=some (.v (bT (ringT x)),[]):=by
 cases h with
 | int i =>
  have:ringT (iT i)=false:=by
   show (rings5.any fun r=>decide (natsT' []=some r))=false
   decide +kernel
  rw[this]
  exact⟨by simp[F_34,fnD,d_34,isiS,tyN,subTy],by simp[F_18,fnD,d_18,isiS,tyN,subTy]⟩
 | str w hw =>
  have:ringT (sT w)=false:=by
   show (rings5.any fun r=>decide (natsT' []=some r))=false
   decide +kernel
  rw[this]
  exact⟨by simp[F_34,fnD,d_34,isiS,tyN,subTy],by simp[F_18,fnD,d_18,isiS,tyN,subTy]⟩
 | @tup d xs hx hl =>
  obtain⟨o1,c1⟩:=zBR (fun x:T=>x) (fun x=>bT (intB x)) (de:=zE0) (R:=[]) xs (fun x hm=>by have:=(hx x hm).whole; simp only[bT]at this; simp[zE0,this]) none
  obtain⟨o2,c2⟩:=zBR (fun x:T=>x) (fun x=>bT (intB x)) (de:=zEw) (R:=[]) xs (fun x hm=>by have:=(hx x hm).isi_int; simp only[bT]at this; simp[zEw,this]) none
  have mm:xs.map (fun x=>bT (intB x))=(xs.map intB).map bT:=by rw[DR]; rfl
  have bo:=zKI (xs.map intB)
  rw[← mm]at bo
  have al:(xs.map intB).all id=xs.all intB:=by simp[List.all_map,DG]
  have gl:xs.length<=AB:=zAM ⋯
  have gm:(xs.map fun x=>bT (intB x)).length<=AB:=zAM (by simp; lia)
  rw[List.map_id']at c1 c2
  by_cases ha:xs.all intB=true
  ·obtain⟨zs,rfl⟩:=zDr ha
   obtain⟨e1,e2⟩:=zKd zs (by simpa using hl)
   rw[ha]at al
   generalize (zs.map fun n=>T.a (.int n))=ZT at *
   generalize ringT (.t ZT)=bb at *
   generalize (ZT.map fun x=>bT (intB x))=BL at *
   simp only[bT]at *
   exact⟨by simp[F_34,fnD,d_34,isiS,tyN,subTy,c1,bo,al,gd,gl,gm,e1],by simp[F_18,fnD,d_18,isiS,tyN,subTy,c2,bo,al,gd,gl,gm,e2]⟩
  ·have eb:ringT (.t xs)=false:=by
    refine Cm.mpr fun z=>?_
    unfold ringT at z
    obtain⟨r,hr,e⟩:=Cy.mp z
    exact ha (zGR xs r (of_decide_eq_true e))
   rw[eb]
   have ha':xs.all intB=false:=Cm.mpr ha
   rw[ha']at al
   generalize (xs.map fun x=>bT (intB x))=BL at *
   simp only[bT]at *
   exact⟨by simp[F_34,fnD,d_34,isiS,tyN,subTy,c1,bo,al,gd,gl,gm],by simp[F_18,fnD,d_18,isiS,tyN,subTy,c2,bo,al,gd,gl,gm]⟩
mutual
def tsz:T->Nat
 | .t xs=>1+tszs xs
 | _=>1
def tszs:List T->Nat
 | []=>0
 | x::r=>tsz x+tszs r
end
noncomputable def cutsT (i j k:T) (n:Nat):Bool:=match i,j,k with
 | .a (.int i),.a (.int j),.a (.int k)=>decide (0 < i) && (decide (i < j) && (decide (j < k) && decide (k < (n:Int))))
 | _,_,_=>false
noncomputable def natOf:T->Nat
 | .a (.int i)=>i.toNat
 | _=>0
def rgOf (x:T):List Nat:=(natsT' (unT x)).getD []
theorem zFP(h:ringT x=true):Rg (rgOf x)/\x=tuT (rgOf x):=by
 unfold ringT at h
 obtain⟨r,hr,e⟩:=Cy.mp h
 have e':=of_decide_eq_true e
 have er:rgOf x=r:=by unfold rgOf; rw[e']; rfl
 refine⟨⟨by rw[er]; exact hr⟩,?_⟩
 rw[er]
 cases x with
 | t xs=>exact congrArg T.t (natsT'_eq e')
 | a v =>
  have:(some []:Option (List Nat))=some r:=e'
  cases this
  exact absurd hr ∅
 | l v =>
  have:(some []:Option (List Nat))=some r:=e'
  cases this
  exact absurd hr ∅
 | f v =>
  have:(some []:Option (List Nat))=some r:=e'
  cases this
  exact absurd hr ∅
 | x v u =>
  have:(some []:Option (List Nat))=some r:=e'
  cases this
  exact absurd hr ∅
theorem zFI(h:cutsT i j k n=true):∃ a b c:Nat,i=iT (a:Int)/\j=iT (b:Int)/\k=iT (c:Int)/\0 < a/\a < b/\b < c/\c < n/\natOf i=a/\natOf j=b/\natOf k=c:=by
 unfold cutsT at h
 split at h
 ·rename_i i j k
  simp only[AW,decide_eq_true_eq]at h
  obtain⟨h1,h2,h3,h4⟩:=h
  refine⟨i.toNat,j.toNat,k.toNat,?_,?_,?_,by lia,by lia,by lia,by lia,rfl,rfl,rfl⟩
  ·show T.a (.int i)=T.a (.int _); rw[show ((i.toNat:Nat):Int)=i by lia]
  ·show T.a (.int j)=T.a (.int _); rw[show ((j.toNat:Nat):Int)=j by lia]
  ·show T.a (.int k)=T.a (.int _); rw[show ((k.toNat:Nat):Int)=k by lia]
 ·cases h
@[simp] theorem zBr(xs:List T):unT (.t xs)=xs:=rfl
@[simp] theorem zH2(v:V):unT (.a v)=[]:=rfl
def chkT:Nat->T->Sy->List Nat->List Stp->Bool
 | 0,_,_,_,_=>false
 | d+1,p,s,r,st=>match unT p with
  | [w]=>isW "step" w && stepOk s r st
  | [w,p]=>isW "not" w && (match s with
   | .nt s=>!st.isEmpty && chkT d p s (backL r) (lastF st (backL r))
   | _=>false)
  | [w,i,j,k,a,b,p1,p2,p3,p4]=>isW "and" w && (match s with
   | .an s t=>cutsT i j k st.length && (ringT a && (ringT b && (decide (tbL (rgOf a) (rgOf b)=r) &&
    (chkT d p1 s (rgOf a) (st.take (natOf i)) && (chkT d p2 t (rgOf b) ((st.take (natOf j)).drop (natOf i)) && (chkT d p3 s (backL (rgOf a)) ((st.take (natOf k)).drop (natOf j)) && chkT d p4 t (backL (rgOf b)) (st.drop (natOf k))))))))
   | _=>false)
  | _=>false
theorem zB5(n:Nat)(a b:List Nat)(ha:IsT n a)(hb:IsT n b)(hn:n<=5):F_24 [.v (tuT a),.v (tuT b)]=some (.v (tuT (thenL a b)),[]):=by
 have hl:=ha.len
 obtain⟨o',e⟩:=zBR (fun (k:Nat)=>iT (k:Int)) (fun (k:Nat)=>iT (b.getD k 0:Nat)) (de:=zE4) (R:=[~~~(tuT b)]) a (fun k hk=>by
  obtain⟨m,hm,_⟩:=hb.get (ha.lt k hk)
  have:=zGP hm
  simp only[tvT,iT]at this
  simp[zE4,this,hm]) none
 have g:a.length<=AB:=zAM (by omega)
 simp only[tuT,tvT,iT]at e
 simp[F_24,fnD,d_24,gd,g,e,thenL]
theorem zB7(n:Nat)(t:List Nat)(h:IsT n t)(hn:n<=5):F_23 [.v (tuT t)]=some (.v (tuT (backL t)),[]):=by
 have hl:=h.len
 obtain⟨o',e⟩:=zBR (fun (i:Nat)=>iT (i:Int)) (fun (i:Nat)=>iT (t.idxOf i:Nat)) (de:=zEn) (R:=[~~~(tuT t)]) (AV n) (fun i hi=>by
  have f1:=zG1 (h.mem (show i < n by simpa using hi))
  simp[zEn,zD2 t,zHU t,f1,flatV]) none
 have e2:=zDd n
 simp only[tuT,tvT,iT]at e e2
 simp[F_23,fnD,d_23,hl,zCU n ⋯,e2,e,backL]
theorem zJD(n:Nat)(hn:n<=5):F_37 [.v (iT (n:Int))]=some (.v (tuT (AV n)),[]):=by
 simp[F_37,fnD,d_37,zCU n ⋯,zDd]
theorem zBn:∀ a c:List Nat,Av (intsD a) (intsD c)=decide (a=c)
 | [],[]=>by simp[intsD,Av]
 | [],y::s=>by simp[intsD,Av]
 | x::r,[]=>by simp[intsD,Av]
 | x::r,y::s=>by
  have:=zBn r s
  simp only[intsD,Ab]at this ⊢
  rw[Av,this]
  have e:Aj (.int (x:Int)) (.int (y:Int))=decide (x=y):=by
   by_cases h:x=y
   ·subst h; simp[Aj]
   ·have h':¬ (x:Int)=(y:Int):=by lia
    simp[Aj,h,h']
  rw[e]
  by_cases h:x=y <;> by_cases h2:r=s <;> simp[h,h2]
theorem zFC(Γ:En)(t:List Nat):datS Γ (.v (tuT t))=some (.tuple (intsD t)):=by
 have:=zHX t
 simp only[tvT,iT]at this
 simp[datS,toD,this]
theorem zD3(Γ:En)(a c:List Nat):neS Γ (.v (tuT a)) (.v (tuT c))= ~~~(.a (.bl (!decide (a=c)))):=by
 have e1:cmpD (fun a b=>!PyData.eqv a b) Γ (.v (tuT a)) (.v (tuT c))= ~~~(.a (.bl (!decide (a=c)))):=by
  unfold cmpD
  rw[zFC,zFC]
  simp only[Ac,BF,zBO,Bc,zBZ,Aj,zBn]
  rfl
 show ((none:Option S).or (cmpD (fun a b=>!PyData.eqv a b) Γ (.v (tuT a)) (.v (tuT c))))=_
 rw[BZ,e1]
theorem zNQ(x y:Nat):Aj (.int (x:Int)) (.int (y:Int))=decide (x=y):=by
 by_cases h:x=y
 ·subst h; simp[Aj]
 ·have h':¬ (x:Int)=(y:Int):=by lia
  simp[Aj,h,h']
theorem zCg(t:List Nat):toD (tuT t)=some (.tuple (intsD t)):=zFC [] t
theorem zLw(Γ:En)(x y:Stp):eqS Γ (.v (stT x)) (.v (stT y))= ~~~(bT (decide (x=y))):=by
 have dt:∀ x:Stp,datS Γ (.v (stT x))=some (.tuple [.int (x.1:Int),.tuple (intsD x.2.1),.tuple (intsD x.2.2)]):=fun x=>by
  have h1:=zCg x.2.1
  have h2:=zCg x.2.2
  show toD (.t [iT (x.1:Int),tuT x.2.1,tuT x.2.2])=_
  generalize tuT x.2.1=A at *
  generalize tuT x.2.2=B at *
  simp[toD,toDs,toDa,h1,h2]
 have e1:cmpD Aj Γ (.v (stT x)) (.v (stT y))= ~~~(bT (decide (x=y))):=by
  unfold cmpD
  rw[dt,dt]
  obtain⟨x1,x2,x3⟩:=x
  obtain⟨y1,y2,y3⟩:=y
  simp only[Ac,BF,A4,zBO,Bc,BK,zBZ,Aj,Av,zBn,zNQ]
  by_cases h1:x1=y1 <;> by_cases h2:x2=y2 <;> by_cases h3:x3=y3 <;> simp[h1,h2,h3] <;> first | rfl | lia
 show ((none:Option S).or (cmpD Aj Γ (.v (stT x)) (.v (stT y))))=_
 rw[BZ,e1]
theorem zHN(Γ:En)(a b c d:List Nat):eqS Γ (.v (.t [tuT a,tuT b])) (.v (.t [tuT c,tuT d]))= ~~~(bT (decide ((a,b)=(c,d)))):=by
 have dt:∀ a b:List Nat,datS Γ (.v (.t [tuT a,tuT b]))=some (.tuple [.tuple (intsD a),.tuple (intsD b)]):=fun a b=>by
  have h1:=zCg a
  have h2:=zCg b
  show toD (.t [tuT a,tuT b])=_
  generalize tuT a=A at *
  generalize tuT b=B at *
  simp[toD,toDs,h1,h2]
 have e1:cmpD Aj Γ (.v (.t [tuT a,tuT b])) (.v (.t [tuT c,tuT d]))= ~~~(bT (decide ((a,b)=(c,d)))):=by
  unfold cmpD
  rw[dt,dt]
  simp only[Ac,BF,A4,zBO,Bc,BK,zBZ,Aj,Av,zBn]
  by_cases h2:a=c <;> by_cases h3:b=d <;> simp[h2,h3] <;> first | rfl | lia
 show ((none:Option S).or (cmpD Aj Γ (.v (.t [tuT a,tuT b])) (.v (.t [tuT c,tuT d]))))=_
 rw[BZ,e1]
theorem zI8(hs:s.kids=[])(r:List Nat)(x:Stp):F_38 [.v s.t,.v (tuT r),.v (spT [x])]=some (.v (bT (stepOk s r [x])),[]):=by
 have e':F_37 [.v (⇑5)]=some (.v (tuT (AV 5)),[]):=zJD 5 ∅
 have g2:=sL 2
 have g3:=sL 3
 cases s with
 | ask q =>
  have h:=fun Γ=>zLw Γ x (q,r,AV 5)
  have hx:stT (q,r,AV 5)=.t [iT (q:Int),tuT r,tuT (AV 5)]:=rfl
  rw[hx]at h
  simp only[spT,Ab,A7,stepOk,Sy.t,iT]at h ⊢
  generalize tuT (AV 5)=S5 at *
  generalize tuT r=R at *
  generalize stT x=X at *
  simp[F_38,fnD,d_38,gd,g3,e',h]
 | yes =>
  have h:=fun Γ=>zHN Γ x.2.1 x.2.2 r r
  have hx:stT x=.t [iT (x.1:Int),tuT x.2.1,tuT x.2.2]:=rfl
  have hc:stepOk .yes r [x]=decide ((x.2.1,x.2.2)=(r,r)):=rfl
  rw[hc]
  simp only[spT,Ab,A7,Sy.t,hx]
  generalize tuT r=R at *
  generalize tuT x.2.1=X1 at *
  generalize tuT x.2.2=X2 at *
  simp only[iT]
  simp[F_38,fnD,d_38,gd,g2,cut1]
  simp[h]
 | no =>
  have h:=fun Γ=>zHN Γ x.2.1 x.2.2 (AV 5) (AV 5)
  have hx:stT x=.t [iT (x.1:Int),tuT x.2.1,tuT x.2.2]:=rfl
  have hc:stepOk .no r [x]=decide ((x.2.1,x.2.2)=(AV 5,AV 5)):=rfl
  rw[hc]
  simp only[spT,Ab,A7,Sy.t,hx]
  generalize tuT (AV 5)=S5 at *
  generalize tuT r=R at *
  generalize tuT x.2.1=X1 at *
  generalize tuT x.2.2=X2 at *
  simp only[iT]
  simp[F_38,fnD,d_38,gd,g2,cut1,e']
  simp[h]
 | _=>cases hs
theorem zD1(xs:List T)(h:xs≠[]):cutT xs none (some (-1))=xs.dropLast:=by
 have hl:=CT.mpr h
 have:HT.sIx xs.length xs.length (some (-1))=xs.length - 1:=by
  show (if (-1:Int) < 0 then ((-1:Int)+(xs.length:Int)).toNat else min (-1:Int).toNat xs.length)=_
  rw[if_pos ∅]
  lia
 unfold cutT
 rw[this,HT.sIx_none]
 simp[Ew]
theorem zNn(st:List Stp)(t:List Nat)(h:StOk 5 q st)(hn:st≠[])(ht:IsT 5 t)(hl:st.length<=5000):F_25 [.v (spT st),.v (tuT t)]=some (.v (spT (lastF st t)),[]):=by
 unfold lastF
 cases e:st.getLast? with
 | none=>exact absurd (C2.mp e) hn
 | some s =>
  have hs:=h s (Dl e)
  have e1:=zB5 5 s.2.1 t hs.2.1 ht ∅
  have e2:=zB5 5 s.2.2 t hs.2.2 ht ∅
  have e3:atI (st.map stT) (-1)=some (stT s):=by
   rw[zKY (by simpa using hn),Ah,Bg,← Gj,e]
   rfl
  have e4:cutT (st.map stT) none (some (-1))=st.dropLast.map stT:=by rw[zD1 _ (by simpa using hn),ID]
  have g1:=sL 1
  have g3:=sL 3
  have gl:(st.dropLast.map stT).length+1<=AB:=zAM (by simp; lia)
  unfold spT
  rw[Cf,Ab,A7]
  simp only[stT]at e3 ⊢
  generalize st.dropLast.map (fun s=>T.t [iT (s.1:Int),tuT s.2.1,tuT s.2.2])=DL at *
  generalize st.map (fun s=>T.t [iT (s.1:Int),tuT s.2.1,tuT s.2.2])=SL at *
  generalize tuT t=TT at *
  generalize tuT (thenL s.2.1 t)=Y1 at *
  generalize tuT (thenL s.2.2 t)=Z1 at *
  generalize tuT s.2.1=Y0 at *
  generalize tuT s.2.2=Z0 at *
  simp only[iT]at e3 ⊢
  simp[F_25,fnD,d_25,gd,g1,g3,gl,e1,e2,e3,e4]
theorem zGr:F_22 [.v (.t [sT "step"]),.v (sT "step"),.v (iT 1)]=some (.v (bT true),[]):=by
 simp[F_22,fnD,d_22,isiS,tyN,subTy]
theorem zGk(P:T):F_22 [.v (.t [sT "not",P]),.v (sT "step"),.v (iT 1)]=some (.v (bT false),[]):=by
 simp[F_22,fnD,d_22,isiS,tyN,subTy]
theorem zF7(P:T):F_22 [.v (.t [sT "not",P]),.v (sT "not"),.v (iT 2)]=some (.v (bT true),[]):=by
 simp[F_22,fnD,d_22,isiS,tyN,subTy]
theorem zKb(a b c d e f g h i:T):F_22 [.v (.t [sT "and",a,b,c,d,e,f,g,h,i]),.v (sT "step"),.v (iT 1)]=some (.v (bT false),[]):=by
 simp[F_22,fnD,d_22,isiS,tyN,subTy]
theorem zK0(a b c d e f g h i:T):F_22 [.v (.t [sT "and",a,b,c,d,e,f,g,h,i]),.v (sT "not"),.v (iT 2)]=some (.v (bT false),[]):=by
 simp[F_22,fnD,d_22,isiS,tyN,subTy]
theorem zJa(a b c d e f g h i:T):F_22 [.v (.t [sT "and",a,b,c,d,e,f,g,h,i]),.v (sT "and"),.v (iT 10)]=some (.v (bT true),[]):=by
 simp[F_22,fnD,d_22,isiS,tyN,subTy]
theorem zG9(hs:s.kids=[])(r:List Nat)(x:Stp):F_39 [.v s.t,.v (tuT r),.v (spT [x]),.v PP.step.t]=some (if stepOk s r [x]=true then .l [] else .v (.a .non),[]):=by
 have e:=zI8 hs r x
 have f:=zGr
 have g0:=sL 0
 generalize spT [x]=X at *
 generalize s.t=S at *
 generalize tuT r=R at *
 simp only[PP.t,bT,iT,sT]at *
 cases h:stepOk s r [x] with
 | true=>rw[h]at e; simp[F_39,fnD,d_39,e,f,gd]
 | false=>rw[h]at e; simp[F_39,fnD,d_39,e,f]
theorem zFl(S P:T)(r:List Nat)(hr:Rg r)(st:List Stp)(h:StOk 5 q st)(hn:st≠[])(hl:st.length<=5000):F_26 [.v (.t [sT "not",S]),.v (tuT r),.v (spT st),.v (.t [sT "not",P])]=some (.l [.t [S,tuT (backL r),spT (lastF st (backL r)),P]],[]):=by
 have e1:=zB7 5 r hr.isT ∅
 have e2:=zNn st (backL r) h hn hr.back.isT hl
 have g1:=sL 1
 have g4:=sL 4
 unfold spT at *
 have hL:st.map stT≠[]:=by simpa using hn
 generalize st.map stT=L at *
 generalize (lastF st (backL r)).map stT=L' at *
 generalize tuT (backL r)=B at *
 generalize tuT r=R at *
 have hz:¬ (L.length:Int)=0:=by have:=CT.mpr hL; lia
 simp[F_26,fnD,d_26,e1,e2,hL,hz,gd,g1,g4]
theorem zLc(i:Int):F_27 [.v (iT i)]=some (.v (bT true),[]):=by
 simp[F_27,fnD,d_27,isiS,tyN,subTy]
theorem zNh(i j k m:Nat)(h1:0 < i)(h2:i < j)(h3:j < k)(h4:k < m):F_28 [.v (.t [iT (i:Int),iT (j:Int),iT (k:Int)]),.v (iT (m:Int))]=some (.v (bT true),[]):=by
 have w:=fun i:Int=>zLc i
 have a1:(0:Int) < (i:Int):=by lia
 have a2:(i:Int) < (j:Int):=by lia
 have a3:(j:Int) < (k:Int):=by lia
 have a4:(k:Int) < (m:Int):=by lia
 have g3:=sL 3
 generalize (i:Int)=I at *
 generalize (j:Int)=J at *
 generalize (k:Int)=KK at *
 generalize (m:Int)=MM at *
 simp only[iT,bT]at *
 simp[F_28,fnD,d_28,zDl,zAQ,zAO,gd,g3,w,dChainN,dLink,dLast,boolsOf,a1,a2,a3,a4]
theorem zMK(ha:Rg a)(hb:Rg b):F_35 [.v (tuT a),.v (tuT b)]=some (.v (tuT (tbL a b)),[]):=by
 have e1:=zB7 5 a ha.isT ∅
 have e2:=zB7 5 b hb.isT ∅
 have e3:=zB5 5 a b ha.isT hb.isT ∅
 have e4:=zB5 5 _ _ ha.back.isT hb.back.isT ∅
 have e5:=zB5 5 _ _ (zBh ha.isT hb.isT) (zBh ha.back.isT hb.back.isT) ∅
 unfold tbL
 generalize tuT (thenL (thenL a b) (thenL (backL a) (backL b)))=X1 at *
 generalize tuT (thenL a b)=X2 at *
 generalize tuT (thenL (backL a) (backL b))=X3 at *
 generalize tuT (backL a)=X4 at *
 generalize tuT (backL b)=X5 at *
 generalize tuT a=X6 at *
 generalize tuT b=X7 at *
 simp[F_35,fnD,d_35,e1,e2,e3,e4,e5]
theorem zOz(w i j k a b c d e f:T):atI [w,i,j,k,a,b,c,d,e,f] 1=some i:=by rfl
theorem zOZ(w i j k a b c d e f:T):atI [w,i,j,k,a,b,c,d,e,f] 2=some j:=by rfl
theorem zOl(w i j k a b c d e f:T):atI [w,i,j,k,a,b,c,d,e,f] 3=some k:=by rfl
theorem zCh(w i j k a b c d e f:T):atI [w,i,j,k,a,b,c,d,e,f] 4=some a:=by rfl
theorem zCk(w i j k a b c d e f:T):atI [w,i,j,k,a,b,c,d,e,f] 5=some b:=by rfl
theorem zOG(w i j k a b c d e f:T):atI [w,i,j,k,a,b,c,d,e,f] 6=some c:=by rfl
theorem zOk(w i j k a b c d e f:T):atI [w,i,j,k,a,b,c,d,e,f] 7=some d:=by rfl
theorem zOd(w i j k a b c d e f:T):atI [w,i,j,k,a,b,c,d,e,f] 8=some e:=by rfl
theorem zO7(w i j k a b c d e f:T):atI [w,i,j,k,a,b,c,d,e,f] 9=some f:=by rfl
theorem cut14(w i j k a b c d e f:T):cutT [w,i,j,k,a,b,c,d,e,f] (some 1) (some 4)=[i,j,k]:=by
 have:=zBy [w,i,j,k,a,b,c,d,e,f] 1 4
 exact this
theorem zGM(Γ:En)(x:List Nat):neS Γ (.v (tuT x)) (.v (tuT x))= ~~~(.a (.bl false)):=by rw[zD3]; simp
def hdW (w:Str):List T->Bool
 | x::_=>isW w x
 | []=>false
theorem zD0(xs:List T)(hx:∀ x∈xs,Th d x)(hw:w∈wds)(m:Nat)(hm:0 < m):F_22 [.v (.t xs),.v (sT w),.v (iT (m:Int))]=some (.v (bT (decide (xs.length=m) && hdW w xs)),[]):=by
 by_cases hl:xs.length=m
 ·cases xs with
  | nil=>simp at hl; lia
  | cons x r =>
   have e:=fun Γ=>(hx x AZ).eq_word hw Γ
   have hi:((r.length+1:Nat):Int)=(m:Int):=by rw[← hl]; rfl
   have hi':(r.length:Int)+1=(m:Int):=by lia
   have hl':r.length+1=m:=by simpa using hl
   simp only[hdW]
   generalize isW w x=b at *
   simp only[sT,bT,iT]at *
   have hz:atI (x::r) 0=some x:=by rw[zIF]; rfl
   simp[F_22,fnD,d_22,isiS,tyN,subTy,hi',hl',e,hz,-zIF]
 ·have hi:¬ (xs.length:Int)=(m:Int):=by lia
  simp only[sT,bT,iT]at *
  simp[F_22,fnD,d_22,isiS,tyN,subTy,hi,hl]
theorem zBt(h:Th d x)(hn:∀ xs,x≠.t xs)(w:Str)(m:Int):F_22 [.v x,.v (sT w),.v (iT m)]=some (.v (bT false),[]):=by
 cases h with
 | int i=>simp[F_22,fnD,d_22,isiS,tyN,subTy]
 | str w hw=>simp[F_22,fnD,d_22,isiS,tyN,subTy]
 | tup xs hx hl=>exact absurd rfl (hn xs)
theorem zLb(hi:Th d i)(hj:Th d j)(hk:Th d k)(n:Nat):F_28 [.v (.t [i,j,k]),.v (iT (n:Int))]=some (.v (bT (cutsT i j k n)),[]):=by
 have w1:=hi.whole
 have w2:=hj.whole
 have w3:=hk.whole
 have g3:=sL 3
 by_cases h:intB i=true/\intB j=true/\intB k=true
 ·obtain⟨h1,h2,h3⟩:=h
  match i,h1,j,h2,k,h3 with
  | .a (.int i),_,.a (.int j),_,.a (.int k),_ =>
   simp only[intB,bT]at w1 w2 w3
   simp only[cutsT,iT,bT]
   generalize (n:Int)=N
   have ch:∀ Γ:En,Γ=[~~~(.t [⇑i,⇑j,⇑k]),~~~(⇑N)]->dChainN (dC (.int 0)) (dLink ltS (dOp ixS (jV 0) (dC (.int 0))) (dLink ltS (dOp ixS (jV 0) (dC (.int 1))) (dLink ltS (dOp ixS (jV 0) (dC (.int 2))) (dLast ltS (jV 1))))) Γ=some (.v (.a (.bl (decide (0 < i) && (decide (i < j) && (decide (j < k) && decide (k < N)))))),Γ):=fun Γ hΓ=>by
    subst hΓ
    by_cases a1:0 < i
    ·by_cases a2:i < j
     ·by_cases a3:j < k
      ·simp[dChainN,dLink,dLast,a1,a2,a3]
      ·simp[dChainN,dLink,dLast,a1,a2,a3]
     ·simp[dChainN,dLink,dLast,a1,a2]
    ·simp[dChainN,dLink,dLast,a1]
   have ch':=ch _ rfl
   simp[F_28,fnD,d_28,zDl,zAQ,zAO,gd,g3,w1,w2,w3,boolsOf,ch']
 ·have hc:cutsT i j k n=false:=by
   unfold cutsT
   split
   ·exact absurd ⟨rfl,rfl,rfl⟩ h
   ·rfl
  have hb:(intB i && (intB j && intB k))=false:=by
   refine Cm.mpr fun z=>h ?_
   simpa [AW] using z
  rw[hc]
  generalize intB i=b1 at *
  generalize intB j=b2 at *
  generalize intB k=b3 at *
  simp only[iT,bT]at *
  generalize (n:Int)=N
  cases b1 <;> cases b2 <;> cases b3 <;> first | (simp at hb; done) | simp[F_28,fnD,d_28,zDl,zAQ,zAO,gd,g3,w1,w2,w3,boolsOf]
structure Cl where
 d:Nat
 s:Sy
 r:List Nat
 st:List Stp
 p:T
def Cl.t (c:Cl):T:=.t [c.s.t,tuT c.r,spT c.st,c.p]
def Cl.ok (c:Cl):Bool:=chkT c.d c.p c.s c.r c.st
structure Cl.Good(q:Nat)(c:Cl):Prop where
 th:Th c.d c.p
 pl:c.s.plain
 rg:Rg c.r
 sk:StOk 5 q c.st
 le:c.st.length<=5000
def szs:List Cl->Nat
 | []=>0
 | c::r=>tsz c.p+szs r
theorem zDj:∀ (a b:List Cl),szs (a++b)=szs a+szs b
 | [],b=>by simp[szs]
 | c::r,b=>by simp only[B9,szs,zDj r b]; lia
theorem zHg(x:T):1<=tsz x:=by cases x <;> simp[tsz]
theorem zEi:∀ cs:List Cl,cs.length<=szs cs
 | []=>AF _
 | c::r=>by have:=zEi r; have:=zHg c.p; simp only[B8,szs]; lia
theorem zDF(h:isW w x=true):x=sT w:=by
 unfold isW at h
 split at h
 ·rw[of_decide_eq_true h]
 ·cases h
theorem zBN{S R X P:T}(f1:F_22 [.v P,.v (sT "step"),.v (iT 1)]=some (.v (bT false),[]))(f2:F_22 [.v P,.v (sT "not"),.v (iT 2)]=some (.v (bT false),[]))(f3:F_22 [.v P,.v (sT "and"),.v (iT 10)]=some (.v (bT false),[])) :
  F_39 [.v S,.v R,.v X,.v P]=some (.v (.a .non),[]):=by
 simp only[sT,iT,bT]at *
 simp[F_39,fnD,d_39,f1,f2,f3]
theorem zHd(hs:s.kids≠[])(hp:s.plain)(r:List Nat)(x:Stp):stepOk s r [x]=false/\F_39 [.v s.t,.v (tuT r),.v (spT [x]),.v PP.step.t]=some (.v (.a .non),[]):=by
 have f:=zGr
 simp only[PP.t,bT,iT,sT]at *
 simp only[spT,Ab,A7]
 generalize tuT r=R
 generalize stT x=X
 cases s with
 | nt a =>
  refine⟨rfl,?_⟩
  simp only[Sy.t]
  generalize a.t=A
  simp[F_39,fnD,d_39,f,F_38,d_38]
 | an a b =>
  refine⟨rfl,?_⟩
  simp only[Sy.t]
  generalize a.t=A
  generalize b.t=B
  simp[F_39,fnD,d_39,f,F_38,d_38]
 | yes=>exact absurd rfl hs
 | no=>exact absurd rfl hs
 | ask q=>exact absurd rfl hs
 | _=>exact hp.elim
theorem zHW(h1:xs.length≠1)(h2:xs.length≠2)(h10:xs.length≠10)(s:Sy)(r:List Nat)(st:List Stp):chkT (d+1) (.t xs) s r st=false:=by
 simp only[chkT,zBr]
 split <;> first | rfl | exact absurd rfl h1 | exact absurd rfl h2 | exact absurd rfl h10
theorem zE6(S R:T)(h:st.length≠1):F_39 [.v S,.v R,.v (spT st),.v (.t [sT "step"])]=some (.v (.a .non),[]):=by
 have f:=zGr
 have hm:(st.map stT).length=st.length:=by simp
 rw[← hm]at h
 have hi:¬ ((st.map stT).length:Int)=1:=by lia
 simp only[spT,bT,iT,sT]at *
 generalize st.map stT=L at *
 simp[F_39,fnD,d_39,f,F_38,d_38,hi,h]
theorem zHI(S P:T)(r:List Nat)(hr:Rg r)(st:List Stp)(h:StOk 5 q st)(hn:st≠[])(hl:st.length<=5000):F_39 [.v (.t [sT "not",S]),.v (tuT r),.v (spT st),.v (.t [sT "not",P])]=some (.l [.t [S,tuT (backL r),spT (lastF st (backL r)),P]],[]):=by
 have e:=zFl S P r hr st h hn hl
 have f1:=zGk P
 have f2:=zF7 P
 generalize spT (lastF st (backL r))=L' at *
 generalize spT st=L at *
 generalize tuT (backL r)=B at *
 generalize tuT r=R at *
 simp only[bT,iT,sT]at *
 simp[F_39,fnD,d_39,e,f1,f2]
theorem zFr{s:Sy}(hp:s.plain):∃ (v:Str) (tl:List T),s.t=.t (sT v::tl)/\((∀ a,s≠.nt a)->¬ v="not")/\((∀ a b,s≠.an a b)->¬ v="and"):=by
 cases s with
 | yes=>exact⟨"yes",[],rfl,by simp,by simp⟩
 | no=>exact⟨"no",[],rfl,by simp,by simp⟩
 | ask q=>exact⟨"ask",_,rfl,by simp,by simp⟩
 | nt a=>exact⟨"not",_,rfl,fun h=>absurd rfl (h a),by simp⟩
 | an a b=>exact⟨"and",_,rfl,by simp,fun h=>absurd rfl (h a b)⟩
 | _=>exact hp.elim
theorem zMg{s:Sy}(hs:∀ a,s≠.nt a)(hp:s.plain)(P R X:T):F_39 [.v s.t,.v R,.v X,.v (.t [sT "not",P])]=some (.v (.a .non),[]):=by
 have f1:=zGk P
 have f2:=zF7 P
 obtain⟨v,tl,e,h1,_⟩:=zFr hp
 have hv:=h1 hs
 rw[e]
 simp only[bT,iT,sT]at *
 simp[F_39,fnD,d_39,f1,f2,F_26,d_26,hv]
theorem zLX(S P R:T):F_39 [.v (.t [sT "not",S]),.v R,.v (spT []),.v (.t [sT "not",P])]=some (.v (.a .non),[]):=by
 have f1:=zGk P
 have f2:=zF7 P
 simp only[bT,iT,sT,spT,A7]at *
 simp[F_39,fnD,d_39,f1,f2,F_26,d_26]
theorem zNX{s:Sy}(hs:∀ a b,s≠.an a b)(hp:s.plain)(R L I J KK X Y Q1 Q2 Q3 Q4:T):F_39 [.v s.t,.v R,.v L,.v (.t [sT "and",I,J,KK,X,Y,Q1,Q2,Q3,Q4])]=some (.v (.a .non),[]):=by
 have f1:=zKb I J KK X Y Q1 Q2 Q3 Q4
 have f2:=zK0 I J KK X Y Q1 Q2 Q3 Q4
 have f3:=zJa I J KK X Y Q1 Q2 Q3 Q4
 obtain⟨v,tl,e,_,h1⟩:=zFr hp
 have hv:=h1 hs
 rw[e]
 simp only[bT,iT,sT]at *
 simp[F_39,fnD,d_39,f1,f2,f3,F_36,d_36,zCh,zCk,hv]
theorem zL3(S SS Q1 Q2 Q3 Q4:T)(ha:Rg a)(hb:Rg b)(st:List Stp)(i j k:Nat)(h1:0 < i)(h2:i < j)(h3:j < k)(h4:k < st.length)(hl:st.length<=5000) :
  F_36 [.v (.t [sT "and",S,SS]),.v (tuT (tbL a b)),.v (spT st),.v (.t [sT "and",iT (i:Int),iT (j:Int),iT (k:Int),tuT a,tuT b,Q1,Q2,Q3,Q4])] =
   some (.l [.t [S,tuT a,spT (st.take i),Q1],.t [SS,tuT b,spT ((st.take j).drop i),Q2],.t [S,tuT (backL a),spT ((st.take k).drop j),Q3],.t [SS,tuT (backL b),spT (st.drop k),Q4]],[]):=by
 have c1:cutT (st.map stT) none (some (i:Int))=(st.take i).map stT:=by rw[zBc,Dg]
 have c2:cutT (st.map stT) (some (i:Int)) (some (j:Int))=((st.take j).drop i).map stT:=by rw[zBy,E9,Dg,Dh]
 have c3:cutT (st.map stT) (some (j:Int)) (some (k:Int))=((st.take k).drop j).map stT:=by rw[zBy,E9,Dg,Dh]
 have c4:cutT (st.map stT) (some (k:Int)) none=(st.drop k).map stT:=by rw[zBb,Dh]
 have l1:((st.take i).map stT).length<=AB:=zAM (by simp; lia)
 have l2:(((st.take j).drop i).map stT).length<=AB:=zAM (by simp; lia)
 have l3:(((st.take k).drop j).map stT).length<=AB:=zAM (by simp; lia)
 have l4:((st.drop k).map stT).length<=AB:=zAM (by simp; lia)
 have ec:=zNh i j k st.length h1 h2 h3 h4
 have hm:(st.map stT).length=st.length:=by simp
 rw[← hm]at ec
 have eb1:=zB7 5 a ha.isT ∅
 have eb2:=zB7 5 b hb.isT ∅
 have er1:=ha.facts.2.2
 have er2:=hb.facts.2.2
 have et:=zMK ha hb
 have ne:=fun Γ=>zGM Γ (tbL a b)
 have g2:=sL 2
 have g3:=sL 3
 have g4:=sL 4
 clear hm hl h1 h2 h3 h4 ha hb
 simp only[spT]at *
 generalize (st.take i).map stT=L1 at *
 generalize ((st.take j).drop i).map stT=L2 at *
 generalize ((st.take k).drop j).map stT=L3 at *
 generalize (st.drop k).map stT=L4 at *
 generalize st.map stT=L at *
 generalize tuT (tbL a b)=TB at *
 generalize tuT (backL a)=BA at *
 generalize tuT (backL b)=BB at *
 generalize tuT a=A at *
 generalize tuT b=B at *
 generalize (i:Int)=I at *
 generalize (j:Int)=J at *
 generalize (k:Int)=KK at *
 simp only[iT,bT,sT]at *
 simp[F_36,fnD,d_36,cut14,zOz,zOZ,zOl,zCh,zCk,zOG,zOk,zOd,zO7,ec,er1,er2,et,ne,eb1,eb2,c1,c2,c3,c4,l1,l2,l3,l4,gd,g2,g3,g4]
theorem zBJ(h:ringT a=true):∃ A,Rg A/\a=tuT A/\rgOf a=A:=⟨rgOf a,(zFP h).1,(zFP h).2,rfl⟩
abbrev tbOk (a b:T) (r:List Nat):Bool:=ringT a && (ringT b && decide (tbL (rgOf a) (rgOf b)=r))
theorem zKJ(S SS Q1 Q2 Q3 Q4:T)(hi:Th d i)(hj:Th d j)(hk:Th d k)(ha:Th d a)(hb:Th d b)(r:List Nat)(st:List Stp)(hc:(cutsT i j k st.length && tbOk a b r)=false) :
  F_36 [.v (.t [sT "and",S,SS]),.v (tuT r),.v (spT st),.v (.t [sT "and",i,j,k,a,b,Q1,Q2,Q3,Q4])]=some (.v (.a .non),[]):=by
 have ec:=zLb hi hj hk st.length
 have hm:(st.map stT).length=st.length:=by simp
 have er1:=ha.ring.1
 have er2:=hb.ring.1
 have g3:=sL 3
 cases h0:cutsT i j k st.length with
 | false =>
  rw[h0,← hm]at ec
  unfold spT
  clear hc h0 hm
  generalize st.map stT=L at *
  generalize tuT r=R
  simp only[iT,bT,sT]at *
  simp[F_36,fnD,d_36,cut14,zCh,zCk,ec,gd,g3]
 | true =>
  rw[h0,← hm]at ec
  rw[h0,Bu]at hc
  cases h1:ringT a with
  | false =>
   rw[h1]at er1
   unfold spT
   clear hc h0 hm er2
   generalize st.map stT=L at *
   generalize tuT r=R
   simp only[iT,bT,sT]at *
   simp[F_36,fnD,d_36,cut14,zCh,zCk,ec,gd,g3,er1]
  | true =>
   rw[h1]at er1
   cases h2:ringT b with
   | false =>
    rw[h2]at er2
    unfold spT
    clear hc h0 hm
    generalize st.map stT=L at *
    generalize tuT r=R
    simp only[iT,bT,sT]at *
    simp[F_36,fnD,d_36,cut14,zCh,zCk,ec,gd,g3,er1,er2]
   | true =>
    rw[h2]at er2
    obtain⟨A,ra,rfl,eA⟩:=zBJ h1
    obtain⟨B,rb,rfl,eB⟩:=zBJ h2
    have et:=zMK ra rb
    have ne:=fun Γ=>zD3 Γ (tbL A B) r
    have h3:decide (tbL A B=r)=false:=by
     unfold tbOk at hc
     rw[h1,h2,eA,eB]at hc
     simpa using hc
    rw[h3]at ne
    unfold spT
    clear hc h0 hm h3 h1 h2 eA eB ha hb
    generalize st.map stT=L at *
    generalize tuT r=R at *
    generalize tuT (tbL A B)=TB at *
    generalize tuT A=A at *
    generalize tuT B=B at *
    simp only[iT,bT,sT,E8]at *
    simp[F_36,fnD,d_36,cut14,zCh,zCk,ec,gd,g3,er1,er2,et,ne]
theorem zDx{S R X I J KK A B Q1 Q2 Q3 Q4:T}{x:Option (G×List T)}(h:F_36 [.v S,.v R,.v X,.v (.t [sT "and",I,J,KK,A,B,Q1,Q2,Q3,Q4])]=x)(hx:x=some (.v (.a .non),[])\/∃ l,x=some (.l l,[])):F_39 [.v S,.v R,.v X,.v (.t [sT "and",I,J,KK,A,B,Q1,Q2,Q3,Q4])]=x:=by
 have f1:=zKb I J KK A B Q1 Q2 Q3 Q4
 have f2:=zK0 I J KK A B Q1 Q2 Q3 Q4
 have f3:=zJa I J KK A B Q1 Q2 Q3 Q4
 simp only[bT,iT,sT]at *
 rcases hx with rfl | ⟨l,rfl⟩ <;> simp[F_39,fnD,d_39,f1,f2,f3,h]
theorem zLv(c:Cl)(h:c.Good q):(∃ ks:List Cl,F_39 [.v c.s.t,.v (tuT c.r),.v (spT c.st),.v c.p]=some (.l (ks.map Cl.t),[])/\(∀ k∈ks,k.Good q)/\szs ks < tsz c.p/\ks.all Cl.ok=c.ok) \/
  (F_39 [.v c.s.t,.v (tuT c.r),.v (spT c.st),.v c.p]=some (.v (.a .non),[])/\c.ok=false):=by
 obtain⟨d,s,r,st,p⟩:=c
 obtain⟨th,pl,rg,sk,le⟩:=h
 dsimp only at *
 have hw1:("step":Str)∈wds:=by simp[wds]
 have hw2:("not":Str)∈wds:=by simp[wds]
 have hw3:("and":Str)∈wds:=by simp[wds]
 cases th with
 | int i =>
  refine .inr ⟨zBN (zBt (.int (d:=d) i) (by simp) _ _) (zBt (.int (d:=d) i) (by simp) _ _) (zBt (.int (d:=d) i) (by simp) _ _),?_⟩
  unfold Cl.ok
  cases d <;> simp[chkT]
 | str w hw =>
  refine .inr ⟨zBN (zBt (.str (d:=d) w hw) (by simp) _ _) (zBt (.str (d:=d) w hw) (by simp) _ _) (zBt (.str (d:=d) w hw) (by simp) _ _),?_⟩
  unfold Cl.ok
  cases d <;> simp[chkT]
 | @tup d xs hx hl =>
  have f1:(decide (xs.length=1) && hdW "step" xs)=false->F_22 [.v (.t xs),.v (sT "step"),.v (iT 1)]=some (.v (bT false),[]):=fun e=>by rw[← e]; exact zD0 xs hx hw1 1 (by omega)
  have f2:(decide (xs.length=2) && hdW "not" xs)=false->F_22 [.v (.t xs),.v (sT "not"),.v (iT 2)]=some (.v (bT false),[]):=fun e=>by rw[← e]; exact zD0 xs hx hw2 2 (by omega)
  have f3:(decide (xs.length=10) && hdW "and" xs)=false->F_22 [.v (.t xs),.v (sT "and"),.v (iT 10)]=some (.v (bT false),[]):=fun e=>by rw[← e]; exact zD0 xs hx hw3 10 (by omega)
  by_cases n1:xs.length=1
  ·match xs,n1 with
   | [w],_ =>
    cases hW:isW "step" w with
    | false =>
     refine .inr ⟨zBN (f1 (by simp[hdW,hW])) (f2 (by simp)) (f3 (by simp)),?_⟩
     simp[Cl.ok,chkT,hW]
    | true =>
     have ho:Cl.ok ⟨d+1,s,r,st,.t [w]⟩=stepOk s r st:=by simp[Cl.ok,chkT,hW]
     rw[ho,zDF hW]
     by_cases h1:st.length=1
     ·match st,h1 with
      | [x],_ =>
       by_cases hs:s.kids=[]
       ·have e:=zG9 hs r x
        cases hc:stepOk s r [x] with
        | true=>rw[hc,if_pos rfl]at e; exact .inl ⟨[],e,by simp,by simp only[szs,tsz]; omega,rfl⟩
        | false=>rw[hc,if_neg AO]at e; exact .inr ⟨e,rfl⟩
       ·exact .inr ⟨(zHd hs pl r x).2,(zHd hs pl r x).1⟩
     ·refine .inr ⟨zE6 _ _ h1,?_⟩
      unfold stepOk
      split <;> first | rfl | (simp at h1)
  ·by_cases n2:xs.length=2
   ·match xs,n2 with
    | [w,p],_ =>
     cases hW:isW "not" w with
     | false =>
      refine .inr ⟨zBN (f1 (by simp)) (f2 (by simp[hdW,hW])) (f3 (by simp)),?_⟩
      unfold Cl.ok
      dsimp only
      cases s <;> simp[chkT,hW]
     | true =>
      by_cases hs:∃ a,s=.nt a
      ·obtain⟨a,rfl⟩:=hs
       by_cases hne:st=[]
       ·subst hne
        rw[zDF hW]
        exact .inr ⟨zLX _ _ _,by simp[Cl.ok,chkT]⟩
       ·have ho:Cl.ok ⟨d+1,.nt a,r,st,.t [w,p]⟩=chkT d p a (backL r) (lastF st (backL r)):=by simp[Cl.ok,chkT,hW,hne]
        rw[ho,zDF hW]
        refine .inl ⟨[⟨d,a,backL r,lastF st (backL r),p⟩],zHI a.t p r rg st sk hne le,fun k hk=>?_,?_,?_⟩
        ·rw[AE.mp hk]
         exact⟨hx p (by simp),pl,rg.back,zD6 sk rg.back.isT,by rw[zB3]; exact le⟩
        ·simp only[szs,tsz,tszs]; omega
        ·simp[Cl.ok]
      ·have e:=zMg (fun a e=>hs ⟨a,e⟩) pl p (tuT r) (spT st)
       rw[zDF hW]
       refine .inr ⟨e,?_⟩
       unfold Cl.ok
       dsimp only
       cases s <;> first | exact absurd ⟨_,rfl⟩ hs | simp[chkT]
   ·by_cases n10:xs.length=10
    ·match xs,n10 with
     | [w,i,j,k,a,b,p1,p2,p3,p4],_ =>
      cases hW:isW "and" w with
      | false =>
       refine .inr ⟨zBN (f1 (by simp)) (f2 (by simp)) (f3 (by simp[hdW,hW])),?_⟩
       unfold Cl.ok
       dsimp only
       cases s <;> simp[chkT,hW]
      | true =>
       rw[zDF hW]
       by_cases hs:∃ x y,s=.an x y
       ·obtain⟨s,t,rfl⟩:=hs
        have ti:=hx i (by simp)
        have tj:=hx j (by simp)
        have tk:=hx k (by simp)
        have ta:=hx a (by simp)
        have tb:=hx b (by simp)
        cases hc:(cutsT i j k st.length && tbOk a b r) with
        | false =>
         refine .inr ⟨zDx (zKJ s.t t.t p1 p2 p3 p4 ti tj tk ta tb r st hc) (.inl rfl),?_⟩
         have e:Cl.ok ⟨d+1,.an s t,r,st,.t [sT "and",i,j,k,a,b,p1,p2,p3,p4]⟩=((cutsT i j k st.length && tbOk a b r) && (chkT d p1 s (rgOf a) (st.take (natOf i)) && (chkT d p2 t (rgOf b) ((st.take (natOf j)).drop (natOf i)) && (chkT d p3 s (backL (rgOf a)) ((st.take (natOf k)).drop (natOf j)) && chkT d p4 t (backL (rgOf b)) (st.drop (natOf k)))))):=by
          simp only[Cl.ok,chkT,zBr,isW,decide_true,Bu,tbOk,Ia]
         rw[e,hc,IR]
        | true =>
         have hc':=hc
         simp only[tbOk,AW,decide_eq_true_eq]at hc
         obtain⟨c0,c1,c2,c3⟩:=hc
         have e:Cl.ok ⟨d+1,.an s t,r,st,.t [sT "and",i,j,k,a,b,p1,p2,p3,p4]⟩=(chkT d p1 s (rgOf a) (st.take (natOf i)) && (chkT d p2 t (rgOf b) ((st.take (natOf j)).drop (natOf i)) && (chkT d p3 s (backL (rgOf a)) ((st.take (natOf k)).drop (natOf j)) && chkT d p4 t (backL (rgOf b)) (st.drop (natOf k))))):=by
          simp only[Cl.ok,chkT,zBr,isW,decide_true,Bu,c0,c1,c2,c3]
         rw[e]
         obtain⟨x,y,z,rfl,rfl,rfl,q1,q2,q3,q4,m1,m2,m3⟩:=zFI c0
         obtain⟨A,ra,rfl,eA⟩:=zBJ c1
         obtain⟨B,rb,rfl,eB⟩:=zBJ c2
         rw[eA,eB]at c3
         rw[m1,m2,m3,eA,eB]
         subst c3
         refine .inl ⟨[⟨d,s,A,st.take x,p1⟩,⟨d,t,B,(st.take y).drop x,p2⟩,⟨d,s,backL A,(st.take z).drop y,p3⟩,⟨d,t,backL B,st.drop z,p4⟩],zDx (zL3 s.t t.t p1 p2 p3 p4 ra rb st x y z q1 q2 q3 q4 le) (.inr ⟨_,rfl⟩),fun k hk=>?_,?_,?_⟩
         ·simp only[AH,AS,or_false]at hk
          rcases hk with rfl | rfl | rfl | rfl
          ·exact⟨hx p1 (by simp),pl.1,ra,sokT sk _,by dsimp only; rw[Bt]; omega⟩
          ·exact⟨hx p2 (by simp),pl.2,rb,sokD (sokT sk _) _,by dsimp only; rw[B6,Bt]; omega⟩
          ·exact⟨hx p3 (by simp),pl.1,ra.back,sokD (sokT sk _) _,by dsimp only; rw[B6,Bt]; omega⟩
          ·exact⟨hx p4 (by simp),pl.2,rb.back,sokD sk _,by dsimp only; rw[B6]; omega⟩
         ·simp only[szs,tsz,tszs]; omega
         ·simp[Cl.ok]
       ·have e:=zNX (fun x y e=>hs ⟨x,y,e⟩) pl (tuT r) (spT st) i j k a b p1 p2 p3 p4
        refine .inr ⟨e,?_⟩
        unfold Cl.ok
        dsimp only
        cases s <;> first | exact absurd ⟨_,_,rfl⟩ hs | simp[chkT]
    ·refine .inr ⟨zBN (f1 (by simp[n1])) (f2 (by simp[n2])) (f3 (by simp[n10])),?_⟩
     unfold Cl.ok
     exact zHW n1 n2 n10 _ _ _
theorem zJZ(x0 x1 x2 x3:Option G):∀ (fuel:Nat) (cs:List Cl),szs cs < fuel->szs cs<=90000->(∀ c∈cs,c.Good q)->∀ (o5 o6:Option G),
  (cs.all Cl.ok=true->∃ o5' o6',dWhile zCI zBu fuel [x0,x1,x2,x3,some (.l (cs.map Cl.t)),o5,o6]=↥([x0,x1,x2,x3,~~~[],o5',o6'])) /\
  (cs.all Cl.ok=false->∃ Γ',dWhile zCI zBu fuel [x0,x1,x2,x3,some (.l (cs.map Cl.t)),o5,o6]=some (.rt (.v (.a (.bl false))) Γ')):=by
 intro fuel
 induction fuel with
 | zero=>intro cs h; lia
 | succ f ih =>
  intro cs hf hb hg o5 o6
  rcases HI cs with rfl | ⟨cs',c,rfl⟩
  ·refine⟨fun _=>⟨o5,o6,?_⟩,fun h=>by simp at h⟩
   rw[zA2]
   simp[zCI]
  ·rw[Ey]at *
   have hc:=hg c (by simp)
   have hg':∀ c∈cs',c.Good q:=fun k hk=>hg k (by simp[hk])
   rw[zDj]at hf hb
   simp only[szs]at hf hb
   have hl:=zEi cs'
   have e0:(cs'++[c]).map Cl.t=cs'.map Cl.t++[c.t]:=by simp
   have tr:∀ L:List T,zCI [x0,x1,x2,x3,some (.l (L++[c.t])),o5,o6]=some (true,[x0,x1,x2,x3,some (.l (L++[c.t])),o5,o6]):=fun L=>by simp[zCI]
   have hq:(cs'.map Cl.t).length+1<=AB:=zAM (by simp; lia)
   rw[e0,zA2,tr,Ac,if_pos rfl]
   have ha:(cs'++[c]).all Cl.ok=(cs'.all Cl.ok && c.ok):=by simp
   rw[ha]
   rcases zLv c hc with ⟨ks,e,hk,hs,hok⟩ | ⟨e,hok⟩
   ·have hkl:=zEi ks
    have body:zBu [x0,x1,x2,x3,some (.l (cs'.map Cl.t++[c.t])),o5,o6]=↥([x0,x1,x2,x3,some (.l ((cs'++ks).map Cl.t)),~~~c.t,some (.l (ks.map Cl.t))]):=by
     have ex:(cs'.map Cl.t).length+(ks.map Cl.t).length<=AB:=zAM (by simp; lia)
     rw[Cf]
     unfold Cl.t at *
     generalize (cs'.map fun c=>T.t [c.s.t,tuT c.r,spT c.st,c.p])=L at *
     generalize (ks.map fun c=>T.t [c.s.t,tuT c.r,spT c.st,c.p])=K at *
     generalize spT c.st=X at *
     generalize c.s.t=S at *
     generalize tuT c.r=R at *
     generalize c.p=P at *
     have hq':L.length<=AB:=by lia
     simp[zBu,e,hExtend,lsOf,isNoneS,rfS,sqlOf,mkB,gd,ex,hq,hq']
    rw[body,Ac]
    dsimp only
    have:=ih (cs'++ks) (by rw[zDj]; lia) (by rw[zDj]; lia) (fun k hk'=>(Bp.mp hk').elim (hg' k) (hk k)) (~~~c.t) (some (.l (ks.map Cl.t)))
    rw[List.all_append,hok]at this
    exact this
   ·refine⟨fun h=>by rw[hok]at h; simp at h,fun _=>?_⟩
    have body:∃ Γ',zBu [x0,x1,x2,x3,some (.l (cs'.map Cl.t++[c.t])),o5,o6]=some (.rt (.v (.a (.bl false))) Γ'):=by
     refine⟨[x0,x1,x2,x3,some (.l (cs'.map Cl.t)),~~~c.t,~~~(.a .non)],?_⟩
     unfold Cl.t at *
     generalize (cs'.map fun c=>T.t [c.s.t,tuT c.r,spT c.st,c.p])=L at *
     generalize spT c.st=X at *
     generalize c.s.t=S at *
     generalize tuT c.r=R at *
     generalize c.p=P at *
     have hq':L.length<=AB:=by lia
     simp[zBu,e,isNoneS,mkB,gd,hq,hq']
    obtain⟨Γ',eb⟩:=body
    exact⟨Γ',by rw[eb]; rfl⟩
theorem zLL(d:Nat)(s:Sy)(r:List Nat)(st:List Stp)(p:T)(d0 d1:T)(hp:s.parts<=80000)(h:(Cl.mk d s.spell r st p).Good q)(hz:tsz p<=90000):F_47 [.v s.t,.v (tuT r),.v (.t [d0,d1,spT st]),.v p]=some (.v (bT (chkT d p s.spell r st)),[]):=by
 have e:=zH0 s hp
 obtain⟨h1,h2⟩:=zJZ (~~~s.t) (~~~(tuT r)) (~~~(.t [d0,d1,spT st])) (~~~p) fuelX [⟨d,s.spell,r,st,p⟩] (by simp only[szs]; exact Hx (show tsz p+0<=90000 by omega) ∅) (by simp only[szs]; omega) (fun c hc=>by rw[AE.mp hc]; exact h) none none
 have g1:=sL 1
 have g4:=sL 4
 have ho:[Cl.mk d s.spell r st p].all Cl.ok=chkT d p s.spell r st:=by simp[Cl.ok]
 rw[ho]at h1 h2
 have el:[Cl.mk d s.spell r st p].map Cl.t=[.t [s.spell.t,tuT r,spT st,p]]:=rfl
 rw[el]at h1 h2
 clear ho el h hz hp
 generalize chkT d p s.spell r st=b at *
 generalize spT st=X at *
 generalize s.spell.t=SS at *
 generalize s.t=S at *
 generalize tuT r=R at *
 cases b with
 | true =>
  obtain⟨o5,o6,ew⟩:=h1 rfl
  simp[F_47,fnD,d_47,e,gd,g1,g4,ew]
 | false =>
  obtain⟨Γ',ew⟩:=h2 rfl
  simp[F_47,fnD,d_47,e,gd,g1,g4,ew,resG]
theorem zBk(n:Nat)(t:List Nat)(h:IsT n t)(hn:n<=5):F_12 [.v (tuT t)]=some (.v (tuT (backL t)),[]):=by
 have hl:=h.len
 obtain⟨o',e⟩:=zBR (fun (i:Nat)=>iT (i:Int)) (fun (i:Nat)=>iT (t.idxOf i:Nat)) (de:=zEt) (R:=[~~~(tuT t)]) (AV n) (fun i hi=>by
  have f1:=zG1 (h.mem (show i < n by simpa using hi))
  simp[zEt,zD2 t,zHU t,f1,flatV]) none
 have e2:=zDd n
 simp only[tuT,tvT,iT]at e e2
 simp[F_12,fnD,d_12,hl,zCU n ⋯,e2,e,backL]
theorem zB8(n:Nat)(a b:List Nat)(ha:IsT n a)(hb:IsT n b)(hn:n<=5):F_13 [.v (tuT a),.v (tuT b)]=some (.v (tuT (thenL a b)),[]):=by
 have hl:=ha.len
 obtain⟨o',e⟩:=zBR (fun (k:Nat)=>iT (k:Int)) (fun (k:Nat)=>iT (b.getD k 0:Nat)) (de:=zE3) (R:=[~~~(tuT b)]) a (fun k hk=>by
  obtain⟨m,hm,_⟩:=hb.get (ha.lt k hk)
  have:=zGP hm
  simp only[tvT,iT]at this
  simp[zE3,this,hm]) none
 have g:a.length<=AB:=zAM ⋯
 simp only[tuT,tvT,iT]at e
 simp[F_13,fnD,d_13,gd,g,e,thenL]
theorem zDt(st:List Stp)(t:List Nat)(h:StOk 5 q st)(hn:st≠[])(ht:IsT 5 t)(hl:st.length<=5000):F_15 [.v (spT st),.v (tuT t)]=some (.v (spT (lastF st t)),[]):=by
 unfold lastF
 cases e:st.getLast? with
 | none=>exact absurd (C2.mp e) hn
 | some s =>
  have hs:=h s (Dl e)
  have e1:=zB8 5 s.2.1 t hs.2.1 ht ∅
  have e2:=zB8 5 s.2.2 t hs.2.2 ht ∅
  have e3:atI (st.map stT) (-1)=some (stT s):=by
   rw[zKY (by simpa using hn),Ah,Bg,← Gj,e]
   rfl
  have e4:cutT (st.map stT) none (some (-1))=st.dropLast.map stT:=by rw[zD1 _ (by simpa using hn),ID]
  have g1:=sL 1
  have g3:=sL 3
  have gl:(st.dropLast.map stT).length+1<=AB:=zAM (by simp; lia)
  unfold spT
  rw[Cf,Ab,A7]
  simp only[stT]at e3 ⊢
  generalize st.dropLast.map (fun s=>T.t [iT (s.1:Int),tuT s.2.1,tuT s.2.2])=DL at *
  generalize st.map (fun s=>T.t [iT (s.1:Int),tuT s.2.1,tuT s.2.2])=SL at *
  generalize tuT t=TT at *
  generalize tuT (thenL s.2.1 t)=Y1 at *
  generalize tuT (thenL s.2.2 t)=Z1 at *
  generalize tuT s.2.1=Y0 at *
  generalize tuT s.2.2=Z0 at *
  simp only[iT]at e3 ⊢
  simp[F_15,fnD,d_15,gd,g1,g3,gl,e1,e2,e3,e4]
theorem Th.ne_word(h:Th d x)(hw:w∈wds)(Γ:En):neS Γ (.v x) (.v (sT w))= ~~~(bT (!isW w x)):=by
 have lw:=zEg hw
 cases h with
 | int i=>simp[isW,neS,eqA,cmpD,datS,toD,toDa,scis,mkB,BF,Bc,Aj] <;> exact lw
 | str y hy=>simp[isW]
 | @tup d xs hx hl =>
  obtain⟨ps,e,l⟩:=zCM (fun x hm=>(hx x hm).dat)
  show ((none:Option S).or (cmpD (fun a b=>!PyData.eqv a b) Γ (.v (.t xs)) (.v (sT w))))=_
  rw[BZ]
  unfold cmpD
  rw[show datS Γ (.v (.t xs))=some (.tuple ps) by show toD (.t xs)=_; simp[toD,e],show datS Γ (.v (sT w))=some (.str w) from rfl,Ac,Ac,if_pos ⟨by simp[BF,l],lw,by simp[Bc]⟩]
  simp[Aj,mkB,isW]
def isStp:T->Bool
 | .t [w]=>isW "step" w
 | _=>false
theorem zMj(h:Th d x)(e:toD x=some p):Aj p (.str "step")=isW "step" x:=by
 cases h with
 | int i=>cases e; rfl
 | str y hy=>cases e; simp only[Aj,isW]; rw[DB]; simp
 | @tup d xs hx hl =>
  obtain⟨ps,e1,_⟩:=zCM (fun x hm=>(hx x hm).dat)
  simp[toD,e1]at e
  subst e
  simp[Aj,isW]
theorem Th.eq_stp(h:Th d x)(Γ:En):eqS Γ (.v x) (.v (.t [sT "step"]))= ~~~(bT (isStp x)):=by
 obtain⟨pd,e,l⟩:=h.dat
 have lw:(PyData.tuple [.str "step"]).canLay0=true:=by decide +kernel
 have e0:eqA (fun x y=>decide (x=y)) Γ (.v x) (.v (.t [sT "step"]))=none:=by cases x <;> rfl
 have ev:Aj pd (.tuple [.str "step"])=isStp x:=by
  cases h with
  | int i=>cases e; rfl
  | str y hy=>cases e; rfl
  | @tup d xs hx hl =>
   obtain⟨ps,e1,_⟩:=zCM (fun x hm=>(hx x hm).dat)
   simp[toD,e1]at e
   subst e
   match xs,hx,e1 with
   | [],_,e1=>cases e1; rfl
   | [w],hx,e1 =>
    obtain⟨p,e2,_⟩:=(hx w (by simp)).dat
    simp[toDs,e2]at e1
    subst e1
    have:=zMj (hx w (by simp)) e2
    simp[Aj,Av,isStp,this]
   | w::v::r,hx,e1 =>
    obtain⟨p,e2,_⟩:=(hx w (by simp)).dat
    obtain⟨p',e3,_⟩:=(hx v (by simp)).dat
    obtain⟨qs,e4,_⟩:=zCM (fun x hm=>(hx x (AR _ (AR _ hm))).dat)
    simp[toDs,e2,e3,e4]at e1
    subst e1
    simp[Aj,Av,isStp]
 have e1:cmpD Aj Γ (.v x) (.v (.t [sT "step"]))= ~~~(bT (isStp x)):=by
  unfold cmpD
  rw[show datS Γ (.v x)=some pd from e,show datS Γ (.v (.t [sT "step"]))=some (.tuple [.str "step"]) from rfl,Ac,Ac,if_pos ⟨l,lw,by simp[Bc,BK]; lia⟩,ev]
  rfl
 show ((eqA (fun x y=>decide (x=y)) Γ (.v x) (.v (.t [sT "step"]))).or (cmpD Aj Γ (.v x) (.v (.t [sT "step"]))))=_
 rw[e0,BZ,e1]
theorem zD5(Γ:En)(a b:List Nat):datS Γ (.v (.t [tuT a,tuT b]))=some (.tuple [.tuple (intsD a),.tuple (intsD b)]):=by
 have h1:=zCg a
 have h2:=zCg b
 show toD (.t [tuT a,tuT b])=_
 generalize tuT a=A at *
 generalize tuT b=B at *
 simp[toD,toDs,h1,h2]
theorem zD7(Γ:En)(a b c d:List Nat):neS Γ (.v (.t [tuT a,tuT b])) (.v (.t [tuT c,tuT d]))= ~~~(bT (!decide ((a,b)=(c,d)))):=by
 have e1:cmpD (fun a b=>!PyData.eqv a b) Γ (.v (.t [tuT a,tuT b])) (.v (.t [tuT c,tuT d]))= ~~~(bT (!decide ((a,b)=(c,d)))):=by
  unfold cmpD
  rw[zD5,zD5]
  simp only[Ac,BF,A4,zBO,Bc,BK,zBZ,Aj,Av,zBn]
  by_cases h2:a=c <;> by_cases h3:b=d <;> simp[h2,h3] <;> first | rfl | lia
 show ((none:Option S).or (cmpD (fun a b=>!PyData.eqv a b) Γ (.v (.t [tuT a,tuT b])) (.v (.t [tuT c,tuT d]))))=_
 rw[BZ,e1]
theorem zMf(Γ:En)(a b:List Nat):neS Γ (.v (.t [tuT a,tuT b])) (.v (.a .non))= ~~~(bT true):=by
 have e1:cmpD (fun a b=>!PyData.eqv a b) Γ (.v (.t [tuT a,tuT b])) (.v (.a .non))= ~~~(bT true):=by
  unfold cmpD
  rw[zD5,show datS Γ (.v (.a .non))=some .none from rfl]
  simp only[Ac,BF,A4,zBO,Bc,BK,zBZ,Aj]
  simp <;> rfl
 show ((none:Option S).or (cmpD (fun a b=>!PyData.eqv a b) Γ (.v (.t [tuT a,tuT b])) (.v (.a .non))))=_
 rw[BZ,e1]
theorem zE7(hp:s.plain)(r:List Nat)(st:List Stp):F_16 [.v s.t,.v (tuT r),.v (spT st)]=some (.v (bT (stepOk s r st)),[]):=by
 have g2:=sL 2
 have g5:=sL 5
 have nd:([.inr "yes",.inr "no",.inr "ask"]:List Key).Nodup:=by decide +kernel
 by_cases hl:st.length=1
 ·match st,hl with
  | [(x1,x2,x3)],_ =>
   have r5:tuT (AV 5)=.t [⇑0,⇑1,⇑2,⇑3,⇑4]:=rfl
   have n1:=fun Γ=>zD7 Γ x2 x3 r r
   have n2:=fun Γ=>zD7 Γ x2 x3 r (AV 5)
   have n3:=fun Γ=>zD7 Γ x2 x3 (AV 5) (AV 5)
   have n4:=fun Γ=>zMf Γ x2 x3
   have hx:spT [(x1,x2,x3)]=.t [.t [iT (x1:Int),tuT x2,tuT x3]]:=rfl
   rw[hx]
   rw[r5]at *
   cases s with
   | ask q =>
    have ho:stepOk (.ask q) r [(x1,x2,x3)]=(decide ((x2,x3)=(r,AV 5)) && decide ((q:Int)=(x1:Int))):=by
     show decide ((x1,x2,x3)=(q,r,AV 5))=_
     by_cases h1:x1=q
     ·subst h1; simp
     ·have h2:¬ (q:Int)=(x1:Int):=by lia
      simp[h1,h2]
    rw[ho]
    generalize decide ((x2,x3)=(r,AV 5))=b at *
    clear n1 n3 n4 ho
    generalize tuT r=R at *
    generalize tuT x2=X2 at *
    generalize tuT x3=X3 at *
    simp only[Sy.t,iT,bT]at *
    generalize (q:Int)=Q
    generalize (x1:Int)=X1
    cases b <;> simp[F_16,fnD,d_16,dDGetT,dDispK,dictOf,getX,valT,keyT,nd,gd,g2,g5,cut1,n2]
   | yes =>
    have ho:stepOk .yes r [(x1,x2,x3)]=decide ((x2,x3)=(r,r)):=rfl
    rw[ho]
    generalize decide ((x2,x3)=(r,r))=b at *
    clear n2 n3 n4 ho
    generalize tuT r=R at *
    generalize tuT x2=X2 at *
    generalize tuT x3=X3 at *
    simp only[Sy.t,iT,bT]at *
    cases b <;> simp[F_16,fnD,d_16,dDGetT,dDispK,dictOf,getX,valT,keyT,nd,gd,g2,g5,cut1,n1]
   | no =>
    have ho:stepOk .no r [(x1,x2,x3)]=decide ((x2,x3)=(AV 5,AV 5)):=rfl
    rw[ho]
    generalize decide ((x2,x3)=(AV 5,AV 5))=b at *
    clear n1 n2 n4 ho
    generalize tuT r=R at *
    generalize tuT x2=X2 at *
    generalize tuT x3=X3 at *
    simp only[Sy.t,iT,bT]at *
    cases b <;> simp[F_16,fnD,d_16,dDGetT,dDispK,dictOf,getX,valT,keyT,nd,gd,g2,g5,cut1,n3]
   | nt a =>
    have ho:stepOk (.nt a) r [(x1,x2,x3)]=false:=rfl
    rw[ho]
    generalize tuT r=R at *
    generalize tuT x2=X2 at *
    generalize tuT x3=X3 at *
    simp only[Sy.t,iT,bT]at *
    generalize a.t=A
    simp[F_16,fnD,d_16,dDGetT,dDispK,dictOf,getX,valT,keyT,nd,gd,g2,g5,cut1,n4]
   | an a b =>
    have ho:stepOk (.an a b) r [(x1,x2,x3)]=false:=rfl
    rw[ho]
    generalize tuT r=R at *
    generalize tuT x2=X2 at *
    generalize tuT x3=X3 at *
    simp only[Sy.t,iT,bT]at *
    generalize a.t=A
    generalize b.t=B
    simp[F_16,fnD,d_16,dDGetT,dDispK,dictOf,getX,valT,keyT,nd,gd,g2,g5,cut1,n4]
   | _=>exact hp.elim
 ·have ho:stepOk s r st=false:=by
   unfold stepOk
   split <;> first | rfl | (simp at hl)
  rw[ho]
  have hm:(st.map stT).length=st.length:=by simp
  rw[← hm]at hl
  have hi:¬ ((st.map stT).length:Int)=1:=by lia
  unfold spT
  generalize st.map stT=L at *
  generalize tuT r=R at *
  cases s with
  | ask q=>simp only[Sy.t,iT,bT]; generalize (q:Int)=Q; simp[F_16,fnD,d_16,dDGetT,dDispK,dictOf,getX,valT,keyT,nd,gd,g2,g5,hl,hi]
  | yes=>simp[Sy.t,F_16,fnD,d_16,dDGetT,dDispK,dictOf,getX,valT,keyT,nd,gd,g2,g5,hl,hi]
  | no=>simp[Sy.t,F_16,fnD,d_16,dDGetT,dDispK,dictOf,getX,valT,keyT,nd,gd,g2,g5,hl,hi]
  | nt a=>simp only[Sy.t]; generalize a.t=A; simp[F_16,fnD,d_16,dDGetT,dDispK,dictOf,getX,valT,keyT,nd,gd,g2,g5,hl,hi]
  | an a b=>simp only[Sy.t]; generalize a.t=A; generalize b.t=B; simp[F_16,fnD,d_16,dDGetT,dDispK,dictOf,getX,valT,keyT,nd,gd,g2,g5,hl,hi]
  | _=>exact hp.elim
theorem zJm(ha:Rg a)(hb:Rg b):F_19 [.v (tuT a),.v (tuT b)]=some (.v (tuT (tbL a b)),[]):=by
 have e1:=zBk 5 a ha.isT ∅
 have e2:=zBk 5 b hb.isT ∅
 have e3:=zB8 5 a b ha.isT hb.isT ∅
 have e4:=zB8 5 _ _ ha.back.isT hb.back.isT ∅
 have e5:=zB8 5 _ _ (zBh ha.isT hb.isT) (zBh ha.back.isT hb.back.isT) ∅
 unfold tbL
 generalize tuT (thenL (thenL a b) (thenL (backL a) (backL b)))=X1 at *
 generalize tuT (thenL a b)=X2 at *
 generalize tuT (thenL (backL a) (backL b))=X3 at *
 generalize tuT (backL a)=X4 at *
 generalize tuT (backL b)=X5 at *
 generalize tuT a=X6 at *
 generalize tuT b=X7 at *
 simp[F_19,fnD,d_19,e1,e2,e3,e4,e5]
theorem cut16(w i j k a b c d e f:T):cutT [w,i,j,k,a,b,c,d,e,f] (some 1) (some 6)=[i,j,k,a,b]:=by
 have:=zBy [w,i,j,k,a,b,c,d,e,f] 1 6
 exact this
theorem zPd(w i j k a b c d e f:T):cutT [w,i,j,k,a,b,c,d,e,f] (some 6) none=[c,d,e,f]:=zBb [w,i,j,k,a,b,c,d,e,f] 6
theorem zQh(hl:gs.length=n)(h:b (gs.map some++AN (m - n) none)=some (.rt (.v x) Γ)):fnD none n m b gs=some (.v x,[]):=by
 unfold fnD
 rw[if_pos hl,h]
 rfl
theorem zGu{s:Sy}(hs:∀ a b,s≠.an a b)(hp:s.plain)(rec:DF)(R L W I J KK X Y Q1 Q2 Q3 Q4:T):F_20 rec [.v s.t,.v R,.v L,.v (.t [W,I,J,KK,X,Y,Q1,Q2,Q3,Q4])]=some (.v (bT false),[]):=by
 have g5:=sL 5
 obtain⟨v,tl,e,_,h1⟩:=zFr hp
 have hv:=h1 hs
 rw[e]
 simp only[sT]
 simp[F_20,fnD,d_20,cut16,gd,g5,hv]
theorem zEf(rec:DF)(S SS W Q1 Q2 Q3 Q4:T)(hi:Th d i)(hj:Th d j)(hk:Th d k)(ha:Th d a)(hb:Th d b)(r:List Nat)(st:List Stp)(hc:(cutsT i j k st.length && tbOk a b r)=false) :
  F_20 rec [.v (.t [sT "and",S,SS]),.v (tuT r),.v (spT st),.v (.t [W,i,j,k,a,b,Q1,Q2,Q3,Q4])]=some (.v (bT false),[]):=by
 have g3:=sL 3
 have g5:=sL 5
 have w1:=hi.isi_int
 have w2:=hj.isi_int
 have w3:=hk.isi_int
 have hm:(st.map stT).length=st.length:=by simp
 by_cases h:intB i=true/\intB j=true/\intB k=true
 ·obtain⟨h1,h2,h3⟩:=h
  match i,h1,j,h2,k,h3 with
  | .a (.int i),_,.a (.int j),_,.a (.int k),_ =>
   simp only[intB,bT]at w1 w2 w3
   have er1:=ha.ring.2
   have er2:=hb.ring.2
   by_cases hcut:0 < i/\i < j/\j < k/\k < (st.length:Int)
   ·have hc0:cutsT (⇑i) (⇑j) (⇑k) st.length=true:=by
     simp only[cutsT,hcut.1,hcut.2.1,hcut.2.2.1,hcut.2.2.2,decide_true,Bu]
    rw[hc0,Bu]at hc
    obtain⟨x1,x2,x3,x4⟩:=hcut
    rw[← hm]at x4
    cases h1:ringT a with
    | false =>
     rw[h1]at er1
     unfold spT
     clear hc hc0 hm er2
     generalize st.map stT=L at *
     generalize tuT r=R
     simp only[iT,bT,sT]at *
     simp[F_20,fnD,d_20,zBs,cut16,zAQ,zAO,boolsOf,w1,w2,w3,gd,g3,g5,dChainN,dLink,dLast,x1,x2,x3,x4,er1]
    | true =>
     rw[h1]at er1
     cases h2:ringT b with
     | false =>
      rw[h2]at er2
      unfold spT
      clear hc hc0 hm
      generalize st.map stT=L at *
      generalize tuT r=R
      simp only[iT,bT,sT]at *
      simp[F_20,fnD,d_20,zBs,cut16,zAQ,zAO,boolsOf,w1,w2,w3,gd,g3,g5,dChainN,dLink,dLast,x1,x2,x3,x4,er1,er2]
     | true =>
      rw[h2]at er2
      obtain⟨A,ra,rfl,eA⟩:=zBJ h1
      obtain⟨B,rb,rfl,eB⟩:=zBJ h2
      have et:=zJm ra rb
      have ne:=fun Γ=>zD3 Γ (tbL A B) r
      have h3:decide (tbL A B=r)=false:=by
       unfold tbOk at hc
       rw[h1,h2,eA,eB]at hc
       simpa using hc
      rw[h3]at ne
      unfold spT
      clear hc hc0 hm h3 h1 h2 eA eB ha hb
      generalize st.map stT=L at *
      generalize tuT r=R at *
      generalize tuT (tbL A B)=TB at *
      generalize tuT A=A at *
      generalize tuT B=B at *
      simp only[iT,bT,sT,E8]at *
      simp[F_20,fnD,d_20,zBs,cut16,zAQ,zAO,boolsOf,w1,w2,w3,gd,g3,g5,dChainN,dLink,dLast,x1,x2,x3,x4,er1,er2,et,ne]
   ·rw[← hm]at hcut
    unfold spT
    clear hc hm er1 er2
    generalize st.map stT=L at *
    generalize tuT r=R
    simp only[iT,bT,sT]at *
    have ch:∀ (g0 g1 g3 g7 g8 g9 g10:Option G),dChainN (dC (.int 0)) (dLink ltS (jV 4) (dLink ltS (jV 5) (dLink ltS (jV 6) (dLast ltS (dCB lenS (jW (jV 2) qQ)))))) [g0,g1,~~~(.t L),g3,~~~(⇑i),~~~(⇑j),~~~(⇑k),g7,g8,g9,g10]=some (.v (.a (.bl false)),[g0,g1,~~~(.t L),g3,~~~(⇑i),~~~(⇑j),~~~(⇑k),g7,g8,g9,g10]):=fun _ _ _ _ _ _ _=>by
     by_cases a1:0 < i
     ·by_cases a2:i < j
      ·by_cases a3:j < k
       ·have a4:¬ k < (L.length:Int):=fun z=>hcut ⟨a1,a2,a3,z⟩
        simp[dChainN,dLink,dLast,a1,a2,a3,a4]
       ·simp[dChainN,dLink,dLast,a1,a2,a3]
      ·simp[dChainN,dLink,dLast,a1,a2]
     ·simp[dChainN,dLink,dLast,a1]
    simp[F_20,fnD,d_20,zBs,cut16,zAQ,zAO,boolsOf,w1,w2,w3,gd,g3,g5,ch]
 ·have hb:(intB i && (intB j && intB k))=false:=by
   refine Cm.mpr fun z=>h ?_
   simpa [AW] using z
  clear hc h
  generalize spT st=L
  generalize tuT r=R
  generalize intB i=b1 at *
  generalize intB j=b2 at *
  generalize intB k=b3 at *
  simp only[iT,bT,sT]at *
  cases b1 <;> cases b2 <;> cases b3 <;> first | (simp at hb; done) | simp[F_20,fnD,d_20,zBs,cut16,zAQ,zAO,boolsOf,w1,w2,w3,gd,g3,g5]
theorem zFe(rec:DF)(S SS W Q1 Q2 Q3 Q4:T)(ha:Rg a)(hb:Rg b)(st:List Stp)(i j k:Nat)(h1:0 < i)(h2:i < j)(h3:j < k)(h4:k < st.length)(hl:st.length<=5000)(era:F_18 [.v (tuT a)]=some (.v (bT true),[]))(erb:F_18 [.v (tuT b)]=some (.v (bT true),[]))(b1 b2 b3 b4:Bool)
  (r1:rec [.v S,.v (tuT a),.v (spT (st.take i)),.v Q1]=some (.v (bT b1),[]))
  (r2:rec [.v SS,.v (tuT b),.v (spT ((st.take j).drop i)),.v Q2]=some (.v (bT b2),[]))
  (r3:rec [.v S,.v (tuT (backL a)),.v (spT ((st.take k).drop j)),.v Q3]=some (.v (bT b3),[]))
  (r4:rec [.v SS,.v (tuT (backL b)),.v (spT (st.drop k)),.v Q4]=some (.v (bT b4),[])) :
  F_20 rec [.v (.t [sT "and",S,SS]),.v (tuT (tbL a b)),.v (spT st),.v (.t [W,iT (i:Int),iT (j:Int),iT (k:Int),tuT a,tuT b,Q1,Q2,Q3,Q4])]=some (.v (bT (b1 && (b2 && (b3 && b4)))),[]):=by
 have c1:cutT (st.map stT) none (some (i:Int))=(st.take i).map stT:=by rw[zBc,Dg]
 have c2:cutT (st.map stT) (some (i:Int)) (some (j:Int))=((st.take j).drop i).map stT:=by rw[zBy,E9,Dg,Dh]
 have c3:cutT (st.map stT) (some (j:Int)) (some (k:Int))=((st.take k).drop j).map stT:=by rw[zBy,E9,Dg,Dh]
 have c4:cutT (st.map stT) (some (k:Int)) none=(st.drop k).map stT:=by rw[zBb,Dh]
 have l1:((st.take i).map stT).length<=AB:=zAM (by simp; lia)
 have l2:(((st.take j).drop i).map stT).length<=AB:=zAM (by simp; lia)
 have l3:(((st.take k).drop j).map stT).length<=AB:=zAM (by simp; lia)
 have l4:((st.drop k).map stT).length<=AB:=zAM (by simp; lia)
 have hm:(st.map stT).length=st.length:=by simp
 have x1:(0:Int) < (i:Int):=by lia
 have x2:(i:Int) < (j:Int):=by lia
 have x3:(j:Int) < (k:Int):=by lia
 have x4:(k:Int) < ((st.map stT).length:Int):=by rw[hm]; lia
 have eb1:=zBk 5 a ha.isT ∅
 have eb2:=zBk 5 b hb.isT ∅
 have et:=zJm ha hb
 have ne:=fun Γ=>zGM Γ (tbL a b)
 have g3:=sL 3
 have g4:=sL 4
 have g5:=sL 5
 clear hm hl h1 h2 h3 h4 ha hb
 simp only[spT]at *
 generalize (st.take i).map stT=L1 at *
 generalize ((st.take j).drop i).map stT=L2 at *
 generalize ((st.take k).drop j).map stT=L3 at *
 generalize (st.drop k).map stT=L4 at *
 generalize st.map stT=L at *
 generalize tuT (tbL a b)=TB at *
 generalize tuT (backL a)=BA at *
 generalize tuT (backL b)=BB at *
 generalize tuT a=A at *
 generalize tuT b=B at *
 generalize (i:Int)=I at *
 generalize (j:Int)=J at *
 generalize (k:Int)=KK at *
 simp only[iT,bT,sT]at *
 have i31:∀ (X Y Z:T),atI [X,Y,Z] 1=some Y:=fun _ _ _=>rfl
 have i32:∀ (X Y Z:T),atI [X,Y,Z] 2=some Z:=fun _ _ _=>rfl
 unfold F_20
 refine zQh (Γ:=[~~~(.t [.a (.str "and"),S,SS]),~~~TB,~~~(.t L),~~~(.t [W,⇑I,⇑J,⇑KK,A,B,Q1,Q2,Q3,Q4]),~~~(⇑I),~~~(⇑J),~~~(⇑KK),~~~A,~~~B,~~~[.t [⇑1,A,.t L1],.t [⇑2,B,.t L2],.t [⇑1,BA,.t L3],.t [⇑2,BB,.t L4]],~~~[.a (.bl b1),.a (.bl b2),.a (.bl b3),.a (.bl b4)]]) rfl ?_
 unfold d_20
 simp only[Ab,A7]
 refine zAg (Γ':=[~~~(.t [.a (.str "and"),S,SS]),~~~TB,~~~(.t L),~~~(.t [W,⇑I,⇑J,⇑KK,A,B,Q1,Q2,Q3,Q4]),~~~(⇑I),~~~(⇑J),~~~(⇑KK),~~~A,~~~B,none,none]) (by simp[cut16,gd,g5]) ?_
 refine zAg (Γ':=[~~~(.t [.a (.str "and"),S,SS]),~~~TB,~~~(.t L),~~~(.t [W,⇑I,⇑J,⇑KK,A,B,Q1,Q2,Q3,Q4]),~~~(⇑I),~~~(⇑J),~~~(⇑KK),~~~A,~~~B,none,none]) (by simp[zBs,zAQ,zAO,isiS,tyN,subTy,boolsOf,gd,g3]) ?_
 refine zAg (Γ':=[~~~(.t [.a (.str "and"),S,SS]),~~~TB,~~~(.t L),~~~(.t [W,⇑I,⇑J,⇑KK,A,B,Q1,Q2,Q3,Q4]),~~~(⇑I),~~~(⇑J),~~~(⇑KK),~~~A,~~~B,none,none]) (by simp[dChainN,dLink,dLast,x1,x2,x3,x4,era,erb,et,ne]) ?_
 refine zAg (Γ':=[~~~(.t [.a (.str "and"),S,SS]),~~~TB,~~~(.t L),~~~(.t [W,⇑I,⇑J,⇑KK,A,B,Q1,Q2,Q3,Q4]),~~~(⇑I),~~~(⇑J),~~~(⇑KK),~~~A,~~~B,~~~[.t [⇑1,A,.t L1],.t [⇑2,B,.t L2],.t [⇑1,BA,.t L3],.t [⇑2,BB,.t L4]],none]) (by simp[c1,c2,c3,c4,l1,l2,l3,l4,eb1,eb2,gd,g3,g4]) ?_
 refine zAg (Γ':=[~~~(.t [.a (.str "and"),S,SS]),~~~TB,~~~(.t L),~~~(.t [W,⇑I,⇑J,⇑KK,A,B,Q1,Q2,Q3,Q4]),~~~(⇑I),~~~(⇑J),~~~(⇑KK),~~~A,~~~B,~~~[.t [⇑1,A,.t L1],.t [⇑2,B,.t L2],.t [⇑1,BA,.t L3],.t [⇑2,BB,.t L4]],~~~[.a (.bl b1),.a (.bl b2),.a (.bl b3),.a (.bl b4)]]) (by simp[zPd,zipT,zHO,zAQ,zAO,i31,i32,r1,r2,r3,r4,gd,g4]) ?_
 simp[inS,atomsOf,flatV,inV,eqV]
theorem zDw:∀ (d n:Nat) (p:T),Th d p->∀ (s:Sy),s.plain->s.down<=n->∀ (r:List Nat),Rg r->∀ (st:List Stp),StOk 5 q st->st.length<=5000->F_0 (n+1) [.v s.t,.v (tuT r),.v (spT st),.v p]=some (.v (bT (chkT d p s r st)),[]):=by
 intro d
 induction d with
 | zero =>
  intro n p hp s pl _ r hr st ok hl
  have e:=fun Γ=>hp.eq_stp Γ
  have ei:=fun Γ=>hp.isi_tup Γ
  have g1:=sL 1
  generalize spT st=X
  generalize tuT r=R
  generalize s.t=S
  simp only[chkT]
  cases hp with
  | int i =>
   simp only[isStp,bT,sT,iT]at *
   simp[F_0,fnD,d_0,e,ei,gd,g1]
  | str w hw =>
   simp only[isStp,bT,sT,iT]at *
   simp[F_0,fnD,d_0,e,ei,gd,g1]
 | succ d ih =>
  intro n p hp s pl hn r hr st ok hl
  have hdp:=s.down_pos
  obtain⟨m,rfl⟩:∃ m,n=m+1:=⟨n - 1,by omega⟩
  have e:=fun Γ=>hp.eq_stp Γ
  have ei:=fun Γ=>hp.isi_tup Γ
  have g1:=sL 1
  have g2:=sL 2
  cases hp with
  | int i =>
   generalize spT st=X
   generalize tuT r=R
   generalize s.t=S
   simp only[isStp,chkT,zBr,zH2,bT,sT,iT]at *
   simp[F_0,fnD,d_0,e,ei,gd,g1]
  | str w hw =>
   generalize spT st=X
   generalize tuT r=R
   generalize s.t=S
   simp only[isStp,chkT,zBr,zH2,bT,sT,iT]at *
   simp[F_0,fnD,d_0,e,ei,gd,g1]
  | tup xs hx hlx =>
   by_cases n1:xs.length=1
   ·match xs,n1 with
    | [w],_ =>
     have es:=zE7 pl r st
     simp only[isStp,chkT,zBr,zH2]at *
     generalize stepOk s r st=b at *
     generalize spT st=X at *
     generalize tuT r=R at *
     generalize s.t=S at *
     generalize isW "step" w=c at *
     simp only[bT,sT]at *
     cases c <;> simp[F_0,fnD,d_0,e,ei,gd,g1,g2,es,inS,atomsOf,flatV,inV,eqV]
   ·have hs0:isStp (.t xs)=false:=by
     unfold isStp
     split
     ·rename_i q; cases q; exact absurd rfl n1
     ·rfl
    rw[hs0]at e
    by_cases n2:xs.length=2
    ·match xs,n2 with
     | [w,p],_ =>
      have ew:=fun Γ=>(hx w (by simp)).eq_word (show ("not":Str)∈wds by simp[wds]) Γ
      have nw:=fun Γ=>(hx w (by simp)).ne_word (show ("not":Str)∈wds by simp[wds]) Γ
      by_cases hs:∃ a,s=.nt a
      ·obtain⟨a,rfl⟩:=hs
       simp only[chkT,zBr,Sy.t]
       by_cases hne:st=[]
       ·subst hne
        generalize tuT r=R at *
        generalize a.t=A at *
        generalize isW "not" w=c at *
        simp only[bT,sT,spT,A7]at *
        cases c <;> simp[F_0,fnD,d_0,e,ei,gd,g1,g2,nw,inS,atomsOf,flatV,inV,eqV]
       ·have hb:=hr.back
        have er:=ih m p (hx p (by simp)) a pl (by simp only[Sy.down]at hn; omega) (backL r) hb (lastF st (backL r)) (zD6 ok hb.isT) (by rw[zB3]; exact hl)
        have eb:=zBk 5 r hr.isT ∅
        have ef:=zDt st (backL r) ok hne hb.isT hl
        have hz:st.map stT≠[]:=by simpa using hne
        have hE:st.isEmpty=false:=by simpa using hne
        rw[hE,E8,Bu]
        generalize chkT d p a (backL r) (lastF st (backL r))=v at *
        unfold spT at *
        clear ok hE
        generalize (lastF st (backL r)).map stT=L' at *
        generalize st.map stT=L at *
        generalize tuT (backL r)=B at *
        generalize tuT r=R at *
        generalize a.t=A at *
        generalize isW "not" w=c at *
        have hz':¬ (L.length:Int)=0:=by have:=CT.mpr hz; omega
        simp only[bT,sT]at *
        rw[F_0]
        generalize F_0 (m+1)=rec at *
        cases c <;> simp[fnD,d_0,e,ei,gd,g1,g2,nw,er,eb,ef,hz,hz',inS,atomsOf,flatV,inV,eqV]
      ·have hc:chkT (d+1) (.t [w,p]) s r st=false:=by
        cases s <;> first | exact absurd ⟨_,rfl⟩ hs | simp[chkT]
       rw[hc]
       generalize spT st=X at *
       generalize tuT r=R at *
       generalize isW "not" w=c at *
       simp only[bT,sT]at *
       obtain⟨v,tl,es,h1,_⟩:=zFr pl
       have hv:=h1 fun a e=>hs ⟨a,e⟩
       rw[es]
       cases c <;> simp[F_0,fnD,d_0,e,ei,gd,g1,g2,nw,hv,inS,atomsOf,flatV,inV,eqV]
    ·by_cases n10:xs.length=10
     ·match xs,n10 with
      | [w,i,j,k,a,b,p1,p2,p3,p4],_ =>
       have ew:=fun Γ=>(hx w (by simp)).eq_word (show ("and":Str)∈wds by simp[wds]) Γ
       have fin:∀ v,F_20 (F_0 (m+1)) [.v s.t,.v (tuT r),.v (spT st),.v (.t [w,i,j,k,a,b,p1,p2,p3,p4])]=some (.v (bT v),[])->chkT (d+1) (.t [w,i,j,k,a,b,p1,p2,p3,p4]) s r st=(isW "and" w && v)->F_0 (m+1+1) [.v s.t,.v (tuT r),.v (spT st),.v (.t [w,i,j,k,a,b,p1,p2,p3,p4])]=some (.v (bT (chkT (d+1) (.t [w,i,j,k,a,b,p1,p2,p3,p4]) s r st)),[]):=fun v hv hc=>by
        rw[hc,F_0]
        clear hc
        generalize F_0 (m+1)=rec at *
        generalize spT st=X at *
        generalize tuT r=R at *
        generalize s.t=S at *
        generalize isW "and" w=c at *
        simp only[bT,sT]at *
        cases c <;> simp[fnD,d_0,e,ei,gd,g1,g2,ew,hv,inS,atomsOf,flatV,inV,eqV]
       by_cases hs:∃ x y,s=.an x y
       ·obtain⟨s,t,rfl⟩:=hs
        have ti:=hx i (by simp)
        have tj:=hx j (by simp)
        have tk:=hx k (by simp)
        have ta:=hx a (by simp)
        have tb:=hx b (by simp)
        have e0:chkT (d+1) (.t [w,i,j,k,a,b,p1,p2,p3,p4]) (.an s t) r st=(isW "and" w && ((cutsT i j k st.length && tbOk a b r) && (chkT d p1 s (rgOf a) (st.take (natOf i)) && (chkT d p2 t (rgOf b) ((st.take (natOf j)).drop (natOf i)) && (chkT d p3 s (backL (rgOf a)) ((st.take (natOf k)).drop (natOf j)) && chkT d p4 t (backL (rgOf b)) (st.drop (natOf k))))))):=by
         simp only[chkT,zBr,tbOk,Ia]
        refine fin _ ?_ e0
        cases hc:(cutsT i j k st.length && tbOk a b r) with
        | false=>exact zEf _ s.t t.t w p1 p2 p3 p4 ti tj tk ta tb r st hc
        | true =>
         rw[Bu]
         simp only[tbOk,AW,decide_eq_true_eq]at hc
         obtain⟨c0,c1,c2,c3⟩:=hc
         obtain⟨x,y,z,rfl,rfl,rfl,q1,q2,q3,q4,m1,m2,m3⟩:=zFI c0
         have era:=ta.ring.2
         have erb:=tb.ring.2
         rw[c1]at era
         rw[c2]at erb
         obtain⟨A,ra,rfl,eA⟩:=zBJ c1
         obtain⟨B,rb,rfl,eB⟩:=zBJ c2
         rw[eA,eB]at c3
         rw[m1,m2,m3,eA,eB]
         subst c3
         exact zFe _ s.t t.t w p1 p2 p3 p4 ra rb st x y z q1 q2 q3 q4 hl era erb _ _ _ _
          (ih m p1 (hx p1 (by simp)) s pl.1 (by simp only[Sy.down]at hn; omega) A ra _ (sokT ok _) (by rw[Bt]; omega))
          (ih m p2 (hx p2 (by simp)) t pl.2 (by simp only[Sy.down]at hn; omega) B rb _ (sokD (sokT ok _) _) (by rw[B6,Bt]; omega))
          (ih m p3 (hx p3 (by simp)) s pl.1 (by simp only[Sy.down]at hn; omega) _ ra.back _ (sokD (sokT ok _) _) (by rw[B6,Bt]; omega))
          (ih m p4 (hx p4 (by simp)) t pl.2 (by simp only[Sy.down]at hn; omega) _ rb.back _ (sokD ok _) (by rw[B6]; omega))
       ·refine fin false (zGu (fun x y e=>hs ⟨x,y,e⟩) pl _ _ _ _ _ _ _ _ _ _ _ _ _) ?_
        rw[IT]
        cases s <;> first | exact absurd ⟨_,_,rfl⟩ hs | simp[chkT]
     ·rw[zHW n1 n2 n10]
      generalize spT st=X at *
      generalize tuT r=R at *
      generalize s.t=S at *
      have i2:¬ 2=(xs.length:Int):=by omega
      have i10:¬ 10=(xs.length:Int):=by omega
      simp only[bT,sT]at *
      simp[F_0,fnD,d_0,e,ei,gd,g1,g2,n2,n10,i2,i10,inS,atomsOf,flatV,inV,eqV]
noncomputable def rowS (r:List Nat):Nat->List Nat->List Nat
 | 0,row=>row
 | n+1,row=>if r.getD (row.getLastD 0) 0=0 then row else rowS r n (row++[r.getD (row.getLastD 0) 0])
def rowR (r:List Nat):List Nat:=rowS r 5 [0]
def byR (r:List Nat) (f:Nat):List Nat:=[(rowR r).getD ((0+f) % 5) 0,(rowR r).getD ((2+f) % 5) 0,(rowR r).getD ((1+f) % 5) 0,(rowR r).getD ((4+f) % 5) 0,(rowR r).getD ((3+f) % 5) 0]
def pairL (r:List Nat) (f:Nat):List Nat×List Nat:=(thenL (thenL (backL (byR r f)) [1,2,3,4,0]) (byR r f),thenL (thenL (backL (byR r f)) [2,0,4,1,3]) (byR r f))
def prs5:List (List Nat×Nat):=rings5.flatMap fun r=>(AV 5).map fun f=>(r,f)
theorem zNf(hr:Rg r)(hf:f < 5):(r,f)∈prs5:=Eb.mpr ⟨r,hr.mem,Bh.mpr ⟨f,Dz.mpr hf,rfl⟩⟩
theorem zKs:(prs5.all fun x=>rings5.contains (pairL x.1 x.2).1 && rings5.contains (pairL x.1 x.2).2 && (tbL (pairL x.1 x.2).1 (pairL x.1 x.2).2 == x.1))=true:=by decide +kernel
def pairA (B:G) (r:List Nat):Option O:=dWhile (zEo) (zEx) fuelX [some B,~~~(tuT r),~~~[iT 0],none,none,none,none,none]
theorem zJO(B:G):(rings5.map fun r=>pairA B r)=rings5.map fun r=>some (.nx [some B,~~~(tuT r),some (.l (tvT (rowR r))),none,none,none,none,none]):=by kernel_rfl
def zDo:DS:=(dSeq (dSet 4 (dOp mulS (dLst (jW (dC (.int 0)) qQ)) (dC (.int 5))))
 (dSeq (dFor (some 0) (dEnum (jW (dLst (jW (dC (.int 0)) (jW (dC (.int 2)) (jW (dC (.int 1)) (jW (dC (.int 4)) (jW (dC (.int 3)) qQ)))))) qQ)) (gdTup 2 (gdCons (gdName 5) (gdCons (gdName 6) gdNil))) (zHQ))
 (dSeq (dSet 4 (dCB tupleS (jW (jV 4) qQ)))
 (dSeq (dSet 7 (dCall none F_12 [] (jW (jV 4) qQ)))
 (dRet (dComp none [none,some 4,some 7] (dSeqI (dTup (jW (dTup (jW (dC (.int 1)) (jW (dC (.int 2)) (jW (dC (.int 3)) (jW (dC (.int 4)) (jW (dC (.int 0)) qQ)))))) (jW (dTup (jW (dC (.int 2)) (jW (dC (.int 0)) (jW (dC (.int 4)) (jW (dC (.int 1)) (jW (dC (.int 3)) qQ)))))) qQ)))) (gdName 0) dYes (zHb)))))))
theorem zK2:d_14=dSeq (dSet 2 (dLst (jW (dC (.int 0)) qQ))) (dSeq (dWhile (zEo) (zEx) fuelX) (dSeq (dSet 3 (dCall (some 0) F_10 [] (jW (jV 0) (jW (dC (.int 5)) qQ)))) zDo)):=rfl
theorem zJ2(a b:Int):(prs5.map fun x=>zDo [~~~[iT a,iT b],~~~(tuT x.1),some (.l (tvT (rowR x.1))),~~~(iT (x.2:Int)),none,none,none,none]) =
  prs5.map fun x=>some (.rt (.l [tuT (pairL x.1 x.2).1,tuT (pairL x.1 x.2).2]) [~~~[iT a,iT b],~~~(tuT x.1),some (.l (tvT (rowR x.1))),~~~(iT (x.2:Int)),~~~(tuT (byR x.1 x.2)),~~~(iT 4),~~~(iT 3),~~~(tuT (backL (byR x.1 x.2)))]):=by kernel_rfl
theorem zMo(a b:Int)(hr:Rg r):∃ x y a' b',Rg x/\Rg y/\tbL x y=r/\F_14 [.l [iT a,iT b],.v (tuT r)]=some (.l [tuT x,tuT y],[iT a',iT b']):=by
 obtain⟨f,a1,b1,hf,e⟩:=zAZ a b 5 ∅ ∅
 have hm:=zNf hr hf
 have g1:=sL 1
 have hc:=Aw.mp zKs _ hm
 simp only[AW]at hc
 have eA:=Fo.mp (zJO (.l [iT a,iT b])) r hr.mem
 have eB:=Fo.mp (zJ2 a1 b1) (r,f) hm
 dsimp only at eA eB hc
 refine⟨(pairL r f).1,(pairL r f).2,a1,b1,⟨by simpa using hc.1.1⟩,⟨by simpa using hc.1.2⟩,by simpa using hc.2,?_⟩
 have e':F_10 [.l [⇑a,⇑b],.v (⇑5)]=some (.v (⇑(f:Int)),[⇑a1,⇑b1]):=e
 refine zKo (s:=.l [tuT (pairL r f).1,tuT (pairL r f).2]) (rest:=[~~~(tuT r),some (.l (tvT (rowR r))),~~~(iT (f:Int)),~~~(tuT (byR r f)),~~~(iT 4),~~~(iT 3),~~~(tuT (backL (byR r f)))]) rfl ?_ rfl
 rw[zK2]
 refine zAg (Γ':=[~~~[iT a,iT b],~~~(tuT r),~~~[iT 0],none,none,none,none,none]) (by simp[gd,g1]) ?_
 refine zAg eA ?_
 refine zAg (Γ':=[~~~[iT a1,iT b1],~~~(tuT r),some (.l (tvT (rowR r))),~~~(iT (f:Int)),none,none,none,none]) (by generalize tuT r=R; generalize tvT (rowR r)=RR; simp only[iT]; simp[e']) ?_
 exact eB
theorem zCz(rec:DF)(B0 B1 sl L L' pl ps:List T)(Q S' P aim:T)(i:Int)(R PL A Bq:Option G)(o5 o7 o14:Option G)(h:rec [.l B0,.v S',.v Q,.v aim]=some (.v (.t [.t L',P]),B1))(hs:atI sl i=some S')
  (h1:L.length+L'.length<=5000) (h2:pl.length<=10) (h3:ps.length<=10) :
  zEV rec [some (.l B0),~~~(.t sl),~~~Q,R,PL,o5,~~~(.t L),o7,A,Bq,~~~(.t pl),~~~(.t ps),~~~(iT i),~~~aim,o14] =
   some (.nx [some (.l B1),~~~(.t sl),~~~Q,R,PL,o5,~~~(.t (L++L')),~~~P,A,Bq,~~~(.t (pl++[iT ((L++L').length:Int)])),~~~(.t (ps++[P])),~~~(iT i),~~~aim,~~~(.t L')]):=by
 have g1:L.length+L'.length<=AB:=zAM ⋯
 have g2:pl.length+1<=AB:=zAM ⋯
 have g3:ps.length+1<=AB:=zAM ⋯
 have g:=sL 1
 simp only[iT]
 simp[zEV,h,hs,gd,g,g1,g2,g3]
theorem zKx(q:Nat)(hq:0 < q)(hq':q<=100):∀ (n:Nat) (s:Sy),s.plain->s.qs q->s.down<=n->s.wt<=1000->∀ (r:List Nat),Rg r->∀ (a b:Int),∃ (st:List Stp) (p:PP) (a' b':Int),Pf s r p st.length/\StOk 5 q st/\st.length=s.wt/\chk p s r st=true /\
  F_2 n [.l [iT a,iT b],.v s.t,.v (iT (q:Int)),.v (tuT r)]=some (.v (.t [spT st,p.t]),[iT a',iT b']):=by
 intro n
 induction n with
 | zero=>intro s _ _ h; have:=s.down_pos; lia
 | succ n ih =>
  intro s hp hs hd hw r hr a b
  have g1:=sL 1
  have g2:=sL 2
  have g3:=sL 3
  have g5:=sL 5
  have s5:=zCX 5
  cases s with
  | or x y=>exact hp.elim
  | ei x y=>exact hp.elim
  | mo x y z=>exact hp.elim
  | ask k =>
   refine⟨[(k,r,AV 5)],.step,a,b,.ask k r,fun x hx=>by rw[AE.mp hx]; exact⟨hs,hr.isT,s5⟩,rfl,by simp[chk,stepOk],?_⟩
   have hx:spT [(k,r,AV 5)]=.t [.t [iT (k:Int),tuT r,.t [⇑0,⇑1,⇑2,⇑3,⇑4]]]:=rfl
   rw[hx]
   generalize tuT r=R
   simp only[PP.t,Sy.t,iT]
   simp[F_2,fnD,d_2,gd,g1,g2,g3,g5]
  | yes =>
   obtain⟨c,a1,b1,hc,e⟩:=zAZ a b q hq ⋯
   refine⟨[(c,r,r)],.step,a1,b1,.yes r,fun x hx=>by rw[AE.mp hx]; exact⟨hc,hr.isT,hr.isT⟩,rfl,by simp[chk,stepOk],?_⟩
   have hx:spT [(c,r,r)]=.t [.t [iT (c:Int),tuT r,tuT r]]:=rfl
   rw[hx]
   generalize tuT r=R
   simp only[PP.t,Sy.t,iT]at e ⊢
   generalize (c:Int)=C at *
   generalize (q:Int)=QQ at *
   simp[F_2,fnD,d_2,gd,g1,g2,g3,g5,e]
  | no =>
   obtain⟨c,a1,b1,hc,e⟩:=zAZ a b q hq ⋯
   refine⟨[(c,AV 5,AV 5)],.step,a1,b1,.no r,fun x hx=>by rw[AE.mp hx]; exact⟨hc,s5,s5⟩,rfl,by simp[chk,stepOk],?_⟩
   have hx:spT [(c,AV 5,AV 5)]=.t [.t [iT (c:Int),.t [⇑0,⇑1,⇑2,⇑3,⇑4],.t [⇑0,⇑1,⇑2,⇑3,⇑4]]]:=rfl
   rw[hx]
   generalize tuT r=R
   simp only[PP.t,Sy.t,iT]at e ⊢
   generalize (c:Int)=C at *
   generalize (q:Int)=QQ at *
   simp[F_2,fnD,d_2,gd,g1,g2,g3,g5,e]
  | nt s =>
   have hb:=hr.back
   simp only[Sy.down,Sy.wt]at hd hw
   obtain⟨st,p,a1,b1,pf,ok,hl,hc,e⟩:=ih s hp hs ⋯ hw (backL r) hb a b
   have hne:st≠[]:=fun z=>by have:=pf.pos; rw[z]at this; simp at this
   refine⟨lastF st r,.nt p,a1,b1,.nt (by rw[zB3]; exact pf),zD6 ok hr.isT,by rw[zB3]; exact hl,?_,?_⟩
   ·simp only[chk]
    rw[zIP ok hr.isT]
    exact hc
   ·have ef:=zDt st r ok hne hr.isT ⋯
    have eb:=zBk 5 r hr.isT ∅
    simp only[PP.t,Sy.t]
    generalize spT (lastF st r)=L' at *
    generalize spT st=L at *
    generalize tuT (backL r)=B at *
    generalize tuT r=R at *
    generalize s.t=S at *
    generalize p.t=P at *
    simp only[iT]at *
    generalize (q:Int)=QQ at *
    simp[F_2,fnD,d_2,gd,g1,g2,g3,g5,e,ef,eb]
  | an s t =>
   simp only[Sy.down,Sy.wt]at hd hw
   obtain⟨x,y,a0,b0,rx,ry,er,ep⟩:=zMo a b hr
   obtain⟨st1,p1,a1,b1,pf1,ok1,l1,c1,e1⟩:=ih s hp.1 hs.1 ⋯ ⋯ x rx a0 b0
   obtain⟨st2,p2,a2,b2,pf2,ok2,l2,c2,e2⟩:=ih t hp.2 hs.2 ⋯ ⋯ y ry a1 b1
   obtain⟨st3,p3,a3,b3,pf3,ok3,l3,c3,e3⟩:=ih s hp.1 hs.1 ⋯ ⋯ (backL x) rx.back a2 b2
   obtain⟨st4,p4,a4,b4,pf4,ok4,l4,c4,e4⟩:=ih t hp.2 hs.2 ⋯ ⋯ (backL y) ry.back a3 b3
   have hlen:(st1++st2++st3++st4).length=st1.length+st2.length+st3.length+st4.length:=by simp only[Ax]
   refine⟨st1++st2++st3++st4,.an st1.length (st1.length+st2.length) (st1.length+st2.length+st3.length) x y p1 p2 p3 p4,a4,b4,by rw[hlen]; exact .an rx ry er pf1 pf2 pf3 pf4,sokA (sokA (sokA ok1 ok2) ok3) ok4,by rw[hlen]; simp only[Sy.wt]; lia,?_,?_⟩
   ·have t1:(st1++st2++st3++st4).take st1.length=st1:=by simp[By]
    have t2:((st1++st2++st3++st4).take (st1.length+st2.length)).drop st1.length=st2:=by
     have:(st1++st2++st3++st4).take (st1.length+st2.length)=st1++st2:=by
      rw[By (st1++st2),show st1.length+st2.length=(st1++st2).length by simp]
      exact Ib
     rw[this]; exact Gd
    have t3:((st1++st2++st3++st4).take (st1.length+st2.length+st3.length)).drop (st1.length+st2.length)=st3:=by
     have:(st1++st2++st3++st4).take (st1.length+st2.length+st3.length)=st1++st2++st3:=by
      rw[show st1.length+st2.length+st3.length=(st1++st2++st3).length by simp only[Ax]]
      exact Ib
     rw[this,show st1.length+st2.length=(st1++st2).length by simp]; exact Gd
    have t4:(st1++st2++st3++st4).drop (st1.length+st2.length+st3.length)=st4:=by
     rw[show st1.length+st2.length+st3.length=(st1++st2++st3).length by simp only[Ax]]
     exact Gd
    simp only[chk]
    rw[t1,t2,t3,t4,c1,c2,c3,c4]
    rfl
   ·have eb1:=zBk 5 x rx.isT ∅
    have eb2:=zBk 5 y ry.isT ∅
    have m1:(st1.map stT).length=st1.length:=by simp
    have m2:(st2.map stT).length=st2.length:=by simp
    have m3:(st3.map stT).length=st3.length:=by simp
    have m4:(st4.map stT).length=st4.length:=by simp
    have q1:((st1.length:Nat):Int)=(([]++st1.map stT:List T).length:Int):=by simp
    have q2:((st1.length+st2.length:Nat):Int)=((([]++st1.map stT)++st2.map stT:List T).length:Int):=by simp
    have q3:((st1.length+st2.length+st3.length:Nat):Int)=(((([]++st1.map stT)++st2.map stT)++st3.map stT:List T).length:Int):=by simp; lia
    have qs:spT (st1++st2++st3++st4)=.t (((([]++st1.map stT)++st2.map stT)++st3.map stT)++st4.map stT):=by simp[spT]
    simp only[PP.t,Sy.t]
    rw[q1,q2,q3,qs]
    have n1:st1.length+st2.length+st3.length+st4.length<=1000:=by lia
    rw[← m1,← m2,← m3,← m4]at n1
    clear q1 q2 q3 qs m1 m2 m3 m4 c1 c2 c3 c4 l1 l2 l3 l4 pf1 pf2 pf3 pf4 ok1 ok2 ok3 ok4 hlen
    unfold spT at e1 e2 e3 e4
    generalize st1.map stT=L1 at *
    generalize st2.map stT=L2 at *
    generalize st3.map stT=L3 at *
    generalize st4.map stT=L4 at *
    clear er rx ry hr
    generalize tuT (backL x)=BX at *
    generalize tuT (backL y)=BY at *
    generalize tuT x=X at *
    generalize tuT y=Y at *
    generalize tuT r=R at *
    generalize s.t=S at *
    generalize t.t=SS at *
    generalize p1.t=P1 at *
    generalize p2.t=P2 at *
    generalize p3.t=P3 at *
    generalize p4.t=P4 at *
    have u1:=fun o7 o14=>zCz (F_2 n) [iT a0,iT b0] [iT a1,iT b1] [sT "and",S,SS] [] L1 [] [] (iT (q:Int)) S P1 X 1 (~~~R) (~~~(.t [⇑0,⇑1,⇑2,⇑3,⇑4])) (~~~X) (~~~Y) none o7 o14 e1 rfl (by simp; lia) ∅ ∅
    have u2:=fun o7 o14=>zCz (F_2 n) [iT a1,iT b1] [iT a2,iT b2] [sT "and",S,SS] ([]++L1) L2 ([]++[iT (([]++L1:List T).length:Int)]) ([]++[P1]) (iT (q:Int)) SS P2 Y 2 (~~~R) (~~~(.t [⇑0,⇑1,⇑2,⇑3,⇑4])) (~~~X) (~~~Y) none o7 o14 e2 rfl (by simp; lia) (by simp) (by simp)
    have u3:=fun o7 o14=>zCz (F_2 n) [iT a2,iT b2] [iT a3,iT b3] [sT "and",S,SS] ([]++L1++L2) L3 ([]++[iT (([]++L1:List T).length:Int)]++[iT (([]++L1++L2:List T).length:Int)]) ([]++[P1]++[P2]) (iT (q:Int)) S P3 BX 1 (~~~R) (~~~(.t [⇑0,⇑1,⇑2,⇑3,⇑4])) (~~~X) (~~~Y) none o7 o14 e3 rfl (by simp; lia) (by simp) (by simp)
    have u4:=fun o7 o14=>zCz (F_2 n) [iT a3,iT b3] [iT a4,iT b4] [sT "and",S,SS] ([]++L1++L2++L3) L4 ([]++[iT (([]++L1:List T).length:Int)]++[iT (([]++L1++L2:List T).length:Int)]++[iT (([]++L1++L2++L3:List T).length:Int)]) ([]++[P1]++[P2]++[P3]) (iT (q:Int)) SS P4 BY 2 (~~~R) (~~~(.t [⇑0,⇑1,⇑2,⇑3,⇑4])) (~~~X) (~~~Y) none o7 o14 e4 rfl (by simp; lia) (by simp) (by simp)
    have loop:forD (gdTup 2 (gdCons (gdName 12) (gdCons (gdName 13) gdNil))) (zEV (F_2 n)) [.t [iT 1,X],.t [iT 2,Y],.t [iT 1,BX],.t [iT 2,BY]] [~~~[iT a0,iT b0],~~~(.t [sT "and",S,SS]),~~~(iT (q:Int)),~~~R,~~~(.t [⇑0,⇑1,⇑2,⇑3,⇑4]),none,~~~(.t []),none,~~~X,~~~Y,~~~(.t []),~~~(.t []),none,none,none] =
      some (.nx [~~~[iT a4,iT b4],~~~(.t [sT "and",S,SS]),~~~(iT (q:Int)),~~~R,~~~(.t [⇑0,⇑1,⇑2,⇑3,⇑4]),none,~~~(.t ([]++L1++L2++L3++L4)),~~~P4,~~~X,~~~Y,~~~(.t ([]++[iT (([]++L1:List T).length:Int)]++[iT (([]++L1++L2:List T).length:Int)]++[iT (([]++L1++L2++L3:List T).length:Int)]++[iT (([]++L1++L2++L3++L4:List T).length:Int)])),~~~(.t ([]++[P1]++[P2]++[P3]++[P4])),~~~(iT 2),~~~BY,~~~(.t L4)]):=by
     refine (zAl rfl (u1 none none)).trans ?_
     refine (zAl rfl (u2 _ _)).trans ?_
     refine (zAl rfl (u3 _ _)).trans ?_
     refine (zAl rfl (u4 _ _)).trans ?_
     rfl
    clear u1 u2 u3 u4 e1 e2 e3 e4
    have g4:=sL 4
    have g6:=sL 6
    have g10:=sL 10
    have cut3:∀ x y z w:T,cutT [x,y,z,w] none (some 3)=[x,y,z]:=fun x y z w=>zBc [x,y,z,w] 3
    simp only[Ce,B9]at loop ⊢
    generalize ((L1++L2++L3++L4).length:Int)=N4 at *
    generalize ((L1++L2++L3).length:Int)=N3 at *
    generalize ((L1++L2).length:Int)=N2 at *
    generalize (L1.length:Int)=N1 at *
    generalize L1++L2++L3++L4=LL at *
    generalize (q:Int)=QQ at *
    refine zKo (s:=.v (.t [.t LL,.t [sT "and",iT N1,iT N2,iT N3,X,Y,P1,P2,P3,P4]])) (rest:=[~~~(.t [sT "and",S,SS]),~~~(iT QQ),~~~R,~~~(.t [⇑0,⇑1,⇑2,⇑3,⇑4]),none,~~~(.t LL),~~~P4,~~~X,~~~Y,~~~(.t [iT N1,iT N2,iT N3,iT N4]),~~~(.t [P1,P2,P3,P4]),~~~(iT 2),~~~BY,~~~(.t L4)]) rfl ?_ rfl
    simp only[iT,sT]at *
    unfold d_2
    refine zAg (Γ':=[~~~[⇑a,⇑b],~~~(.t [.a (.str "and"),S,SS]),~~~(⇑QQ),~~~R,~~~(.t [⇑0,⇑1,⇑2,⇑3,⇑4]),none,none,none,none,none,none,none,none,none,none]) (by simp[gd,g5]) ?_
    refine zAg (Γ':=[~~~[⇑a,⇑b],~~~(.t [.a (.str "and"),S,SS]),~~~(⇑QQ),~~~R,~~~(.t [⇑0,⇑1,⇑2,⇑3,⇑4]),none,none,none,none,none,none,none,none,none,none]) (by simp) ?_
    refine zAg (Γ':=[~~~[⇑a,⇑b],~~~(.t [.a (.str "and"),S,SS]),~~~(⇑QQ),~~~R,~~~(.t [⇑0,⇑1,⇑2,⇑3,⇑4]),none,none,none,none,none,none,none,none,none,none]) (by simp) ?_
    refine zAg (Γ':=[~~~[⇑a,⇑b],~~~(.t [.a (.str "and"),S,SS]),~~~(⇑QQ),~~~R,~~~(.t [⇑0,⇑1,⇑2,⇑3,⇑4]),none,none,none,none,none,none,none,none,none,none]) (by simp) ?_
    refine zAg (Γ':=[~~~[⇑a0,⇑b0],~~~(.t [.a (.str "and"),S,SS]),~~~(⇑QQ),~~~R,~~~(.t [⇑0,⇑1,⇑2,⇑3,⇑4]),none,none,none,~~~X,~~~Y,none,none,none,none,none]) (by simp[dUnpL,ep]) ?_
    refine zAg (Γ':=[~~~[⇑a0,⇑b0],~~~(.t [.a (.str "and"),S,SS]),~~~(⇑QQ),~~~R,~~~(.t [⇑0,⇑1,⇑2,⇑3,⇑4]),none,~~~(.t []),none,~~~X,~~~Y,~~~(.t []),~~~(.t []),none,none,none]) (by simp[gd,g3]) ?_
    refine zAg (Γ':=_) ((?_:_=_).trans loop) ?_
    ·simp[gd,g2,g4,eb1,eb2]
    ·simp[gd,g1,g2,g4,g6,g10,cut3]
def spL:Nat->T->List (List Nat)
 | 0,_=>[[]]
 | d+1,x=>[]::(unT x).zipIdx.flatMap fun p=>(spL d p.1).map fun w=>p.2::w
def Wy:T->List Nat->Prop
 | _,[]=>True
 | x,k::r=>∃ xs y,x=.t xs/\xs[k]?=some y/\Wy y r
theorem zPA(d:Nat)(x:T):1<=(spL d x).length:=by cases d <;> simp[spL]
theorem zEz:∀ (d:Nat) (x:T),(spL d x).length<=tsz x
 | 0,x=>zHg x
 | d+1,x=>by
  have go:∀ (xs:List T) (k:Nat),((xs.zipIdx k).flatMap fun p=>(spL d p.1).map fun w=>p.2::w).length<=tszs xs:=fun xs=>by
   induction xs with
   | nil=>exact fun k=>AF _
   | cons y r ih =>
    intro k
    have:=ih (k+1)
    have:=zEz d y
    rw[EU,IE,Ax,Bg,tszs]
    dsimp only
    lia
  cases x with
  | t xs=>have:=go xs 0; simp only[spL,zBr,B8,tsz]; lia
  | _=>exact AF _
theorem zDm:∀ {d:Nat} {x:T} {w:List Nat},w∈spL d x->w.length<=d
 | 0,_,w,h=>by have:=AE.mp h; subst this; exact AF _
 | d+1,x,w,h=>by
  rcases AH.mp h with h | h
  ·subst h; exact Ca _
  ·obtain⟨p,_,h⟩:=Eb.mp h
   obtain⟨v,hv,rfl⟩:=Bh.mp h
   have:=zDm hv
   simpa using this
theorem zEX:∀ {d:Nat} {x:T} {w:List Nat},w∈spL d x->Wy x w
 | 0,_,w,h=>by have:=AE.mp h; subst this; exact trivial
 | d+1,x,w,h=>by
  rcases AH.mp h with h | h
  ·subst h; exact trivial
  ·obtain⟨p,hp,h⟩:=Eb.mp h
   obtain⟨v,hv,rfl⟩:=Bh.mp h
   cases x with
   | t xs =>
    obtain⟨h1,h2⟩:=List.mem_zipIdx' (show p∈xs.zipIdx from hp)
    exact⟨xs,p.1,rfl,by rw[h2]; exact Bb h1,zEX hv⟩
   | _=>cases hp
theorem zEK(rec:DF)(d:Nat)(hd:d<=100)(X:Option G):∀ (xs:List T) (k:Nat) (acc:List (List Nat)) (o2 o3:Option G),(∀ x∈xs,rec [.v x]=some (.l ((spL d x).map tuT),[]))->acc.length+tszs xs<=90000->∃ o2' o3',forD (gdTup 2 (gdCons (gdName 2) (gdCons (gdName 3) gdNil))) (zDX rec) ((xs.zipIdx k).map fun p=>.t [⇑(p.2:Int),p.1]) [X,some (.l (acc.map tuT)),o2,o3] =
  some (.nx [X,some (.l ((acc++(xs.zipIdx k).flatMap fun p=>(spL d p.1).map fun w=>p.2::w).map tuT)),o2',o3'])
 | [],k,acc,o2,o3,_,_=>⟨o2,o3,by rw[GH,A7,zBU,List.flatMap_nil,Do]⟩
 | x::r,k,acc,o2,o3,h,hl=>by
  rw[tszs]at hl
  have sl:=zEz d x
  obtain⟨o2',o3',e⟩:=zEK rec d hd X r (k+1) (acc++(spL d x).map fun w=>k::w) (~~~(iT (k:Int))) (~~~x) (fun y hy=>h y (AR _ hy)) (by simp; lia)
  refine⟨o2',o3',?_⟩
  have e1:=h x AZ
  obtain⟨oo,e2⟩:=zBR tuT (fun w=>tuT (k::w)) (de:=zEY rec) (R:=[~~~(iT (k:Int))]) (spL d x) (fun w hw=>by
   have:=zDm hw
   have g1:=sL 1
   have g:1+w.length<=AB:=zAM ⋯
   simp[zEY,gd,g1,g]) none
  have e2':compD (gdName 0) dYes (zEY rec) ((spL d x).map tuT) [none,~~~(iT (k:Int))]=some (((spL d x).map fun w=>k::w).map tuT,[oo,~~~(iT (k:Int))]):=by
   rw[e2,DR]; rfl
  have g1:((spL d x).map tuT).length<=AB:=zAM (by simp; lia)
  have g2:(acc.map tuT).length+(((spL d x).map fun w=>k::w).map tuT).length<=AB:=zAM (by simp; lia)
  have turn:zDX rec [X,some (.l (acc.map tuT)),~~~(iT (k:Int)),~~~x]=↥([X,some (.l ((acc++(spL d x).map fun w=>k::w).map tuT)),~~~(iT (k:Int)),~~~x]):=by
   rw[Cf]
   have gA:(acc.map tuT).length<=AB:=by lia
   generalize ((spL d x).map fun w=>k::w).map tuT=N at *
   generalize (spL d x).map tuT=S0 at *
   generalize acc.map tuT=A at *
   simp only[iT]at e2' ⊢
   simp[zDX,e1,gd,g1,e2',hExtend,g2,gA]
  rw[EU,Ab,zAl rfl turn,e,IE,By]
theorem zLB:∀ (n d:Nat) (x:T),Th d x->d<=n->n<=100->tsz x<=50000->F_6 (n+1) [.v x]=some (.l ((spL d x).map tuT),[]):=by
 intro n
 induction n with
 | zero =>
  intro d x h hd hn hz
  have:d=0:=by lia
  subst this
  have e:=h.isi_tup
  have g0:=sL 0
  have g1:=sL 1
  cases h <;> simp[F_6,fnD,d_6,e,gd,g0,g1,spL]
 | succ n ih =>
  intro d x h hd hn hz
  have e:=h.isi_tup
  have g0:=sL 0
  have g1:=sL 1
  cases h with
  | int i=>rw[show spL d (iT i)=[[]] by cases d <;> simp[spL]]; rw[F_6]; simp[fnD,d_6,e,gd,g0,g1]
  | str w hw=>rw[show spL d (sT w)=[[]] by cases d <;> simp[spL]]; rw[F_6]; simp[fnD,d_6,e,gd,g0,g1]
  | @tup d xs hx hl =>
   rw[tsz]at hz
   have tsm:∀ (xs:List T) (y:T),y∈xs->tsz y<=tszs xs:=fun xs y hy=>by
    induction xs with
    | nil=>cases hy
    | cons z r ih =>
             rw[tszs]; rcases AH.mp hy with q | q
             ·subst q; lia
             ·have:=ih q; lia
   obtain⟨o2,o3,e2⟩:=zEK (F_6 (n+1)) d ⋯ (~~~(.t xs)) xs 0 [[]] none none (fun y hy=>ih d y (hx y hy) ⋯ ⋯ (by have:=tsm xs y hy; lia)) (by simp; lia)
   have g:xs.length<=AB:=zAM ⋯
   have e2':forD (gdTup 2 (gdCons (gdName 2) (gdCons (gdName 3) gdNil))) (zDX (F_6 (n+1))) (enumT xs) [~~~(.t xs),~~~[.t []],none,none]=↥([~~~(.t xs),some (.l ((spL (d+1) (.t xs)).map tuT)),o2,o3]):=e2
   generalize (spL (d+1) (.t xs)).map tuT=R at *
   rw[F_6]
   simp[fnD,d_6,dEnum,e,gd,g0,g1,g,e2']
theorem zHk(o1:Option G):∀ (w:List Nat) (x:T) (d:Nat) (o2:Option G),Wy x w->Th d x->∃ y o2',Th d y/\tsz y<=tsz x/\forD (gdName 2) zBx (tvT w) [~~~x,o1,o2]=↥([~~~y,o1,o2'])
 | [],x,d,o2,_,h=>⟨x,o2,h,AF _,by simp only[tvT,A7]; rw[zBU]⟩
 | k::r,x,d,o2,⟨xs,y,hx,hk,hw⟩,h=>by
  subst hx
  cases h with
  | @tup d xs hxs hl =>
   have hy:=hxs y (Ct hk)
   obtain⟨z,o2',hz,sz,e⟩:=zHk o1 r y d (~~~(iT (k:Int))) hw hy
   have tsm:tsz y<=tszs xs:=by
    clear e hxs hl
    induction xs generalizing k with
    | nil=>simp at hk
    | cons a l ih =>
             rw[tszs]; cases k with
             | zero=>simp at hk; subst hk; lia
             | succ k=>have:=ih k (by simpa using hk); lia
   refine⟨z,o2',hz.mono ⋯,by rw[tsz]; lia,?_⟩
   have g:xs.length<=AB:=zAM ⋯
   have a1:atI xs (k:Int)=some y:=by rw[zHe]; exact hk
   have turn:zBx [~~~(.t xs),o1,~~~(iT (k:Int))]=↥([~~~y,o1,~~~(iT (k:Int))]):=by
    simp[zBx,a1,gd,g]
   have:tvT (k::r)=iT (k:Int)::tvT r:=rfl
   rw[this,zAl rfl turn]; exact e
theorem zGA:∀ (w:List Nat) (n:Nat) (x y:T) (d e:Nat),w.length<=n->n<=1000->Wy x w->Th d x->Th e y->∃ z,Th (d+e) z/\tsz z<=tsz x+tsz y/\F_3 (n+1) [.v x,.v (tuT w),.v y]=some (.v z,[])
 | [],n,x,y,d,e,_,_,_,_,hy=>⟨y,hy.mono ⋯,by lia,by rw[F_3]; simp[fnD,d_3]⟩
 | k::r,0,x,y,d,e,hn,_,_,_,_=>by simp at hn
 | k::r,n+1,x,y,d,e,hn,hn1,⟨xs,u,hx,hk,hw⟩,h,hy=>by
  subst hx
  cases h with
  | @tup d xs hxs hl =>
   have hu:=hxs u (Ct hk)
   rw[B8]at hn
   obtain⟨z,hz,sz,ez⟩:=zGA r n u y d e ⋯ ⋯ hw hu hy
   have kl:k < xs.length:=(Aa.mp hk).1
   have tsp:tszs (xs.take k++[z]++xs.drop (k+1))+tsz u=tszs xs+tsz z:=by
    clear ez hz sz hxs hl
    induction xs generalizing k with
    | nil=>simp at hk
    | cons a l ih =>
             cases k with
             | zero=>simp at hk; subst hk; simp[tszs]; lia
             | succ k=>have:=ih k (by simpa using hk) (by simpa using kl); simp[tszs]at this ⊢; lia
   refine⟨.t (xs.take k++[z]++xs.drop (k+1)),?_,by rw[tsz,tsz]; lia,?_⟩
   ·have:d+1+e=(d+e)+1:=by lia
    rw[this]
    refine .tup _ (fun v hv=>?_) (by simp; lia)
    rcases Bp.mp hv with hv | hv
    ·rcases Bp.mp hv with hv | hv
     ·exact (hxs v (HQ hv)).mono ⋯
     ·rw[AE.mp hv]; exact hz
    ·exact (hxs v (HR hv)).mono ⋯
   ·have g:xs.length<=AB:=zAM ⋯
    have g1:=sL 1
    have gr:(tvT (k::r)).length<=AB:=zAM (by simp; lia)
    have gk:(xs.take k).length+1<=AB:=zAM (by simp; lia)
    have gm:(xs.take k).length+1+(xs.drop (k+1)).length<=AB:=zAM (by simp; lia)
    have a1:atI xs (k:Int)=some u:=by rw[zHe]; exact hk
    have a2:atI (tvT (k::r)) 0=some (iT (k:Int)):=by rw[show (0:Int)=((0:Nat):Int) from rfl,zAk]; rfl
    have c1:=zBc xs k
    have c2:=zBb xs (k+1)
    have c3:cutT (tvT (k::r)) (some 1) none=tvT r:=zBb (tvT (k::r)) 1
    have ck:((k+1:Nat):Int)=(k:Int)+1:=by lia
    rw[ck]at c2
    have nl:(tvT (k::r)).length=r.length+1:=by simp
    have ne:¬ ((r.length:Int)+1=0):=by lia
    rw[F_3]
    simp only[tuT]at ez ⊢
    generalize tvT (k::r)=W1 at *
    generalize tvT r=W2 at *
    generalize xs.take k=X1 at *
    generalize xs.drop (k+1)=X2 at *
    simp only[iT]at a2
    simp[fnD,d_3,gd,g,g1,gr,gk,gm,a1,a2,c1,c2,c3,ez,nl,ne]
def byN (r:List Nat):List Nat:=[(rowR r).getD 0 0,(rowR r).getD 1 0,(rowR r).getD 4 0,(rowR r).getD 3 0,(rowR r).getD 2 0]
def nrA (r:List Nat):List Nat:=thenL (thenL (backL (byN r)) [1,2,0,3,4]) (byN r)
def nrB (r:List Nat):List Nat:=thenL (thenL (backL (byN r)) [3,4,2,0,1]) (byN r)
noncomputable def nrS:Sy->List Nat->Stp
 | .ask q,a=>(q,a,AV 5)
 | .yes,a=>(0,a,a)
 | _,_=>(0,AV 5,AV 5)
def nrL (s t:Sy) (r:List Nat):List Stp:=[nrS s (nrA r),nrS t (nrB r),nrS s (backL (nrA r)),nrS t (backL (nrB r))]
def nrP (r:List Nat):T:=.t [sT "and",iT 1,iT 2,iT 3,tuT (nrA r),tuT (nrB r),.t [sT "step"],.t [sT "step"],.t [sT "step"],.t [sT "step"]]
noncomputable def lfS:Sy->Prop
 | .ask _=>True
 | .yes=>True
 | .no=>True
 | _=>False
theorem zOr(hs:lfS s)(ht:lfS t):(rings5.map fun r=>F_21 [.v s.t,.v t.t,.v (tuT r)])=rings5.map fun r=>some (.v (.t [spT (nrL s t r),nrP r]),[]):=by
 cases s <;> cases hs <;> cases t <;> cases ht <;> kernel_rfl
theorem zOy:(rings5.all fun r=>isTb 5 (nrA r) && (isTb 5 (nrB r) && (isTb 5 (backL (nrA r)) && isTb 5 (backL (nrB r)))))=true:=by decide +kernel
theorem zCO(h:t.length=n)(hn:n<=5):Th (d+1) (tuT t)/\tsz (tuT t)<=6:=by
 refine⟨.tup _ (fun x hx=>?_) (by simp; lia),?_⟩
 ·obtain⟨k,_,rfl⟩:=Bh.mp hx; exact .int _
 ·have go:∀ t:List Nat,tszs (tvT t)=t.length:=fun t=>by
   induction t with
   | nil=>rfl
   | cons k r ih=>simp only[tvT,Ab,tszs,tsz,B8]at ih ⊢; lia
  have:=go t
  simp only[tuT,tsz]
  lia
theorem wd3:("step":Str)∈wds/\("not":Str)∈wds/\("and":Str)∈wds:=by simp[wds]
theorem zPz(hs:lfS s)(ht:lfS t)(hq:0 < q)(sq:s.qs q)(tq:t.qs q)(hr:Rg r):∃ (st:List Stp) (p:T),StOk 5 q st/\st.length<=10/\Th 2 p/\tsz p<=100/\F_21 [.v s.t,.v t.t,.v (tuT r)]=some (.v (.t [spT st,p]),[]):=by
 have e:=Fo.mp (zOr hs ht) r hr.mem
 have f:=Aw.mp zOy r hr.mem
 simp only[AW]at f
 obtain⟨f1,f2,f3,f4⟩:=f
 have i1:=zCH f1
 have i2:=zCH f2
 have i3:=zCH f3
 have i4:=zCH f4
 have one:∀ (u:Sy) (a:List Nat),u.qs q->IsT 5 a->(nrS u a).1 < q/\IsT 5 (nrS u a).2.1/\IsT 5 (nrS u a).2.2:=fun u a hu ha=>by
  cases u with
  | ask k=>exact⟨hu,ha,zCX 5⟩
  | yes=>exact⟨hq,ha,ha⟩
  | _=>exact⟨hq,zCX 5,zCX 5⟩
 refine⟨nrL s t r,nrP r,fun x hx=>?_,by simp[nrL],?_,?_,e⟩
 ·simp only[nrL,AH,AS,or_false]at hx
  rcases hx with z | z | z | z <;> subst z
  ·exact one s _ sq i1
  ·exact one t _ tq i2
  ·exact one s _ sq i3
  ·exact one t _ tq i4
 ·have t1:=(zCO (d:=0) i1.len ∅).1
  have t2:=(zCO (d:=0) i2.len ∅).1
  have ts:Th 1 (.t [sT "step"]):=.tup _ (fun x hx=>by rw[AE.mp hx]; exact .str _ wd3.1) (by simp)
  refine .tup _ (fun x hx=>?_) (by simp)
  simp only[AH,AS,or_false]at hx
  rcases hx with z | z | z | z | z | z | z | z | z | z <;> subst z <;> first | exact .int _ | exact .str _ wd3.2.2 | exact t1 | exact t2 | exact ts
 ·have t1:=(zCO (d:=0) i1.len ∅).2
  have t2:=(zCO (d:=0) i2.len ∅).2
  simp only[nrP,tsz,tszs]at t1 t2 ⊢
  lia
mutual
def wid:T->Bool
 | .t xs=>decide (xs.length<=10) && wids xs
 | _=>true
def wids:List T->Bool
 | []=>true
 | x::r=>wid x && wids r
end
theorem zGj:∀ {xs:List T} {k:Nat} {y:T},wids xs=true->xs[k]?=some y->wid y=true
 | [],_,_,_,h=>by simp at h
 | x::r,0,y,hw,h=>by
  simp at h; subst h
  rw[wids,AW]at hw; exact hw.1
 | x::r,k+1,y,hw,h=>by
  rw[wids,AW]at hw
  exact zGj hw.2 (by simpa using h)
def Nr (d B:Nat) (x:T):Prop:=Th d x/\tsz x<=B/\wid x=true
theorem zJw:∀ {w:List Nat} {x y:T} {o1 o2 o2':Option G},Wy x w->wid x=true->(∀ xs,x=.t xs->xs.length<=40)->forD (gdName 2) zBx (tvT w) [~~~x,o1,o2]=some (.nx [~~~y,o1,o2'])->wid y=true
 | [],x,y,o1,o2,o2',_,hw,_,e=>by
  simp only[tvT,A7]at e
  rw[zBU]at e
  have:=Ak e
  injection this with this
  have h1:=(K9 this).1
  have h2:=Ak h1
  injection h2 with h2
  rw[← h2]; exact hw
 | k::r,x,y,o1,o2,o2',⟨xs,z,hx,hk,hy⟩,hw,hl,e=>by
  subst hx
  rw[wid,AW]at hw
  have g:xs.length<=AB:=zAM (by have:=hl xs rfl; lia)
  have a1:atI xs (k:Int)=some z:=by rw[zAk]; exact hk
  have turn:zBx [~~~(.t xs),o1,~~~(iT (k:Int))]=↥([~~~z,o1,~~~(iT (k:Int))]):=by
   simp[zBx,a1,gd,g]
  have:tvT (k::r)=iT (k:Int)::tvT r:=rfl
  rw[this,zAl rfl turn]at e
  have wz:=zGj hw.2 hk
  refine zJw hy wz (fun ys hz=>?_) e
  subst hz
  rw[wid,AW]at wz
  have:=of_decide_eq_true wz.1
  lia
theorem zMD(hw:Wy x w)(h:Nr d B x)(hl:w.length<=1000):∃ y,Nr d B y/\F_48 [.v x,.v (tuT w)]=some (.v y,[]):=by
 obtain⟨y,o2,hy,sz,e⟩:=zHk (~~~(tuT w)) w x d none hw h.1
 refine⟨y,⟨hy,Ai sz h.2.1,zJw hw h.2.2 (fun xs hx=>?_) e⟩,?_⟩
 ·subst hx
  have:=h.2.2
  rw[wid,AW]at this
  have:=of_decide_eq_true this.1
  lia
 have g:(tvT w).length<=AB:=zAM (by simp; lia)
 simp only[tuT]at e ⊢
 generalize tvT w=V at *
 simp[F_48,fnD,d_48,gd,g,e]
theorem zNW{P:T->Prop}{L:List T}{k:Nat}(hk:k < L.length)(h:∀ x∈L,P x):∃ x,P x/\atI L (k:Int)=some x:=⟨L[k],h _ (B7 hk),by rw[zAk]; exact Bb hk⟩
theorem zCo(a b:Int):∃ r a' b',Rg r/\F_49 [.l [iT a,iT b],.v (iT 5)]=some (.v (tuT r),[iT a',iT b']):=by
 obtain⟨row,a4,b4,_,hp,hr0,e5⟩:=zMp a b 5 ∅ ∅
 refine⟨_,a4,b4,?_,e5⟩
 have:=Aw.mp allR5 row (zDL (zCb hp))
 simp only[El,bne_iff_ne,ne_eq]at this
 rcases this with z | z
 ·exact absurd hr0 z
 ·exact⟨by simpa using z⟩
theorem zKi(xs:List T):cutT xs none (some (-1))=xs.dropLast:=by
 cases xs with
 | nil=>rfl
 | cons x r=>exact zD1 _ (by simp)
theorem zK1(h:Th d x):Th (d+1) (.t [sT "not",x]):=.tup _ (fun y hy=>by
 rcases AH.mp hy with z | z
 ·subst z; exact .str _ wd3.2.1
 ·rw[AE.mp z]; exact h) (by simp)
theorem zDT(h:Th d x):Th (d+1) (.t [x]):=.tup _ (fun y hy=>by rw[AE.mp hy]; exact h) (by simp)
theorem zC7:∀ (a b:List T),tszs (a++b)=tszs a+tszs b
 | [],b=>by simp[tszs]
 | x::r,b=>by rw[B9,tszs,tszs,zC7 r b]; lia
theorem zGl:∀ a:List T,tszs a.reverse=tszs a
 | []=>rfl
 | x::r=>by rw[DQ,zC7,zGl r,tszs,tszs,tszs]; lia
theorem zM9(a b:Int)(h:Nr d B x)(hd:d<=50)(hB:B<=25000):∃ (z:T) (a' b':Int),Th (d+d+3) z/\tsz z<=3 * B+20/\F_50 [.l [iT a,iT b],.v x]=some (.v z,[iT a',iT b']):=by
 have e1:F_6 zDC [.v x]=some (.l ((spL d x).map tuT),[]):=zLB 59 d x h.1 ⋯ ∅ (by have:=h.2.1; lia)
 have sl:=zEz d x
 have sn:=zPA d x
 have hx:=h.2.1
 obtain⟨k1,a1,b1,hk1,t1⟩:=zAZ a b (spL d x).length ⋯ ⋯
 obtain⟨k2,a2,b2,hk2,t2⟩:=zAZ a1 b1 (spL d x).length ⋯ ⋯
 obtain⟨k3,a3,b3,hk3,t3⟩:=zAZ a2 b2 12 ∅ ∅
 obtain⟨r,a4,b4,hr,t4⟩:=zCo a3 b3
 have w1:(spL d x)[k1]∈spL d x:=B7 hk1
 have w2:(spL d x)[k2]∈spL d x:=B7 hk2
 have i1:atI ((spL d x).map tuT) (k1:Int)=some (tuT (spL d x)[k1]):=by rw[zAk]; simp[hk1]
 have i2:atI ((spL d x).map tuT) (k2:Int)=some (tuT (spL d x)[k2]):=by rw[zAk]; simp[hk2]
 generalize (spL d x)[k1]=v1 at *
 generalize (spL d x)[k2]=v2 at *
 have l1:=zDm w1
 have l2:=zDm w2
 obtain⟨one,h1,f1⟩:=zMD (zEX w1) h ⋯
 obtain⟨oth,h2,f2⟩:=zMD (zEX w2) h ⋯
 have z1:=h1.2.1
 have z2:=h2.2.1
 have m1:Th (d+2) one:=h1.1.mono ⋯
 have m2:Th (d+2) oth:=h2.1.mono ⋯
 have rt:=zCO (d:=d+1) hr.isT.len ∅
 have hlw:((spL d x).map tuT).length=(spL d x).length:=by simp
 have gw:(spL d x).length<=AB:=zAM ⋯
 have t3':F_10 [.l [iT a2,iT b2],.v (⇑12)]=some (.v (iT (k3:Int)),[iT a3,iT b3]):=t3
 have t4':F_49 [.l [iT a3,iT b3],.v (⇑5)]=some (.v (tuT r),[iT a4,iT b4]):=t4
 have fin:∀ (L:List T),1<=L.length->L.length<=20->(∀ y∈L,Th (d+2) y/\tsz y<=2 * B+10)->∀ (o4 o5:Option G),∃ (z:T) (a' b':Int) (Γ:En),Th (d+d+3) z/\tsz z<=3 * B+20 /\
   (dSeq (dSet 7 (dCall none (F_3 zDM) [] (jW (jV 1) (jW (jV 3) (jW (dOp ixS (jV 6) (dCall (some 0) F_10 [] (jW (jV 0) (jW (dCB lenS (jW (jV 6) qQ)) qQ)))) qQ)))))
    (dSeq (dIf (dTru (dCB isiS (jW (jV 7) (jW (dC (.ty "tuple")) qQ)))) (dRet (jV 7)) dNext)
    (dRet (dTup (jW (jV 7) qQ))))) [~~~[iT a4,iT b4],~~~x,some (.l ((spL d x).map tuT)),~~~(tuT v1),o4,o5,some (.l L),none]=some (.rt (.v z) (some (.l [iT a',iT b'])::Γ)):=fun L hL1 hL2 hL o4 o5=>by
  obtain⟨k,a5,b5,hk,t5⟩:=zAZ a4 b4 L.length ⋯ ⋯
  obtain⟨y,⟨hy,sy⟩,ey⟩:=zNW hk hL
  obtain⟨z,hz,sz,ez⟩:=zGA v1 59 x y d (d+2) ⋯ ∅ (zEX w1) h.1 hy
  have ez':F_3 zDM [.v x,.v (tuT v1),.v y]=some (.v z,[]):=ez
  have gL:L.length<=AB:=zAM ⋯
  have g1:=sL 1
  have ii:=hz.isi_tup
  generalize (spL d x).map tuT=SP at *
  generalize tuT v1=V1 at *
  simp only[iT]at t5
  have key:(∃ xs,z=.t xs)\/(∃ v,z=.a v):=by
   have hz':=hz
   generalize d+(d+2)=D at hz'
   cases hz' with
   | int i=>exact .inr ⟨_,rfl⟩
   | str w _=>exact .inr ⟨_,rfl⟩
   | tup xs _ _=>exact .inl ⟨xs,rfl⟩
  rcases key with ⟨xs,rfl⟩ | ⟨v,rfl⟩
  ·refine⟨.t xs,a5,b5,[~~~x,some (.l SP),~~~V1,o4,o5,some (.l L),~~~(.t xs)],hz.mono ⋯,by lia,?_⟩
   simp only[iT]
   simp[t5,ey,ez',gd,gL,ii]
  ·refine⟨.t [.a v],a5,b5,[~~~x,some (.l SP),~~~V1,o4,o5,some (.l L),~~~(.a v)],(zDT hz).mono ⋯,by simp only[tsz,tszs]at sz ⊢; lia,?_⟩
   simp only[iT]
   simp[t5,ey,ez',gd,gL,g1,ii]
 have hS:∀ y∈([oth,.t [sT "step"],.t [sT "not",one],sT "step",iT (k3:Int),tuT r,.t [],.t [one]]:List T),Th (d+2) y/\tsz y<=2 * B+10:=fun y hy=>by
  simp only[AH,AS,or_false]at hy
  rcases hy with q | q | q | q | q | q | q | q <;> subst q
  ·exact⟨m2,by lia⟩
  ·exact⟨(zDT (.str _ wd3.1) (d:=d+1)),by simp only[tsz,tszs,EI]; lia⟩
  ·exact⟨(zK1 h1.1).mono ⋯,by simp only[tsz,tszs]; lia⟩
  ·exact⟨.str _ wd3.1,by simp only[tsz]; lia⟩
  ·exact⟨.int _,by simp only[tsz]; lia⟩
  ·exact⟨rt.1,by have:=rt.2; lia⟩
  ·exact⟨.tup _ (fun x hx=>nomatch hx) (by simp),by simp only[tsz,tszs,EI]; lia⟩
  ·exact⟨(zDT h1.1).mono ⋯,by simp only[tsz,tszs]; lia⟩
 have g0:=sL 0
 have g1:=sL 1
 have g2:=sL 2
 have g8:=sL 8
 have iT1:=h1.1.isi_tup
 have iI1:=h1.1.isi_int
 obtain⟨L,hL1,hL2,hL,eL⟩:∃ L:List T,1<=L.length/\L.length<=20/\(∀ y∈L,Th (d+2) y/\tsz y<=2 * B+10)/\∀ K:DS,(dSeq (dIf (dTru (dCB isiS (jW (jV 4) (jW (dC (.ty "int")) qQ)))) (dSet 6 (dLst (jW (dOp addS (jV 4) (dC (.int 1))) (jW (dOp subS (jV 4) (dC (.int 1))) (jW (dOp addS (jV 4) (dC (.int 1))) (jW (dOp subS (jV 4) (dC (.int 1))) (jW (dOp subS (dC (.int 0)) (jV 4)) (jW (jV 5) (jW (dC (.str "not")) (jW (dTup (jW (jV 4) qQ)) qQ)))))))))) dNext)
   (dSeq (dIf (dTru (dCB isiS (jW (jV 4) (jW (dC (.ty "tuple")) qQ)))) (dSet 6 (dOp addS (jV 6) (dLst (jW (dOp addS (jV 4) (dTup (jW (jV 5) qQ))) (jW (dSl (jV 4) dNoPart (dPart (dUn negS (dC (.int 1))))) (jW (dTRev (jW (jV 4) qQ)) qQ)))))) dNext) K))
   [~~~[iT a4,iT b4],~~~x,some (.l ((spL d x).map tuT)),~~~(tuT v1),~~~one,~~~oth,~~~[oth,.t [sT "step"],.t [sT "not",one],sT "step",iT (k3:Int),tuT r,.t [],.t [one]],none] =
   K [~~~[iT a4,iT b4],~~~x,some (.l ((spL d x).map tuT)),~~~(tuT v1),~~~one,~~~oth,some (.l L),none]:=by
  have h1':=h1.1
  generalize (spL d x).map tuT=SP at *
  generalize tuT v1=V1 at *
  generalize tuT r=RR at *
  cases h1' with
  | int i =>
   refine⟨[iT (i+1),iT (i - 1),iT (i+1),iT (i - 1),iT (0 - i),oth,sT "not",.t [iT i]],by simp,by simp,fun y hy=>?_,fun K=>?_⟩
   ·simp only[AH,AS,or_false]at hy
    rcases hy with q | q | q | q | q | q | q | q <;> subst q <;> first | exact⟨.int _,by simp only[tsz]; lia⟩ | exact⟨m2,by lia⟩ | exact⟨.str _ wd3.2.1,by simp only[tsz]; lia⟩ | exact⟨zDT (.int _) (d:=d+1),by simp only[tsz,tszs,EI]; lia⟩
   ·simp only[iT]
    simp[iI1,iT1,intB,gd,g1,g8]
  | str w hw =>
   refine⟨_,by simp,by simp,hS,fun K=>?_⟩
   simp only[iT]
   simp[iI1,iT1,intB]
  | @tup d' xs hxs hl =>
   have wx:=h1.2.2
   rw[wid,AW]at wx
   have xl:=of_decide_eq_true wx.1
   rw[tsz]at z1
   have gx1:xs.length+1<=AB:=zAM ⋯
   have gx:xs.length<=AB:=zAM ⋯
   have g3:=sL 3
   have g11:(8:Nat)+3<=AB:=by decide
   have cm:cutT xs none (some (-1))=xs.dropLast:=zKi xs
   refine⟨[oth,.t [sT "step"],.t [sT "not",.t xs],sT "step",iT (k3:Int),RR,.t [],.t [.t xs]]++[.t (xs++[oth]),.t xs.dropLast,.t xs.reverse],by simp,by simp,fun y hy=>?_,fun K=>?_⟩
   ·rcases Bp.mp hy with hy | hy
    ·exact hS y hy
    ·simp only[AH,AS,or_false]at hy
     rcases hy with q | q | q <;> subst q
     ·refine⟨.tup _ (fun v hv=>?_) (by simp; lia),by rw[tsz,zC7,tszs,tszs]; lia⟩
      rcases Bp.mp hv with hv | hv
      ·exact (hxs v hv).mono ⋯
      ·rw[AE.mp hv]; exact h2.1.mono ⋯
     ·refine⟨.tup _ (fun v hv=>(hxs v (HN _ hv)).mono ⋯) (by simp; lia),?_⟩
      rcases HI xs with q | ⟨ys,y,q⟩
      ·subst q; simp only[tsz,tszs,EI]; lia
      ·subst q; rw[Ey,HP,tsz]; rw[Ey,zC7]at z1; lia
     ·exact⟨.tup _ (fun v hv=>(hxs v (List.mem_reverse.mp hv)).mono ⋯) (by simp; lia),by rw[tsz,zGl]; lia⟩
   ·simp only[iT]
    simp[iI1,iT1,intB,gd,g1,g3,g11,gx,gx1,cm]
 obtain⟨z,a',b',Γ,hz,sz,ez⟩:=fin L hL1 hL2 hL (~~~one) (~~~oth)
 refine⟨z,a',b',hz,sz,?_⟩
 have body:d_50 [~~~[iT a,iT b],~~~x,none,none,none,none,none,none]=some (.rt (.v z) (some (.l [iT a',iT b'])::Γ)):=by
  unfold d_50
  have s1:dSet 2 (dCall none (F_6 zDC) [] (jW (jV 1) qQ)) [~~~[iT a,iT b],~~~x,none,none,none,none,none,none]=↥([~~~[iT a,iT b],~~~x,some (.l ((spL d x).map tuT)),none,none,none,none,none]):=by
   simp[e1]
  rw[zCf s1]
  have s2:dSet 3 (dOp ixS (jV 2) (dCall (some 0) F_10 [] (jW (jV 0) (jW (dCB lenS (jW (jV 2) qQ)) qQ)))) [~~~[iT a,iT b],~~~x,some (.l ((spL d x).map tuT)),none,none,none,none,none]=↥([~~~[iT a1,iT b1],~~~x,some (.l ((spL d x).map tuT)),~~~(tuT v1),none,none,none,none]):=by
   generalize (spL d x).map tuT=SP at *
   generalize tuT v1=V1 at *
   simp only[iT]at t1 ⊢
   simp[t1,hlw,gd,gw,i1]
  rw[zCf s2]
  have s3:dSet 4 (dCall none F_48 [] (jW (jV 1) (jW (jV 3) qQ))) [~~~[iT a1,iT b1],~~~x,some (.l ((spL d x).map tuT)),~~~(tuT v1),none,none,none,none]=↥([~~~[iT a1,iT b1],~~~x,some (.l ((spL d x).map tuT)),~~~(tuT v1),~~~one,none,none,none]):=by
   generalize (spL d x).map tuT=SP at *
   generalize tuT v1=V1 at *
   simp[f1]
  rw[zCf s3]
  have s4:dSet 5 (dCall none F_48 [] (jW (jV 1) (jW (dOp ixS (jV 2) (dCall (some 0) F_10 [] (jW (jV 0) (jW (dCB lenS (jW (jV 2) qQ)) qQ)))) qQ))) [~~~[iT a1,iT b1],~~~x,some (.l ((spL d x).map tuT)),~~~(tuT v1),~~~one,none,none,none]=↥([~~~[iT a2,iT b2],~~~x,some (.l ((spL d x).map tuT)),~~~(tuT v1),~~~one,~~~oth,none,none]):=by
   generalize (spL d x).map tuT=SP at *
   generalize tuT v1=V1 at *
   generalize tuT v2=V2 at *
   simp only[iT]at t2 ⊢
   simp[t2,hlw,gd,gw,i2,f2]
  rw[zCf s4]
  have s5:dSet 6 (dLst (jW (jV 5) (jW (dTup (jW (dC (.str "step")) qQ)) (jW (dTup (jW (dC (.str "not")) (jW (jV 4) qQ))) (jW (dC (.str "step")) (jW (dCall (some 0) F_10 [] (jW (jV 0) (jW (dC (.int 12)) qQ))) (jW (dCall (some 0) F_49 [] (jW (jV 0) (jW (dC (.int 5)) qQ))) (jW (dTup qQ) (jW (dTup (jW (jV 4) qQ)) qQ))))))))) [~~~[iT a2,iT b2],~~~x,some (.l ((spL d x).map tuT)),~~~(tuT v1),~~~one,~~~oth,none,none]=↥([~~~[iT a4,iT b4],~~~x,some (.l ((spL d x).map tuT)),~~~(tuT v1),~~~one,~~~oth,~~~[oth,.t [sT "step"],.t [sT "not",one],sT "step",iT (k3:Int),tuT r,.t [],.t [one]],none]):=by
   generalize (spL d x).map tuT=SP at *
   generalize tuT v1=V1 at *
   generalize tuT r=RR at *
   simp only[iT]at t3' t4' ⊢
   simp[t3',t4',gd,g0,g1,g2,g8]
  rw[zCf s5,eL]
  exact ez
 generalize tuT r=RR at *
 simp only[iT]at body ⊢
 simp[F_50,fnD,body]
theorem zHq(h:Rg r):ringT (tuT r)=true/\rgOf (tuT r)=r:=by
 have e:natsT' (tvT r)=some r:=by
  have:=zDW r
  simpa [DR,DG] using this
 have e2:rgOf (tuT r)=r:=by
  unfold rgOf
  simp only[tuT,zBr]
  rw[e]; rfl
 refine⟨?_,e2⟩
 unfold ringT
 rw[Cy]
 exact⟨r,h.mem,decide_eq_true e⟩
theorem zML(h:Pf s r p n):Th s.down p.t/\tsz p.t<=17 * p.size/\wid p.t=true:=by
 have wtu:∀ {t:List Nat},Rg t->wid (tuT t)=true:=fun {t} ht=>by
  have go:∀ t:List Nat,wids (tvT t)=true:=fun t=>by
   induction t with
   | nil=>rfl
   | cons k r ih=>simp only[tvT,Ab,wids,wid]at ih ⊢; simpa using ih
  have:=ht.isT.len
  have g:=go t
  simp only[tuT,wid]
  rw[g]
  simp
  lia
 have st1:Th 1 (.t [sT "step"]):=zDT (d:=0) (.str _ wd3.1)
 induction h with
 | ask q r=>exact⟨st1.mono (Sy.down_pos _),by simp[PP.t,PP.size,tsz,tszs],rfl⟩
 | yes r=>exact⟨st1.mono (Sy.down_pos _),by simp[PP.t,PP.size,tsz,tszs],rfl⟩
 | no r=>exact⟨st1.mono (Sy.down_pos _),by simp[PP.t,PP.size,tsz,tszs],rfl⟩
 | @nt s r p n _ ih =>
  obtain⟨i1,i2,i3⟩:=ih
  refine⟨(zK1 i1).mono (by simp only[Sy.down]; lia),by simp only[PP.t,PP.size,tsz,tszs]; lia,?_⟩
  simp[PP.t,wid,wids,i3]
 | @an s t r a b p1 p2 p3 p4 n1 n2 n3 n4 ha hb _ _ _ _ _ j1 j2 j3 j4 =>
  obtain⟨x1,y1,w1⟩:=j1
  obtain⟨x2,y2,w2⟩:=j2
  obtain⟨x3,y3,w3⟩:=j3
  obtain⟨x4,y4,w4⟩:=j4
  have d1:=Sy.down_pos s
  have ta:=zCO (d:=0) ha.isT.len ∅
  have tb:=zCO (d:=0) hb.isT.len ∅
  have dn:(Sy.an s t).down=max s.down t.down+1:=by simp only[Sy.down]; lia
  refine⟨?_,?_,?_⟩
  ·rw[dn]
   refine .tup _ (fun x hx=>?_) (by simp)
   simp only[AH,AS,or_false]at hx
   rcases hx with z | z | z | z | z | z | z | z | z | z <;> subst z
   ·exact .str _ wd3.2.2
   ·exact .int _
   ·exact .int _
   ·exact .int _
   ·exact ta.1.mono ⋯
   ·exact tb.1.mono ⋯
   ·exact x1.mono ⋯
   ·exact x2.mono ⋯
   ·exact x3.mono ⋯
   ·exact x4.mono ⋯
  ·have:=ta.2
   have:=tb.2
   simp only[PP.t,PP.size]
   rw[tsz]
   simp only[tszs]
   have e1:tsz (sT "and")=1:=rfl
   have e2:∀ i:Int,tsz (iT i)=1:=fun _=>rfl
   rw[e1,e2,e2,e2]
   lia
  ·have wa:=wtu ha
   have wb:=wtu hb
   simp only[PP.t]
   generalize tuT a=A at wa ⊢
   generalize tuT b=B at wb ⊢
   simp[wid,wids,w1,w2,w3,w4,wa,wb]
theorem zPa(h:Pf s r p n):∀ (d:Nat) (st:List Stp),s.down<=d->st.length=n->chk p s r st=true->chkT d p.t s r st=true:=by
 induction h with
 | ask q r=>intro d st hd hl hc; cases d with
  | zero=>simp[Sy.down]at hd
  | succ d=>simpa [chkT,PP.t,isW,chk] using hc
 | yes r=>intro d st hd hl hc; cases d with
  | zero=>simp[Sy.down]at hd
  | succ d=>simpa [chkT,PP.t,isW,chk] using hc
 | no r=>intro d st hd hl hc; cases d with
  | zero=>simp[Sy.down]at hd
  | succ d=>simpa [chkT,PP.t,isW,chk] using hc
 | @nt s r p n pf ih =>
  intro d st hd hl hc
  have hp:=pf.pos
  cases d with
  | zero=>simp[Sy.down]at hd
  | succ d =>
   have e:=ih d (lastF st (backL r)) (by simp only[Sy.down]at hd; lia) (by rw[zB3]; exact hl) hc
   have ne:st.isEmpty=false:=by
    cases st with
    | nil=>simp at hl; lia
    | cons _ _=>rfl
   simp[chkT,PP.t,isW,e,ne]
 | @an s t r a b p1 p2 p3 p4 n1 n2 n3 n4 ha hb htb q1 q2 q3 q4 j1 j2 j3 j4 =>
  intro d st hd hl hc
  have o1:=q1.pos
  have o2:=q2.pos
  have o3:=q3.pos
  have o4:=q4.pos
  cases d with
  | zero=>simp[Sy.down]at hd
  | succ d =>
   simp only[Sy.down]at hd
   simp only[chk,AW]at hc
   obtain⟨c1,c2,c3,c4⟩:=hc
   have e1:=j1 d _ ⋯ (by simp; lia) c1
   have e2:=j2 d _ ⋯ (by simp; lia) c2
   have e3:=j3 d _ ⋯ (by simp; lia) c3
   have e4:=j4 d _ ⋯ (by simp; lia) c4
   obtain⟨ra,ga⟩:=zHq ha
   obtain⟨rb,gb⟩:=zHq hb
   have ct:cutsT (iT (n1:Int)) (iT ((n1+n2:Nat):Int)) (iT ((n1+n2+n3:Nat):Int)) st.length=true:=by
    simp only[cutsT,AW,decide_eq_true_eq]
    lia
   have no:∀ k:Nat,natOf (iT (k:Int))=k:=fun k=>by simp[natOf]
   have wa:isW "and" (sT "and")=true:=by decide
   show (match unT (.t [sT "and",iT (n1:Int),iT ((n1+n2:Nat):Int),iT ((n1+n2+n3:Nat):Int),tuT a,tuT b,p1.t,p2.t,p3.t,p4.t]) with
    | [w]=>isW "step" w && stepOk (.an s t) r st
    | [w,p]=>isW "not" w && (match Sy.an s t with
     | .nt s=>!st.isEmpty && chkT d p s (backL r) (lastF st (backL r))
     | _=>false)
    | [w,i,j,k,a,b,p1,p2,p3,p4]=>isW "and" w && (match Sy.an s t with
     | .an s t=>cutsT i j k st.length && (ringT a && (ringT b && (decide (tbL (rgOf a) (rgOf b)=r) &&
      (chkT d p1 s (rgOf a) (st.take (natOf i)) && (chkT d p2 t (rgOf b) ((st.take (natOf j)).drop (natOf i)) && (chkT d p3 s (backL (rgOf a)) ((st.take (natOf k)).drop (natOf j)) && chkT d p4 t (backL (rgOf b)) (st.drop (natOf k))))))))
     | _=>false)
    | _=>false)=true
   simp only[zBr,no,ga,gb]
   rw[wa,ct,ra,rb,e1,e2,e3,e4]
   simp[htb]
theorem zKW(hq:0 < q)(hq':q<=100)(st:List Stp)(ok:StOk 5 q st)(h1:1<=st.length)(hl:st.length<=1000)(a b:Int):∃ (st':List Stp) (a' b':Int),StOk 5 q st'/\st'.length<=1001/\F_51 [.l [iT a,iT b],.v (spT st),.v (iT (q:Int))]=some (.v (spT st'),[iT a',iT b']):=by
 obtain⟨k,a1,b1,hk,e1⟩:=zAZ a b st.length ⋯ ⋯
 obtain⟨f,a2,b2,hf,e2⟩:=zAZ a1 b1 6 ∅ ∅
 obtain⟨t,a3,b3,ht,e3⟩:=zAZ a2 b2 q hq ⋯
 obtain⟨r1,a4,b4,hr1,e4⟩:=zCo a3 b3
 obtain⟨r2,a5,b5,hr2,e5⟩:=zCo a4 b4
 have hs:=ok st[k] (B7 hk)
 have ik:atI (st.map stT) (k:Int)=some (stT st[k]):=by rw[zAk]; simp[hk]
 generalize st[k]=s at *
 obtain⟨nw,hn,hnl,en⟩:∃ nw:List Stp,StOk 5 q nw/\nw.length<=2/\atI ([.t [stT (t,s.2.1,s.2.2)],.t [stT (s.1,r1,s.2.2)],.t [stT (s.1,s.2.1,r2)]]++[.t [stT (s.1,s.2.2,s.2.1)],.t [],.t [stT s,stT s]]) (f:Int)=some (spT nw):=by
  have i1:=hr1.isT
  have i2:=hr2.isT
  have one:∀ x:Stp,(x.1 < q/\IsT 5 x.2.1/\IsT 5 x.2.2)->StOk 5 q [x]:=fun x hx y hy=>by rw[AE.mp hy]; exact hx
  match f,hf with
  | 0,_=>exact⟨[(t,s.2.1,s.2.2)],one _ ⟨ht,hs.2.1,hs.2.2⟩,by simp,rfl⟩
  | 1,_=>exact⟨[(s.1,r1,s.2.2)],one _ ⟨hs.1,i1,hs.2.2⟩,by simp,rfl⟩
  | 2,_=>exact⟨[(s.1,s.2.1,r2)],one _ ⟨hs.1,hs.2.1,i2⟩,by simp,rfl⟩
  | 3,_=>exact⟨[(s.1,s.2.2,s.2.1)],one _ ⟨hs.1,hs.2.2,hs.2.1⟩,by simp,rfl⟩
  | 4,_=>exact⟨[],fun x hx=>(nomatch hx),by simp,rfl⟩
  | 5,_=>exact⟨[s,s],fun x hx=>by
    have:x=s:=by simpa using hx
    rw[this]; exact hs,by simp,rfl⟩
 refine⟨st.take k++nw++st.drop (k+1),a5,b5,sokA (sokA (sokT ok k) hn) (sokD ok (k+1)),by simp; lia,?_⟩
 have c1:=zBc (st.map stT) k
 have c2:=zBb (st.map stT) (k+1)
 have ck:((k+1:Nat):Int)=(k:Int)+1:=by lia
 rw[ck]at c2
 have hm:(st.map stT).length=st.length:=by simp
 have g:st.length<=AB:=zAM ⋯
 have g0:=sL 0
 have g1:=sL 1
 have g2:=sL 2
 have g3:=sL 3
 have g6:(3:Nat)+3<=AB:=by decide
 have gA:((st.map stT).take k).length+(nw.map stT).length<=AB:=zAM (by simp; lia)
 have gB:((st.map stT).take k).length+(nw.map stT).length+((st.map stT).drop (k+1)).length<=AB:=zAM (by simp; lia)
 have e2':F_10 [.l [iT a1,iT b1],.v (⇑6)]=some (.v (iT (f:Int)),[iT a2,iT b2]):=e2
 have e4':F_49 [.l [iT a3,iT b3],.v (⇑5)]=some (.v (tuT r1),[iT a4,iT b4]):=e4
 have e5':F_49 [.l [iT a4,iT b4],.v (⇑5)]=some (.v (tuT r2),[iT a5,iT b5]):=e5
 have em:(st.take k++nw++st.drop (k+1)).map stT=(st.map stT).take k++nw.map stT++(st.map stT).drop (k+1):=by simp
 simp only[spT]at en ⊢
 rw[em]
 simp only[stT,B9,Ce]at ik en c1 c2 hm gA gB ⊢
 generalize nw.map (fun s=>T.t [iT (s.1:Int),tuT s.2.1,tuT s.2.2])=NW at *
 generalize (st.map (fun s=>T.t [iT (s.1:Int),tuT s.2.1,tuT s.2.2])).take k=S1 at *
 generalize (st.map (fun s=>T.t [iT (s.1:Int),tuT s.2.1,tuT s.2.2])).drop (k+1)=S2 at *
 generalize st.map (fun s=>T.t [iT (s.1:Int),tuT s.2.1,tuT s.2.2])=SS at *
 generalize tuT r1=R1 at *
 generalize tuT r2=R2 at *
 generalize tuT s.2.1=Y at *
 generalize tuT s.2.2=Z at *
 simp only[iT]at e1 e2' e3 e4' e5' ik en ⊢
 simp[F_51,fnD,d_51,hm,e1,e2',e3,e4',e5',ik,en,c1,c2,gd,g,g0,g1,g2,g3,g6,gA,gB]
theorem zB0:∀ {s:Sy},s.plain->s.parts<=s.wt * s.down
 | .yes,_=>AF _
 | .no,_=>AF _
 | .ask _,_=>AF _
 | .nt a,h=>by
  have:=zB0 (s:=a) h
  have w:=zCQ a
  simp only[Sy.parts,Sy.wt,Sy.down]
  rw[GJ]
  lia
 | .an a b,h=>by
  have h1:=zB0 h.1
  have h2:=zB0 h.2
  have w1:=zCQ a
  have m1:a.wt * a.down<=a.wt * max a.down b.down:=CV _ ⋯
  have m2:b.wt * b.down<=b.wt * max a.down b.down:=CV _ ⋯
  have e:2 * (a.wt+b.wt) * (1+max a.down b.down)=2 * (a.wt+b.wt)+2 * (a.wt * max a.down b.down+b.wt * max a.down b.down):=by
   rw[GJ,Hb,Nat.mul_assoc,J7]
  simp only[Sy.parts,Sy.wt,Sy.down]
  lia
 | .or _ _,h=>h.elim
 | .ei _ _,h=>h.elim
 | .mo _ _ _,h=>h.elim
def GvOk (q:Nat) (x:T):Prop:=∃ (s:Sy) (r:List Nat) (st:List Stp) (p:T) (d:Nat),x=.t [s.t,tuT r,spT st,p]/\s.down<=40/\s.parts<=80000/\Rg r/\StOk 5 q st/\st.length<=5000/\Th d p/\s.spell.down<=40/\tsz p<=90000
theorem zMl(h:GvOk q x)(x0 x1 x3 x4 x5 x6 x7 x8 x9 x10 x11 o12 o13 o14 o15 o16 o17:Option G):∃ (o12' o13' o14' o15' o16' o17':Option G),∀ rest,forD (gdTup 4 (gdCons (gdName 14) (gdCons (gdName 15) (gdCons (gdName 12) (gdCons (gdName 13) gdNil))))) zCJ (x::rest) [x0,x1,~~~(iT (q:Int)),x3,x4,x5,x6,x7,x8,x9,x10,x11,o12,o13,o14,o15,o16,o17] =
  forD (gdTup 4 (gdCons (gdName 14) (gdCons (gdName 15) (gdCons (gdName 12) (gdCons (gdName 13) gdNil))))) zCJ rest [x0,x1,~~~(iT (q:Int)),x3,x4,x5,x6,x7,x8,x9,x10,x11,o12',o13',o14',o15',o16',o17']:=by
 obtain⟨s,r,st,p,d,rfl,hd,hp,hr,ok,hl,th,hdd,hz⟩:=h
 have hsd:s.spell.down<=59:=by lia
 have e1:=zDN zCr s (Ai hd ∅)
 have e2:F_0 zCc [.v s.spell.t,.v (tuT r),.v (spT st),.v p]=some (.v (bT (chkT d p s.spell r st)),[]):=zDw d 59 p th s.spell (zAY s) hsd r hr st ok hl
 have e3:=zLL (q:=q) d s r st p (iT 5) (iT (q:Int)) hp ⟨th,zAY s,hr,ok,hl⟩ hz
 have g3:=sL 3
 generalize chkT d p s.spell r st=bb at *
 have turn:zCJ [x0,x1,~~~(iT (q:Int)),x3,x4,x5,x6,x7,x8,x9,x10,x11,~~~(spT st),~~~p,~~~s.t,~~~(tuT r),o16,o17] =
   some (.nx [x0,x1,~~~(iT (q:Int)),x3,x4,x5,x6,x7,x8,x9,x10,x11,~~~(spT st),~~~p,~~~s.t,~~~(tuT r),~~~(bT bb),~~~(bT bb)]):=by
  generalize spT st=ST at *
  generalize tuT r=R at *
  generalize s.spell.t=S2 at *
  generalize s.t=S1 at *
  simp only[iT]at e3 ⊢
  cases bb <;> simp[zCJ,e1,e2,e3,gd,g3,isiS,tyN,subTy]
 exact⟨_,_,_,_,_,_,fun rest=>zAl rfl turn⟩
theorem zHM(x0 x1 x3 x4 x5 x6 x7 x8 x9 x10 x11:Option G):∀ (xs:List T),(∀ x∈xs,GvOk q x)->∀ (o12 o13 o14 o15 o16 o17:Option G),∃ (o12' o13' o14' o15' o16' o17':Option G),forD (gdTup 4 (gdCons (gdName 14) (gdCons (gdName 15) (gdCons (gdName 12) (gdCons (gdName 13) gdNil))))) zCJ xs [x0,x1,~~~(iT (q:Int)),x3,x4,x5,x6,x7,x8,x9,x10,x11,o12,o13,o14,o15,o16,o17] =
  some (.nx [x0,x1,~~~(iT (q:Int)),x3,x4,x5,x6,x7,x8,x9,x10,x11,o12',o13',o14',o15',o16',o17'])
 | [],_,o12,o13,o14,o15,o16,o17=>⟨o12,o13,o14,o15,o16,o17,by rw[zBU]⟩
 | x::r,h,o12,o13,o14,o15,o16,o17=>by
  obtain⟨p12,p13,p14,p15,p16,p17,e1⟩:=zMl (h x AZ) x0 x1 x3 x4 x5 x6 x7 x8 x9 x10 x11 o12 o13 o14 o15 o16 o17
  obtain⟨q12,q13,q14,q15,q16,q17,e2⟩:=zHM x0 x1 x3 x4 x5 x6 x7 x8 x9 x10 x11 r (fun y hy=>h y (AR _ hy)) p12 p13 p14 p15 p16 p17
  exact⟨q12,q13,q14,q15,q16,q17,by rw[e1,e2]⟩
structure Ask27(q:Nat)(s:Sy)(r:List Nat)(st:List Stp)(p:PP):Prop where
 dn:s.down<=6
 pt:s.parts<=1000
 wt:s.wt<=40
 rg:Rg r
 ok:StOk 5 q st
 pf:Pf s.spell r p st.length
 ln:st.length=s.spell.wt
theorem Ask27.facts(h:Ask27 q s r st p):s.spell.down<=36/\s.spell.parts<=80000/\st.length<=40/\1<=st.length/\Nr 36 24480 p.t:=by
 have h1:=zAf s
 have h2:=zAx s
 have h3:=zB0 (zAY s)
 have h4:=h.dn
 have h5:=h.wt
 have h6:=h.ln
 have h7:s.spell.wt * s.spell.down<=40 * 36:=Iq ⋯ ⋯
 obtain⟨n1,n2,n3⟩:=zML h.pf
 have n4:=h.pf.size
 have h8:st.length * s.spell.down<=40 * 36:=Iq ⋯ ⋯
 exact⟨by lia,by lia,by lia,h.pf.pos,n1.mono ⋯,by lia,n3⟩
theorem zDn(hq:0 < q)(hq':q<=100)(h:Ask27 q s r st p)(f:Nat)(hf:f < 5)(a b:Int)(L:List T)(hL:L.length<=50)(o9 x10 x11 x12 x13 x14 x15 x16 x17:Option G):∃ (x:T) (a' b':Int),GvOk q x /\
  zBi [~~~[iT a,iT b],~~~s.t,~~~(iT (q:Int)),~~~(tuT r),~~~s.spell.t,~~~(spT st),~~~p.t,some (.l L),~~~(iT (f:Int)),o9,x10,x11,x12,x13,x14,x15,x16,x17] =
  some (.nx [~~~[iT a',iT b'],~~~s.t,~~~(iT (q:Int)),~~~(tuT r),~~~s.spell.t,~~~(spT st),~~~p.t,some (.l (L++[x])),~~~(iT (f:Int)),~~~x,x10,x11,x12,x13,x14,x15,x16,x17]):=by
 obtain⟨f1,f2,f3,f4,nr⟩:=h.facts
 have hdn:=h.dn
 have hpt:=h.pt
 have g4:=sL 4
 have g2:=sL 2
 have gL:L.length < AB:=zHv ⋯
 have gL':L.length<=AB:=zAM ⋯
 match f,hf with
 | 0,_ =>
  obtain⟨z,a',b',hz,sz,e⟩:=zM9 a b nr ∅ ∅
  refine⟨.t [s.t,tuT r,spT st,z],a',b',⟨s,r,st,z,_,rfl,by lia,by lia,h.rg,h.ok,by lia,hz,by lia,by lia⟩,?_⟩
  generalize spT st=ST at *
  generalize tuT r=R at *
  generalize s.spell.t=S2 at *
  generalize s.t=S1 at *
  generalize p.t=P at *
  simp only[iT]at e ⊢
  simp[zBi,e,gd,g4,gL,gL',hAppend]
 | 1,_ =>
  obtain⟨st',a',b',ok',hl',e⟩:=zKW hq hq' st h.ok f4 ⋯ a b
  refine⟨.t [s.t,tuT r,spT st',p.t],a',b',⟨s,r,st',p.t,_,rfl,by lia,by lia,h.rg,ok',by lia,nr.1,by lia,by have:=nr.2.1; lia⟩,?_⟩
  generalize spT st'=ST' at *
  generalize spT st=ST at *
  generalize tuT r=R at *
  generalize s.spell.t=S2 at *
  generalize s.t=S1 at *
  generalize p.t=P at *
  simp only[iT]at e ⊢
  simp[zBi,e,gd,g4,gL,gL',hAppend]
 | 2,_ =>
  obtain⟨r',a',b',hr',e⟩:=zCo a b
  have e':F_49 [.l [iT a,iT b],.v (⇑5)]=some (.v (tuT r'),[iT a',iT b']):=e
  refine⟨.t [s.t,tuT r',spT st,p.t],a',b',⟨s,r',st,p.t,_,rfl,by lia,by lia,hr',h.ok,by lia,nr.1,by lia,by have:=nr.2.1; lia⟩,?_⟩
  generalize spT st=ST at *
  generalize tuT r'=R' at *
  generalize tuT r=R at *
  generalize s.spell.t=S2 at *
  generalize s.t=S1 at *
  generalize p.t=P at *
  simp only[iT]at e' ⊢
  simp[zBi,e',gd,g4,gL,gL',hAppend]
 | 3,_ =>
  refine⟨.t [(Sy.nt s).t,tuT r,spT st,p.t],a,b,⟨.nt s,r,st,p.t,_,rfl,by simp only[Sy.down]; lia,by simp only[Sy.parts]; lia,h.rg,h.ok,by lia,nr.1,by show 1+s.spell.down<=40; lia,by have:=nr.2.1; lia⟩,?_⟩
  have es:(Sy.nt s).t=.t [sT "not",s.t]:=rfl
  rw[es]
  generalize spT st=ST at *
  generalize tuT r=R at *
  generalize s.spell.t=S2 at *
  generalize s.t=S1 at *
  generalize p.t=P at *
  simp only[iT]
  simp[zBi,gd,g4,g2,gL,gL',hAppend]
 | 4,_ =>
  refine⟨.t [s.spell.t,tuT r,spT st,p.t],a,b,⟨s.spell,r,st,p.t,_,rfl,by lia,by lia,h.rg,h.ok,by lia,nr.1,by rw[zAo]; lia,by have:=nr.2.1; lia⟩,?_⟩
  generalize spT st=ST at *
  generalize tuT r=R at *
  generalize s.spell.t=S2 at *
  generalize s.t=S1 at *
  generalize p.t=P at *
  simp only[iT]
  simp[zBi,gd,g4,gL,gL',hAppend]
theorem zMG:∀ {s:Sy},s.down<=1->lfS s
 | .ask _,_=>trivial
 | .yes,_=>trivial
 | .no,_=>trivial
 | .nt a,h=>by have:=a.down_pos; simp only[Sy.down]at h; lia
 | .an a b,h=>by have:=a.down_pos; simp only[Sy.down]at h; lia
 | .or a b,h=>by have:=a.down_pos; simp only[Sy.down]at h; lia
 | .ei a b,h=>by have:=a.down_pos; simp only[Sy.down]at h; lia
 | .mo a b c,h=>by have:=a.down_pos; simp only[Sy.down]at h; lia
theorem zF1:∀ {s:Sy},lfS s->s.plain/\s.down=1/\s.parts=1/\s.wt=1
 | .ask _,_=>⟨trivial,rfl,rfl,rfl⟩
 | .yes,_=>⟨trivial,rfl,rfl,rfl⟩
 | .no,_=>⟨trivial,rfl,rfl,rfl⟩
theorem zLW{q:Nat}(hq:0 < q)(hq':q<=100){s:Sy}(hd:s.down<=6)(hp:s.parts<=1000)(hw:s.wt<=40)(hs:s.qs q){r:List Nat}(hr:Rg r)(a b:Int):∃ (a' b':Int),F_52 [.l [iT a,iT b],.v s.t,.v (iT (q:Int)),.v (tuT r)]=some (.v (.a (.bl true)),[iT a',iT b']):=by
 have e1:=zDN zCr s (Ai hd ∅)
 have hsd:=zAf s
 have hsw:=zAx s
 obtain⟨st,p,a1,b1,pf,ok,hl,hck,e2⟩:=zKx q hq hq' zCm s.spell (zAY s) (zAp s hs) (show s.spell.down<=60 by lia) ⋯ r hr a b
 have A:Ask27 q s r st p:=⟨hd,hp,hw,hr,ok,pf,hl⟩
 obtain⟨f1,f2,f3,f4,nr⟩:=A.facts
 obtain⟨k,a2,b2,hk,e3⟩:=zAZ a1 b1 3 ∅ ∅
 have e3':F_10 [.l [iT a1,iT b1],.v (⇑3)]=some (.v (iT (k:Int)),[iT a2,iT b2]):=e3
 obtain⟨x1,a3,b3,h1,t1⟩:=zDn hq hq' A 0 ∅ a2 b2 [.t [s.t,tuT r,spT st,p.t]] (by simp) none none none none none none none none none
 obtain⟨x2,a4,b4,h2,t2⟩:=zDn hq hq' A 0 ∅ a3 b3 [.t [s.t,tuT r,spT st,p.t],x1] (by simp) (~~~x1) none none none none none none none none
 obtain⟨x3,a5,b5,h3,t3⟩:=zDn hq hq' A 1 ∅ a4 b4 [.t [s.t,tuT r,spT st,p.t],x1,x2] (by simp) (~~~x2) none none none none none none none none
 obtain⟨x4,a6,b6,h4,t4⟩:=zDn hq hq' A (2+k) ⋯ a5 b5 [.t [s.t,tuT r,spT st,p.t],x1,x2,x3] (by simp) (~~~x3) none none none none none none none none
 obtain⟨y1,a7,b7,d1,_,q1,e5⟩:=zCV q hq hq' zAy a6 b6 1 1 ∅ ∅ ∅ ∅
 obtain⟨y2,a8,b8,d2,_,q2,e6⟩:=zCV q hq hq' zAy a7 b7 1 1 ∅ ∅ ∅ ∅
 have l1:=zMG d1
 have l2:=zMG d2
 obtain⟨pl1,dn1,pt1,w1⟩:=zF1 l1
 obtain⟨pl2,dn2,pt2,w2⟩:=zF1 l2
 obtain⟨st1,p1,ok1,hl1,th1,sz1,e7⟩:=zPz l1 l2 hq q1 q2 hr
 have wan:(Sy.an y1 y2).wt=4:=by simp only[Sy.wt,w1,w2]
 have dan:(Sy.an y1 y2).down=2:=by simp only[Sy.down,dn1,dn2]; rfl
 have pan:(Sy.an y1 y2).parts=3:=by simp only[Sy.parts,pt1,pt2]
 obtain⟨st2,p2,a9,b9,pf2,ok2,hl2,_,e8⟩:=zKx q hq hq' zCm (.an y1 y2) ⟨pl1,pl2⟩ ⟨q1,q2⟩ (by rw[dan]; decide) (by rw[wan]; decide) r hr a8 b8
 obtain⟨t21,t22,_⟩:=zML pf2
 have ps2:=pf2.size
 rw[wan]at hl2
 rw[dan,hl2]at ps2
 rw[dan]at t21
 have gA:GvOk q (.t [s.t,tuT r,spT st,p.t]):=⟨s,r,st,p.t,_,rfl,by lia,by lia,hr,ok,by lia,nr.1,by lia,by have:=nr.2.1; lia⟩
 have gB:GvOk q (.t [(Sy.an y1 y2).t,tuT r,spT st1,p1]):=⟨_,r,st1,p1,_,rfl,by lia,by lia,hr,ok1,by lia,th1,by have:=zAf (Sy.an y1 y2); lia,by lia⟩
 have gC:GvOk q (.t [(Sy.an y1 y2).t,tuT r,spT st2,p2.t]):=⟨_,r,st2,p2.t,_,rfl,by lia,by lia,hr,ok2,by lia,t21,by have:=zAf (Sy.an y1 y2); lia,by lia⟩
 have es:(Sy.an y1 y2).t=.t [sT "and",y1.t,y2.t]:=rfl
 rw[es]at gB gC e8
 have e9:F_0 zCc [.v s.spell.t,.v (tuT r),.v (spT st),.v p.t]=some (.v (bT true),[]):=by
  have:=zDw (q:=q) 36 59 p.t nr.1 s.spell (zAY s) ⋯ r hr st ok ⋯
  rw[zPa pf 36 st f1 rfl hck]at this
  exact this
 obtain⟨o12,o13,o14,o15,o16,o17,e10⟩:=zHM (q:=q) (~~~[iT a9,iT b9]) (~~~s.t) (~~~(tuT r)) (~~~s.spell.t) (~~~(spT st)) (~~~p.t) (~~~[.t [s.t,tuT r,spT st,p.t],x1,x2,x3,x4,.t [.t [sT "and",y1.t,y2.t],tuT r,spT st1,p1],.t [.t [sT "and",y1.t,y2.t],tuT r,spT st2,p2.t]]) (~~~(iT ((2+k:Nat):Int))) (~~~x4) (~~~y1.t) (~~~y2.t)
  ([.t [s.t,tuT r,spT st,p.t],x1,x2,x3,x4,.t [.t [sT "and",y1.t,y2.t],tuT r,spT st1,p1],.t [.t [sT "and",y1.t,y2.t],tuT r,spT st2,p2.t]]++[.t [s.t,tuT r,spT st,p.t]]) (fun x hx=>by
   simp only[B9,Ce,AH,AS,or_false]at hx
   rcases hx with z | z | z | z | z | z | z | z <;> subst z <;> assumption) (~~~(spT st2)) (~~~p2.t) none none none none
 refine⟨a9,b9,?_⟩
 have e5':F_4 zAy [.l [iT a6,iT b6],.v (iT (q:Int)),.v (⇑1),.v (⇑1)]=some (.v y1.t,[iT a7,iT b7]):=e5
 have e6':F_4 zAy [.l [iT a7,iT b7],.v (iT (q:Int)),.v (⇑1),.v (⇑1)]=some (.v y2.t,[iT a8,iT b8]):=e6
 have g1:=sL 1
 have g2:=sL 2
 have g3:=sL 3
 have g4:=sL 4
 have g5:(5:Nat) < AB:=by decide
 have g6:(6:Nat) < AB:=by decide
 have g5':=sL 5
 have g6':=sL 6
 have g7:(7:Nat)+1<=AB:=by decide
 have ck:((2+k:Nat):Int)=2+(k:Int):=by lia
 rw[ck]at t4 e10
 clear f1 f2 f3 f4 nr A pf ok hl hck gA gB gC h1 h2 h3 h4 l1 l2 pl1 pl2 ok1 th1 ok2 t21 t22 pf2 ps2 hl2 hl1
 generalize spT st2=ST2 at *
 generalize spT st1=ST1 at *
 generalize spT st=ST at *
 generalize tuT r=R at *
 generalize s.spell.t=S2 at *
 generalize s.t=S1 at *
 generalize p2.t=P2 at *
 generalize p.t=P at *
 generalize y1.t=Y1 at *
 generalize y2.t=Y2 at *
 simp only[iT,B9,Ce]at *
 have body:d_52 [~~~[⇑a,⇑b],~~~S1,~~~(⇑(q:Int)),~~~R,none,none,none,none,none,none,none,none,none,none,none,none,none,none] =
   some (.rt (.v (bT true)) [~~~[⇑a9,⇑b9],~~~S1,~~~(⇑(q:Int)),~~~R,~~~S2,~~~ST,~~~P,~~~[.t [S1,R,ST,P],x1,x2,x3,x4,.t [.t [sT "and",Y1,Y2],R,ST1,p1],.t [.t [sT "and",Y1,Y2],R,ST2,P2]],~~~(⇑(2+(k:Int))),~~~x4,~~~Y1,~~~Y2,o12,o13,o14,o15,o16,o17]):=by
  unfold d_52
  refine zAg (Γ':=[~~~[⇑a,⇑b],~~~S1,~~~(⇑(q:Int)),~~~R,~~~S2,none,none,none,none,none,none,none,none,none,none,none,none,none]) (by simp[e1]) ?_
  refine zAg (Γ':=[~~~[⇑a1,⇑b1],~~~S1,~~~(⇑(q:Int)),~~~R,~~~S2,~~~ST,~~~P,none,none,none,none,none,none,none,none,none,none,none]) (by simp[e2]) ?_
  refine zAg (Γ':=[~~~[⇑a1,⇑b1],~~~S1,~~~(⇑(q:Int)),~~~R,~~~S2,~~~ST,~~~P,~~~[.t [S1,R,ST,P]],none,none,none,none,none,none,none,none,none,none]) (by simp[gd,g1,g4]) ?_
  refine zAg (Γ':=[~~~[⇑a6,⇑b6],~~~S1,~~~(⇑(q:Int)),~~~R,~~~S2,~~~ST,~~~P,~~~[.t [S1,R,ST,P],x1,x2,x3,x4],~~~(⇑(2+(k:Int))),~~~x4,none,none,none,none,none,none,none,none]) ?_ ?_
  ·have lp:forD (gdName 8) zBi [⇑0,⇑0,⇑1,⇑(2+(k:Int))] [~~~[⇑a2,⇑b2],~~~S1,~~~(⇑(q:Int)),~~~R,~~~S2,~~~ST,~~~P,~~~[.t [S1,R,ST,P]],none,none,none,none,none,none,none,none,none,none] =
     some (.nx [~~~[⇑a6,⇑b6],~~~S1,~~~(⇑(q:Int)),~~~R,~~~S2,~~~ST,~~~P,~~~[.t [S1,R,ST,P],x1,x2,x3,x4],~~~(⇑(2+(k:Int))),~~~x4,none,none,none,none,none,none,none,none]):=by
    rw[zAl rfl t1,zAl rfl t2,zAl rfl t3,zAl rfl t4,zBU]
   simp[e3',gd,g4,lp]
  refine zAg (Γ':=[~~~[⇑a8,⇑b8],~~~S1,~~~(⇑(q:Int)),~~~R,~~~S2,~~~ST,~~~P,~~~[.t [S1,R,ST,P],x1,x2,x3,x4],~~~(⇑(2+(k:Int))),~~~x4,~~~Y1,~~~Y2,none,none,none,none,none,none]) (by simp[e5',e6']) ?_
  refine zAg (Γ':=[~~~[⇑a9,⇑b9],~~~S1,~~~(⇑(q:Int)),~~~R,~~~S2,~~~ST,~~~P,~~~[.t [S1,R,ST,P],x1,x2,x3,x4,.t [.t [sT "and",Y1,Y2],R,ST1,p1],.t [.t [sT "and",Y1,Y2],R,ST2,P2]],~~~(⇑(2+(k:Int))),~~~x4,~~~Y1,~~~Y2,~~~ST2,~~~P2,none,none,none,none]) ?_ ?_
  ·have u1:zCK [~~~[⇑a9,⇑b9],~~~S1,~~~(⇑(q:Int)),~~~R,~~~S2,~~~ST,~~~P,~~~[.t [S1,R,ST,P],x1,x2,x3,x4],~~~(⇑(2+(k:Int))),~~~x4,~~~Y1,~~~Y2,~~~ST1,~~~p1,none,none,none,none] =
     some (.nx [~~~[⇑a9,⇑b9],~~~S1,~~~(⇑(q:Int)),~~~R,~~~S2,~~~ST,~~~P,~~~[.t [S1,R,ST,P],x1,x2,x3,x4,.t [.t [sT "and",Y1,Y2],R,ST1,p1]],~~~(⇑(2+(k:Int))),~~~x4,~~~Y1,~~~Y2,~~~ST1,~~~p1,none,none,none,none]):=by
    simp[zCK,gd,g3,g4,g5,g5',hAppend]
   have u2:zCK [~~~[⇑a9,⇑b9],~~~S1,~~~(⇑(q:Int)),~~~R,~~~S2,~~~ST,~~~P,~~~[.t [S1,R,ST,P],x1,x2,x3,x4,.t [.t [sT "and",Y1,Y2],R,ST1,p1]],~~~(⇑(2+(k:Int))),~~~x4,~~~Y1,~~~Y2,~~~ST2,~~~P2,none,none,none,none] =
     some (.nx [~~~[⇑a9,⇑b9],~~~S1,~~~(⇑(q:Int)),~~~R,~~~S2,~~~ST,~~~P,~~~[.t [S1,R,ST,P],x1,x2,x3,x4,.t [.t [sT "and",Y1,Y2],R,ST1,p1],.t [.t [sT "and",Y1,Y2],R,ST2,P2]],~~~(⇑(2+(k:Int))),~~~x4,~~~Y1,~~~Y2,~~~ST2,~~~P2,none,none,none,none]):=by
    simp[zCK,gd,g3,g4,g6,g6',hAppend]
   have lp:forD (gdTup 2 (gdCons (gdName 12) (gdCons (gdName 13) gdNil))) zCK [.t [ST1,p1],.t [ST2,P2]] [~~~[⇑a9,⇑b9],~~~S1,~~~(⇑(q:Int)),~~~R,~~~S2,~~~ST,~~~P,~~~[.t [S1,R,ST,P],x1,x2,x3,x4],~~~(⇑(2+(k:Int))),~~~x4,~~~Y1,~~~Y2,none,none,none,none,none,none] =
     some (.nx [~~~[⇑a9,⇑b9],~~~S1,~~~(⇑(q:Int)),~~~R,~~~S2,~~~ST,~~~P,~~~[.t [S1,R,ST,P],x1,x2,x3,x4,.t [.t [sT "and",Y1,Y2],R,ST1,p1],.t [.t [sT "and",Y1,Y2],R,ST2,P2]],~~~(⇑(2+(k:Int))),~~~x4,~~~Y1,~~~Y2,~~~ST2,~~~P2,none,none,none,none]):=by
    rw[zAl rfl u1,zAl rfl u2,zBU]
   simp[e7,e8,gd,g2,g3,lp]
  refine zAg (Γ':=[~~~[⇑a9,⇑b9],~~~S1,~~~(⇑(q:Int)),~~~R,~~~S2,~~~ST,~~~P,~~~[.t [S1,R,ST,P],x1,x2,x3,x4,.t [.t [sT "and",Y1,Y2],R,ST1,p1],.t [.t [sT "and",Y1,Y2],R,ST2,P2]],~~~(⇑(2+(k:Int))),~~~x4,~~~Y1,~~~Y2,o12,o13,o14,o15,o16,o17]) (by simp[gd,g7,zJM,e10]) ?_
  simp[e9]
 simp[F_52,fnD,body]
theorem zL4(ns:List Int)(k:Nat)(hk:k < 1000)(o2 o3 o4:Option G):∃ (p2 p3 p4:Option G),zC5 [some (.k (intsT ns)),~~~(iT (k:Int)),o2,o3,o4]=↥([some (.k (intsT ns)),~~~(iT (k:Int)),p2,p3,p4]):=by
 obtain⟨a,b,e1⟩:=zOT ns k ⋯ ⋯
 obtain⟨c,a1,b1,hc,e2⟩:=zAZ a b 4 ∅ ∅
 obtain⟨q,hq⟩:∃ q:Nat,q=1+c:=⟨1+c,rfl⟩
 obtain⟨d,a2,b2,hd,e3⟩:=zAZ a1 b1 3 ∅ ∅
 obtain⟨m,hm,hm1,em⟩:∃ m:Nat,m<=40/\1<=m/\atI [iT 4,iT 16,iT 40] (d:Int)=some (iT (m:Int)):=by
  match d,hd with
  | 0,_=>exact⟨4,by decide,by decide,rfl⟩
  | 1,_=>exact⟨16,by decide,by decide,rfl⟩
  | 2,_=>exact⟨40,by decide,by decide,rfl⟩
 obtain⟨s,a3,b3,u1,u2,u3,u4,e4⟩:=zLS q 23 m ⋯ ⋯ ∅ ∅ hm1 ⋯ a2 b2
 obtain⟨r,a4,b4,hr,e5⟩:=zCo a3 b3
 obtain⟨a5,b5,e6⟩:=zLW (q:=q) ⋯ ⋯ u1 ⋯ ⋯ u2 hr a4 b4
 refine⟨some (.l [iT a5,iT b5]),~~~(iT (q:Int)),~~~s.t,?_⟩
 have cx:(1:Int)+(c:Int)=(q:Int):=by lia
 have g3:=sL 3
 have e2':F_10 [.l [iT a,iT b],.v (iT 4)]=some (.v (iT (c:Int)),[iT a1,iT b1]):=e2
 have e3':F_10 [.l [iT a1,iT b1],.v (iT 3)]=some (.v (iT (d:Int)),[iT a2,iT b2]):=e3
 have e4':F_11 [.l [iT a2,iT b2],.v (iT (q:Int)),.v (iT 23),.v (iT (m:Int))]=some (.v s.t,[iT a3,iT b3]):=e4
 generalize s.t=S at *
 generalize tuT r=R at *
 simp only[iT]at e1 e2' e3' e4' e5 e6 em ⊢
 simp[zC5,e1,e2',cx,e3',em,e4',e5,e6,gd,g3]
theorem zGJ(ns:List Int):∀ (is:List Nat),(∀ k∈is,k < 1000)->∀ (o1 o2 o3 o4:Option G),∃ (p1 p2 p3 p4:Option G),
  forD (gdName 1) zC5 (is.map fun (k:Nat)=>iT (k:Int)) [some (.k (intsT ns)),o1,o2,o3,o4]=↥([some (.k (intsT ns)),p1,p2,p3,p4])
 | [],_,o1,o2,o3,o4=>⟨o1,o2,o3,o4,rfl⟩
 | k::r,hk,o1,o2,o3,o4=>by
  obtain⟨p2,p3,p4,e⟩:=zL4 ns k (hk k AZ) o2 o3 o4
  obtain⟨r1,r2,r3,r4,e'⟩:=zGJ ns r (fun j hj=>hk j (AR _ hj)) (~~~(iT (k:Int))) p2 p3 p4
  refine⟨r1,r2,r3,r4,?_⟩
  rw[Ab,← e']
  exact zAl rfl e
theorem law_true(ns:List Int)(hn:ns.length<=63):zC4 [.k (intsT ns)]=some (.v (.a (.bl true)),[]):=by
 have hl:(cutT (intsT ns) none (some 3)).length=min 3 ns.length:=by
  have:=zBc (intsT ns) 3
  rw[show ((3:Nat):Int)=3 from rfl]at this
  rw[this]
  simp[intsT]
 obtain⟨m,hm⟩:∃ m:Nat,m=1+min 3 ns.length:=⟨_,rfl⟩
 obtain⟨p1,p2,p3,p4,e⟩:=zGJ ns (AV m) (fun k hk=>by have:=Dz.mp hk; lia) none none none none
 have ec:(1:Int)+((cutT (intsT ns) none (some 3)).length:Int)=(m:Int):=by rw[hl]; lia
 have er:=zCU m ⋯
 have et:rngT 0 m=(AV m).map fun (k:Nat)=>iT (k:Int):=by simp[rngT]
 rw[et]at er
 generalize (AV m).map (fun (k:Nat)=>iT (k:Int))=RR at e er
 simp[zC4,fnD,zMF,ec,er,e]
structure Wr(K:AM)(x:Str)(st:Stmt)(f:Addr):Prop where
 a:nsIn K Al x=some (some (.ref f))
 F:∃ fd,Fun K x x st f fd
theorem wr_mk{K:AM}{x:Str}{st:Stmt}{f:Addr}{oc:AD}{od an:Option Addr}{osl:Array (Option AD)}{kV doc pm cdv ct:AD}(a:nsIn K Al x=some (some (.ref f)))(l:K.lookup f=some ⟨oc,od,.func (fnOf x x (defArgs st) (defBody st) (defScope st) .none kV doc pm an cdv ct),osl⟩)
  (c:Dp K cdv x=true) (k:Cj K (.ref f)=true):Wr K x st f:=⟨a,_,zKF l c k⟩
local macro_rules | `(tactic| walk_at "b") => `(tactic| (intro _ _ _ _ _ _ us hl; first|(obtain⟨_,h⟩:=len1 hl; subst h; exact rfl)|(obtain⟨_,_,h⟩:=len2 hl; subst h; exact rfl)|(obtain⟨_,_,_,h⟩:=len3 hl; subst h; exact rfl)|(obtain⟨_,_,_,_,h⟩:=len4 hl; subst h; exact rfl)))
theorem all_mk{l:Fv}{w:A0}{K:AM}{h:Heap}{mg:Str->Option AD}{fa:Addr}(X:K.In h)(G:h.Ns Al mg)(hfa:mg "law"=some (.ref fa))
  (w1:Wr K "_law_box" st_9 f1)
  (w2:Wr K "_law_take" zH3 f2)
  (w3:Wr K "_law_saying" st_4 f3)
  (w4:Wr K "_law_weighed" st_7 f4)
  (w5:Wr K "_law_weight" st_8 f5)
  (w6:Wr K "_law_many_parts" st_1 f6)
  (w7:Wr K "_law_light" zIf f7)
  (w8:Wr K "_law_spelled" st_5 f8)
  (w9:Wr K "_law_back" zIE f9)
  (w10:Wr K "_law_then" zJF f10)
  (w11:Wr K "_law_pair" zIJ f11)
  (w12:Wr K "_law_followed" zIz f12)
  (w13:Wr K "_law_own" st_2 f13)
  (w14:Wr K "_law_step_holds" zHx f14)
  (w15:Wr K "_law_is_ring" zIu f15)
  (w16:Wr K "_law_is_aim" zJE f16)
  (w17:Wr K "_law_there_back" zIk f17)
  (w18:Wr K "_law_and_holds" zIB f18)
  (w19:Wr K "_law_holds" st_0 f19)
  (w20:Wr K "_law_by_no_rings" zI9 f20)
  (w21:Wr K "is_form" zI6 f21)
  (w22:Wr K "back" zIG f22)
  (w23:Wr K "then" zI5 f23)
  (w24:Wr K "last_followed" zIj f24)
  (w25:Wr K "not_claims" zH6 f25)
  (w26:Wr K "is_whole" zIq f26)
  (w27:Wr K "are_cuts" zJK f27)
  (w28:Wr K "is_turning" zIC f28)
  (w29:Wr K "row_from" zI3 f29)
  (w30:Wr K "rings_of" zJJ f30)
  (w31:Wr K "is_ring" zIL f31)
  (w32:Wr K "is_ring_of_five" zID f32)
  (w33:Wr K "is_any_ring_of_five" zI0 f33)
  (w34:Wr K "there_back" zJH f34)
  (w35:Wr K "and_claims" zIi f35)
  (w36:Wr K "still" zI2 f36)
  (w37:Wr K "is_step_for" zIY f37)
  (w38:Wr K "claims_in" zII f38)
  (w39:Wr K "inner" zIr f39)
  (w40:Wr K "all_within" zIs f40)
  (w41:Wr K "either_or_both" zIQ f41)
  (w42:Wr K "spelled_of" zIZ f42)
  (w43:Wr K "fold_within" zIc f43)
  (w44:Wr K "folded" zI7 f44)
  (w45:Wr K "spelled" zIW f45)
  (w46:Wr K "paper_holds" zIh f46)
  (w47:Wr K "_law_spots" st_6 f47)
  (w48:Wr K "_law_at" zIO f48)
  (w49:Wr K "_law_put" st_3 f49)
  (w50:Wr K "_law_ring" zIl f50)
  (w51:Wr K "_law_bent_paper" zIX f51)
  (w52:Wr K "_law_bent_steps" zIa f52)
  (w53:Wr K "_law_right" zIn f53)
  {f54:Addr} {od54 an54:Option Addr} {sl54:Array (Option AD)} {oc54 kV54 dc54 pm54 cd54 ct54:AD}
  (a54:nsIn K Al "law"=some (some (.ref f54))) (l54:K.lookup f54=some ⟨oc54,od54,.func (fnOf "law" "law" (defArgs zBq) (defBody zBq) (defScope zBq) .none kV54 dc54 pm54 an54 cd54 ct54),sl54⟩) (c54:Dp K cd54 "law"=true) (k54:Cj K (.ref f54)=true)
  (z1:nsIn K Al "all"=some none)
  (z2:nsIn K Al "bool"=some none)
  (z3:nsIn K Al "enumerate"=some none)
  (z4:nsIn K Al "int"=some none)
  (z5:nsIn K Al "isinstance"=some none)
  (z6:nsIn K Al "len"=some none)
  (z7:nsIn K Al "list"=some none)
  (z8:nsIn K Al "max"=some none)
  (z9:nsIn K Al "min"=some none)
  (z10:nsIn K Al "range"=some none)
  (z11:nsIn K Al "reversed"=some none)
  (z12:nsIn K Al "sorted"=some none)
  (z13:nsIn K Al "sum"=some none)
  (z14:nsIn K Al "tuple"=some none)
  (z15:nsIn K Al "zip"=some none) :
  ∃ fd:C6,(∀ (s:AG) (v:AD),Gz s fd ⟨[v],[]⟩ [("_law_script",v)])/\∀ base:Heap,K.In base->base.Ns Al mg->FnOk l.prog w K mg base CX0 124 fa fd ["_law_script"] (spD K none 1 zC4):=by
 have e:=hfa.symm.trans (mg_of X G a54)
 cases e
 have z_all:=mg_none_of X G z1
 have z_bool:=mg_none_of X G z2
 have z_enumerate:=mg_none_of X G z3
 have z_int:=mg_none_of X G z4
 have z_isinstance:=mg_none_of X G z5
 have z_len:=mg_none_of X G z6
 have z_list:=mg_none_of X G z7
 have z_max:=mg_none_of X G z8
 have z_min:=mg_none_of X G z9
 have z_range:=mg_none_of X G z10
 have z_reversed:=mg_none_of X G z11
 have z_sorted:=mg_none_of X G z12
 have z_sum:=mg_none_of X G z13
 have z_tuple:=mg_none_of X G z14
 have z_zip:=mg_none_of X G z15
 obtain⟨a1,_,F1⟩:=w1
 obtain⟨a2,_,F2⟩:=w2
 obtain⟨a3,_,F3⟩:=w3
 obtain⟨a4,_,F4⟩:=w4
 obtain⟨a5,_,F5⟩:=w5
 obtain⟨a6,_,F6⟩:=w6
 obtain⟨a7,_,F7⟩:=w7
 obtain⟨a8,_,F8⟩:=w8
 obtain⟨a9,_,F9⟩:=w9
 obtain⟨a10,_,F10⟩:=w10
 obtain⟨a11,_,F11⟩:=w11
 obtain⟨a12,_,F12⟩:=w12
 obtain⟨a13,_,F13⟩:=w13
 obtain⟨a14,_,F14⟩:=w14
 obtain⟨a15,_,F15⟩:=w15
 obtain⟨a16,_,F16⟩:=w16
 obtain⟨a17,_,F17⟩:=w17
 obtain⟨a18,_,F18⟩:=w18
 obtain⟨a19,_,F19⟩:=w19
 obtain⟨a20,_,F20⟩:=w20
 obtain⟨a21,_,F21⟩:=w21
 obtain⟨a22,_,F22⟩:=w22
 obtain⟨a23,_,F23⟩:=w23
 obtain⟨a24,_,F24⟩:=w24
 obtain⟨a25,_,F25⟩:=w25
 obtain⟨a26,_,F26⟩:=w26
 obtain⟨a27,_,F27⟩:=w27
 obtain⟨a28,_,F28⟩:=w28
 obtain⟨a29,_,F29⟩:=w29
 obtain⟨a30,_,F30⟩:=w30
 obtain⟨a31,_,F31⟩:=w31
 obtain⟨a32,_,F32⟩:=w32
 obtain⟨a33,_,F33⟩:=w33
 obtain⟨a34,_,F34⟩:=w34
 obtain⟨a35,_,F35⟩:=w35
 obtain⟨a36,_,F36⟩:=w36
 obtain⟨a37,_,F37⟩:=w37
 obtain⟨a38,_,F38⟩:=w38
 obtain⟨a39,_,F39⟩:=w39
 have b39:=F39.binds (ps:=["saying"]) (by walk_at "b")
 have m39:=mg_of X G a39
 have n_inner:NK K mg "inner":=⟨_,a39,m39⟩
 obtain⟨a40,_,F40⟩:=w40
 obtain⟨a41,_,F41⟩:=w41
 obtain⟨a42,_,F42⟩:=w42
 have b42:=F42.binds (ps:=["part","inside"]) (by walk_at "b")
 have m42:=mg_of X G a42
 have n_spelled_of:NK K mg "spelled_of":=⟨_,a42,m42⟩
 obtain⟨a43,_,F43⟩:=w43
 obtain⟨a44,_,F44⟩:=w44
 obtain⟨a45,_,F45⟩:=w45
 obtain⟨a46,_,F46⟩:=w46
 obtain⟨a47,_,F47⟩:=w47
 obtain⟨a48,_,F48⟩:=w48
 obtain⟨a49,_,F49⟩:=w49
 obtain⟨a50,_,F50⟩:=w50
 obtain⟨a51,_,F51⟩:=w51
 obtain⟨a52,_,F52⟩:=w52
 obtain⟨a53,_,F53⟩:=w53
 have F54:=zKF (st:=zBq) l54 c54 k54
 have b54:=F54.binds (ps:=["_law_script"]) (by walk_at "b")
 have m54:=mg_of X G a54
 refine⟨fnOf "law" "law" (defArgs zBq) (defBody zBq) (defScope zBq) .none kV54 dc54 pm54 an54 cd54 ct54,fun s v=>.of_eq rfl,fun base _ _=>?_⟩
 have D_9:=ok_9 (P:=l.prog) (wd:=w) (base:=base) F1 (mg_of X G a1) (F1.binds (by walk_at "b")) z_int z_len
 have D_10:=zQm (P:=l.prog) (wd:=w) (base:=base) F2 (mg_of X G a2) (F2.binds (by walk_at "b"))
 have D_4:=ok_4 F3 (mg_of X G a3) (F3.binds (by walk_at "b")) z_max D_10 zAy
 have D_7:=ok_7 F4 (mg_of X G a4) (F4.binds (by walk_at "b")) D_10 D_4 zDQ
 have D_8:=ok_8 (P:=l.prog) (wd:=w) (base:=base) F5 (mg_of X G a5) (F5.binds (by walk_at "b")) z_int z_isinstance z_tuple zEI
 have D_1:=ok_1 (P:=l.prog) (wd:=w) (base:=base) F6 (mg_of X G a6) (F6.binds (by walk_at "b")) z_isinstance z_sum z_tuple zEZ
 have D_11:=zPX F7 (mg_of X G a7) (F7.binds (by walk_at "b")) z_len D_10 D_4 D_7 D_8 D_1
 have D_5:=ok_5 (P:=l.prog) (wd:=w) (base:=base) F8 (mg_of X G a8) (F8.binds (by walk_at "b")) z_int z_isinstance z_tuple zCr
 have D_12:=zPU (P:=l.prog) (wd:=w) (base:=base) F9 (mg_of X G a9) (F9.binds (by walk_at "b")) z_len z_range z_tuple
 have D_13:=zQG (P:=l.prog) (wd:=w) (base:=base) F10 (mg_of X G a10) (F10.binds (by walk_at "b")) z_tuple
 have D_14:=zPN F11 (mg_of X G a11) (F11.binds (by walk_at "b")) z_enumerate z_tuple D_10 D_12 D_13
 have D_15:=zPQ F12 (mg_of X G a12) (F12.binds (by walk_at "b")) D_13
 have D_2:=ok_2 F13 (mg_of X G a13) (F13.binds (by walk_at "b")) z_int z_len D_10 D_12 D_14 D_15 zCm
 have D_16:=zP8 (P:=l.prog) (wd:=w) (base:=base) F14 (mg_of X G a14) (F14.binds (by walk_at "b")) z_len
 have D_17:=zPm (P:=l.prog) (wd:=w) (base:=base) F15 (mg_of X G a15) (F15.binds (by walk_at "b")) z_len z_sorted
 have D_18:=zQR F16 (mg_of X G a16) (F16.binds (by walk_at "b")) z_all z_int z_isinstance z_tuple D_17
 have D_19:=zPe F17 (mg_of X G a17) (F17.binds (by walk_at "b")) D_12 D_13
 have D_20:∀ (lr:Nat) (recF:DF),2<=lr->FD l.prog w K mg base lr "_law_holds" none 4 recF->FD l.prog w K mg base (lr+1) "_law_and_holds" none 4 (F_20 recF):=fun lr recF hlr Dr=>zPL F18 (mg_of X G a18) (F18.binds (by walk_at "b")) z_all z_int z_isinstance z_len z_zip D_12 D_18 D_19 hlr Dr
 have D_0:=ok_0 F19 (mg_of X G a19) (F19.binds (by walk_at "b")) z_isinstance z_len z_tuple D_12 D_15 D_16 D_20 zCc
 have D_21:=zPt F20 (mg_of X G a20) (F20.binds (by walk_at "b")) z_int z_len z_tuple z_zip D_12 D_13
 have D_22:=zQC (P:=l.prog) (wd:=w) (base:=base) F21 (mg_of X G a21) (F21.binds (by walk_at "b")) z_isinstance z_len z_tuple
 have D_23:=zQF (P:=l.prog) (wd:=w) (base:=base) F22 (mg_of X G a22) (F22.binds (by walk_at "b")) z_len z_range z_tuple
 have D_24:=zQa (P:=l.prog) (wd:=w) (base:=base) F23 (mg_of X G a23) (F23.binds (by walk_at "b")) z_tuple
 have D_25:=zP4 F24 (mg_of X G a24) (F24.binds (by walk_at "b")) D_24
 have D_26:=zQO F25 (mg_of X G a25) (F25.binds (by walk_at "b")) z_len D_23 D_25
 have D_27:=zPq (P:=l.prog) (wd:=w) (base:=base) F26 (mg_of X G a26) (F26.binds (by walk_at "b")) z_bool z_int z_isinstance
 have D_28:=zP6 F27 (mg_of X G a27) (F27.binds (by walk_at "b")) z_all D_27
 have D_29:=zQN (P:=l.prog) (wd:=w) (base:=base) F28 (mg_of X G a28) (F28.binds (by walk_at "b")) z_list z_range z_sorted
 have D_30:=zQD (P:=l.prog) (wd:=w) (base:=base) F29 (mg_of X G a29) (F29.binds (by walk_at "b")) z_tuple
 have D_31:=zPx F30 (mg_of X G a30) (F30.binds (by walk_at "b")) z_len z_min z_range D_30
 have D_32:=zQY F31 (mg_of X G a31) (F31.binds (by walk_at "b")) z_len D_31
 have D_33:=zPc F32 (mg_of X G a32) (F32.binds (by walk_at "b")) D_29 D_32
 have D_34:=zQj F33 (mg_of X G a33) (F33.binds (by walk_at "b")) z_all z_isinstance z_tuple D_27 D_33
 have D_35:=zPg F34 (mg_of X G a34) (F34.binds (by walk_at "b")) D_23 D_24
 have D_36:=zQb F35 (mg_of X G a35) (F35.binds (by walk_at "b")) z_len D_23 D_28 D_34 D_35
 have D_37:=zPw (P:=l.prog) (wd:=w) (base:=base) F36 (mg_of X G a36) (F36.binds (by walk_at "b")) z_range z_tuple
 have D_38:=zQi F37 (mg_of X G a37) (F37.binds (by walk_at "b")) z_len D_37
 have D_39:=zPo F38 (mg_of X G a38) (F38.binds (by walk_at "b")) D_22 D_26 D_36 D_38
 have D_40:=zPn (P:=l.prog) (wd:=w) (base:=base) F39 m39 b39
 have D_41:=zPZ F40 (mg_of X G a40) (F40.binds (by walk_at "b")) z_list z_reversed D_40
 have D_42:=zQk (P:=l.prog) (wd:=w) (base:=base) F41 (mg_of X G a41) (F41.binds (by walk_at "b"))
 have D_43:=zPu F42 m42 b42 z_tuple D_42
 have D_44:=zQl F43 (mg_of X G a43) (F43.binds (by walk_at "b")) z_reversed D_40 D_41 D_43
 have D_45:=zQP F44 (mg_of X G a44) (F44.binds (by walk_at "b")) n_inner D_44
 have D_46:=zPM F45 (mg_of X G a45) (F45.binds (by walk_at "b")) n_spelled_of D_45
 have D_47:=zQg F46 (mg_of X G a46) (F46.binds (by walk_at "b")) D_39 D_46
 have D_6:=ok_6 (P:=l.prog) (wd:=w) (base:=base) F47 (mg_of X G a47) (F47.binds (by walk_at "b")) z_enumerate z_isinstance z_tuple zDC
 have D_48:=zQE (P:=l.prog) (wd:=w) (base:=base) F48 (mg_of X G a48) (F48.binds (by walk_at "b"))
 have D_3:=ok_3 (P:=l.prog) (wd:=w) (base:=base) F49 (mg_of X G a49) (F49.binds (by walk_at "b")) z_len zDM
 have D_49:=zPj F50 (mg_of X G a50) (F50.binds (by walk_at "b")) z_enumerate z_len z_list z_range z_tuple D_10
 have D_50:=zQc F51 (mg_of X G a51) (F51.binds (by walk_at "b")) z_int z_isinstance z_len z_reversed z_tuple D_10 D_6 D_48 D_3 D_49
 have D_51:=zQV F52 (mg_of X G a52) (F52.binds (by walk_at "b")) z_len D_10 D_49
 have D_52:=zPl F53 (mg_of X G a53) (F53.binds (by walk_at "b")) z_bool z_isinstance D_10 D_4 D_5 D_2 D_0 D_21 D_47 D_49 D_50 D_51
 exact zOW F54 z_len z_range D_9 D_10 D_11 D_49 D_52
theorem walk{l:Fv}{q:Am}{loose:List Str}{XP:(Str->Option AD)->Heap->Prop}{YP:A0->Heap->Prop}{d:DefRec}{K:KD->AM}(pure:∀ ns:List Int,ns.length<=63->zC4 [.k (intsT ns)]=some (.v (.a (.bl true)),[]))(hn:l.most=some 63)(hdf:d.params.defaults=[])
  (hY:∀ (w:A0) (h:Heap),YP w h->(K w.params).In h)
  (F:∀ (w:A0) (mg:Str->Option AD) (fa:Addr) (h:Heap),(K w.params).In h->h.Ns Al mg->mg d.name=some (.ref fa) ->
   ∃ fd:C6,(∀ (s:AG) (u:AD),Gz s fd ⟨[u],[]⟩ [("_law_script",u)])/\∀ base:Heap,(K w.params).In base->base.Ns Al mg->FnOk l.prog w (K w.params) mg base CX0 124 fa fd ["_law_script"] (spD (K w.params) none 1 zC4)) :
  IF q loose XP YP l.row.toRowW d [] (fun f vs=>HW f vs) :=
 L2.walk_of (n:=63) (k:=124) (x:="_law_script") (CX:=fun _=>CX0) (sp:=fun w=>spD (K w.params) none 1 zC4) hn ∅ hdf ⟨rfl,by decide,by decide,rfl⟩ hY F (fun w H a ns hl hO hS=>zNo hO hS (pure ns hl)) fun _ _ _ _ _ z=>z
end Lw
local macro_rules | `(tactic| walk_at "w") => `(tactic| (refine' Lw.wr_mk ?a ?l ?c ?k; (case a=>k_is); (case l=>k_is); (case c=>k_is); (case k=>k_is)))
open PySem PySem.W PyProof.Rows
theorem PySem.W.Fast.tw9237568827826885764:True:=trivial
theorem PySem.W.Fast.tw8374665550817874551:True:=trivial
theorem PySem.W.Fast.tw13297373743795637609:True:=trivial
theorem PySem.W.Fast.tw16746014287180439076:True:=trivial
theorem PySem.W.Fast.tw17918772036269702961:True:=trivial
theorem PySem.W.Fast.tw11022754662205056249:True:=trivial
theorem PySem.W.Fast.tw883804502577379043:True:=trivial
theorem PySem.W.Fast.tw2590218692920185946:True:=trivial
theorem PySem.W.Fast.tw10685626489540101147:True:=trivial
theorem PySem.W.Fast.tw4154685340075490673:True:=trivial
theorem PySem.W.Fast.tw12159805143078985782:True:=trivial
theorem PySem.W.Fast.tw9801137977984752104:True:=trivial
theorem PySem.W.Fast.tw12367023910639683893:True:=trivial
theorem PySem.W.Fast.tw2679243807970183351:True:=trivial
theorem PySem.W.Fast.tw14406795944428731997:True:=trivial
theorem PySem.W.Fast.tw13922632252199961648:True:=trivial
theorem PySem.W.Fast.tw1172723356204481167:True:=trivial
theorem PySem.W.Fast.tw9754938927363596945:True:=trivial
theorem PySem.W.Fast.tw9875887665701157336:True:=trivial
theorem PySem.W.Fast.tw8622604132767513917:True:=trivial
theorem PySem.W.Fast.tw12664036164369995444:True:=trivial
theorem PySem.W.Fast.tw6155515373982703260:True:=trivial
theorem PySem.W.Fast.tw49116079636879680:True:=trivial
theorem PySem.W.Fast.tw10283112805633232361:True:=trivial
theorem PySem.W.Fast.tw8113336514277362765:True:=trivial
theorem PySem.W.Fast.tw9815293172796202834:True:=trivial
set_option maxRecDepth 100000 in
set_option maxHeartbeats 0 in
theorem PySem.Challenge.cw_fivecups_k27_papers_bent_holds : PySem.Challenge.rw_fivecups_k27_papers_bent.Holds := by
 w_on; o_law; k_head; (case hw=>w_witness2)
 k_fill
 refine Lw.walk (l:=PySem.Challenge.rw_fivecups_k27_papers_bent) Lw.law_true rfl rfl (fun w h Y=>PySem.W.kIn_of Y) ?F
 case F =>
  intro w mg fa h KX G hmg
  refine' Lw.all_mk KX G hmg ?w1 ?w2 ?w3 ?w4 ?w5 ?w6 ?w7 ?w8 ?w9 ?w10 ?w11 ?w12 ?w13 ?w14 ?w15 ?w16 ?w17 ?w18 ?w19 ?w20 ?w21 ?w22 ?w23 ?w24 ?w25 ?w26 ?w27 ?w28 ?w29 ?w30 ?w31 ?w32 ?w33 ?w34 ?w35 ?w36 ?w37 ?w38 ?w39 ?w40 ?w41 ?w42 ?w43 ?w44 ?w45 ?w46 ?w47 ?w48 ?w49 ?w50 ?w51 ?w52 ?w53 ?a54 ?l54 ?c54 ?k54 ?z1 ?z2 ?z3 ?z4 ?z5 ?z6 ?z7 ?z8 ?z9 ?z10 ?z11 ?z12 ?z13 ?z14 ?z15
  all_goals try walk_at "w"
  (case a54=>k_is); (case l54=>k_is); (case c54=>k_is); (case k54=>k_is)
  (case z1=>k_is); (case z2=>k_is); (case z3=>k_is); (case z4=>k_is); (case z5=>k_is); (case z6=>k_is); (case z7=>k_is); (case z8=>k_is); (case z9=>k_is); (case z10=>k_is); (case z11=>k_is); (case z12=>k_is); (case z13=>k_is); (case z14=>k_is); (case z15=>k_is)
