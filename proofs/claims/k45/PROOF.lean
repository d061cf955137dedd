import PyProof.Rows.All
import Wide.All
import OpenK.AllK
import Wide.FinOn
import Lean
import PyProof.EqAt
import PyProof.EqKinds
import PyProof.TupleCall
import PySem.Challenge.RW_fivecups_k45_whole_what_lasts_dances
open Array renaming getElem?_eq_getElem->Ah,length_toList->As,toList_append->A9,toList_push->C4,toList_reverse->DP,toList_inj->D6,getElem?_toList->ER,getD_eq_getD_getElem?->Fe,toArray_toList->Gy,getD->HL,toList_map->Hn,size_map->IR,toList->Ie
open Bool renaming false_ne_true->AV,and_eq_true->Ar,or_eq_true->CZ,eq_iff_iff->EK,eq_false_iff->FI,true_and->GW
open Classical renaming byContradiction->DZ,propDecidable->Dm
open Eq renaming trans->Gc
open False renaming elim->BU
open ForInStep renaming yield->Cp
open Function renaming comp_def->G7,comp->Hx
open Int renaming toNat_natCast->Ce,emod_lt_of_pos->FC,emod_nonneg->Fw,sub_zero->Je,le_refl->J3
open List renaming mem_singleton->AC,mem_cons_self->AG,mem_cons_of_mem->AH,range->AI,all_eq_true->AJ,mem_cons->AN,getElem?_set_ne->AO,getElem?_eq_getElem->AY,getElem?_eq_some_iff->AZ,size_toArray->Aa,mem_append_right->Ac,map_cons->Ad,replicate->Ae,length_map->Af,getElem?_set_self->Aj,getElem?_map->Am,mem_map->Aq,mem_append->Aw,length_append->A7,mem_append_left->BB,append_assoc->BC,getD_eq_getElem?_getD->BF,getElem?_append_left->BH,pairwise_iff_getElem->BI,nodup_cons->BL,map_append->Ba,take_of_length_le->Bk,mem_filter->Bm,append_nil->Bn,pairwise_cons->Br,mem_range->Bv,map->Bw,any_cons->B6,any_eq_true->B8,map_nil->CH,idxOf_lt_length_iff->CK,getElem_of_mem->CN,reverse_append->CO,getElem?_eq_none->Ca,getElem?_append_right->Cj,length_eraseIdx_of_lt->Ck,length_cons->Co,lookup_cons->Cq,replicate_succ->Cs,length_pos_iff->Ct,drop_of_length_le->C5,eraseIdx_eq_take_drop_succ->DB,contains_iff_mem->DG,length_take->DH,ext_getElem->DJ,mem_reverse->DK,not_mem_nil->DM,mem_of_getElem?->DQ,length_nil->DW,map_congr_left->DY,toArray->Df,range'->Dr,getElem?_take_of_lt->Ds,all_cons->Dt,getElem_mem->D8,nodup_range->D9,length_eq_zero_iff->EB,Nodup->EG,foldl_cons->EL,forIn_cons->EM,dropLast_eq_take->EU,getElem?_reverse->EW,pairwise_reverse->EZ,pairwise_append->Ei,filterMap_cons->Eo,toList_toArray->Et,set_comm->Eu,foldl->E3,findIdx?_eq_some_iff_getElem->E9,map_map->FJ,drop_sublist->FL,length_drop->FO,zipIdx_cons->FP,mem_eraseIdx_iff_getElem?->FS,mem_flatMap->FV,of_mem_zip->Fc,nil_append->Fd,find?_cons->Fh,nodup_nil->F7,getElem?_zip_eq_some->GF,drop_eq_getElem_cons->GH,mem_of_find?_eq_some->GK,getLast?_eq_none_iff->GL,length_erase_of_mem->GY,getElem?_replicate->Gg,pairwise_singleton->Gk,length_singleton->Gx,mem_of_mem_erase->G0,take_append_drop->G4,length->G8,reverse_reverse->HB,mem_of_getLast?->HD,mem_filterMap->HP,zip_nil_right->HQ,zip_cons_cons->HR,getElem_idxOf->HU,getElem?_drop->HW,getElem?_set->Hi,mapM_toArray->Ho,length_range->Hq,ext_getElem?->Hr,reverse_perm->Hs,drop_reverse->Ht,nodup_append->Hw,drop_length->IA,all_toArray->IC,zipIdx_nil->IK,length_zip->IM,find?_some->IQ,forIn_nil->IU,drop_zero->IY,take_add->Iq,getD->Kc,all->Kw
open List.Nodup renaming not_mem_erase->Kx
open List.Pairwise renaming nil->JY
open List.Perm renaming eq_of_pairwise->FZ,length_eq->Gb,trans->HC,swap->K6,append_left->K7,nodup_iff->K8,symm->LB
open List.cons renaming inj->K9
open Nat renaming le_refl->AE,lt_of_lt_of_le->AU,ne_of_lt->Ag,le_trans->Ak,zero_le->Au,lt_irrefl->BA,ne_of_gt->Bb,zero_add->Bc,le_add_right->Bg,lt_or_ge->Bl,le_of_lt->CJ,lt_succ_self->CQ,lt_succ_of_lt->C6,le_of_succ_le->Du,ble->EN,le_of_ble_eq_true->Ec,ble_eq_true_of_le->Ed,not_lt_zero->Fv,add_sub_cancel_left->Gq,testBit_two_pow->HX,mul_le_mul_left->HY,not_lt->He,lt_of_le_of_lt->Hl,lt_or_gt_of_ne->Hv,one_shiftLeft->IE,le_max_left->Ib,le_of_eq->JZ,lt_trans->Ja,sub_zero->Jd,le_succ->Jy,mod_lt->Kd
open Ne renaming symm->Ax
open Option renaming bind_some->An,isSome_iff_exists->CG,mem_toList->E4,isSome_map->HK,some_inj->Hu,map->JI
open Option.some renaming inj->Av,injEq->BS
open Or renaming inr->De,inl->EV
open PyProof.Rows renaming callWith_type1->A6,SortSt->BZ,slot_tuple_getitem->Bh,IntsAre->Bp,Keyed->Bu,seqObj->Bx,assignInOrder_cons->Cb,SortKind->Ci,boot_tuple->C9,pendingOf->DD,kindOf->DN,failedOf->D5,slot_tuple_contains->EY,AllBare->Ej,IsTup->Em,get?_update_seq->Es,envOfC->E6,boot_range->FN,boot_list->FT,listUpdate_at->FU,assignInOrder_nil->Fj,arrOf->GZ,seqEpoch_at->Ga,Call_->HN,subscriptTail_builtinR->Hc,listItems_at->Hm,keyKind'->IP,entry_tuple_getitem->IT,getElem?_mirror_all->Ia,args_tuple_getitem->Ig,Subscript_->Ih,keyLt'->Io,setPending->Ir,unpackItems_tuple->Iz,len_tuple->JX,callWith_builtin1->Jw,lt_int->Jx,entry_list_sort->J0,boot_tuple->J1,getItem_tuple->J2,boot_dict->J6,list_sort_plain->J7,entry_tuple_contains->KA,args_tuple_contains->KB,In_slot->KD,slicePart_none->KH,slot_list_sort->KQ,args_list_sort->KR,tupleItemsOf_->Ki,boot_reversed->Ky,plain_sorted->K3,entry_sorted->K4,args_sorted1->K5,minRun'_succ->LA
open PyProof.Rows.IsTup renaming new->Jh
open PyProof.Rows.LSm renaming kept_iter->Gj
open PyProof.Rows.SortSt renaming mk'->HA
open PySem renaming wpAny_bind->AA,sizeLine->AD,wpAny_pure->AF,Value->AM,wpAny->AQ,Shared->AR,starEach->AW,Program->Ai,wpAny_field->Ao,wpAny_callSpecial?_slot->Ay,wpAny_call_entry->Az,wpAny_setField_rec->A0,mainGlobals->A4,World->A5,wpAny_newObj_type->A8,Around->BD,wpAny_mono->BE,sizeLine_eq->BK,cellsFrom->BM,wpAny_holding->BN,mem_of_lookup->BV,wpAny_seqItems->Bd,compareOp->Bi,behindInMarks->Bo,wpAny_attempt->By,wpAny_truthy_bool->Bz,sysModules->B4,assignEach->B5,bootBuiltins->B9,wpAny_of_eq->CB,wpAny_isInstance->CD,wpAny_pyIter_tuple->CF,wpAny_specialOf->CL,foldedSetIterable->CM,wpAny_rule->CP,backTo->CV,binaryOp->CW,wpAny_passesOwn->Cg,call_meets->Cu,wpAny_typeOf->Cy,swapsWithSole->C2,swappedStores->C3,IsPair->C7,cLine->DV,swapsWith->DX,attributeBase->Da,ItemsOf->Dc,plainId_quiet->Dd,FuncData->Dg,sliceBounds->Dh,rawInt->Di,codeAny_builtin->Dl,codeAny->Dp,wpAny_bindName->Dw,wpAny_Call_Name_kw->Dx,wpAny_newTuple->Dz,isSubtype_stop->D4,getItem->EF,Paired->EI,wpAny_standAt->EJ,Scope->Ea,DictEntry->Eb,pyNext->Ek,PyData->El,wpAny_execs_nil->Ep,typeLookup_type->Er,IsPart->E7,wpAny_updateSeq_pair->E8,wpAny_pyIter_revIter->FB,tupleKind->FE,seqIndex?->FG,Keyword->FH,wpAny_onRaise->FQ,wpAny_newList->FR,typeLookup->FW,tupleKind_room_in1->FX,BindsTo->Fk,bindArgs->Fl,codeAny_mono->Fo,callerA->Fq,compEnvC->Fs,callType_new->Ft,wpAny_pyIter_list->Fu,boot_len->Fx,KeyKind->F9,wpAny_eqBool_int->GA,pyIter->GB,noFill_tuple_add->GD,pushCells->GE,entryFor_of_tree->GI,seqIndex_of->GP,keywordEach->GQ,wpAny_letGo->GT,wpAny_mkInt->GU,letOwnedTupleGo->Gf,wpAny_loadPart'->Gh,pushCells_keeps->Gi,wpAny_ite_split->Gm,wpAny_updateSeq->Gn,valueAt->Gp,builtinsNs->Gs,typeOf->Gv,entryFor->Gz,callType_codes->G5,seq_tuple_add->HF,call->HG,wpAny_handled->HH,signature?_of->HJ,PassesOwn->HM,IsZip->HS,atKey->HV,isTrue->HZ,concat_meets->Ha,seqIndex_neg->Hb,wpAny_Call_method_late->Hd,argsOk->Hj,wpAny_isTrue_Compare1->Hz,wpAny_notOrdered_dict->IB,bindL->IF,bindC->IG,Meets->IH,backToKw->II,wpAny_throw->IJ,Reads->IL,wpAny_Name->Ic,typeIs_int->Ii,call_reversed_list->Ip,setItem->Iw,standAt->Iy,wpAny_sequenceKey->I0,slot_list_getitem->JB,init_tuple_lookup->JE,wpAny_pyIter_enum->JF,wpAny_pyIter_slot->JG,argBest->JH,wpAny_execs_cons->JJ,small_one->JK,wpAny_forIn_list->JT,seqItems?->Jb,recursionLimit->KG,fitsIndex_both->KI,NameKind->KJ,newFunctionEnv->KM,wpAny_setField->KN,sub_tuple_self->KO,madeHere_tuple->KP,ReadsAll->KS,IsEnum->KU,isSubtype_type->KY,entryFor_alias->KZ,rangeSize_one->Ke,intBits_le_64->Kh,call_range_1->Kz,call_range_2->K0
open PySem.Around renaming under_plainId->ET
open PySem.AutoListH renaming list___mul___list_int_3->K2
open PySem.Builtin.Dict renaming showsAll->FY,updateFrom->J5,dictSlotNone->J8
open PySem.Builtin.List renaming listTooLong->Cd,listLengthHint->DC,listFitsIndex->E5,listSameRef->FK,listExtendWith->J9
open PySem.Builtin.Range renaming rangeSize->CC,small->D3
open PySem.Builtin.Slice renaming slicePlaces->CY,sliceAdjust->Ez,slicePartIndex->JV,sliceApplied->JW
open PySem.Builtin.SmallTypes renaming nextOf->Ap,ownedTupleIsFree->BO,ownedTupleHandOut->CT,newRecord->EH
open PySem.Builtin.Tuple renaming tupleExact->DU,tupleItemsOf->Ex,tupleCompareSizes->JU
open PySem.Calls renaming spliced_nil->Do,callWith_builtin->ED,spliced_cons->Ew,Name_function_global->Fi,call_function_entry->F5,evalArgs_plain->Gw
open PySem.CmpOp renaming NotIn->Iv,In->KE
open PySem.EqMixed renaming eq_bool_str->JL,eq_int_str->JM,eq_str_bool->JN,eq_str_int->JO,ne_bool_str->JP,ne_int_str->JQ,ne_str_bool->JR,ne_str_int->JS
open PySem.EqNone renaming eq_none_none->Ji,eq_none_bool->Jj,eq_none_int->Jk,eq_none_str->Jl,eq_bool_none->Jm,eq_int_none->Jn,eq_str_none->Jo,ne_none_none->Jp,ne_none_bool->Jq,ne_none_int->Jr,ne_none_str->Js,ne_bool_none->Jt,ne_int_none->Ju,ne_str_none->Jv
open PySem.F renaming slot_dict_keyiterator_next->BY,slot_tuple_iterator_next->Cr,slot_enumerate_next->DR,args_tuple_add_2->Dj,entry_tuple_add->Dq,slot_tuple_add->Dy,slot_tuple_lt->EC,slot_zip_getattribute->EO,called_tuple->ES,args_dict_keyiterator_next_1->Ee,slot_zip_next->Eg,entry_dict_keyiterator_next->Eh,args_object_init_2->Ey,plain_extend_loop->Ff,args_tuple_lt_2->Fz,plainAttrs_list->F6,plain_tuple_new->F8,entry_tuple_lt->GC,args_tuple_iterator_next_1->GG,slot_dict_iter->GJ,entry_tuple_iterator_next->GR,slot_list_pop->Gd,type_list_pop->Ge,args_enumerate_next_1->G9,entry_enumerate_next->HI,slot_tuple_getitem->Hk,plain_list_iadd->IV,args_zip_next_1->IZ,entry_list_pop->Ij,entry_zip_next->Il,slot_list_pop->JC,slot_int_rmul->JD
open PySem.Heap renaming get?_push_of_some->AB,get?_push_size->AK,lt_size->AL,size_push->BQ,get?_update_other->Bj,get?_update_self->CA,SameBut->Cm,ExtBut->Ef
open PySem.Heap.DictOf renaming new->Kb
open PySem.Heap.IsSliceOf renaming new->JA
open PySem.Heap.IsTuple renaming push->Jz
open PySem.Heap.SameBut renaming update->Be,refl->J4
open PySem.IsL renaming update->K1
open PySem.NameKind renaming free->Bf,cell->Bq
open PySem.Obj renaming mapSeq->BJ,data_mapFields->Hf
open PySem.Paired renaming length->Dn,snoc->Ik
open PySem.PassesOwn renaming never->Dv
open PySem.PyData renaming canLayAll0->Al,eqv->BG,depthAll->BP,eqvAll->Bs,canLay0->B7,int->Cf,depth->EA
open PySem.ReadsAll renaming cons->Hh
open PySem.SeqAt renaming EqAt->Fp
open PySem.SeqAt.EqAt renaming int_str->GM,str_int->GN,int_int->GO,same->Kj,none_bool->Kk,none_int->Kl,none_str->Km,bool_none->Kn,bool_bool->Ko,bool_int->Kp,bool_str->Kq,int_none->Kr,int_bool->Ks,str_none->Kt,str_bool->Ku,str_str->Kv
open PySem.Str renaming ofString_eq_toList->G6,ofString->Jf
open PySem.Value renaming int->B0,ref->B3,none->CU,type->Cw,bool->HE,isStrOf->IS,isInt->Iu,str->Jg
open PySem.W renaming Frag->Ab,fnOf->BW,keepIn->Bt,nsIn->CS,codeIn->Cc,cellsFrom_some->C0,kas_sort->C8,OpenLaw->D7,callWith_K->Gu,kitOne->Hg,WalkO->H9,mg_of->ID
open PySem.Walks renaming list->Jc
open Std.Legacy.Range renaming forIn_eq_forIn_range'->IW
open Subtype renaming ext->Cv,val->FM
open Sum renaming inl->Fy,inr->Gr
open True renaming intro->Cz
set_option compiler.extract_closed false
local macro_rules | `(⋯) => `((by lia))
local macro_rules | `(∅) => `((by decide))
def sL(n:Nat)(h:n<=99:=by decide):n<=AD:=Nat.le_trans h (by decide)
local macro_rules | `(~~~[$xs,*]) => `(some (.l [$xs,*])) | `(~~~$x) => `(some (.v $x))
local macro_rules | `(⇑$x) => `(.a (.int $x))
local macro_rules | `(↥$x) => `(some (.nx $x))
local macro_rules | `(↥6) => `(by walk_at "s")
local macro_rules | `(↥1) => `(by simp)
local macro_rules | `(↥2) => `(by simp;lia)
local macro_rules | `(↥3) => `(by walk_at "x")
local macro_rules | `(↥4) => `(by decide +kernel)
local macro_rules | `(↥5) => `((λ_=>⟨rfl,by kernel_rfl⟩))
set_option Elab.async false
set_option linter.all false
set_option maxRecDepth 100000
namespace L2
open PySem PySem.Spec PyProof.Rows
abbrev Key:=Sum Int Str
def keyIs:Key->AM->Bool
 | .inl k,v=>Iu k v
 | .inr x,v=>IS x v
def keyH (w:A5):Key->Int
 | .inl k=>hashInt k
 | .inr x=>hashStr w x
theorem MI:∀ {k v},keyIs k v=true->(∃ i t,k=Fy i/\v=B0 i t)\/(∃ x t,k=Gr x/\v=Jg x t)
 | .inl i,v,h=>by
  obtain⟨t,e⟩:=Value.isInt_shape h;exact .inl ⟨i,t,rfl,e⟩
 | .inr x,v,h=>by
  obtain⟨t,e⟩:=Value.isStrOf_shape h;exact .inr ⟨x,t,rfl,e⟩
def Ye i t:keyIs (.inl i) (.int i t)=true:=by simp[keyIs,Iu]
def ft x t:keyIs (.inr x) (.str x t)=true:=by simp[keyIs,IS]
def YI a b:decide ((Fy a:Key)=Fy b)=(a == b):=by
 by_cases e:a=b
 ·subst e;simp
 ·simp_all
def Yc a b:decide ((Gr a:Key)=Gr b)=decide (a=b):=↥1
def VP a b:decide ((Fy a:Key)=Gr b)=false:=rfl
def XQ a b:decide ((Gr a:Key)=Fy b)=false:=rfl
def mixKind (prog:Ai) (w:A5):F9 prog w Key where
 is:=keyIs
 hash:=keyH w
 inj:=λv a b ha hb=>by
  rcases MI ha with ⟨i,t,rfl,rfl⟩ | ⟨x,t,rfl,rfl⟩
  ·rcases MI hb with ⟨j,u,rfl,e⟩ | ⟨y,u,rfl,e⟩
   ·injection e with e1 _;rw[e1]
   ·exact nomatch e
  ·rcases MI hb with ⟨j,u,rfl,e⟩ | ⟨y,u,rfl,e⟩
   ·exact nomatch e
   ·injection e with e1 _;rw[e1]
 byValue:=λk v h=>by
  rcases MI h with ⟨i,t,rfl,rfl⟩ | ⟨x,t,rfl,rfl⟩ <;> rfl
 pyHash:=λhv h=>by
  rcases MI hv with ⟨i,t,rfl,rfl⟩ | ⟨x,t,rfl,rfl⟩
  ·exact wpAny_pyHash_int h
  ·exact wpAny_pyHash_str h
 eqBool:=λhu hv h=>by
  rcases MI hu with ⟨i,t,rfl,rfl⟩ | ⟨x,t,rfl,rfl⟩
  ·rcases MI hv with ⟨j,u,rfl,rfl⟩ | ⟨y,u,rfl,rfl⟩
   ·rw[YI]at h;exact GA h
   ·rw[VP]at h;exact GM i t y u _ _ _ _ h
  ·rcases MI hv with ⟨j,u,rfl,rfl⟩ | ⟨y,u,rfl,rfl⟩
   ·rw[XQ]at h;exact GN x t j u _ _ _ _ h
   ·rw[Yc]at h;exact wpAny_eqBool_str h
 «strs»:=λk x t v h=>by
  rcases MI h with ⟨i,u,rfl,e⟩ | ⟨y,u,rfl,e⟩
  ·exact nomatch e
  ·injection e with e1 _;subst e1;cases v <;> rfl
def j4 prog w i t:(mixKind prog w).is (.inl i) (.int i t)=true:=Ye i t
def WY prog w x t:(mixKind prog w).is (.inr x) (.str x t)=true:=ft x t
inductive V where
 | non | bl (b:Bool) | int (i:Int) | str (x:Str) | byt (b:Array UInt8) | flt (b:UInt64) | ref (a:Addr) | ty (n:String)
 deriving DecidableEq
def RelV:V->AM->Prop
 | .non,u=>u=CU
 | .bl b,u=>u=HE b
 | .int i,u=>∃ t,u=B0 i t
 | .str x,u=>∃ t,u=Jg x t
 | .byt b,u=>∃ t,u=Value.bytes b t
 | .flt b,u=>∃ t,u=Value.float b t
 | .ref a,u=>u=B3 a
 | .ty n,u=>u=Cw n
abbrev Vals:List V->List AM->Prop:=EI RelV
theorem Vals.length{us}(r:Vals xs us):xs.length=us.length:=Dn r
theorem Vals.get:∀ {xs us} {i:Nat} {x},Vals xs us->xs[i]?=some x->∃ u,us[i]?=some u/\RelV x u
 | _,_,_,_,.nil,e=>by simp at e
 | _,_,0,_,.cons r _,e=>by simp at e;subst e;exact⟨_,rfl,r⟩
 | _,_,i+1,x,.cons _ t,e=>by
  obtain⟨u,h1,h2⟩:=Vals.get t ‹_›;exact⟨u,by simpa using h1,h2⟩
theorem Vals.set{u}(r:RelV x u):∀ {xs us} i,Vals xs us->Vals (xs.set i x) (us.set i u)
 | _,_,_,.nil=>.nil
 | _,_,0,.cons _ t=>.cons r t
 | _,_,i+1,.cons q t=>.cons q (Vals.set r i t)
theorem Vals.append:∀ {xs ys us ws},Vals xs us->Vals ys ws->Vals (xs++ys) (us++ws)
 | _,_,_,_,.nil,s=>s
 | _,_,_,_,.cons r t,s=>.cons r (Vals.append t s)
theorem Vals.take:∀ {xs us} n,Vals xs us->Vals (xs.take n) (us.take n)
 | _,_,0,_=>.nil
 | _,_,_+1,.nil=>.nil
 | _,_,n+1,.cons r t=>.cons r (Vals.take n t)
theorem Vals.drop:∀ {xs us} n,Vals xs us->Vals (xs.drop n) (us.drop n)
 | _,_,0,r=>r
 | _,_,_+1,.nil=>.nil
 | _,_,n+1,.cons _ t=>Vals.drop n t
def RelO:Option V->Option AM->Prop
 | some v,some u=>RelV v u
 | none,none=>True
 | _,_=>False
def KV:List (κ×V)->List (κ×AM)->Prop:=EI λp q=>p.1=q.1/\RelV p.2 q.2
def kV:Key->V
 | .inl i=>.int i
 | .inr x=>.str x
inductive HO where
 | lst (xs:List V)
 | tup (xs:List V)
 | dK (kvs:List (Key×V)) | dT (kvs:List (List Key×V))
 | set (S:Int->Bool) (n:Nat)
 | ins (C dx:Addr) (fs:List (Str×V))
 | own (x:Addr)
 | xd (fs:List (Str×V))
 | met (f x:Addr)
 | rng (lo hi:Int)
 | frz (o:Obj) (u:HO)
 | tbl (ps:Array AM)
 | ext (φ:Heap->Prop)
abbrev Hp:=Addr->Option HO
def upd (H:Hp) (a:Addr) (o:HO):Hp:=λb=>if b=a then some o else H b
def Ld{a o}:upd H a o a=some o:=by unfold upd;rw[if_pos rfl]
def LG{a b o}(h:b≠a):upd H a o b=H b:=by unfold upd;rw[if_neg h]
def Ta{H:Hp}{a b o u}(h:H a=some o)(h':H b=some u)(d:o≠u):a≠b:=by
 intro e;subst e;rw[h]at h';exact d (Av h')
def Lc{H:Hp}{a b o}(h:H a=some o)(h':H b=none):a≠b:=by
 intro e;subst e;rw[h]at h';cases h'
def TupD (h:Heap) (a:Addr) (items:Array AM):Prop:=∃ o,h.get? a=some o/\o.cls=.type "tuple"/\(∃ n,o.data=.seq items n)/\o.dict=none
def TupD.tup{items}(x:TupD h a items):Em h a items:=let ⟨o,e,c,d,_⟩:=x;⟨o,e,c,d⟩
def TupD.lt{a items}(x:TupD h a items):a < h.objs.size:=let ⟨_,e,_⟩:=x;AL e
def TupD.new(h:Heap) items:TupD (h.push { cls:=.type "tuple",data:=.seq items }) h.objs.size items:=⟨_,AK _ rfl,rfl,⟨_,rfl⟩,rfl⟩
section
variable (P:Ai)(w:A5)
def ObjOk (H:Hp) (h:Heap) (a:Addr):HO->Prop
 | .lst xs=>xs.length<=AD/\∃ (its:List AM) (n:Nat),Vals xs its/\h.get? a=some { cls:=.type "list",data:=.seq its.toArray n }
 | .tup xs=>xs.length<=AD/\∃ its,Vals xs its/\TupD h a its.toArray
 | .dK kvs=>kvs.length<=AD/\(a == B4)=false/\∃ vs,KV kvs vs/\h.DictOf (mixKind P w) a vs
 | .dT kvs=>kvs.length<=AD/\(a == B4)=false/\∃ xs,
   EI (λp q=>p.1=q.1/\H q.2.1=some (.tup (p.1.map kV))/\RelV p.2 q.2.2) kvs xs /\
   ∃ o es ep,h.get? a=some o/\o.ExactDict/\o.data=.dict es ep/\es.toList=xs.map (entryOfKey (FE (mixKind P w)))/\(xs.map (·.1)).Nodup
 | .set S n=>h.SetOf (intKind P w) a S n
 | .ins C dx fs=>H dx=some (.own a)/\fs.length<=1000/\dx≠a/\h.get? a=some (PySem.W.instObj C dx) /\
   ∃ mA,h.Ns1 dx mA/\(∀ f,RelO (fs.lookup f) (mA f))/\PySem.Within mA (fs.map (·.1))
 | .own _=>∃ o,h.get? a=some o
 | .xd fs=>∃ mA,h.Ns1 a mA/\∀ f,RelO (fs.lookup f) (mA f)
 | .rng lo hi=>∃ t u v,h.get? a=some { cls:=.type "range",data:=.fields #[.int lo t,.int hi u,.int 1 v] }
 | .frz o u=>h.get? a=some o/\ObjOk H h a u
 | .tbl ps=>h.get? a=some { cls:=.none,data:=.fields ps }
 | .met f x=>h.get? a=some (PySem.W.methodObj (.ref f) (.ref x))
 | .ext φ=>φ h/\(∃ o,h.get? a=some o)/\∀ h1 h2,φ h1->(∀ o,h1.get? a=some o->h2.get? a=some o)->φ h2
def HOk (H:Hp) (h:Heap):Prop:=∀ a o,H a=some o->ObjOk P w H h a o
end
section
variable {P:Ai}{w:A5}{H H':Hp}{h h':Heap}{a:Addr}{o:HO}
theorem ObjOk.lt(x:ObjOk P w H h a o):a < h.objs.size:=by
 cases o with
 | lst xs=>obtain⟨_,_,_,_,e⟩:=x;exact AL e
 | tup xs=>obtain⟨_,_,_,p⟩:=x;exact p.lt
 | dK kvs=>obtain⟨_,_,_,_,o,_,_,e,_⟩:=x;exact AL e
 | dT kvs=>obtain⟨_,_,_,_,o,_,_,e,_⟩:=x;exact AL e
 | set S n=>obtain⟨o,_,_,_,e,_⟩:=x;exact AL e
 | ins C dx fs=>obtain⟨_,_,_,e,_⟩:=x;exact AL e
 | own y=>obtain⟨_,e⟩:=x;exact AL e
 | xd fs=>obtain⟨_,⟨_,_,_,e,_⟩,_⟩:=x;exact AL e
 | rng lo hi=>obtain⟨_,_,_,e⟩:=x;exact AL e
 | frz ob u=>obtain⟨e,_⟩:=x;exact AL e
 | tbl ps=>exact AL x
 | met f y=>exact AL x
 | ext φ=>obtain⟨_,⟨_,e⟩,_⟩:=x;exact AL e
theorem Paired.mapP{F G}:∀ {l₁:List α} {l₂:List β},EI F l₁ l₂->(∀ a b,F a b->G a b)->EI G l₁ l₂
 | _,_,.nil,_=>.nil
 | _,_,.cons r t,f=>.cons (f _ _ r) (Paired.mapP t f)
theorem ObjOk.stay(x:ObjOk P w H h a o)(k:∀ b u,(b=a\/H b=some (.own a))->h.get? b=some u->h'.get? b=some u)
  (ho:∀ b,H b=some (.own a)->H' b=some (.own a)) (ht:∀ b xs,H b=some (.tup xs)->H' b=some (.tup xs)):ObjOk P w H' h' a o:=by
 induction o with
 | lst xs=>obtain⟨z,its,n,r,e⟩:=x;exact⟨z,its,n,r,k _ _ (.inl rfl) e⟩
 | tup xs=>obtain⟨z,its,r,ob,e,c⟩:=x;exact⟨z,its,r,ob,k _ _ (.inl rfl) e,c⟩
 | dK kvs=>obtain⟨z,y,vs,r,ob,es,ep,e,c⟩:=x;exact⟨z,y,vs,r,ob,es,ep,k _ _ (.inl rfl) e,c⟩
 | dT kvs =>
  obtain⟨z,y,xs,r,ob,es,ep,e,c⟩:=x;exact⟨z,y,xs,Paired.mapP r λp q z=>⟨z.1,ht _ _ z.2.1,z.2.2⟩,ob,es,ep,k _ _ (.inl rfl) e,c⟩
 | set S n=>obtain⟨ob,es,ep,t,e,c⟩:=x;exact⟨ob,es,ep,t,k _ _ (.inl rfl) e,c⟩
 | ins C dx fs =>
  obtain⟨d,z,ne,e,mA,⟨od,es,ep,e2,c⟩,r⟩:=x;exact⟨ho _ d,z,ne,k _ _ (.inl rfl) e,mA,⟨od,es,ep,k _ _ (.inr d) e2,c⟩,r⟩
 | own y=>obtain⟨ob,e⟩:=x;exact⟨ob,k _ _ (.inl rfl) e⟩
 | xd fs=>obtain⟨mA,⟨od,es,ep,e,c⟩,r⟩:=x;exact⟨mA,⟨od,es,ep,k _ _ (.inl rfl) e,c⟩,r⟩
 | rng lo hi=>obtain⟨t,u,v,e⟩:=x;exact⟨t,u,v,k _ _ (.inl rfl) e⟩
 | frz ob u ih=>obtain⟨e,q⟩:=x;exact⟨k _ _ (.inl rfl) e,ih q⟩
 | tbl ps =>
  have e:=x;exact k a _ (.inl rfl) e
 | met f y =>
  have e:=x;exact k a _ (.inl rfl) e
 | ext φ=>obtain⟨p,⟨o,e⟩,st⟩:=x;exact⟨st _ _ p λo q=>k _ _ (.inl rfl) q,⟨o,k _ _ (.inl rfl) e⟩,st⟩
theorem HOk.lt(x:HOk P w H h)(e:H a=some o):a < h.objs.size:=(x a o e).lt
theorem HOk.fresh(x:HOk P w H h)(e:h.objs.size<=a):H a=none:=by
 cases q:H a with
 | none=>rfl
 | some u=>exact absurd (AU (x.lt q) e) (BA _)
def HOk.kept(x:HOk P w H h)(k:∀ b u,h.get? b=some u->h'.get? b=some u):HOk P w H h':=λa o e =>
 (x a o e).stay (λb u _ q=>k b u q) (λ_ q=>q) λ_ _ q=>q
def HOk.laid(x:HOk P w H h)(k:∀ b u,h.get? b=some u->h'.get? b=some u)(hp:h.objs.size<=a)(new:ObjOk P w (upd H a o) h' a o):HOk P w (upd H a o) h':=λb u e=>by
 have hn:=x.fresh hp;by_cases hb:b=a
 ·subst hb;rw[Ld]at e;cases e;exact new
 ·rw[LG hb]at e;exact (x b u e).stay (λc v _ q=>k c v q) (λc q=>by rw[LG (Lc q hn)];exact q) λc xs q=>by rw[LG (Lc q hn)];exact q
end
def Rd (H:Hp) (a:Addr) (u:HO):Prop:=H a=some u\/∃ o,H a=some (.frz o u)
def Rd.ok{H h a u}(r:Rd H a u)(x:HOk P w H h):ObjOk P w H h a u:=by
 rcases r with r | ⟨o,r⟩
 ·exact x a u r
 ·obtain⟨_,q⟩:=x a _ r;exact q
def Mut:Option HO->Prop
 | some (.lst _)=>True
 | some (.dK _)=>True
 | some (.dT _)=>True
 | some (.set _ _)=>True
 | some (.ins _ _ _)=>True
 | some (.ext _)=>True
 | _=>False
section
variable {P:Ai}{w:A5}{H:Hp}{h h':Heap}{x e:Addr}{o':HO}
def HOk.write(ok:HOk P w H h)(mu:Mut (H x))(he:e=x\/H e=some (.own x))(k:∀ b u,b≠e->h.get? b=some u->h'.get? b=some u)(heo:∃ u,h'.get? e=some u)
  (new:ObjOk P w (upd H x o') h' x o'):HOk P w (upd H x o') h':=λb u q=>by
 have nown:∀ c y,H c=some (.own y)->c≠x:=λc y r z=>by subst z;rw[r]at mu;exact mu
 have ntup:∀ c xs,H c=some (.tup xs)->c≠x:=λc xs r z=>by subst z;rw[r]at mu;exact mu
 by_cases hb:b=x
 ·subst hb;rw[Ld]at q;cases q;exact new
 ·rw[LG hb]at q;by_cases hbe:b=e
  ·have q':H b=some (.own x):=by
    rcases he with z | z
    ·exact absurd (hbe.trans z) hb
    ·rw[hbe];exact z
   rw[q]at q';cases q';obtain⟨v,hv⟩:=heo;exact⟨v,by rw[hbe];exact hv⟩
  ·refine (ok b u q).stay (λc v hc r=>k c v ?_ r) (λc r=>by rw[LG (nown c b r)];exact r) λc xs r=>by rw[LG (ntup c xs r)];exact r
   rcases hc with rfl | hc
   ·exact hbe
   ·rintro rfl;rcases he with z | z
    ·exact nown c b hc z
    ·rw[hc]at z;cases z;exact hb rfl
end
structure Un(fs ex:List Addr)(H H':Hp)(h h':Heap):Prop where
 keep:∀ b o,h.get? b=some o->H b=none->b∉fs->b∉ex->h'.get? b=some o
 slot:∀ b o,h.get? b=some o->H b=none->b∈fs->b∉ex->∃ sl,h'.get? b=some { o with slots:=sl }
 free:∀ b o,h.get? b=some o->H b=none->b∉ex->H' b=none
 there:∀ b o,h.get? b=some o->b∉ex->∃ o',h'.get? b=some o'
 tups:∀ b xs,H b=some (.tup xs)->H' b=some (.tup xs)
 frzs:∀ b o u,H b=some (.frz o u)->H' b=some (.frz o u)
 tbls:∀ b ps,H b=some (.tbl ps)->∃ more,H' b=some (.tbl (ps++more))
section
variable {fs fs' ex ex':List Addr}{H H1 H2:Hp}{h h1 h2 h':Heap}{a x e:Addr}{o:HO}
def Un.any(u:Un fs ex H H1 h h1){b ob}(q:h.get? b=some ob)(n:H b=none)(hx:b∉ex):∃ sl,h1.get? b=some { ob with slots:=sl }:=by
 by_cases hb:b∈fs
 ·exact u.slot b ob q n hb hx
 ·exact⟨ob.slots,u.keep b ob q n hb hx⟩
def Un.kept(k:∀ b u,h.get? b=some u->h'.get? b=some u):Un fs ex H H h h':=
 ⟨λb ob q _ _ _=>k b ob q,λb ob q _ _ _=>⟨ob.slots,k b ob q⟩,λ_ _ _ n _=>n,λb ob q _=>⟨ob,k b ob q⟩,λ_ _ q=>q,λ_ _ _ q=>q,λ_ ps q=>⟨#[],by rw[q];simp⟩⟩
def Un.refl:Un fs ex H H h h:=Un.kept λ_ _ q=>q
def Un.laid(k:∀ b u,h.get? b=some u->h'.get? b=some u)(hp:h.objs.size<=a)(hn:H a=none):Un fs ex H (upd H a o) h h' where
 keep:=λb u q _ _ _=>k b u q
 slot:=λb u q _ _ _=>⟨u.slots,k b u q⟩
 free:=λb u q n _=>by rw[LG (Ag (AU (AL q) hp))];exact n
 there:=λb u q _=>⟨u,k b u q⟩
 tups:=λb xs q=>by rw[LG (Lc q hn)];exact q
 frzs:=λb u xs q=>by rw[LG (Lc q hn)];exact q
 tbls:=λb ps q=>⟨#[],by rw[LG (Lc q hn),q];simp⟩
def Un.write(mu:Mut (H x))(he:e=x\/H e=some (.own x))(k:∀ b u,b≠e->h.get? b=some u->h'.get? b=some u)(heo:∃ u,h'.get? e=some u):Un fs ex H (upd H x o) h h':=by
 have hx:∀ b,H b=none->b≠x:=λb n z=>by subst z;rw[n]at mu;exact mu
 have hb:∀ b,H b=none->b≠e:=λb n z=>by
  subst z;rcases he with r | r
  ·exact hx b n r
  ·rw[n]at r;cases r
 have hm:∀ b u,H b=some u->¬ Mut (some u)->b≠x:=λb u q nm z=>by subst z;rw[q]at mu;exact nm mu
 refine⟨λb u q n _ _=>k b u (hb b n) q,λb u q n _ _=>⟨u.slots,k b u (hb b n) q⟩,λb u q n _=>by rw[LG (hx b n)];exact n,λb u q _=>?_,
  λb xs q=>by rw[LG (hm b _ q λz=>z)];exact q,λb u xs q=>by rw[LG (hm b _ q λz=>z)];exact q,λb ps q=>⟨#[],by rw[LG (hm b _ q λz=>z),q];simp⟩⟩
 by_cases hbe:b=e
 ·subst hbe;exact heo
 ·exact⟨u,k b u hbe q⟩
end
def trk (h:Heap) (H:Hp):List Addr:=(AI h.objs.size).filter λa=>(H a).isSome
def hidT (h:Heap) (H:Hp):Heap:=PySem.W.hideAll h (trk h H)
def XA h H:(hidT h H).objs.size=h.objs.size:=PySem.W.hideAll_size _ _
def aB{H b o}(e:h.get? b=some o)(n:H b=none):(hidT h H).get? b=some o:=
 PySem.W.hideAll_get _ e λhm=>by
  have q:=(Bm.mp hm).2;rw[n]at q;simp at q
theorem dN{b o}(e:(hidT h H).get? b=some o):h.get? b=some o/\H b=none:=by
 have e':=PySem.W.of_hideAll (trk h H) e;refine⟨e',?_⟩;cases q:H b with
 | none=>rfl
 | some x =>
  have hm:b∈trk h H:=Bm.mpr ⟨Bv.mpr (AL e'),by simp[q]⟩;have z:(hidT h H).get? b=none:=PySem.W.hideAll_none (trk h H) hm;rw[z]at e;cases e
def allNews (g h:Heap) (L:Addr):List (Addr×Obj):=(AI h.objs.size).filterMap λa=>if a=L\/(g.get? a).isSome=true then none else (h.get? a).map λo=>(a,o)
def rest (g h:Heap) (L d:Addr):List (Addr×Obj):=(allNews g h L).filter λp=>decide (p.1≠d)
structure Mod(K:Ab)(mg:Str->Option AM)(base:Heap):Prop where
 kin:K.In base
 glob:base.Ns A4 mg
 blt:∃ mb,base.Ns Gs mb/\∀ x:Str,x≠"__name__"->mb x=B9 x
 nolimit:base.NoLimit
structure Cx where
 prog:Ai
 w:A5
 K:Ab
 mg:Str->Option AM
 base:Heap
 A:BD
 N:List Str
 s₀:AR
 H₀:Hp
 env:Env
 outer:List Env
 stack:List Env
 ex:List Addr
 fn:Str->Bool
 calm:Bool
 pn:List (Addr×Obj)
 xe:AM->AR->Prop
def frs (l:List Env):List Addr:=l.filterMap (·.frame)
abbrev Cx.fs (X:Cx):List Addr:=frs X.outer
def Vis (sc:Ea) (x:Str):Prop:=sc.names.lookup x=some .local\/sc.names.lookup x=some .cell\/sc.names.lookup x=some .free
def Loc (sc:Ea) (x:Str):Prop:=sc.names.lookup x=some .local\/sc.names.lookup x=some .cell
def Look (env:Env) (h:Heap) (m:Str->Option AM) (x:Str) (u:AM):Prop:=
 (env.kindOf x=some .local/\m x=some u)\/((env.kindOf x=some .cell\/env.kindOf x=some .free)/\∃ c,env.cells.lookup x=some c/\h.IsCell c (some u))
structure Cx.Ok(X:Cx):Prop where
 mod:Mod X.K X.mg X.base
 kind:X.env.scope.kind=.function
 glob:X.env.globals=A4
 blt:X.env.builtins=Gs
 above:X.s₀.heap.objs.size<=X.env.locals
 inj:∀ x y c,X.env.cells.lookup x=some c->X.env.cells.lookup y=some c->x=y
 has:∀ x,(X.env.kindOf x=some .cell\/X.env.kindOf x=some .free)->∃ c,X.env.cells.lookup x=some c
 cab:∀ x c,X.fn x=true->X.env.cells.lookup x=some c->X.s₀.heap.objs.size<=c
 hd:X.calm=true->X.A.handled=none
 frames:X.A.frames=some X.stack
 stk:X.stack=X.outer\/(X.stack=X.env::X.outer/\X.env.frame=some X.env.locals)
 exf:∀ b∈X.ex,b≠X.env.locals/\∀ x c,X.env.cells.lookup x=some c->c≠b
 bs:∀ b o,X.base.get? b=some o->X.s₀.heap.get? b=some o/\X.H₀ b=none
 bsz:X.base.objs.size<=X.s₀.heap.objs.size
 noex:∀ b o,X.base.get? b=some o->b∉X.ex
 exfs:∀ b∈X.ex,b∉X.fs
 funs:X.s₀.heap.FunFrames X.base X.outer
 frf:∀ b∈X.fs,X.H₀ b=none
structure Inv(X:Cx)(pins:List (Addr×Obj))(σ:List (Option V))(H:Hp)(s:AR):Prop where
 ok:X.Ok
 os:s.os=X.s₀.os
 bare:Ej s.gens
 base:Un X.fs X.ex X.H₀ H X.s₀.heap s.heap
 loc:∃ m,s.heap.Ns X.env.locals m/\∀ (i:Nat) (x:Str) (v:V),X.N[i]?=some x->σ[i]?=some (some v)->Vis X.env.scope x->∃ u,RelV v u/\Look X.env s.heap m x u
 cell:∀ x c,X.env.cells.lookup x=some c->∃ v,s.heap.IsCell c v
 free:H X.env.locals=none
 freeC:∀ x c,X.env.cells.lookup x=some c->H c=none
 pin:∀ p∈X.pn++pins,s.heap.get? p.1=some p.2/\H p.1=none/\p.1≠X.env.locals/\p.1∉X.fs/\∀ v,p.2.data≠.cell v
 hok:HOk X.prog X.w H s.heap
 len:σ.length=X.N.length
section
variable {X:Cx}{pins:List (Addr×Obj)}{σ:List (Option V)}{H H':Hp}{s:AR}{h':Heap}
def Cx.Ok.nofr(ok:X.Ok){b o}(e:X.base.get? b=some o):b∉X.fs:=λhb=>by
 have:=(ok.funs.mem hb).1;lia
theorem Inv.bs(I:Inv X pins σ H s):∀ b o,X.base.get? b=some o->s.heap.get? b=some o/\H b=none:=λb o e =>
 ⟨I.base.keep b o (I.ok.bs b o e).1 (I.ok.bs b o e).2 (I.ok.nofr e) (I.ok.noex b o e),I.base.free b o (I.ok.bs b o e).1 (I.ok.bs b o e).2 (I.ok.noex b o e)⟩
def Inv.bk(I:Inv X pins σ H s):∀ b o,X.base.get? b=some o->s.heap.get? b=some o:=λb o e=>(I.bs b o e).1
theorem Inv.mod(I:Inv X pins σ H s):Mod X.K X.mg X.base:=I.ok.mod
def Inv.kIn(I:Inv X pins σ H s):X.K.In s.heap:=I.ok.mod.kin.keeps I.bk
def Inv.fr(I:Inv X pins σ H s):∃ m,Fr X.base X.env.locals s.heap m:=
 let ⟨m,hn,_⟩:=I.loc
 ⟨m,hn,I.bk,Ak I.ok.bsz I.ok.above⟩
theorem Inv.lt(I:Inv X pins σ H s):X.env.locals < s.heap.objs.size:=let ⟨_,hn,_⟩:=I.loc;hn.lt
def Inv.sz(I:Inv X pins σ H s):X.s₀.heap.objs.size<=s.heap.objs.size:=Ak I.ok.above (CJ I.lt)
def Inv.nofs(I:Inv X pins σ H s){a:Addr}(h:s.heap.objs.size<=a):a∉X.fs:=λhb=>by
 obtain⟨_,o,ho,_⟩:=I.ok.funs.mem hb;exact absurd (AU (AL ho) (Ak I.sz h)) (BA _)
def Inv.cne(I:Inv X pins σ H s):∀ x c,X.env.cells.lookup x=some c->c≠X.env.locals:=λx c e z=>by
 obtain⟨v,o,ho,hd⟩:=I.cell x c e;obtain⟨m,⟨o',es,ep,ho',hd',_⟩,_⟩:=I.loc;lia
theorem Inv.funs(I:Inv X pins σ H s):s.heap.FunFrames X.base X.outer:=by
 have all:∀ l,(∀ b∈frs l,b∈X.fs)->X.s₀.heap.FunFrames X.base l->s.heap.FunFrames X.base l:=by
  intro l;induction l with
  | nil=>intro _ _;trivial
  | cons env r ih =>
   intro hs hl;obtain⟨hk,⟨L,o,hf,hn,ho,hd⟩,hr⟩:=hl;have hL:=hs L (by unfold frs;rw[Eo,hf];exact AG);obtain⟨sl,e⟩:=I.base.slot L o ho (I.ok.frf L hL) hL λz=>I.ok.exfs L z hL
   exact⟨hk,⟨L,_,hf,hn,e,hd⟩,ih (λb hb=>hs b (by unfold frs;rw[Eo,hf];exact AH _ hb)) hr⟩
 exact all X.outer (λ_ hb=>hb) I.ok.funs
theorem Inv.stack(I:Inv X pins σ H s):s.heap.FunFrames X.base X.stack:=by
 rcases I.ok.stk with e | ⟨e,hf⟩
 ·rw[e];exact I.funs
 ·rw[e];have ⟨m,hn,_⟩:=I.loc;refine .cons (by rw[I.ok.kind];decide) hf hn (Heap.get?_none_of_le (Ak I.ok.bsz I.ok.above)) I.funs
def Inv.stkSub(I:Inv X pins σ H s):∀ b∈frs X.stack,b∈X.env.locals::X.fs:=λb hb=>by
 rcases I.ok.stk with e | ⟨e,hf⟩
 ·rw[e]at hb;exact AH _ hb
 ·rw[e]at hb;unfold frs at hb;rw[Eo,hf]at hb;exact hb
def Inv.stkFree(I:Inv X pins σ H s):∀ b∈frs X.stack,H b=none:=λb hb=>by
 rcases AN.mp (I.stkSub b hb) with e | hb
 ·rw[e];exact I.free
 ·obtain⟨_,o,ho,_⟩:=I.ok.funs.mem hb;exact I.base.free b o ho (I.ok.frf b hb) λz=>I.ok.exfs b z hb
def Inv.step{d'}{ch:List Addr}(I:Inv X pins σ H s)
  (hch:∀ b∈ch,(b∈X.ex\/X.s₀.heap.objs.size<=b)/\b≠X.env.locals/\(∀ x c,X.env.cells.lookup x=some c->c≠b)/\∀ p∈X.pn++pins,p.1≠b)
  (keep:∀ b o,b≠X.env.locals->b∉X.fs->b∉ch->s.heap.get? b=some o->H b=none->h'.get? b=some o)
  (slot:∀ b o,b≠X.env.locals->b∈X.fs->b∉ch->s.heap.get? b=some o->H b=none->∃ sl,h'.get? b=some { o with slots:=sl }) (free:∀ b o,b∉ch->s.heap.get? b=some o->H b=none->H' b=none)
  (there:∀ b o,b∉ch->s.heap.get? b=some o->∃ o',h'.get? b=some o')
  (tups:∀ b xs,H b=some (.tup xs)->H' b=some (.tup xs)) (frzs:∀ b o u,H b=some (.frz o u)->H' b=some (.frz o u)) (tbls:∀ b ps,H b=some (.tbl ps)->∃ more,H' b=some (.tbl (ps++more)))
  (ns:∀ m,s.heap.Ns X.env.locals m->h'.Ns X.env.locals m) (hok:HOk X.prog X.w H' h') (hg:Ej g') :
  Inv X pins σ H' { s with heap:=h',gens:=g',drawn:=d',toks:=t' }:=by
 have neL:∀ b o,X.s₀.heap.get? b=some o->b≠X.env.locals:=λb o e=>Ag (AU (AL e) I.ok.above)
 have neC:∀ b o,X.s₀.heap.get? b=some o->b∉X.ex->b∉ch:=λb o e hx hb=>by
  rcases (hch b hb).1 with z | z
  ·exact hx z
  ·exact absurd (AU (AL e) z) (BA _)
 have cellK:∀ x c,X.env.cells.lookup x=some c->∀ v,s.heap.IsCell c v->h'.IsCell c v:=λx c e v ⟨o,ho,hd⟩=>by
  have nch:=λz=>(hch c z).2.2.1 x c e rfl
  by_cases hc:c∈X.fs
  ·obtain⟨sl,q⟩:=slot c o (I.cne x c e) hc nch ho (I.freeC x c e);exact⟨_,q,hd⟩
  ·exact⟨o,keep c o (I.cne x c e) hc nch ho (I.freeC x c e),hd⟩
 refine⟨I.ok,I.os,hg,⟨λb o e n hb hx=>?_,λb o e n hb hx=>?_,λb o e n hx=>?_,λb o e hx=>?_,λb xs e=>tups b xs (I.base.tups b xs e),λb o xs e=>frzs b o xs (I.base.frzs b o xs e),λb ps e=>?_⟩,?_,λx c e=>?_,?_,λx c e=>?_,λp hp=>?_,hok,I.len⟩
 ·exact keep b o (neL b o e) hb (neC b o e hx) (I.base.keep b o e n hb hx) (I.base.free b o e n hx)
 ·obtain⟨sl,e1⟩:=I.base.slot b o e n hb hx;obtain⟨sl',e2⟩:=slot b _ (neL b o e) hb (neC b o e hx) e1 (I.base.free b o e n hx);exact⟨sl',e2⟩
 ·obtain⟨o',e1⟩:=I.base.there b o e hx;exact free b o' (neC b o e hx) e1 (I.base.free b o e n hx)
 ·obtain⟨o',e1⟩:=I.base.there b o e hx;exact there b o' (neC b o e hx) e1
 ·obtain⟨m1,e1⟩:=I.base.tbls b ps e;obtain⟨m2,e2⟩:=tbls b _ e1;exact⟨m1++m2,by rw[e2,Array.append_assoc]⟩
 ·have ⟨m,hn,hl⟩:=I.loc;refine⟨m,ns m hn,λi x v e1 e2 e3=>?_⟩;obtain⟨u,r,l⟩:=hl i x v e1 e2 e3;refine⟨u,r,?_⟩;rcases l with l | ⟨k,c,e,z⟩
  ·exact .inl l
  ·exact .inr ⟨k,c,e,cellK x c e _ z⟩
 ·obtain⟨v,z⟩:=I.cell x c e;exact⟨v,cellK x c e v z⟩
 ·obtain⟨m,⟨o,_,_,ho,_⟩,_⟩:=I.loc;exact free _ o (λz=>(hch _ z).2.1 rfl) ho I.free
 ·obtain⟨v,o,ho,hd⟩:=I.cell x c e;exact free c o (λz=>(hch c z).2.2.1 x c e rfl) ho (I.freeC x c e)
 ·obtain⟨e,n,ne,nf,d⟩:=I.pin p hp;have nch:=λz=>(hch p.1 z).2.2.2 p hp rfl
  exact⟨keep p.1 p.2 ne nf nch e n,free p.1 p.2 nch e n,ne,nf,d⟩
def Inv.un(I:Inv X pins σ H s)(u:Un X.fs [] H H' s.heap h')(hok:HOk X.prog X.w H' h'):Inv X pins σ H' { s with heap:=h',toks:=t' }:=by
 obtain⟨m,⟨o,es,ep,ho,r⟩,_⟩:=id I.loc;obtain⟨sl,hL⟩:=u.any ho I.free ↥1;exact I.step (ch:=[]) (λ_ z=>nomatch z) (λb o _ hb _ e n=>u.keep b o e n hb ↥1) (λb o _ hb _ e n=>u.slot b o e n hb ↥1) (λb o _ e n=>u.free b o e n ↥1) (λb o _ e=>u.there b o e ↥1) u.tups u.frzs u.tbls (λm' hm=>by
  obtain⟨o',es',ep',ho',r'⟩:=hm;rw[ho]at ho';cases ho';exact⟨_,es',ep',hL,r'⟩) hok I.bare
def Inv.call{d' ch}(I:Inv X pins σ H s)(u:Un (frs X.stack) ch H H' s.heap h')(hok:HOk X.prog X.w H' h')(hg:Ej g')
  (hch:∀ b∈ch,(b∈X.ex\/X.s₀.heap.objs.size<=b)/\b≠X.env.locals/\(∀ x c,X.env.cells.lookup x=some c->c≠b)/\∀ p∈X.pn++pins,p.1≠b) :
  Inv X pins σ H' { s with heap:=h',gens:=g',drawn:=d',toks:=t' }:=by
 obtain⟨m,⟨o,es,ep,ho,r⟩,_⟩:=id I.loc;obtain⟨sl,hL⟩:=u.any ho I.free λz=>(hch _ z).2.1 rfl
 exact I.step hch (λb o hL hb hc e n=>u.keep b o e n (λz=>(AN.mp (I.stkSub b z)).elim hL hb) hc) (λb o _ _ hc e n=>u.any e n hc) (λb o hc e n=>u.free b o e n hc) (λb o hc e=>u.there b o e hc) u.tups u.frzs u.tbls (λm' hm=>by
  obtain⟨o',es',ep',ho',r'⟩:=hm;rw[ho]at ho';cases ho';exact⟨_,es',ep',hL,r'⟩) hok hg
def Inv.turned{it}(I:Inv X pins σ H s)(k:∀ b o,b≠it->s.heap.get? b=some o->h'.get? b=some o)(hn:H it=none)(hL:it≠X.env.locals)
  (h1:it∈X.ex\/X.s₀.heap.objs.size<=it) (h2:∀ x c,X.env.cells.lookup x=some c->c≠it) (h3:∀ p∈X.pn++pins,p.1≠it):Inv X pins σ H { s with heap:=h',toks:=t' }:=by
 have nit:∀ b u,H b=some u->b≠it:=λb u e z=>by rw[z,hn]at e;cases e
 refine I.step (ch:=[it]) (λb hb=>?_) (λb o _ _ hc e _=>k b o (λz=>hc (by simp[z])) e) (λb o _ _ hc e _=>⟨o.slots,k b o (λz=>hc (by simp[z])) e⟩) (λ_ _ _ _ n=>n)
  (λb o hc e=>⟨o,k b o (λz=>hc (by simp[z])) e⟩) (λ_ _ e=>e) (λ_ _ _ e=>e) (λb ps e=>⟨#[],by rw[e];simp⟩) (λm hm=>?_) (λb u e=>?_) I.bare
 ·have e:=by simpa using hb
  subst e;exact⟨h1,hL,h2,h3⟩
 ·obtain⟨o,es,ep,ho,r⟩:=hm;exact⟨o,es,ep,k _ o (Ax hL) ho,r⟩
 ·refine (I.hok b u e).stay (λc v hc q=>k c v ?_ q) (λ_ q=>q) λ_ _ q=>q
  rcases hc with z | z
  ·rw[z];exact nit b u e
  ·exact nit c _ z
def Inv.tok(I:Inv X pins σ H s) t:Inv X pins σ H { s with toks:=t }:=I.un Un.refl I.hok
theorem Inv.kept(I:Inv X pins σ H s)(k:∀ b u,s.heap.get? b=some u->h'.get? b=some u):Inv X pins σ H { s with heap:=h',toks:=t' }:=I.un (Un.kept k) (I.hok.kept k)
theorem Inv.laid{a:Addr}{o t'}(I:Inv X pins σ H s)(k:∀ b u,s.heap.get? b=some u->h'.get? b=some u)(hp:s.heap.objs.size<=a)(new:ObjOk X.prog X.w (upd H a o) h' a o) :
  Inv X pins σ (upd H a o) { s with heap:=h',toks:=t' }:=I.un (Un.laid k hp (I.hok.fresh hp)) (I.hok.laid k hp new)
theorem Inv.write{t'}(I:Inv X pins σ H s)(mu:Mut (H x))(he:e=x\/H e=some (.own x))(k:∀ b u,b≠e->s.heap.get? b=some u->h'.get? b=some u)(heo:∃ u,h'.get? e=some u)
  (new:ObjOk X.prog X.w (upd H x o) h' x o):Inv X pins σ (upd H x o) { s with heap:=h',toks:=t' }:=I.un (Un.write mu he k heo) (I.hok.write mu he k heo new)
def Inv.pins_of(I:Inv X pins σ H s)(h:∀ p∈pins',s.heap.get? p.1=some p.2/\H p.1=none/\p.1≠X.env.locals/\p.1∉X.fs/\∀ v,p.2.data≠.cell v):Inv X pins' σ H s:=
 ⟨I.ok,I.os,I.bare,I.base,I.loc,I.cell,I.free,I.freeC,λp hp=>(Aw.mp hp).elim (λz=>I.pin p (BB _ z)) (h p),I.hok,I.len⟩
def T5{N:List Str}(hN:N.Nodup){i j:Nat}{x}(a:N[i]?=some x)(b:N[j]?=some x):i=j:=by
 obtain⟨h1,e1⟩:=AZ.mp a;obtain⟨h2,e2⟩:=AZ.mp b;exact (List.getElem_inj hN).mp (e1.trans e2.symm)
def Y8{A E i x v u Q}(I:Inv X pins σ H s)(hN:X.N.Nodup)(hi:X.N[i]?=some x)(hx:Loc X.env.scope x)(r:RelV v u)
  (h:∀ s',Inv X pins (σ.set i (some v)) H s'->(∃ a,Cm a s.heap s'.heap/\(a=X.env.locals\/X.env.cells.lookup x=some a))->Q () s') (hf:X.fn x=true\/X.env.scope.names.lookup x=some .local:=by first | exact .inl rfl | exact .inr rfl | assumption):AQ M A (storeName X.env x u) Q E s:=by
 have ⟨m,hn,hl⟩:=id I.loc;have hcls:(X.env.scope.kind == .class || (X.env.scope.kind == .module && X.env.locals != X.env.globals))=false:=by rw[I.ok.kind];rfl
 have hiσ:i < σ.length:=by rw[I.len];exact (AZ.mp hi).1
 have cne:=I.cne;have tracked:∀ {a:Addr} {h':Heap},(∃ o,s.heap.get? a=some o/\H a=none)->Cm a s.heap h'->HOk X.prog X.w H h':=λ{a h'} ha hs b ob e=>by
  obtain⟨_,_,hfree⟩:=ha;refine (I.hok b ob e).stay (λc w' hc q=>(hs.2 c ?_).trans q) (λ_ q=>q) λ_ _ q=>q
  rintro rfl;rcases hc with rfl | hc
  ·rw[hfree]at e;cases e
  ·rw[hfree]at hc;cases hc
 rcases hx with hk | hk
 ·refine wpAny_storeName_local hk hn (λh' hn' hs=>?_) hcls;obtain⟨oL,_,_,hoL,_⟩:=id hn;refine h _ ⟨I.ok,I.os,I.bare,⟨λb o e n hb hx=>?_,λb o e n hb hx=>?_,I.base.free,λb o e hx=>?_,I.base.tups,I.base.frzs,I.base.tbls⟩,⟨_,hn',λj y v' e1 e2 e3=>?_⟩,λy c e=>?_,I.free,I.freeC,λp hp=>?_,tracked ⟨oL,hoL,I.free⟩ hs,by simpa using I.len⟩ ⟨_,hs,.inl rfl⟩
  ·exact (hs.2 b (Ag (AU (AL e) I.ok.above))).trans (I.base.keep b o e n hb hx)
  ·obtain⟨sl,e1⟩:=I.base.slot b o e n hb hx;exact⟨sl,(hs.2 b (Ag (AU (AL e) I.ok.above))).trans e1⟩
  ·obtain⟨o',e1⟩:=I.base.there b o e hx;exact⟨o',(hs.2 b (Ag (AU (AL e) I.ok.above))).trans e1⟩
  ·by_cases hj:j=i
   ·subst hj;rw[hi]at e1;cases e1;rw[Aj hiσ]at e2;cases e2;exact⟨u,r,.inl ⟨hk,by simp⟩⟩
   ·rw[AO (Ax hj)]at e2;obtain⟨u',r',q⟩:=hl j y v' e1 e2 e3;refine⟨u',r',?_⟩;rcases q with ⟨k,e⟩ | ⟨k,c,e,z⟩
    ·refine .inl ⟨k,?_⟩;have:y≠x:=λe=>hj (T5 hN e1 (e ▸ hi))
     simp[this,e]
    ·exact .inr ⟨k,c,e,z.sameBut hs (cne y c e)⟩
  ·obtain⟨w',z⟩:=I.cell y c e;exact⟨w',z.sameBut hs (cne y c e)⟩
  ·obtain⟨e,n,ne,nf,d⟩:=I.pin p hp;exact⟨(hs.2 p.1 ne).trans e,n,ne,nf,d⟩
 ·have hfn:X.fn x=true:=by
   rcases hf with z | z
   ·exact z
   ·rw[z]at hk;cases hk
  obtain⟨c,hc⟩:=I.ok.has x (.inl hk);obtain⟨w',z⟩:=I.cell x c hc;refine wpAny_storeName_cell I.ok.kind hk hc z (λh' hc' hs=>?_);have ⟨oc,hoc,hocd⟩:=id z;refine h { s with heap:=h' } ⟨I.ok,I.os,I.bare,⟨λb o e n hb hx=>?_,λb o e n hb hx=>?_,I.base.free,λb o e hx=>?_,I.base.tups,I.base.frzs,I.base.tbls⟩,⟨m,hn.sameBut hs (Ax (cne x c hc)),λj y v' e1 e2 e3=>?_⟩,λy c' e=>?_,I.free,I.freeC,λp hp=>?_,tracked ⟨oc,hoc,I.freeC x c hc⟩ hs,by simpa using I.len⟩ ⟨c,hs,.inr hc⟩
  ·exact (hs.2 b (Ag (AU (AL e) (I.ok.cab x c hfn hc)))).trans (I.base.keep b o e n hb hx)
  ·obtain⟨sl,e1⟩:=I.base.slot b o e n hb hx;exact⟨sl,(hs.2 b (Ag (AU (AL e) (I.ok.cab x c hfn hc)))).trans e1⟩
  ·obtain⟨o',e1⟩:=I.base.there b o e hx;exact⟨o',(hs.2 b (Ag (AU (AL e) (I.ok.cab x c hfn hc)))).trans e1⟩
  ·by_cases hj:j=i
   ·subst hj;rw[hi]at e1;cases e1;rw[Aj hiσ]at e2;cases e2;exact⟨u,r,.inr ⟨.inl hk,c,hc,hc'⟩⟩
   ·rw[AO (Ax hj)]at e2;obtain⟨u',r',q⟩:=hl j y v' e1 e2 e3;refine⟨u',r',?_⟩;rcases q with q | ⟨k,c',e,z'⟩
    ·exact .inl q
    ·refine .inr ⟨k,c',e,z'.sameBut hs ?_⟩;rintro rfl;exact hj (T5 hN e1 (I.ok.inj _ _ _ e hc ▸ hi))
  ·by_cases hcc:c'=c
   ·subst hcc;exact⟨_,hc'⟩
   ·obtain⟨w2,z2⟩:=I.cell y c' e;exact⟨w2,z2.sameBut hs hcc⟩
  ·obtain⟨e,n,ne,nf,d⟩:=I.pin p hp;refine⟨(hs.2 p.1 ?_).trans e,n,ne,nf,d⟩;intro q;rw[q,hoc]at e;exact d w' (by rw[← (Av e)];exact hocd)
def MX{A E i x v u Q}(I:Inv X pins σ H s)(hN:X.N.Nodup)(hi:X.N[i]?=some x)(hx:Loc X.env.scope x)(r:RelV v u)
  (h:∀ s',Inv X pins (σ.set i (some v)) H s'->Q () s') (hf:X.fn x=true\/X.env.scope.names.lookup x=some .local:=by first | exact .inl rfl | exact .inr rfl | assumption):AQ M A (storeName X.env x u) Q E s:=
 Y8 I hN hi hx r (λs' I' _=>h s' I') hf
def Inv.call'{ch}(I:Inv X pins σ H s)(ho:s'.os=s.os)(u:Un (frs X.stack) ch H H' s.heap s'.heap)(hok:HOk X.prog X.w H' s'.heap)(hg:Ej s'.gens)
  (hch:∀ b∈ch,(b∈X.ex\/X.s₀.heap.objs.size<=b)/\b≠X.env.locals/\(∀ x c,X.env.cells.lookup x=some c->c≠b)/\∀ p∈X.pn++pins,p.1≠b):Inv X pins σ H' s':=by
 obtain⟨h',g',d',t',o'⟩:=s';subst ho;exact I.call u hok hg hch
end
abbrev XK:=AM->Option Addr->Hp->Prop
abbrev St:=List (Option V)
abbrev VK:=V->Hp->Prop
abbrev TE:=St->Hp->VK->Prop
abbrev TT:=St->Hp->(Bool->Hp->Prop)->Prop
abbrev TA:=St->Hp->(List V->Hp->Prop)->Prop
structure Ends where
 nx:St->Hp->Prop
 rt:VK
 bk:St->Hp->Prop:=λ_ _=>False
 ct:St->Hp->Prop:=λ_ _=>False
abbrev TS:=Ends->St->Hp->Prop
def EP (X:Cx) (pins:List (Addr×Obj)) (σ:St) (Q:VK) (u:AM) (s':AR):Prop:=∃ v H',Inv X pins σ H' s'/\RelV v u/\Q v H'
def TP (X:Cx) (pins:List (Addr×Obj)) (σ:St) (Q:Bool->Hp->Prop) (b:Bool) (s':AR):Prop:=∃ H',Inv X pins σ H' s'/\Q b H'
def AP (X:Cx) (pins:List (Addr×Obj)) (σ:St) (Q:List V->Hp->Prop) (us:List AM) (s':AR):Prop:=∃ vs H',Inv X pins σ H' s'/\Vals vs us/\Q vs H'
def SP (X:Cx) (pins:List (Addr×Obj)) (D:Ends) (f:Flow) (s':AR):Prop:=
 match f with
 | .next=>∃ σ' H',Inv X pins σ' H' s'/\D.nx σ' H'
 | .brk=>∃ σ' H',Inv X pins σ' H' s'/\D.bk σ' H'
 | .cont=>∃ σ' H',Inv X pins σ' H' s'/\D.ct σ' H'
 | .ret u=>∃ v σ' H',Inv X pins σ' H' s'/\RelV v u/\D.rt v H'
def PE (X:Cx) (e:Expr) (t:TE):Prop:=
 ∀ pins s (σ:St) H Q,Inv X pins σ H s->t σ H Q->AQ (model X.prog X.w) X.A (eval e X.env) (EP X pins σ Q) X.xe s
def PT (X:Cx) (e:Expr) (t:TT):Prop:=
 ∀ pins s (σ:St) H Q,Inv X pins σ H s->t σ H Q->AQ (model X.prog X.w) X.A (HZ e X.env (eval e X.env)) (TP X pins σ Q) X.xe s
def PW (X:Cx) (e:Expr) (t:TT):Prop:=
 ∀ whole pins s (σ:St) H Q,Inv X pins σ H s->t σ H Q->AQ (model X.prog X.w) X.A (HZ e X.env whole) (TP X pins σ Q) X.xe s
def PW.pt{e t}(h:PW X e t):PT X e t:=h _
def PA (X:Cx) (es:List Expr) (t:TA):Prop:=
 ∀ pos pins s (σ:St) H Q,Inv X pins σ H s->t σ H Q->AQ (model X.prog X.w) X.A (spliced (CV pos (AW es X.env))) (AP X pins σ Q) X.xe s
def PS (X:Cx) (st:Stmt) (t:TS):Prop:=
 ∀ pins s (σ:St) H D,Inv X pins σ H s->t D σ H->AQ (model X.prog X.w) X.A (exec st X.env) (SP X pins D) X.xe s
def PSs (X:Cx) (st:List Stmt) (t:TS):Prop:=
 ∀ pins s (σ:St) H D,Inv X pins σ H s->t D σ H->AQ (model X.prog X.w) X.A (execs st X.env) (SP X pins D) X.xe s
def thn{Q Q' M A E s}(h:AQ M A t Q E s)(hQ:∀ a s,Q a s->Q' a s):AQ M A t Q' E s:=BE h hQ λ_ _ x=>x
section
variable {X:Cx}
def bin{ta tb}(ha:PE X a ta)(hb:PE X b tb){pins s}{σ:St}{H}{R:V->V->Hp->Prop}(I:Inv X pins σ H s)(h:ta σ H λx H1=>tb σ H1 λy H2=>R x y H2)
  {α Q} {f:AM->AM->Sem α}
  (hf:∀ v u s2 x y H2,Inv X pins σ H2 s2->RelV x v->RelV y u->R x y H2->AQ (model X.prog X.w) X.A (f v u) Q X.xe s2) :
  AQ (model X.prog X.w) X.A (eval a X.env) (λv s₁=>AQ (model X.prog X.w) X.A (eval b X.env) (λu s₂=>AQ (model X.prog X.w) X.A (f v u) Q X.xe s₂) X.xe s₁) X.xe s:=by
 exact thn (ha pins s σ H _ I h) λv s1 ⟨x,H1,I1,r1,q1⟩=>thn (hb pins s1 σ H1 _ I1 q1) λu s2 ⟨y,H2,I2,r2,q2⟩=>hf v u s2 x y H2 I2 r1 r2 q2
def tVar (i:Nat):TE:=λσ H Q=>∃ v,σ[i]?=some (some v)/\Q v H
def tC (v:V):TE:=λ_ H Q=>Q v H
def Pk{x pos}(hN:X.N[i]?=some x)(hv:Vis X.env.scope x)(hd:(x == ("__debug__":Str))=false:=by decide)(hcd:(x == ("__classdict__":Str))=false:=by decide):PE X (.Name x pos) (tVar i):=by
 intro pins s σ H Q I h;obtain⟨v,e,h⟩:=h;obtain⟨m,hn,hl⟩:=I.loc;obtain⟨u,r,l⟩:=hl i x v hN e hv;have fin:EP X pins σ Q u s:=⟨v,H,I,r,h⟩
 rcases l with ⟨hk,hm⟩ | ⟨hk,c,hc,hcell⟩
 ·exact Ic (wpAny_loadName_local I.ok.kind hk hn hm fin) hd
 ·rcases hk with hk | hk
  ·exact Ic (wpAny_loadName_cell I.ok.kind hk hc hcell fin) hd
  ·exact Ic (wpAny_loadName_free I.ok.kind hk hc hcell fin hcd) hd
def Zl{i j pos}:PE X (.Constant (.int i) j pos) (tC (.int i)):=λ_ _ _ H _ I h=>wpAny_Constant_int ⟨.int i,H,I.tok _,⟨_,rfl⟩,h⟩
def f6{b j pos}:PE X (.Constant (.bool b) j pos) (tC (.bl b)):=λ_ _ _ H _ I h=>Constant_bool ⟨.bl b,H,I,rfl,h⟩
def fF{x j pos}:PE X (.Constant (.str x) j pos) (tC (.str x)):=λ_ _ _ H _ I h=>Calls.Constant_str ⟨.str x,H,I.tok _,⟨_,rfl⟩,h⟩
def Gl (X:Cx) (x:Str):Prop:=X.env.kindOf x=some .globalImplicit
def Ul{pins s}{σ:St}{H x u pos Q}(I:Inv X pins σ H s)(hg:Gl X x)(hm:X.mg x=some u)(h:Q u s)
  (hd:(x == ("__debug__":Str))=false:=by decide):AQ (model X.prog X.w) X.A (eval (.Name x pos) X.env) Q E s:=
 Fi I.ok.kind hg (Calls.loadGlobal_global (by rw[I.ok.glob];exact I.mod.glob.keeps I.bk) hm h) hd
def L3{E pins s}{σ:St}{H x u pos Q}(I:Inv X pins σ H s)(hg:Gl X x)(hm:X.mg x=none)(hv:B9 x=some u)(h:Q u s)
  (hn:x≠"__name__":=by decide) (hd:(x == ("__debug__":Str))=false:=by decide):AQ (model X.prog X.w) X.A (eval (.Name x pos) X.env) Q E s:=by
 obtain⟨mb,h1,h2⟩:=I.mod.blt;exact Fi I.ok.kind hg (Calls.loadGlobal_builtin (by rw[I.ok.glob];exact I.mod.glob.keeps I.bk) hm (by rw[I.ok.blt];exact h1.keeps I.bk) ((h2 x hn).trans hv) h) hd
def SG{u pos}(hg:Gl X x)(hm:X.mg x=some u)(r:RelV v u)(hd:(x == ("__debug__":Str))=false:=by decide):PE X (.Name x pos) (tC v):=
 λ_ _ _ H _ I h=>Ul I hg hm ⟨v,H,I,r,h⟩ hd
def Ym{u pos}(hg:Gl X x)(hm:X.mg x=none)(hv:B9 x=some u)(r:RelV v u)(hn:x≠"__name__":=by decide)(hd:(x == ("__debug__":Str))=false:=by decide):PE X (.Name x pos) (tC v):=
 λ_ _ _ H _ I h=>L3 I hg hm hv ⟨v,H,I,r,h⟩ hn hd
variable {a b:Expr}{ta tb:TE}{pos:Pos}
def PC (X:Cx) (op:CmpOp) (a b:Expr) (t:TE):Prop:=
 ∀ pins s (σ:St) H Q,Inv X pins σ H s->t σ H Q ->
  AQ (model X.prog X.w) X.A (eval a X.env) (λv s₁=>AQ (model X.prog X.w) X.A (eval b X.env) (λu s₂=>AQ (model X.prog X.w) X.A (Bi op v u) (EP X pins σ Q) X.xe s₂) X.xe s₁) X.xe s
def nobehind b {op} (h:op≠.In) (h2:op≠.NotIn):Bo op b=false:=by
 have e1:(op == KE)=false:=by cases op <;> first | rfl | exact absurd rfl h
 have e2:(op == Iv)=false:=by cases op <;> first | rfl | exact absurd rfl h2
 cases b <;> simp[Bo,e1,e2]
def tB (t:TE):TT:=λσ H Q=>t σ H λx H1=>∃ c,x=.bl c/\Q c H1
def gR(h:PC X op a b t)(h1:Bo op b=false:=by first | exact nobehind _ ∅ ∅ | rfl):PT X (.Compare a [op] [b] pos) (tB t):=by
 intro pins s σ H Q I hw;refine Hz (thn (h pins s σ H _ I hw) λv s1 h1=>thn h1 λu s2 h2=>thn h2 λc s3 ⟨x,H1,I1,r1,q1⟩=>?_) h1;obtain⟨d,rfl,q⟩:=q1;cases r1;exact Bz ⟨H1,I1,q⟩
variable {tA tB':TT}{rest:List Expr}
def tAnd (t u:TT):TT:=λσ H Q=>t σ H λc H1=>if c=true then u σ H1 Q else Q false H1
def tOr (t u:TT):TT:=λσ H Q=>t σ H λc H1=>if c=true then Q true H1 else u σ H1 Q
def tNot (t:TT):TT:=λσ H Q=>t σ H λc H1=>Q (!c) H1
theorem gf(ha:PT X a tA):PW X (.BoolOp .And [a] pos) tA:=by
 intro wh pins s σ H Q I h;refine isTrue_and (thn (ha pins s σ H Q I h) λc s1 e=>?_);cases c with
 | true=>exact isTrue_and_nil e
 | false=>exact e
theorem Xl(ha:PT X a tA):PW X (.BoolOp .Or [a] pos) tA:=by
 intro wh pins s σ H Q I h;refine isTrue_or (thn (ha pins s σ H Q I h) λc s1 e=>?_);cases c with
 | false=>exact isTrue_or_nil e
 | true=>exact e
theorem Z4(ha:PT X a tA)(hb:PW X (.BoolOp .And (b::rest) pos) tB'):PW X (.BoolOp .And (a::b::rest) pos) (tAnd tA tB'):=by
 intro wh pins s σ H Q I h;refine isTrue_and (thn (ha pins s σ H _ I h) λc s1 ⟨H1,I1,q1⟩=>?_);cases c with
 | true=>exact hb wh pins s1 σ H1 Q I1 q1
 | false=>exact⟨H1,I1,q1⟩
theorem jk(ha:PT X a tA)(hb:PW X (.BoolOp .Or (b::rest) pos) tB'):PW X (.BoolOp .Or (a::b::rest) pos) (tOr tA tB'):=by
 intro wh pins s σ H Q I h;refine isTrue_or (thn (ha pins s σ H _ I h) λc s1 ⟨H1,I1,q1⟩=>?_);cases c with
 | true=>exact⟨H1,I1,q1⟩
 | false=>exact hb wh pins s1 σ H1 Q I1 q1
def gy(ha:PT X a tA):PT X (.UnaryOp .Not a pos) (tNot tA):=λpins s σ H Q I h=>isTrue_not (ha pins s σ H (λc H1=>Q (!c) H1) I h)
def tAndV (ta tb:TE):TE:=λσ H Q=>ta σ H λx H1=>∃ c,x=.bl c/\if c=true then tb σ H1 Q else Q (.bl false) H1
def gX{op t}(h:PE X a t):PE X (.BoolOp op [a] pos) t:=λpins s σ H Q I hw=>BoolOp_one (h pins s σ H Q I hw)
theorem Ya(ha:PE X a ta)(hb:PE X (.BoolOp .And (b::rest) pos) tb):PE X (.BoolOp .And (a::b::rest) pos) (tAndV ta tb):=by
 intro pins s σ H Q I h;refine BoolOp_and (thn (ha pins s σ H _ I h) λv s1 ⟨x,H1,I1,r1,q1⟩=>?_);obtain⟨c,rfl,q1⟩:=q1;cases r1;refine Bz ?_;cases c with
 | true=>exact hb pins s1 σ H1 Q I1 q1
 | false=>exact⟨.bl false,H1,I1,rfl,q1⟩
def tIf (t:TT) (ta tb:TE):TE:=λσ H Q=>t σ H λc H1=>if c=true then ta σ H1 Q else tb σ H1 Q
theorem fX(hc:PT X c tA)(ha:PE X a ta)(hb:PE X b tb):PE X (.IfExp c a b pos) (tIf tA ta tb):=by
 intro pins s σ H Q I h;refine wpAny_IfExp (thn (hc pins s σ H _ I h) λd s1 ⟨H1,I1,q1⟩=>?_);cases d with
 | true=>exact ha pins s1 σ H1 Q I1 q1
 | false=>exact hb pins s1 σ H1 Q I1 q1
end
def SqL (K:Ab) (H:Hp) (a:Addr) (xs:List V):Prop:=
 Rd H a (.lst xs) \/
  ∃ (o:Obj) (its:Array AM) (n:Nat),K.lookup a=some o/\o.cls=.type "list"/\o.dict=none/\o.data=.seq its n/\its.size<=AD/\Vals xs its.toList
def SqT (K:Ab) (H:Hp) (a:Addr) (xs:List V):Prop:=
 Rd H a (.tup xs) \/
  ∃ (o:Obj) (its:Array AM) (n:Nat),K.lookup a=some o/\o.cls=.type "tuple"/\o.data=.seq its n/\its.size<=AD/\Vals xs its.toList
def absV:AM->Option V
 | .none=>some .non
 | .bool b=>some (.bl b)
 | .int i _=>some (.int i)
 | .str x _=>some (.str x)
 | .bytes b _=>some (.byt b)
 | .float b _=>some (.flt b)
 | .ref a=>some (.ref a)
 | .type n=>some (.ty n)
 | _=>none
theorem RelV.abs{u}(r:RelV x u):absV u=some x:=by
 cases x with
 | non=>cases r;rfl
 | bl _=>cases r;rfl
 | int _=>obtain⟨t,rfl⟩:=r;rfl
 | str _=>obtain⟨t,rfl⟩:=r;rfl
 | byt _=>obtain⟨t,rfl⟩:=r;rfl
 | flt _=>obtain⟨t,rfl⟩:=r;rfl
 | ref _=>cases r;rfl
 | ty _=>cases r;rfl
def RelV.inj{u}(r:RelV x u)(q:RelV y u):x=y:=Av (r.abs.symm.trans q.abs)
theorem Vals.inj:∀ {xs ys us},Vals xs us->Vals ys us->xs=ys
 | _,_,_,.nil,.nil=>rfl
 | _,_,_,.cons r t,.cons r' t'=>by rw[r.inj r',Vals.inj t t']
section
variable {X:Cx}{pins:List (Addr×Obj)}{σ:St}{H:Hp}{s:AR}{a:Addr}{xs ys:List V}
def SqL.of{K}(h:H a=some (.lst xs)):SqL K H a xs:=.inl (.inl h)
def SqT.of{K}(h:H a=some (.tup xs)):SqT K H a xs:=.inl (.inl h)
def Inv.list(I:Inv X pins σ H s)(h:SqL X.K H a xs):∃ its,Vals xs its/\PlainL s.heap a its.toArray/\xs.length<=AD:=by
 rcases h with h | ⟨o,its,n,hk,hc,hd,hs,hz,r⟩
 ·obtain⟨z,its,n,r,e⟩:=h.ok I.hok;exact⟨its,r,⟨_,n,e,rfl,rfl,rfl⟩,z⟩
 ·refine⟨its.toList,r,⟨o,n,I.kIn a o hk,hc,hd,by simpa using hs⟩,?_⟩;have e:=r.length;simp at e;lia
def Inv.tuple(I:Inv X pins σ H s)(h:SqT X.K H a xs):∃ its,Vals xs its/\Em s.heap a its.toArray/\xs.length<=AD:=by
 rcases h with h | ⟨o,its,n,hk,hc,hs,hz,r⟩
 ·obtain⟨z,its,r,p⟩:=h.ok I.hok;exact⟨its,r,p.tup,z⟩
 ·refine⟨its.toList,r,⟨o,I.kIn a o hk,hc,n,by simpa using hs⟩,?_⟩;have e:=r.length;simp at e;lia
def Inv.list_inj(I:Inv X pins σ H s)(h:SqL X.K H a xs)(h':SqL X.K H a ys):xs=ys:=by
 obtain⟨its,r,⟨o,n,e,_,_,d⟩,_⟩:=I.list h;obtain⟨its',r',⟨o',n',e',_,_,d'⟩,_⟩:=I.list h';rw[e]at e';cases e';rw[d]at d';injection d' with d1 _;have:=by simpa using congrArg Ie d1
 subst this;exact r.inj r'
def Inv.tuple_inj(I:Inv X pins σ H s)(h:SqT X.K H a xs)(h':SqT X.K H a ys):xs=ys:=by
 obtain⟨its,r,⟨o,e,_,n,d⟩,_⟩:=I.tuple h;obtain⟨its',r',⟨o',e',_,n',d'⟩,_⟩:=I.tuple h';rw[e]at e';cases e';rw[d]at d';injection d' with d1 _;have:=by simpa using congrArg Ie d1
 subst this;exact r.inj r'
end
abbrev Cx.wish (X:Cx) (E:AM->AR->Prop):Cx:={ X with xe:=E }
abbrev Cx.nox (X:Cx):Cx:=X.wish λ_ _=>False
theorem Cx.Ok.wish{X:Cx}(ok:X.Ok) E:(X.wish E).Ok:=
 ⟨ok.mod,ok.kind,ok.glob,ok.blt,ok.above,ok.inj,ok.has,ok.cab,ok.hd,ok.frames,ok.stk,ok.exf,ok.bs,ok.bsz,ok.noex,ok.exfs,ok.funs,ok.frf⟩
def Cx.Ok.unwish{X:Cx}{E}(ok:(X.wish E).Ok):X.Ok:=
 ⟨ok.mod,ok.kind,ok.glob,ok.blt,ok.above,ok.inj,ok.has,ok.cab,ok.hd,ok.frames,ok.stk,ok.exf,ok.bs,ok.bsz,ok.noex,ok.exfs,ok.funs,ok.frf⟩
section
variable {X:Cx}{pins:List (Addr×Obj)}{σ:St}{H:Hp}{s:AR}{E:AM->AR->Prop}
theorem Inv.wish(I:Inv X pins σ H s) E:Inv (X.wish E) pins σ H s:=⟨I.ok.wish E,I.os,I.bare,I.base,I.loc,I.cell,I.free,I.freeC,I.pin,I.hok,I.len⟩
theorem Inv.unwish(I:Inv (X.wish E) pins σ H s):Inv X pins σ H s:=⟨I.ok.unwish,I.os,I.bare,I.base,I.loc,I.cell,I.free,I.freeC,I.pin,I.hok,I.len⟩
theorem SP.unwish{f s'}(h:SP (X.wish E) pins D f s'):SP X pins D f s':=by
 cases f with
 | next=>obtain⟨σ',H',I,q⟩:=h;exact⟨σ',H',I.unwish,q⟩
 | brk=>obtain⟨σ',H',I,q⟩:=h;exact⟨σ',H',I.unwish,q⟩
 | cont=>obtain⟨σ',H',I,q⟩:=h;exact⟨σ',H',I.unwish,q⟩
 | ret u=>obtain⟨v,σ',H',I,r,q⟩:=h;exact⟨v,σ',H',I.unwish,r,q⟩
theorem PSs.nox{st t}(h:PSs X.nox st t):PSs X st t:=λpins s σ H D I hw =>
 BE (h pins s σ H D (I.wish _) hw) (λ_ _ q=>q.unwish) λ_ _ z=>BU z
end
section
variable {X:Cx}{st:Stmt}{rest:List Stmt}{t u:TS}{e:Expr}{te:TE}{pos:Pos}
def tNext:TS:=λD σ H=>D.nx σ H
def tSeq (t u:TS):TS:=λD σ H=>t { D with nx:=u D } σ H
def Wm:PSs X [] tNext:=λ_ _ σ H _ I h=>Ep ⟨σ,H,I,h⟩
theorem ji(h1:PS X st t)(h2:PSs X rest u):PSs X (st::rest) (tSeq t u):=by
 intro pins s σ H D I h;refine JJ (thn (h1 pins s σ H { D with nx:=u D } I h) λf s1 q=>?_);cases f with
 | next =>
  obtain⟨σ',H',I',q⟩:=q;exact h2 pins s1 σ' H' D I' q
 | ret v=>exact q
 | brk=>exact q
 | cont=>exact q
theorem gu(h1:PS X st t):PSs X [st] t:=by
 intro pins s σ H D I h;refine JJ (thn (h1 pins s σ H D I h) λf s1 q=>?_);cases f with
 | next=>exact Ep q
 | ret v=>exact q
 | brk=>exact q
 | cont=>exact q
def Inv.quiet{σ:St}{H s}(I:Inv X pins σ H s):interactive X.env=false:=by simp[interactive,I.ok.kind]
def tDrop (te:TE):TS:=λD σ H=>te σ H λ_ H1=>D.nx σ H1
def Yt(he:PE X e te)(hs:DX e none pos.line X.env=pure false:=by rfl):PS X (.Expr e pos) (tDrop te):=λpins s σ H D I h=>wpAny_Expr_any (thn (he pins s σ H _ I h) λv s1 ⟨x,H1,I1,r1,q1⟩=>⟨σ,H1,I1,q1⟩) I.quiet hs
def tRet (te:TE):TS:=λD σ H=>te σ H D.rt
def eV(he:PE X e te):PS X (.Return (some e) pos) (tRet te):=λpins s σ H D I h=>wpAny_Return_some (thn (he pins s σ H _ I h) λv s1 ⟨x,H1,I1,r1,q1⟩=>⟨x,σ,H1,I1,r1,q1⟩)
def tIfS (c:TT) (t u:TS):TS:=λD σ H=>c σ H λb H1=>if b=true then t D σ H1 else u D σ H1
theorem Vd{a b tc}(hc:PT X c tc)(ha:PSs X a t)(hb:PSs X b u):PS X (.If c a b pos) (tIfS tc t u):=by
 intro pins s σ H D I h;refine wpAny_If (thn (hc pins s σ H _ I h) λd s1 ⟨H1,I1,q1⟩=>?_);cases d with
 | true=>exact ha pins s1 σ H1 D I1 q1
 | false=>exact hb pins s1 σ H1 D I1 q1
def tNever:TS:=λ_ _ _=>False
def Wg:PS X st tNever:=λ_ _ _ _ _ _ h=>h.elim
end
abbrev TG:=V->St->Hp->(St->Hp->Prop)->Prop
abbrev TGs:=List V->St->Hp->(St->Hp->Prop)->Prop
def PG (X:Cx) (target:Expr) (t:TG):Prop:=
 ∀ pins s (σ:St) H v u Q,Inv X pins σ H s->RelV v u->t v σ H Q ->
  AQ (model X.prog X.w) X.A (assign target X.env u) (λ_ s'=>∃ σ' H',Inv X pins σ' H' s'/\Q σ' H') X.xe s
def PGs (X:Cx) (ts:List Expr) (t:TGs):Prop:=
 ∀ pins s (σ:St) H vs us Q,Inv X pins σ H s->Vals vs us->t vs σ H Q ->
  AQ (model X.prog X.w) X.A (assignInOrder ((B5 ts X.env).map (·.2)) us) (λ_ s'=>∃ σ' H',Inv X pins σ' H' s'/\Q σ' H') X.xe s
abbrev TSet:=V->V->V->Hp->(Hp->Prop)->Prop
def PSet (X:Cx) (t:TSet):Prop:=
 ∀ pins s (σ:St) H o i v ov iv u Q,Inv X pins σ H s->RelV o ov->RelV i iv->RelV v u->t o i v H Q ->
  AQ (model X.prog X.w) X.A (Iw ov iv u) (λ_ s'=>∃ H',Inv X pins σ H' s'/\Q H') X.xe s
section
variable {X:Cx}{pos:Pos}
def gName (i:Nat):TG:=λv σ H Q=>Q (σ.set i (some v)) H
def Ql{x}(hN:X.N.Nodup)(hi:X.N[i]?=some x)(hx:Loc X.env.scope x)(hf:X.fn x=true\/X.env.scope.names.lookup x=some .local:=by first | exact .inl rfl | exact .inr rfl | assumption):PG X (.Name x pos) (gName i):=λpins s σ H v u Q I r h=>wpAny_assign_Name (MX I hN hi hx r (λs' I'=>⟨_,H,I',h⟩) hf)
def gNil:TGs:=λvs σ H Q=>vs=[]/\Q σ H
def gCons (t:TG) (u:TGs):TGs:=λvs σ H Q=>∃ v r,vs=v::r/\t v σ H λσ' H'=>u r σ' H' Q
def aR:PGs X [] gNil:=by
 intro pins s σ H vs us Q I r h;obtain⟨e,h⟩:=h;exact Fj ⟨σ,H,I,h⟩
theorem WD{es t u}(h1:PG X e t)(h2:PGs X es u)
  (hs:(B5 (e::es) X.env).map (·.2)=assign e X.env::(B5 es X.env).map (·.2):=by rfl):PGs X (e::es) (gCons t u):=by
 intro pins s σ H vs us Q I r h;obtain⟨v,vr,rfl,h⟩:=h;cases r with
 | cons r rr =>
  rw[hs];exact Cb (thn (h1 pins s σ H _ _ _ I r h) λ_ s1 ⟨σ1,H1,I1,q1⟩=>h2 pins s1 σ1 H1 _ _ Q I1 rr q1)
def gTup (K:Ab) (n:Nat) (t:TGs):TG:=λv σ H Q=>∃ a xs,v=.ref a/\SqT K H a xs/\xs.length=n/\t xs σ H Q
def aH{k t n}(hc:X.calm=true)(h:PGs X es t)
  (hn:(B5 es X.env).length=n:=by rfl) (hst:(B5 es X.env).findIdx? (·.1)=none:=by rfl):PG X (.Tuple es k pos) (gTup X.K n t):=by
 intro pins s σ H v u Q I r hw;obtain⟨a,xs,rfl,hq,hl,hw⟩:=hw;cases r;obtain⟨its,rv,ht,hz⟩:=I.tuple hq;refine assign_Tuple_tuple (I.ok.hd hc) ht (by simp[hn,← hl,rv.length]) hst λh' hx=>?_
 exact h pins _ σ H xs _ Q (I.kept λb o e=>hx b o (Ag (AL e)) e) ‹_› hw
def gSub (to ti:TE) (t:TSet):TG:=λv σ H Q=>to σ H λo H1=>ti σ H1 λi H2=>t o i v H2 λH3=>Q σ H3
def aS{to ti t}(ho:PE X o to)(hi:PE X i ti)(hs:PSet X t)
  (ha:∀ v,assign (.Subscript o i pos) X.env v=(do
   let ov ← holding [v] (eval o X.env);let iv ← holding [v,ov] (eval i X.env)
   Iy pos
   holding [v,ov,iv] (Iw ov iv v)
   release [v,ov,iv] []):=by intro _;rfl):PG X (.Subscript o i pos) (gSub to ti t):=by
 intro pins s σ H v u Q I r h;rw[ha];exact AA (BN (thn (ho pins s σ H _ I h) λov s1 ⟨x,H1,I1,r1,q1⟩=>AA (BN (thn (hi pins s1 σ H1 _ I1 q1) λiv s2 ⟨y,H2,I2,r2,q2⟩=>AA (EJ (AA (BN (thn (hs pins s2 σ H2 x y v ov iv u _ I2 r1 r2 r q2) λ_ s3 ⟨H3,I3,q3⟩=>wpAny_release ⟨σ,H3,I3,q3⟩))))))))
def tAsg (te:TE) (g:TG):TS:=λD σ H=>te σ H λx H1=>g x σ H1 D.nx
def Sx{tg e te g}(he:PE X e te)(hg:PG X tg g)(hs:C2 [tg] e pos.line X.env=pure false:=by rfl)(hw:C3 [tg] e X.env=pure none:=by rfl)
  (h1:(B5 [tg] X.env).map (·.2)=[assign tg X.env]:=by rfl):PS X (.Assign [tg] e pos) (tAsg te g):=by
 intro pins s σ H D I h;refine wpAny_Assign_stores (thn (he pins s σ H _ I h) λv s1 ⟨x,H1,I1,r1,q1⟩=>?_) hs hw;rw[h1];exact thn (hg pins s1 σ H1 x v _ I1 r1 q1) λ_ s2 q=>q
def Tz{x e te pos'}(hN:X.N.Nodup)(hi:X.N[i]?=some x)(hx:Loc X.env.scope x)(he:PE X e te)(hs:DX e (some (.Name x pos')) pos.line X.env=pure false:=by rfl)(hf:X.fn x=true\/X.env.scope.names.lookup x=some .local:=by first | exact .inl rfl | exact .inr rfl | assumption) :
  PS X (.Assign [.Name x pos'] e pos) (tAsg te (gName i)):=λpins s σ H D I h=>wpAny_Assign_Name (thn (he pins s σ H _ I h) λv s1 ⟨y,H1,I1,r1,q1⟩=>MX I1 hN hi hx r1 (λs2 I2=>⟨_,H1,I2,q1⟩) hf) hs
def tPar (i j:Nat) (ta:TA):TS:=λD σ H=>ta σ H λvs H1=>∃ v w,vs=[v,w]/\D.nx ((σ.set i (some v)).set j (some w)) H1
def cB{x y a b ta px py pt kt k2 pt2}(hc:X.calm=true)(hN:X.N.Nodup)(hi:X.N[i]?=some x)(hj:X.N[j]?=some y)(hij:i≠j)
  (hx:X.env.scope.names.lookup x=some .local) (hy:X.env.scope.names.lookup y=some .local) (ha:PA X [a,b] ta)
  (hw:C3 [.Tuple [.Name x px,.Name y py] kt pt] (.Tuple [a,b] k2 pt2) X.env=pure (some [x,y]))
  (hs:C2 [.Tuple [.Name x px,.Name y py] kt pt] (.Tuple [a,b] k2 pt2) pos.line X.env=pure false:=by rfl) :
  PS X (.Assign [.Tuple [.Name x px,.Name y py] kt pt] (.Tuple [a,b] k2 pt2) pos) (tPar i j ta):=by
 intro pins s σ H D I h;refine AA (EJ (AA (AF (AA (Tuple_ (thn (ha _ pins s σ H _ I h) λus s1 ⟨vs,H1,I1,r1,q1⟩=>?_))))));obtain⟨v,w,rfl,q1⟩:=q1;obtain⟨u1,u2,rfl,rv,rw'⟩:∃ u1 u2,us=[u1,u2]/\RelV v u1/\RelV w u2:=by
  cases r1 with
  | cons p q =>
   cases q with
   | cons p' q' =>
    cases q';exact⟨_,_,rfl,p,p'⟩
 refine A8 ?_ (by show 2<=AD;decide);have I2:Inv X pins σ H1 { s1 with heap:=s1.heap.push { cls:=.type "tuple",data:=.seq [u1,u2].toArray } }:=I1.kept λb o e=>AB _ e
 rw[hw];refine AA (AF (AA (CP (AA (Iz (items:=#[u1,u2]) (I.ok.hd hc) (Jh s1.heap _) λh' hx'=>?_)))));refine AA (Cb (Dw (MX (I2.kept λb o e=>hx' b o (Ag (AL e)) e) hN hj (.inl hy) rw' (λs2 I4=>Cb (Dw (MX I4 hN hi (.inl hx) rv (λs3 I5=>Fj (AF ?_)) (.inr hx)))) (.inr hy))));rw[Eu _ _ (Ax hij)]at I5;exact⟨_,H1,I5,q1⟩
end
section
variable {X:Cx}{pos:Pos}
def tWhile (c:TT) (tb:TS):TS:=λD σ H=>∃ W:Nat->St->Hp->Prop,(∃ m,W m σ H)/\∀ m σ H,W m σ H ->
 c σ H λb H1=>if b=true then ∃ N,(∀ σ' H',N σ' H'->∃ m',m' < m/\W m' σ' H')/\tb { D with nx:=N,ct:=N,bk:=D.nx } σ H1 else D.nx σ H1
theorem jf{body tc tb}(hp:HM (model X.prog X.w) X.A X.env X.xe)(hc:PT X c tc)(hb:PSs X body tb):PS X (.While c body [] pos) (tWhile tc tb):=by
 intro pins s σ H D I h;obtain⟨W,⟨m0,w0⟩,turn⟩:=h;refine wpAny_While (codeAny_whileLoop (λn s'=>∃ σ' H',Inv X pins σ' H' s'/\W n σ' H') ?_ m0 ⟨σ,H,I,w0⟩);rintro n s1 ⟨σ1,H1,I1,w1⟩;refine Cg hp (thn (hc pins s1 σ1 H1 _ I1 (turn n σ1 H1 w1)) λb s2 ⟨H2,I2,q2⟩=>?_);cases b with
 | true =>
  obtain⟨N,hN,q2⟩:=q2;refine Cg hp (thn (hb pins s2 σ1 H2 _ I2 q2) λf s3 q3=>?_);cases f with
  | next =>
   obtain⟨σ3,H3,I3,n3⟩:=q3;obtain⟨m',hm,w3⟩:=hN σ3 H3 n3;exact⟨m',hm,σ3,H3,I3,w3⟩
  | cont =>
   obtain⟨σ3,H3,I3,n3⟩:=q3;obtain⟨m',hm,w3⟩:=hN σ3 H3 n3;exact⟨m',hm,σ3,H3,I3,w3⟩
  | brk=>exact q3
  | ret v=>exact q3
 | false =>
  exact Ep ⟨σ1,H2,I2,q2⟩
end
structure It where
 go:Nat->Hp->Prop
 yld:Nat->Hp->V->Hp->Prop
 stop:Nat->Hp->Prop
def FpOk (X:Cx) (pins:List (Addr×Obj)) (H:Hp) (b:Addr):Prop:=
 H b=none/\b≠X.env.locals/\b∉X.fs/\(b∈X.ex\/X.s₀.heap.objs.size<=b)/\(∀ x c,X.env.cells.lookup x=some c->c≠b)/\∀ p∈X.pn++pins,p.1≠b
def Inv.fpOk{pins}{σ:St}{H H' s}{b:Addr}(I:Inv X pins σ H s)(hb:s.heap.objs.size<=b)(hn:H' b=none):FpOk X pins H' b:=by
 refine⟨hn,Bb (AU I.lt hb),I.nofs hb,.inr (Ak I.sz hb),λx c e z=>?_,λp hp z=>?_⟩
 ·obtain⟨v,q⟩:=I.cell x c e;exact absurd (AU q.lt (by simp_all)) (BA _)
 ·exact absurd (AU (AL (I.pin p hp).1) (by simp_all)) (BA _)
structure Turn(P:Ai)(w:A5)(K:Ab)(tg:Expr)(J:It)(fp:List Addr)(it:Addr)(tn:Nat->Heap->Prop):Prop where
 mem:it∈fp
 obj:∀ i h,tn i h->∀ b∈fp,∃ o,h.get? b=some o/\∀ v,o.data≠.cell v
 keep:∀ i h h',tn i h->(∀ b∈fp,∀ o,h.get? b=some o->h'.get? b=some o)->tn i h'
 item:∀ (X:Cx),X.prog=P->X.w=w->X.K=K->X.calm=true->∀ (i:Nat) (pins:List (Addr×Obj)) (s:AR) (σ:St) (H:Hp) (E:AM->AR->Prop),Inv X pins σ H s->(∀ b∈fp,FpOk X pins H b)->tn i s.heap->J.go i H ->
  AQ (model P w) X.A (Ek (.ref it)) (λr s1=>∃ u,r=some u /\
   AQ (model P w) X.A (Gf tg (.ref it) u) (λ_ s2=>∃ x H',Inv X pins σ H' s2/\RelV x u/\J.yld i H x H'/\tn (i+1) s2.heap/\∀ b∈fp,H' b=none) E s1) E s
 done:∀ (X:Cx),X.prog=P->X.w=w->X.K=K->X.calm=true->∀ (i:Nat) (pins:List (Addr×Obj)) (s:AR) (σ:St) (H:Hp) (E:AM->AR->Prop),Inv X pins σ H s->(∀ b∈fp,FpOk X pins H b)->tn i s.heap->J.stop i H ->
  AQ (model P w) X.A (Ek (.ref it)) (λr s1=>r=none/\Inv X pins σ H s1) E s
 self:∀ (A:BD) (i:Nat) (s:AR) (Q:AM->AR->Prop) (E:AM->AR->Prop),tn i s.heap->Q (.ref it) s->AQ (model P w) A (GB (.ref it)) Q E s
abbrev TI:=St->Hp->(It->Hp->Prop)->Prop
def PIE (X:Cx) (pins:List (Addr×Obj)) (σ:St) (tg:Expr) (R:It->Hp->Prop) (itv:AM) (s2:AR):Prop:=
 ∃ (it:Addr) (fp:List Addr) (tn:Nat->Heap->Prop) (J:It) (H':Hp),itv=.ref it/\Inv X pins σ H' s2/\Turn X.prog X.w X.K tg J fp it tn/\tn 0 s2.heap/\(∀ b∈fp,FpOk X pins H' b)/\R J H'
def PI (X:Cx) (tg iter:Expr) (wi:TI):Prop:=
 ∀ pins s (σ:St) H R,Inv X pins σ H s->wi σ H R ->
  AQ (model X.prog X.w) X.A (eval iter X.env) (λv s1=>AQ (model X.prog X.w) X.A (GB v) (PIE X pins σ tg R) X.xe s1) X.xe s
def Nz{A E s tg it u o n vs Q}(ho:s.heap.get? it=some o)(hc:o.cls=.type n)(hd:o.data=.fields vs)
  (hn:["enumerate","zip","dict_itemiterator","dict_reverseitemiterator","odict_iterator","itertools.zip_longest","itertools.pairwise"].contains n=false) (hQ:Q () s):AQ M A (Gf tg (.ref it) u) Q E s:=by
 cases tg <;> first
  | exact AF hQ
  | (cases u <;> first
    | exact AF hQ
    | (
      refine AA (wpAny_load ho ?_);rw[hc,hd];show AQ M A (if (["enumerate","zip","dict_itemiterator","dict_reverseitemiterator","odict_iterator","itertools.zip_longest","itertools.pairwise"].contains n && vs[0]? == some (Di _))=true then _ else _) Q E s;rw[if_neg (by intro h;rw[hn]at h;cases h)];exact AF hQ))
def Itl (K:Ab) (a:Addr):It:=
 ⟨λi H=>∃ xs x,SqL K H a xs/\xs[i]?=some x,λi H x H'=>H'=H/\∀ xs,SqL K H a xs->xs[i]?=some x,λi H=>∃ xs,SqL K H a xs/\xs.length<=i⟩
def Itt (K:Ab) (a:Addr):It:=
 ⟨λi H=>∃ xs x,SqT K H a xs/\xs[i]?=some x,λi H x H'=>H'=H/\∀ xs,SqT K H a xs->xs[i]?=some x,λi H=>∃ xs,SqT K H a xs/\xs.length<=i⟩
def Itr (lo:Int) (n:Nat):It:=⟨λi _=>i < n,λi H x H'=>H'=H/\x=.int (lo+i),λi _=>n<=i⟩
def gZ{K tg} a it:Turn P w K tg (Itl K a) [it] it (λi h=>h.IsListIter it a i) where
 mem:=by simp
 obj:=λi h st b hb=>by
  have e:=by simpa using hb
  subst e;obtain⟨o,e,c,d⟩:=st;exact⟨o,e,λv z=>by rw[d]at z;cases z⟩
 keep:=λi h h' st k=>st.at λo e=>k it ↥1 o e
 item:=by
  intro X hP hw hK hc i pins s σ H E I hf st hg;subst hP hw hK;obtain⟨xs,x,hq,hx⟩:=hg;obtain⟨its,rv,p,hz⟩:=I.list hq;obtain⟨u,hu,ru⟩:=rv.get hx;obtain⟨f0,f1,f2,f3,f4,f5⟩:=hf it ↥1;refine wpAny_pyNext_list_item st p.isList (by simpa using hu) λh' st' sb=>?_
  obtain⟨o,e,c,d⟩:=id st';exact⟨u,rfl,Nz e c d ∅ ⟨x,H,(I.turned (λb o hb e=>(sb.2 b hb).trans e) f0 f1 f3 f4 f5),ru,⟨rfl,λys hy=>by rw[I.list_inj hy hq];exact hx⟩,st',λb hb=>(hf b hb).1⟩⟩
 done:=by
  intro X hP hw hK hc i pins s σ H E I hf st hg;subst hP hw hK;obtain⟨xs,hq,hx⟩:=hg;obtain⟨its,rv,p,hz⟩:=I.list hq;obtain⟨f0,f1,f2,f3,f4,f5⟩:=hf it ↥1;have hl:=rv.length;exact wpAny_pyNext_list_end (I.ok.hd hc) st p.isList ↥2 λh' eb=>⟨rfl,I.turned (eb) f0 f1 f3 f4 f5⟩
 self:=λ_ _ _ _ _ st h=>wpAny_pyIter_listiter st h
def gK{K tg} a it:Turn P w K tg (Itt K a) [it] it (λi h=>h.IsTupleIter it a i) where
 mem:=by simp
 obj:=λi h st b hb=>by
  have e:=by simpa using hb
  subst e;obtain⟨o,e,c,d⟩:=st;exact⟨o,e,λv z=>by rw[d]at z;cases z⟩
 keep:=λi h h' st k=>st.at λo e=>k it ↥1 o e
 item:=by
  intro X hP hw hK hc i pins s σ H E I hf st hg;subst hP hw hK;obtain⟨xs,x,hq,hx⟩:=hg;obtain⟨its,rv,p,hz⟩:=I.tuple hq;obtain⟨u,hu,ru⟩:=rv.get hx;obtain⟨f0,f1,f2,f3,f4,f5⟩:=hf it ↥1;refine wpAny_pyNext_tuple_item st p (by simpa using hu) λh' st' sb=>?_
  obtain⟨o,e,c,d⟩:=id st';exact⟨u,rfl,Nz e c d ∅ ⟨x,H,(I.turned (λb o hb e=>(sb.2 b hb).trans e) f0 f1 f3 f4 f5),ru,⟨rfl,λys hy=>by rw[I.tuple_inj hy hq];exact hx⟩,st',λb hb=>(hf b hb).1⟩⟩
 done:=by
  intro X hP hw hK hc i pins s σ H E I hf st hg;subst hP hw hK;obtain⟨xs,hq,hx⟩:=hg;obtain⟨its,rv,p,hz⟩:=I.tuple hq;obtain⟨f0,f1,f2,f3,f4,f5⟩:=hf it ↥1;have hl:=rv.length;exact wpAny_pyNext_tuple_end (I.ok.hd hc) st p ↥2 λh' eb=>⟨rfl,I.turned (eb) f0 f1 f3 f4 f5⟩
 self:=λ_ _ _ _ _ st h=>wpAny_pyIter_tupleiter st h
def jL{K tg} it lo n:Turn P w K tg (Itr lo n) [it] it (λi h=>IsRangeIter h it (lo+i * 1) (n - i) 1) where
 mem:=by simp
 obj:=λi h st b hb=>by
  simp_all
 keep:=λi h h' st k=>k it ↥1 _ st
 item:=by
  intro X hP hw hK hc i pins s σ H E I hf st hg;obtain⟨f0,f1,f2,f3,f4,f5⟩:=hf it ↥1;refine (Walks.range (I.ok.hd hc) it lo 1 n).item i s _ _ hg st λv h' tk hv st' kk=>?_
  obtain⟨t,rfl⟩:=hv;have I1:Inv X pins σ H { s with heap:=h',toks:=tk }:=I.turned (λb o hb e=>kk b o (by simpa using hb) e) f0 f1 f3 f4 f5;refine⟨_,rfl,Nz st' rfl rfl ∅ ⟨.int (lo+i),H,I1,⟨t,?_⟩,⟨rfl,rfl⟩,st',λb hb=>(hf b hb).1⟩⟩;rw[Int.mul_one]
 done:=by
  intro X hP hw hK hc i pins s σ H E I hf st hg;obtain⟨f0,f1,f2,f3,f4,f5⟩:=hf it ↥1;exact wpAny_pyNext_range_end (I.ok.hd hc) st (by have:n<=i:=hg;lia) λh' eb=>⟨rfl,I.turned (eb) f0 f1 f3 f4 f5⟩
 self:=λ_ _ _ _ _ st h=>wpAny_pyIter_rangeiter st h
section
variable {X:Cx}{tg:Expr}
def UI{σ:St}{H s R E lo hi t u v tk}(I:Inv X pins σ H s)(h1:-(2 ^ 62)<=lo)(h2:lo < 2 ^ 62)(h3:-(2 ^ 62)<=hi)(h4:hi < 2 ^ 62)
  (q:R (Itr lo (hi - lo).toNat) H):AQ (model X.prog X.w) X.A (GB (.ref s.heap.objs.size)) (PIE X pins σ tg R) E { s with heap:=s.heap.push { cls:=.type "range",data:=.fields #[.int lo t,.int hi u,.int 1 v] },toks:=tk }:=by
 refine wpAny_pyIter_range (IsRange.new ..) (JK h1 h2 h3 h4) ?_;have I1:Inv X pins σ H { s with heap:=s.heap.push { cls:=.type "range",data:=.fields #[.int lo t,.int hi u,.int 1 v] },toks:=tk }:=I.kept λb o e=>AB _ e
 refine⟨(s.heap.push { cls:=.type "range",data:=.fields #[.int lo t,.int hi u,.int 1 v] }).objs.size,[(s.heap.push { cls:=.type "range",data:=.fields #[.int lo t,.int hi u,.int 1 v] }).objs.size],_,_,H,rfl,
  I1.kept λb o e=>AB _ e,jL _ lo (hi - lo).toNat,?_,λb hb=>?_,q⟩
 ·have e1:lo+(0:Nat) * 1=lo:=by simp
  have e2:((hi - lo).toNat) - (0:Nat)=CC lo hi 1:=by rw[Ke];split <;> lia
  rw[e1,e2];exact AK _ rfl
 ·have e:b=(s.heap.push { cls:=.type "range",data:=.fields #[.int lo t,.int hi u,.int 1 v] }).objs.size:=by simpa using hb
  subst e;exact I1.fpOk (AE _) (I1.hok.fresh (AE _))
def iRng1 (ta:TA):TI:=λσ H R=>ta σ H λvs H1=>∃ j:Int,vs=[.int j]/\-(2 ^ 62)<=j/\j < 2 ^ 62/\R (Itr 0 j.toNat) H1
def iRng2 (ta:TA):TI:=λσ H R=>ta σ H λvs H1=>∃ i j:Int,vs=[.int i,.int j]/\(-(2 ^ 62)<=i/\i < 2 ^ 62/\-(2 ^ 62)<=j/\j < 2 ^ 62)/\R (Itr i (j - i).toNat) H1
theorem Va{p pos}(hg:Gl X "range")(hm:X.mg "range"=none)(ha:PA X [a] ta)(hs:AW [a] X.env=[(false,eval a X.env)]:=by rfl):PI X tg (.Call (.Name "range" p) [a] [] pos) (iRng1 ta):=by
 intro pins s σ H R I h;refine HN (L3 I hg hm boot_range (A6 (thn (ha pos pins s σ H _ I h) λus s1 ⟨vs,H1,I1,r1,q1⟩=>?_) hs rfl));obtain⟨j,rfl,q1,q2,q⟩:=q1;cases r1 with
 | cons r rr =>
  cases rr;obtain⟨t,rfl⟩:=r;exact Kz (UI I1 ⋯ ⋯ q1 q2 (by simp_all))
theorem YD{p pos}(hg:Gl X "range")(hm:X.mg "range"=none)(ha:PA X [a,b] ta)(hs:AW [a,b] X.env=[(false,eval a X.env),(false,eval b X.env)]:=by rfl)(hs2:AW [b] X.env=[(false,eval b X.env)]:=by rfl) :
  PI X tg (.Call (.Name "range" p) [a,b] [] pos) (iRng2 ta):=by
 intro pins s σ H R I h;refine HN (L3 I hg hm boot_range (A6 (thn (ha pos pins s σ H _ I h) λus s1 ⟨vs,H1,I1,r1,q1⟩=>?_) (by simp_all) (by rw[hs2];rfl)));obtain⟨i,j,rfl,⟨q1,q2,q3,q4⟩,q⟩:=q1;cases r1 with
 | cons r rr =>
  cases rr with
  | cons r' rr =>
   cases rr;obtain⟨t,rfl⟩:=r;obtain⟨t',rfl⟩:=r';exact K0 (UI I1 q1 q2 q3 q4 q)
def tFor (wi:TI) (g:TG) (tb:TS):TS:=λD σ H=>wi σ H λJ H1=>∃ W:Nat->Nat->St->Hp->Prop,(∃ m,W 0 m σ H1)/\∀ i m σ H,W i m σ H ->
 (J.stop i H/\D.nx σ H)\/(J.go i H/\∃ N,(∀ σ' H',N σ' H'->∃ m',m' < m/\W (i+1) m' σ' H')/\∀ x H',J.yld i H x H'->g x σ H' λσ2 H2=>tb { D with nx:=N,ct:=N,bk:=D.nx } σ2 H2)
def pinsAt (fp:List Addr) (h:Heap):List (Addr×Obj):=fp.filterMap λb=>(h.get? b).map λo=>(b,o)
def Pp{b o}(hb:b∈fp)(e:h.get? b=some o):(b,o)∈pinsAt fp h:=HP.mpr ⟨b,hb,by rw[e];rfl⟩
theorem YB{p}(hp:p∈pinsAt fp h):p.1∈fp/\h.get? p.1=some p.2:=by
 obtain⟨b,hb,e⟩:=HP.mp hp;cases q:h.get? b with
 | none=>rw[q]at e;cases e
 | some o =>
  rw[q]at e;have e':=Av e;subst e';exact⟨hb,q⟩
def Inv.pinned{σ:St}{H s fp}(I:Inv X pins σ H s)(hf:∀ b∈fp,FpOk X pins H b)(ho:∀ b∈fp,∃ o,s.heap.get? b=some o/\∀ v,o.data≠.cell v):Inv X (pins++pinsAt fp s.heap) σ H s:=
 I.pins_of λp hp=>(Aw.mp hp).elim (λz=>I.pin p (Ac _ z)) λz=>by
  obtain⟨hb,e⟩:=YB z;obtain⟨f0,f1,f2,_⟩:=hf p.1 hb;obtain⟨o,e',d⟩:=ho p.1 hb;simp_all
def Inv.unpinned{σ:St}{H s}(I:Inv X (pins++pl) σ H s):Inv X pins σ H s:=I.pins_of λp hp=>I.pin p (Ac _ (BB _ hp))
def ZA{body wi g tb pos}(hp:HM (model X.prog X.w) X.A X.env X.xe)(hc:X.calm=true)(hi:PI X tg iter wi)(hg:PG X tg g)(hb:PSs X body tb)
  (hs:∀ x,CM iter X.env x=pure x:=by intro _;rfl):PS X (.For tg iter body [] pos) (tFor wi g tb):=by
 intro pins s σ H D I h;refine wpAny_For (thn (hi pins s σ H _ I h) λv s1 h1=>thn h1 λitv s2 h2=>?_) hs;obtain⟨it,fp,tn,J,H2,rfl,I2,T,st2,f2,W,⟨m0,w0⟩,turn⟩:=h2;have stat:∀ {H':Hp},(∀ b∈fp,H' b=none)->∀ b∈fp,FpOk X pins H' b:=λhn b hb=>⟨hn b hb,(f2 b hb).2⟩
 refine codeAny_forLoop_any (λn s'=>∃ i σ' H',Inv X pins σ' H' s'/\tn i s'.heap/\(∀ b∈fp,H' b=none)/\W i n σ' H') ?_ m0 ⟨0,σ,H2,I2,st2,λb hb=>(f2 b hb).1,w0⟩;rintro n s3 ⟨i,σ3,H3,I3,st3,fr3,w3⟩;rcases turn i n σ3 H3 w3 with ⟨stop,qn⟩ | ⟨go,N,hN,step⟩
 ·refine Cg hp (thn (T.done X rfl rfl rfl hc i pins s3 σ3 H3 X.xe I3 (stat fr3) st3 stop) λr s4 ⟨hr,I4⟩=>?_);subst hr;exact Ep ⟨σ3,H3,I4,qn⟩
 ·refine Cg hp (thn (T.item X rfl rfl rfl hc i pins s3 σ3 H3 X.xe I3 (stat fr3) st3 go) λr s4 ⟨u,hr,h4⟩=>?_);subst hr;refine Cg hp (thn h4 λ_ s5 ⟨x,H5,I5,r5,y5,st5,fr5⟩=>Cg hp (thn (hg _ s5 σ3 H5 x u _ (I5.pinned (stat fr5) (T.obj _ _ st5)) r5 (step x H5 y5)) λ_ s6 ⟨σ6,H6,I6,q6⟩=>Cg hp (thn (hb _ s6 σ6 H6 _ I6 q6) λf s7 q7=>?_)));have again:∀ {σ7:St} {H7:Hp},Inv X (pins++pinsAt fp s5.heap) σ7 H7 s7->N σ7 H7->∃ m,m < n/\∃ i σ' H',Inv X pins σ' H' s7/\tn i s7.heap/\(∀ b∈fp,H' b=none)/\W i m σ' H':=λ{σ7 H7} I7 n7=>by
   obtain⟨m',hm,w7⟩:=hN σ7 H7 n7;refine⟨m',hm,i+1,σ7,H7,I7.unpinned,T.keep _ _ _ st5 λb hb o e=>(I7.pin (b,o) (Ac _ (Ac _ (Pp hb e)))).1,λb hb=>?_,w7⟩;obtain⟨o,e,d⟩:=T.obj _ _ st5 b hb;exact (I7.pin (b,o) (Ac _ (Ac _ (Pp hb e)))).2.1
  cases f with
  | next=>obtain⟨σ7,H7,I7,n7⟩:=q7;exact again I7 n7
  | cont=>obtain⟨σ7,H7,I7,n7⟩:=q7;exact again I7 n7
  | brk=>obtain⟨σ7,H7,I7,q7⟩:=q7;exact⟨σ7,H7,I7.unpinned,q7⟩
  | ret v=>obtain⟨x7,σ7,H7,I7,r7,q7⟩:=q7;exact⟨x7,σ7,H7,I7.unpinned,r7,q7⟩
end
abbrev R2:=V->V->Hp->VK->Prop
def OpR (X:Cx) (f:AM->AM->Sem AM) (r:R2):Prop:=
 ∀ pins s (σ:St) H x y v u Q,Inv X pins σ H s->RelV x v->RelV y u->r x y H Q ->
  AQ (model X.prog X.w) X.A (f v u) (EP X pins σ Q) X.xe s
def UnR (X:Cx) (f:AM->Sem AM) (r:V->Hp->VK->Prop):Prop:=
 ∀ pins s (σ:St) H x v Q,Inv X pins σ H s->RelV x v->r x H Q ->
  AQ (model X.prog X.w) X.A (f v) (EP X pins σ Q) X.xe s
def CallR (X:Cx) (f:AM) (r:List V->Hp->VK->Prop):Prop:=
 ∀ pins s (σ:St) H xs us Q,Inv X pins σ H s->Vals xs us->r xs H Q ->
  AQ (model X.prog X.w) X.A (call f us) (EP X pins σ Q) X.xe s
def TruR (X:Cx) (r:V->Hp->(Bool->Hp->Prop)->Prop):Prop:=
 ∀ pins s (σ:St) H x v Q,Inv X pins σ H s->RelV x v->r x H Q ->
  AQ (model X.prog X.w) X.A (truthy v) (TP X pins σ Q) X.xe s
def tOp (r:R2) (ta tb:TE):TE:=λσ H Q=>ta σ H λx H1=>tb σ H1 λy H2=>r x y H2 Q
def tUn (r:V->Hp->VK->Prop) (ta:TE):TE:=λσ H Q=>ta σ H λx H1=>r x H1 Q
def rI (C:Int->Int->Prop) (g:Int->Int->V):R2:=λx y H Q=>∃ i j,x=.int i/\y=.int j/\C i j/\Q (g i j) H
def rI0 (g:Int->Int->V):R2:=λx y H Q=>∃ i j,x=.int i/\y=.int j/\Q (g i j) H
def rU (g:Int->V):V->Hp->VK->Prop:=λx H Q=>∃ i,x=.int i/\Q (g i) H
section
variable {X:Cx}{a b c:Expr}{ta tb tc:TE}{pos:Pos}
def binT(ha:PE X a ta)(hb:PE X b tb){pins s}{σ:St}{H}{R:V->V->Hp->Prop}(I:Inv X pins σ H s)
  (h:ta σ H λx H1=>tb σ H1 λy H2=>R x y H2) {Q} {f:AM->AM->Sem AM}
  (hf:∀ v u s2 x y H2,Inv X pins σ H2 s2->RelV x v->RelV y u->R x y H2->AQ (model X.prog X.w) X.A (f v u) Q X.xe s2) :
  AQ (model X.prog X.w) X.A (eval a X.env) (λv s₁=>AQ (model X.prog X.w) X.A (eval b X.env) (λu s₂=>AQ (model X.prog X.w) X.A (f v u) Q X.xe s₂) X.xe s₁) X.xe s:=thn (ha pins s σ H _ I h) λv s1 ⟨x,H1,I1,r1,q1⟩=>thn (hb pins s1 σ H1 _ I1 q1) λu s2 ⟨y,H2,I2,r2,q2⟩=>hf v u s2 x y H2 I2 r1 r2 q2
def Wh(ho:OpR X (CW op) r)(ha:PE X a ta)(hb:PE X b tb):PE X (.BinOp a op b pos) (tOp r ta tb):=λpins s σ H Q I h=>wpAny_BinOp (binT ha hb I h λv u s2 x y H2 I2 rx ry q=>ho pins s2 σ H2 x y v u Q I2 rx ry q)
def ZG{r}(ho:UnR X (unaryOp op) r)(ha:PE X a ta):PE X (.UnaryOp op a pos) (tUn r ta):=λpins s σ H Q I h=>UnaryOp_ (thn (ha pins s σ H _ I h) λv s1 ⟨x,H1,I1,r1,q1⟩=>ho pins s1 σ H1 x v Q I1 r1 q1)
def opI{C}{g:Int->Int->Int}
  (rule:∀ i j t u s Q E,C i j->Q (.int (g i j) s.toks) { s with toks:=s.toks+1 }->AQ (model X.prog X.w) X.A (f (.int i t) (.int j u)) Q E s) :
  OpR X f (rI C λi j=>.int (g i j)):=by
 intro pins s σ H x y v u Q I rx ry h;obtain⟨i,j,rfl,rfl,hc,q⟩:=h;obtain⟨t,rfl⟩:=rx;obtain⟨t',rfl⟩:=ry;exact rule i j t t' s _ _ hc ⟨.int (g i j),H,I.tok _,⟨_,rfl⟩,q⟩
def opI0{g:Int->Int->Int}
  (rule:∀ i j t u s Q E,Q (.int (g i j) s.toks) { s with toks:=s.toks+1 }->AQ (model X.prog X.w) X.A (f (.int i t) (.int j u)) Q E s) :
  OpR X f (rI0 λi j=>.int (g i j)):=by
 intro pins s σ H x y v u Q I rx ry h;obtain⟨i,j,rfl,rfl,q⟩:=h;obtain⟨t,rfl⟩:=rx;obtain⟨t',rfl⟩:=ry;exact rule i j t t' s _ _ ⟨.int (g i j),H,I.tok _,⟨_,rfl⟩,q⟩
def opB0{g:Int->Int->Bool}
  (rule:∀ i j t u s Q E,Q (.bool (g i j)) s->AQ (model X.prog X.w) X.A (f (.int i t) (.int j u)) Q E s) :
  OpR X f (rI0 λi j=>.bl (g i j)):=by
 intro pins s σ H x y v u Q I rx ry h;obtain⟨i,j,rfl,rfl,q⟩:=h;obtain⟨t,rfl⟩:=rx;obtain⟨t',rfl⟩:=ry;exact rule i j t t' s _ _ ⟨.bl (g i j),H,I,rfl,q⟩
def CDiv (i j:Int):Prop:=0 < j/\j < 1073741824
def CPow (i j:Int):Prop:=0<=j/\j<=1000000/\i.natAbs < 2 ^ 64
def CMul (i j:Int):Prop:=(-(2 ^ 64) < i/\i < 2 ^ 64)\/(-(2 ^ 64) < j/\j < 2 ^ 64)
def CMul.ok(h:CMul i j):IntMulOk i j:=by
 rcases h with ⟨h1,h2⟩ | ⟨h1,h2⟩
 ·exact .of_left (Kh h1 h2)
 ·exact .of_right (Kh h1 h2)
def g6:OpR X (CW .Add) (rI0 λi j=>.int (i+j)):=opI0 λ_ _ _ _ _ _ _ q=>add_int q
def eE:OpR X (CW .Sub) (rI0 λi j=>.int (i - j)):=opI0 λ_ _ _ _ _ _ _ q=>sub_int q
def af:OpR X (CW .Mult) (rI CMul λi j=>.int (i * j)):=opI λ_ _ _ _ _ _ _ hc q=>mul_int q hc.ok
def iQ:OpR X (CW .FloorDiv) (rI CDiv λi j=>.int (i / j)):=opI λi j _ _ _ _ _ hc q=>by
 have h1:=hc.1;have h2:=hc.2;exact floordiv_int ⋯ (by rw[Int.fdiv_eq_ediv_of_nonneg i ⋯];exact q) (.inl (PyProof.noPylong_small ⋯))
def VN:OpR X (CW .Mod) (rI (λ_ j=>0 < j) λi j=>.int (i % j)):=opI λi j _ _ _ _ _ hc q=>mod_int' ⋯ (by rw[Int.fmod_eq_emod_of_nonneg i ⋯];exact q)
def dJ:OpR X (CW .Pow) (rI CPow λi j=>.int (i ^ j.toNat)):=opI λ_ _ _ _ _ _ _ hc q=>pow_int_small hc.1 hc.2.1 hc.2.2 q
def WZ{g:Int->Int}
  (rule:∀ i t s Q E,Q (.int (g i) s.toks) { s with toks:=s.toks+1 }->AQ (model X.prog X.w) X.A (f (.int i t)) Q E s) :
  UnR X f (rU λi=>.int (g i)):=by
 intro pins s σ H x v Q I rx h;obtain⟨i,rfl,q⟩:=h;obtain⟨t,rfl⟩:=rx;exact rule i t s _ _ ⟨.int (g i),H,I.tok _,⟨_,rfl⟩,q⟩
def gv:UnR X (unaryOp .USub) (rU λi=>.int (-i)):=WZ λ_ _ _ _ _ q=>neg_int q
end
def scal:V->V->Bool
 | .non,.non=>true | .non,.int _=>true | .int _,.non=>true | .non,.bl _=>true | .bl _,.non=>true | .non,.str _=>true | .str _,.non=>true
 | .int _,.int _=>true | .bl _,.bl _=>true | .str _,.str _=>true | .byt _,.byt _=>true
 | .int _,.str _=>true | .str _,.int _=>true | .bl _,.str _=>true | .str _,.bl _=>true
 | _,_=>false
def rEq:R2:=λx y H Q=>scal x y=true/\Q (.bl (decide (x=y))) H
def rNe:R2:=λx y H Q=>scal x y=true/\Q (.bl (!decide (x=y))) H
def TU:decide (V.int i=V.int j)=(i == j):=by
 rw[EK];simp
def RJ:decide (V.bl i=V.bl j)=(i == j):=by
 rw[EK];simp
def Tn:decide (V.str i=V.str j)=(i == j):=by
 rw[EK];simp
def U9:decide (V.byt i=V.byt j)=(i.toList == j.toList):=by
 rw[EK];cases i;cases j;simp
section
variable {X:Cx}{a b c:Expr}{ta tb tc:TE}{pos:Pos}
def LH{σ:St}{H s Q k k'}(I:Inv X pins σ H s)(q:Q (.bl k) H)(e:k=k'):EP X pins σ Q (.bool k') s:=by
 subst e;exact⟨.bl k,H,I,rfl,q⟩
theorem dZ:OpR X (Bi .Eq) rEq:=by
 intro pins s σ H x y v u Q I rx ry h;obtain⟨hs,q⟩:=h;cases x with
 | non =>
  cases rx;cases y with
  | non=>cases ry;exact Ji (LH I q ↥1)
  | bl j=>cases ry;exact Jj (LH I q ↥1)
  | int j=>obtain⟨t',rfl⟩:=ry;exact Jk (LH I q ↥1)
  | str j=>obtain⟨t',rfl⟩:=ry;exact Jl (LH I q ↥1)
  | _=>exact absurd (show false=true from hs) AV
 | bl i =>
  cases rx;cases y with
  | non=>cases ry;exact Jm (LH I q ↥1)
  | bl j=>cases ry;exact eq_bool (LH I q RJ)
  | str j=>obtain⟨t',rfl⟩:=ry;exact JL (LH I q ↥1)
  | _=>exact absurd (show false=true from hs) AV
 | int i =>
  obtain⟨t,rfl⟩:=rx;cases y with
  | non=>cases ry;exact Jn (LH I q ↥1)
  | int j=>obtain⟨t',rfl⟩:=ry;exact eq_int (LH I q TU)
  | str j=>obtain⟨t',rfl⟩:=ry;exact JM (LH I q ↥1)
  | _=>exact absurd (show false=true from hs) AV
 | str i =>
  obtain⟨t,rfl⟩:=rx;cases y with
  | non=>cases ry;exact Jo (LH I q ↥1)
  | bl j=>cases ry;exact JN (LH I q ↥1)
  | int j=>obtain⟨t',rfl⟩:=ry;exact JO (LH I q ↥1)
  | str j=>obtain⟨t',rfl⟩:=ry;exact eq_str (LH I q Tn)
  | _=>exact absurd (show false=true from hs) AV
 | byt i =>
  obtain⟨t,rfl⟩:=rx;cases y with
  | byt j=>obtain⟨t',rfl⟩:=ry;exact PySem.W.eq_bytes (LH I q U9)
  | _=>exact absurd (show false=true from hs) AV
 | _=>cases y <;> exact absurd (show false=true from hs) AV
theorem c6:OpR X (Bi .NotEq) rNe:=by
 intro pins s σ H x y v u Q I rx ry h;obtain⟨hs,q⟩:=h;cases x with
 | non =>
  cases rx;cases y with
  | non=>cases ry;exact Jp (LH I q ↥1)
  | bl j=>cases ry;exact Jq (LH I q ↥1)
  | int j=>obtain⟨t',rfl⟩:=ry;exact Jr (LH I q ↥1)
  | str j=>obtain⟨t',rfl⟩:=ry;exact Js (LH I q ↥1)
  | _=>exact absurd (show false=true from hs) AV
 | bl i =>
  cases rx;cases y with
  | non=>cases ry;exact Jt (LH I q ↥1)
  | bl j=>cases ry;exact ne_bool (LH I q (congrArg not RJ))
  | str j=>obtain⟨t',rfl⟩:=ry;exact JP (LH I q ↥1)
  | _=>exact absurd (show false=true from hs) AV
 | int i =>
  obtain⟨t,rfl⟩:=rx;cases y with
  | non=>cases ry;exact Ju (LH I q ↥1)
  | int j=>obtain⟨t',rfl⟩:=ry;exact ne_int (LH I q (congrArg not TU))
  | str j=>obtain⟨t',rfl⟩:=ry;exact JQ (LH I q ↥1)
  | _=>exact absurd (show false=true from hs) AV
 | str i =>
  obtain⟨t,rfl⟩:=rx;cases y with
  | non=>cases ry;exact Jv (LH I q ↥1)
  | bl j=>cases ry;exact JR (LH I q ↥1)
  | int j=>obtain⟨t',rfl⟩:=ry;exact JS (LH I q ↥1)
  | str j=>obtain⟨t',rfl⟩:=ry;exact ne_str (LH I q (congrArg not Tn))
  | _=>exact absurd (show false=true from hs) AV
 | byt i =>
  obtain⟨t,rfl⟩:=rx;cases y with
  | byt j=>obtain⟨t',rfl⟩:=ry;exact PySem.W.ne_bytes (LH I q (congrArg not U9))
  | _=>exact absurd (show false=true from hs) AV
 | _=>cases y <;> exact absurd (show false=true from hs) AV
def kC:OpR X (Bi .Lt) (rI0 λi j=>.bl (decide (i < j))):=opB0 λ_ _ _ _ _ _ _ q=>lt_int q
def dz:OpR X (Bi .Gt) (rI0 λi j=>.bl (decide (j < i))):=opB0 λ_ _ _ _ _ _ _ q=>gt_int q
def aN:OpR X (Bi .GtE) (rI0 λi j=>.bl (decide (j<=i))):=opB0 λ_ _ _ _ _ _ _ q=>ge_int q
def OpR.or(h:OpR X f r)(h':OpR X f r'):OpR X f (λx y H Q=>r x y H Q\/r' x y H Q):=by
 intro pins s σ H x y v u Q I rx ry q;rcases q with q | q
 ·exact h pins s σ H x y v u Q I rx ry q
 ·exact h' pins s σ H x y v u Q I rx ry q
def nomark b {op} (h:op≠.In:=by decide) (h2:op≠.NotIn:=by decide):Bo op b=false:=by
 have e1:(op == KE)=false:=by cases op <;> first | rfl | exact absurd rfl h
 have e2:(op == Iv)=false:=by cases op <;> first | rfl | exact absurd rfl h2
 cases b <;> simp[Bo,e1,e2]
def YR(ho:OpR X (Bi op) r)(ha:PE X a ta)(hb:PE X b tb)(hm:Bo op b=false):PE X (.Compare a [op] [b] pos) (tOp r ta tb):=λpins s σ H Q I h=>wpAny_Compare1 (binT ha hb I h λv u s2 x y H2 I2 rx ry q=>ho pins s2 σ H2 x y v u Q I2 rx ry q) hm
def tTest (t:TE):TT:=λσ H Q=>t σ H λx H'=>∃ k,x=.bl k/\Q k H'
def aV(ho:OpR X (Bi op) r)(ha:PE X a ta)(hb:PE X b tb)(hm:Bo op b=false):PT X (.Compare a [op] [b] pos) (tTest (tOp r ta tb)):=by
 intro pins s σ H Q I h;refine Hz (thn (ha pins s σ H _ I h) λv s1 ⟨x,H1,I1,r1,q1⟩=>thn (hb pins s1 σ H1 _ I1 q1) λu s2 ⟨y,H2,I2,r2,q2⟩ =>
  thn (ho pins s2 σ H2 x y v u _ I2 r1 r2 q2) λc s3 ⟨z,H3,I3,r3,k,e,q3⟩=>?_) hm
 subst e;cases r3;exact Bz ⟨H3,I3,q3⟩
def TruV (K:Ab) (x:V) (H:Hp) (k:Bool):Prop:=
 match x with
 | .non=>k=false
 | .bl b=>k=b
 | .int i=>k=(i != 0)
 | .str y=>y.length<=AD/\k=((y.length:Int) != 0)
 | .byt y=>y.size<=AD/\k=((y.size:Int) != 0)
 | .ref p=>(∃ xs,SqL K H p xs/\k=!xs.isEmpty)\/(∃ xs,SqT K H p xs/\k=!xs.isEmpty)\/∃ kvs,H p=some (.dK kvs)/\k=!kvs.isEmpty
 | _=>False
def aj{vs}(r:KV kvs vs):(!vs.isEmpty)=!kvs.isEmpty:=by
 cases r <;> rfl
def Sm{its}(r:Vals xs its):(!its.toArray.isEmpty)=!xs.isEmpty:=by
 cases r <;> simp
def line63:AD < 2 ^ 63:=by rw[BK];decide
theorem bu:TruR X (λx H Q=>∃ k,TruV X.K x H k/\Q k H):=by
 intro pins s σ H x v Q I rx h;obtain⟨k,e,q⟩:=h;have hl:=BK;cases x with
 | non =>
  cases rx;have e':=e;subst e';exact truthy_none ⟨H,I,q⟩
 | bl b =>
  cases rx;have e':=e;subst e';exact Bz ⟨H,I,q⟩
 | int i =>
  obtain⟨t,rfl⟩:=rx;have e':=e;subst e';exact PySem.P.truthy_int ⟨H,I,q⟩
 | str y =>
  obtain⟨t,rfl⟩:=rx;obtain⟨hy,rfl⟩:y.length<=AD/\k=((y.length:Int) != 0):=e;exact PySem.P.truthy_str ⋯ ⟨H,I.tok _,q⟩
 | byt y =>
  obtain⟨t,rfl⟩:=rx;obtain⟨hy,rfl⟩:y.size<=AD/\k=((y.size:Int) != 0):=e;exact PySem.W.truthy_bytes ⋯ ⟨H,I.tok _,q⟩
 | ref p =>
  cases rx;have e':=e;rcases e' with ⟨xs,hx,e'⟩ | ⟨xs,hx,e'⟩ | ⟨kvs,hx,e'⟩
  ·subst e';obtain⟨its,r,pl,hz⟩:=I.list hx;have hlen:=r.length;exact wpAny_truthy_list pl.isList (by simp only[Aa];lia) ⟨H,I.tok _,by rw[Sm r];exact q⟩
  ·subst e';obtain⟨its,r,pl,hz⟩:=I.tuple hx;have hlen:=r.length;exact truthy_tuple pl (by simp only[Aa];lia) ⟨H,I.tok _,by rw[Sm r];exact q⟩
  ·subst e';obtain⟨hz,hS,vs,r,m⟩:kvs.length<=AD/\(p == B4)=false/\∃ vs,KV kvs vs/\s.heap.DictOf (mixKind X.prog X.w) p vs:=I.hok p _ hx;have hlen:=Dn r;exact wpAny_truthy_dict hS m ⋯ ⟨H,I.tok _,by rw[aj r];exact q⟩
 | _=>exact e.elim
def bq(ha:PE X a ta)(he:∀ whole,HZ a X.env whole=(do let v ← whole;Iy a.pos;holding [v] (truthy v))) :
  PT X a (λσ H Q=>ta σ H λx H'=>∃ k,TruV X.K x H' k/\Q k H'):=λpins s σ H Q I h=>isTrue_plain (thn (ha pins s σ H _ I h) λv s1 ⟨x,H1,I1,r1,q1⟩=>bu pins s1 σ H1 x v Q I1 r1 q1) (he _)
def Xa:OpR X (CW .Add) (λx y H Q=>∃ i j,x=.str i/\y=.str j/\i.length+j.length<=AD/\Q (.str (i++j)) H):=by
 intro pins s σ H x y v u Q I rx ry h;obtain⟨i,j,rfl,rfl,hz,q⟩:=h;obtain⟨t,rfl⟩:=rx;obtain⟨t',rfl⟩:=ry;exact add_str (λt' tk=>⟨.str (i++j),H,I.tok _,⟨_,rfl⟩,q⟩) hz
theorem vals1{us}(r:Vals [x] us):∃ u,us=[u]/\RelV x u:=by
 cases r with
 | cons r1 r2=>cases r2;exact⟨_,rfl,r1⟩
theorem vals2{us}(r:Vals [x,y] us):∃ u w',us=[u,w']/\RelV x u/\RelV y w':=by
 cases r with
 | cons r1 r2 =>
  cases r2 with
  | cons r3 r4=>cases r4;exact⟨_,_,rfl,r1,r3⟩
def cn(hc:X.calm=true):CallR X (.builtin "max") (λxs H Q=>∃ i j,xs=[.int i,.int j]/\Q (.int (if j > i then j else i)) H):=by
 intro pins s σ H xs us Q I r h;obtain⟨i,j,rfl,q⟩:=h;obtain⟨u,w',rfl,⟨t,rfl⟩,⟨t',rfl⟩⟩:=vals2 r;refine max_two_ints (I.ok.hd hc) λh' tk k=>⟨_,H,I.kept k,?_,q⟩
 by_cases hj:j > i
 ·rw[if_pos hj,if_pos hj];exact⟨_,rfl⟩
 ·rw[if_neg hj,if_neg hj];exact⟨_,rfl⟩
def Vh:CallR X (.type "int") (λxs H Q=>(∃ i,xs=[.int i]/\Q (.int i) H)\/∃ k,xs=[.bl k]/\Q (.int (if k then 1 else 0)) H):=by
 intro pins s σ H xs us Q I r h;rcases h with ⟨i,rfl,q⟩ | ⟨k,rfl,q⟩
 ·obtain⟨u,rfl,t,rfl⟩:=vals1 r;exact call_int_int ⟨.int i,H,I,⟨_,rfl⟩,q⟩
 ·obtain⟨u,rfl,rfl⟩:=vals1 r;exact call_int_bool ⟨.int (if k then 1 else 0),H,I.tok _,⟨_,rfl⟩,q⟩
end
theorem RelO.some_of{o}(r:RelO (some v) o):∃ u,o=some u/\RelV v u:=by
 cases o with
 | none=>exact r.elim
 | some u=>exact⟨u,rfl,r⟩
structure Room(k:Nat)(A:BD):Prop where
 hd:A.handled=none
 dp:A.depth+3 * k+5 < KG
 un:A.units+16 * k+200 < DV
 gd:A.guards=some []
def Room.mono{j k A}(r:Room k A)(h:j<=k):Room j A:=⟨r.hd,by have:=r.dp;lia,by have:=r.un;lia,r.gd⟩
theorem Room.deeper{A}(r:Room (k+1) A) env:Room k (A.deeper env):=
 ⟨r.hd,by have:=r.dp;show A.depth+1+3 * k+5 < _;lia,by have:=r.un;show A.units+3+16 * k+200 < _;lia,r.gd⟩
theorem Room.depth{A}(r:Room k A):A.depth < KG:=by have:=r.dp;lia
def tNil:TA:=λ_ H Q=>Q [] H
def tCons (ta:TE) (tr:TA):TA:=λσ H Q=>ta σ H λx H1=>tr σ H1 λxs H2=>Q (x::xs) H2
section
variable {X:Cx}{e:Expr}{es:List Expr}{te:TE}{t:TA}{pos:Pos}
def Ot:PA X [] tNil:=λ_ _ _ _ H Q I h=>Do ⟨[],H,I,.nil,h⟩
def QR(ha:PE X e te)(hr:PA X es t)(hs:AW (e::es) X.env=(false,eval e X.env)::AW es X.env:=by rfl):PA X (e::es) (tCons te t):=by
 intro pos pins s σ H Q I h;rw[hs];show AQ _ _ (spliced ((false,eval e X.env)::CV pos (AW es X.env))) _ _ s;exact Ew (thn (ha pins s σ H _ I h) λu s1 ⟨x,H1,I1,r1,q1⟩=>thn (hr pos pins s1 σ H1 _ I1 q1) λus s2 ⟨xs,H2,I2,r2,q2⟩=>⟨x::xs,H2,I2,.cons r1 r2,q2⟩)
def tTup (t:TA):TE:=λσ H Q=>t σ H λxs H1=>xs.length<=AD/\∀ p,H1 p=none->Q (.ref p) (upd H1 p (.tup xs))
def tLst (t:TA):TE:=λσ H Q=>t σ H λxs H1=>xs.length<=AD/\∀ p,H1 p=none->Q (.ref p) (upd H1 p (.lst xs))
def kI{x1}(h:PA X es t):PE X (.Tuple es x1 pos) (tTup t):=by
 intro pins s σ H Q I hq;refine wpAny_Tuple_spliced (thn (h pos pins s σ H _ I hq) λus s1 ⟨xs,H1,I1,r,z,q⟩=>⟨by rw[← r.length];exact z,⟨.ref s1.heap.objs.size,upd H1 s1.heap.objs.size (.tup xs),I1.laid (λb u e=>AB _ e) (AE _) ?_,rfl,q _ (I1.hok.fresh (AE _))⟩⟩);exact⟨z,us,r,⟨_,AK _ rfl,rfl,⟨_,rfl⟩,rfl⟩⟩
def ao(h:PA X es t):PE X (.List es pos) (tLst t):=by
 intro pins s σ H Q I hq;refine wpAny_List_spliced (thn (h pos pins s σ H _ I hq) λus s1 ⟨xs,H1,I1,r,z,q⟩=>⟨by rw[← r.length];exact z,⟨.ref s1.heap.objs.size,upd H1 s1.heap.objs.size (.lst xs),I1.laid (λb u e=>AB _ e) (AE _) ?_,rfl,q _ (I1.hok.fresh (AE _))⟩⟩);exact⟨z,us,0,r,AK _ rfl⟩
end
abbrev Sp:=List V->Hp->VK->XK->Prop
abbrev CXT:=List Env->Hp->AR->XK->AM->AR->Prop
structure Env0(P:Ai)(w:A5)(K:Ab)(mg:Str->Option AM)(base:Heap)(A:BD)(outer:List Env)(s:AR)(H:Hp):Prop where
 frames:A.frames=some outer
 mod:Mod K mg base
 bs:∀ b o,base.get? b=some o->s.heap.get? b=some o/\H b=none
 bsz:base.objs.size<=s.heap.objs.size
 funs:s.heap.FunFrames base outer
 frf:∀ b∈frs outer,H b=none
 hok:HOk P w H s.heap
 bare:Ej s.gens
def CE (outer:List Env) (P:Ai) (w:A5) (H:Hp) (s:AR) (Q:VK) (u:AM) (s':AR):Prop:=
 ∃ v H',s'.os=s.os/\Ej s'.gens/\Un (frs outer) [] H H' s.heap s'.heap/\HOk P w H' s'.heap/\RelV v u/\Q v H'
def CR (CX:CXT) (outer:List Env) (P:Ai) (w:A5) (H:Hp) (s:AR) (Q:VK) (E:XK) (r:Result) (s':AR):Prop:=
 match r with
 | .ok (.ret u)=>CE outer P w H s Q u s'
 | .ok _=>False
 | .error e=>CX outer H s E e s'
structure FnOk(P:Ai)(w:A5)(K:Ab)(mg:Str->Option AM)(base:Heap)(CX:CXT)(k:Nat)(f:Addr)(fd:Dg)(ps:List Str)(sp:Sp):Prop where
 len:∀ vs H Q E,sp vs H Q E->vs.length=ps.length
 run:∀ (A:BD) (outer:List Env) (s:AR) (H:Hp) (args:Args) (us:List AM) (vs:List V) (Q:VK) (E:XK),Room k A->Env0 P w K mg base A outer s H->Fk s fd args (ps.zip us)->Vals vs us->sp vs H Q E ->
  Dp (model P w) A (.call (.ref f) args) (CR CX outer P w H s Q E) s
theorem FnOk.mono{K mg base CX j k f fd ps sp}(F:FnOk P w K mg base CX j f fd ps sp)(h:j<=k) :
  FnOk P w K mg base CX k f fd ps sp:=⟨F.len,λA outer s H args us vs Q E hr=>F.run A outer s H args us vs Q E (hr.mono h)⟩
section
variable {X:Cx}{pins:List (Addr×Obj)}{σ:St}{H:Hp}{s s':AR}
def Inv.env0(I:Inv X pins σ H s):Env0 X.prog X.w X.K X.mg X.base X.A X.stack s H:=
 ⟨I.ok.frames,I.ok.mod,I.bs,Ak I.ok.bsz I.sz,I.stack,I.stkFree,I.hok,I.bare⟩
def Inv.after{u}(I:Inv X pins σ H s)(h:CE X.stack X.prog X.w H s Q u s'):EP X pins σ Q u s':=by
 obtain⟨v,H',os,bare,un,hok,r,q⟩:=h;obtain⟨hh,g,d,t,os'⟩:=s';obtain rfl:os'=s.os:=os;exact⟨v,H',I.call un hok bare (λb z=>absurd z ↥1),r,q⟩
end
def tCall (sp:Sp) (dvs:List V) (E:XK) (t:TA):TE:=λσ H Q=>t σ H λvs H1=>sp (vs++dvs) H1 Q E
def Binds (K:Ab) (fd:Dg) (ps:List Str) (ds:List AM):Prop:=
 ∀ s us,K.In s.heap->(us++ds).length=ps.length->Fk s fd ⟨us,[]⟩ (ps.zip (us++ds))
def Binds.all{K fd ps}(h:∀ us,us.length=ps.length->Fl fd ⟨us,[]⟩=pure (ps.zip us)):Binds K fd ps []:=λs us _ hl=>by
 rw[Bn]at hl ⊢;exact .of_eq (h us hl)
def Passes (CX:CXT) (X:Cx) (E:XK):Prop:=∀ pins (σ:St) H s e s',Inv X pins σ H s->CX X.stack H s E e s'->X.xe e s'
section
variable {X:Cx}{CX:CXT}{k:Nat}{f C:Addr}{fd:Dg}{ps:List Str}{sp:Sp}{dvs:List V}{ds:List AM}{E:XK}{x m:Str}{p pos apos:Pos}{e o:Expr}{es:List Expr}{ta:TE}{t:TA}
theorem UD{σ:St}{H s Q us vs}(F:FnOk X.prog X.w X.K X.mg X.base CX k f fd ps sp)(hr:Room k X.A)(hb:Binds X.K fd ps ds)(hd:Vals dvs ds)(hx:Passes CX X E)
  (I:Inv X pins σ H s) (r:Vals vs us) (h:sp (vs++dvs) H Q E):AQ (model X.prog X.w) X.A (call (.ref f) us) (EP X pins σ Q) X.xe s:=by
 have r2:=r.append hd;have hl:(us++ds).length=ps.length:=by rw[← r2.length];exact F.len _ _ _ _ h
 refine wpAny_call (Fo (F.run X.A X.stack s H ⟨us,[]⟩ (us++ds) (vs++dvs) Q E hr I.env0 (hb s us I.kIn hl) r2 h) λr s' hq=>?_);cases r with
 | error e=>exact hx pins σ H s e s' I hq
 | ok fl =>
  cases fl with
  | ret u=>exact I.after hq
  | next=>exact BU hq
  | brk=>exact BU hq
  | cont=>exact BU hq
def RI(F:FnOk X.prog X.w X.K X.mg X.base CX k f fd ps sp)(hr:Room k X.A)(hg:Gl X x)(hm:X.mg x=some (.ref f))(hk:Bt X.K (.ref f)=true)(hb:Binds X.K fd ps ds)(hd:Vals dvs ds)(hx:Passes CX X E)
  (ha:PA X (e::es) t) (hdb:(x == ("__debug__":Str))=false:=by decide) (he:AW (e::es) X.env=(false,eval e X.env)::AW es X.env:=by rfl) (hpl:(CV pos (AW es X.env)).any (·.1)=false:=by rfl) :
  PE X (.Call (.Name x p) (e::es) [] pos) (tCall sp dvs E t):=by
 intro pins s σ H Q I h;exact Dx (Ul I hg hm (Gu I.ok.mod.kin hk (thn (ha pos pins s σ H _ I h) λus s1 ⟨vs,H1,I1,r,q⟩=>⟨I1.kIn,UD F hr hb hd hx I1 r q⟩) he hpl) hdb)
end
structure FnScope(N P:List Str)(sc:Ea):Prop where
 kind:sc.kind=.function
 co:sc.isCoroutine=false
 gen:sc.isGenerator=false
 nd:N.Nodup
 pre:N.take P.length=P
 par:∀ x∈P,sc.names.lookup x=some .local\/sc.names.lookup x=some .cell
 nofree:∀ y∈sc.names,y.2≠.free
theorem Tf{DN x}:∀ {binds m},(∀ v,(x,v)∉binds)->IF DN binds m x=m x
 | [],_,_=>rfl
 | (n,v)::r,m,h=>by
  unfold IF;rw[Tf λw hw=>h w (AH _ hw)];split
  ·have:x≠n:=by rintro rfl;exact h v AG
   simp[this]
  ·rfl
theorem SN{DN x}:∀ {binds m},(∀ v,(x,v)∉binds)->IG DN binds m x=m x
 | [],_,_=>rfl
 | (n,v)::r,m,h=>by
  unfold IG;rw[SN λw hw=>h w (AH _ hw)];split
  ·rfl
  ·have:x≠n:=by rintro rfl;exact h v AG
   simp[this]
theorem Sk{DN x v}:∀ {P:List Str} {vs} {i:Nat} {m},P.Nodup->P[i]?=some x->vs[i]?=some v->DN x=some .local ->
  IF DN (P.zip vs) m x=some v
 | [],_,_,_,_,h,_,_=>by simp at h
 | _::_,[],_,_,_,_,h,_=>by simp at h
 | p::P,w::vs,0,m,nd,h1,h2,hk=>by
  simp at h1 h2;subst h1;subst h2;show IF DN ((p,w)::P.zip vs) m p=_;unfold IF;rw[Tf λv hv=>(BL.mp nd).1 (Fc hv).1,if_pos hk];simp
 | p::P,w::vs,i+1,m,nd,h1,h2,hk=>by
  unfold IF;exact Sk (BL.mp nd).2 ‹_› ‹_› hk
theorem U2{DN x v}:∀ {P:List Str} {vs} {i:Nat} {m},P.Nodup->P[i]?=some x->vs[i]?=some v->DN x≠some .local ->
  IG DN (P.zip vs) m x=some v
 | [],_,_,_,_,h,_,_=>by simp at h
 | _::_,[],_,_,_,_,h,_=>by simp at h
 | p::P,w::vs,0,m,nd,h1,h2,hk=>by
  simp at h1 h2;subst h1;subst h2;show IG DN ((p,w)::P.zip vs) m p=_;unfold IG;rw[SN λv hv=>(BL.mp nd).1 (Fc hv).1,if_neg hk];simp
 | p::P,w::vs,i+1,m,nd,h1,h2,hk=>by
  unfold IG;exact U2 (BL.mp nd).2 ‹_› ‹_› hk
def start (N:List Str) (vs:List V):St:=vs.map some++Ae (N.length - vs.length) none
def cxOf (CX:CXT) (P:Ai) (w:A5) (K:Ab) (mg:Str->Option AM) (base:Heap) (N:List Str) (qual:Str) (scope:Ea) (f:Addr) (cd:AM) (A:BD) (outer:List Env) (s:AR) (H:Hp) (E:XK):Cx where
 prog:=P
 w:=w
 K:=K
 mg:=mg
 base:=base
 A:=A.deeper (E6 qual scope s.heap.objs.size f cd)
 N:=N
 s₀:=s
 H₀:=H
 env:=E6 qual scope s.heap.objs.size f cd
 outer:=outer
 stack:=E6 qual scope s.heap.objs.size f cd::outer
 ex:=[]
 calm:=true
 fn:=λ_=>true
 pn:=[]
 xe:=λe s'=>AQ (model P w) (A.deeper (E6 qual scope s.heap.objs.size f cd)) (leaving (E6 qual scope s.heap.objs.size f cd) e) (λ_ s''=>CX outer H s E e s'') (λe' s''=>CX outer H s E e' s'') s'
def Sh{sc:Ea}{n x}(h:sc.names.lookup x=some .cell):∃ c,(BM n sc.names []).lookup x=some c:=CG.mp (C0 sc.names n [] (.inl h))
def Yi{P w K mg base N ps qual scope f cd A outer s s1 H E us vs}
  (S:FnScope N ps scope) (hd:A.handled=none) (e0:Env0 P w K mg base A outer s H) (hl:vs.length=ps.length) (r:Vals vs us)
  (x:InCallC s s.heap.objs.size (IF (E6 qual scope s.heap.objs.size f cd).kindOf (ps.zip us) λ_=>none) (BM (s.heap.objs.size+1) scope.names []) (IG (E6 qual scope s.heap.objs.size f cd).kindOf (ps.zip us) λ_=>none) s1) :
  Inv (cxOf CX P w K mg base N qual scope f cd A outer s H E) [] (start N vs) H s1:=by
 have hpl:ps.length<=N.length:=by have:=congrArg G8 S.pre;rw[DH]at this;lia
 obtain⟨h1,tk,rfl,hk⟩:=x.done;have noA:∀ b,b∉(cxOf CX P w K mg base N qual scope f cd A outer s H E).ex:=λb z=>absurd (show b∈[] from z) ↥1
 refine⟨⟨e0.mod,S.kind,rfl,rfl,AE _,λy z c h1 h2=>?_,λy hy=>?_,λy c _ h=>?_,λ_=>hd,Around.frames_deeper e0.frames,.inr ⟨rfl,rfl⟩,λb z=>absurd z (noA b),e0.bs,e0.bsz,λb _ _=>noA b,λb z=>absurd z (noA b),e0.funs,e0.frf⟩,
  rfl,e0.bare,Un.kept hk,⟨_,x.toInCall.ns,λi y v h1 h2 h3=>?_⟩,λy c h=>⟨_,x.cell y c h⟩,e0.hok.fresh (AE _),λy c h=>?_,λp hp=>absurd (show p∈[] from hp) ↥1,e0.hok.kept hk,?_⟩
 ·exact name_of_addr x.apart (BV h1) (BV h2)
 ·rcases hy with hy | hy
  ·exact Sh hy
  ·exact absurd rfl (S.nofree _ (BV hy))
 ·exact CJ (x.above y c (BV h))
 ·have hi:i < vs.length:=by
   unfold start at h2;by_cases hi:i < vs.length
   ·exact hi
   ·rw[Cj (by simpa using hi)]at h2;rw[Gg]at h2;split at h2 <;> cases h2
  have ha:vs[i]?=some v:=by
   unfold start at h2;rw[BH (by simpa using hi),Am]at h2;cases e:vs[i]? with
   | none=>rw[e]at h2;cases h2
   | some a=>rw[e]at h2;cases h2;rfl
  obtain⟨u,hu,rv⟩:=r.get ha;have hp:ps[i]?=some y:=by
   rw[← S.pre,Ds ⋯];exact h1
  have ndP:ps.Nodup:=by rw[← S.pre];exact S.nd.sublist (List.take_sublist _ _)
  refine⟨u,rv,?_⟩;rcases S.par y (DQ hp) with k | k
  ·exact .inl ⟨k,Sk ndP hp hu k⟩
  ·obtain⟨c,e⟩:=Sh k;refine .inr ⟨.inl k,c,e,?_⟩;have q:=x.cell y c e;rw[U2 ndP hp hu (by show scope.names.lookup y≠_;rw[k];decide)]at q;exact q
 ·exact e0.hok.fresh (CJ (x.above y c (BV h)))
 ·unfold start;show _=N.length;rw[A7,Af,List.length_replicate];lia
theorem SD{P w K mg base k f name qual params body scope dV kV doc pm cdv ct oc an od}
  {osl N ps sp} (lk:K.lookup f=some ⟨oc,od,.func (BW name qual params body scope dV kV doc pm an cdv ct),osl⟩) (hcd:Cc K cdv qual=true) (S:FnScope N ps scope)
  (len:∀ vs H Q E,sp vs H Q E->vs.length=ps.length)
  (hbody:∀ A outer s H vs Q E,Room k (A.deeper (E6 qual scope s.heap.objs.size f cdv))->sp vs H Q E ->
   ∃ t,PSs (cxOf CX P w K mg base N qual scope f cdv A outer s H E) body t/\t { nx:=λ_ H'=>Q .non H',rt:=Q } (start N vs) H) :
  FnOk P w K mg base CX (k+1) f (BW name qual params body scope dV kV doc pm an cdv ct) ps sp:=by
 refine⟨len,λA outer s H args us vs Q E hr e0 hb r hsp=>?_⟩;have KX:=e0.mod.kin.keeps λb o e=>(e0.bs b o e).1
 have hkind:∀ y∈ps.zip us,scope.names.lookup y.1=some .local\/(scope.names.lookup y.1=some .cell/\((BM (s.heap.objs.size+1) scope.names []).lookup y.1).isSome=true):=λ⟨n,v⟩ hy=>by
  rcases S.par n (Fc hy).1 with q | q
  ·exact .inl q
  ·exact .inr ⟨q,C0 _ _ _ (.inl q)⟩
 refine codeAny_call_function hr.depth (KX _ _ lk) rfl S.co S.gen rfl (PySem.W.codeRec_of KX hcd) (hb _ _ _ _ (wpAny_newFunctionEnv_cells S.kind hkind λenv he s1 x=>?_));subst he;refine⟨(e0.mod.nolimit.keeps λb o e=>(e0.bs b o e).1).keeps x.toInCall.keep,codeAny_func ?_⟩;obtain⟨t,ht,hq⟩:=hbody A outer s H vs Q E (hr.deeper _) hsp;have I:Inv (cxOf CX P w K mg base N qual scope f cdv A outer s H E) [] (start N vs) H s1:=Yi S hr.hd e0 (len _ _ _ _ hsp) r x;refine BE (ht [] s1 (start N vs) H _ I hq) (λfl s' hs=>?_) λe s' hs=>hs
 have fin:∀ {σ':St} {H':Hp} {v:V} {u:AM},Inv (cxOf CX P w K mg base N qual scope f cdv A outer s H E) [] σ' H' s'->RelV v u->Q v H'->CE outer P w H s Q u s':=
  λ{σ' H' v u} J rv q=>⟨v,H',J.os,J.bare,J.base,J.hok,rv,q⟩
 cases fl with
 | ret u =>
  obtain⟨v,σ',H',J,rv,q⟩:=hs;exact fin J rv q
 | next =>
  obtain⟨σ',H',J,q⟩:=hs;exact fin (v:=V.non) J rfl q
 | brk =>
  obtain⟨_,_,_,q⟩:=hs;exact BU q
 | cont =>
  obtain⟨_,_,_,q⟩:=hs;exact BU q
section
variable {X:Cx}{x:Str}{p pos:Pos}{e:Expr}{es:List Expr}{t:TA}{id T:String}{r:List V->Hp->VK->Prop}
def tCB (r:List V->Hp->VK->Prop) (t:TA):TE:=λσ H Q=>t σ H λvs H1=>r vs H1 Q
def dQ(hc:CallR X (.builtin id) r)(hg:Gl X x)(hm:X.mg x=none)(hv:B9 x=some (.builtin id))(ha:PA X (e::es) t)(hn:x≠"__name__":=by decide)(hdb:(x == ("__debug__":Str))=false:=by decide)
  (he:AW (e::es) X.env=(false,eval e X.env)::AW es X.env:=by rfl) (hpl:(CV pos (AW es X.env)).any (·.1)=false:=by rfl):PE X (.Call (.Name x p) (e::es) [] pos) (tCB r t):=λpins s σ H Q I h=>Dx (L3 I hg hm hv (Jw (thn (ha pos pins s σ H _ I h) λus s1 ⟨vs,H1,I1,r1,q1⟩=>hc pins s1 σ H1 vs us Q I1 r1 q1) he hpl) hn hdb)
def NN(hc:CallR X (.type T) r)(hg:Gl X x)(hm:X.mg x=none)(hv:B9 x=some (.type T))(ha:PA X (e::es) t)(hn:x≠"__name__":=by decide)(hdb:(x == ("__debug__":Str))=false:=by decide)
  (he:AW (e::es) X.env=(false,eval e X.env)::AW es X.env:=by rfl) (hpl:(CV pos (AW es X.env)).any (·.1)=false:=by rfl):PE X (.Call (.Name x p) (e::es) [] pos) (tCB r t):=λpins s σ H Q I h=>Dx (L3 I hg hm hv (A6 (thn (ha pos pins s σ H _ I h) λus s1 ⟨vs,H1,I1,r1,q1⟩=>hc pins s1 σ H1 vs us Q I1 r1 q1) he hpl) hn hdb)
end
end L2
namespace HT
open PySem PyProof.Rows
def lexLt:List Int->List Int->Bool
 | [],[]=>false
 | [],_::_=>true
 | _::_,[]=>false
 | x::xs,y::ys=>if x=y then lexLt xs ys else decide (x < y)
def lexLt_cons x y xs ys:lexLt (x::xs) (y::ys)=if x=y then lexLt xs ys else decide (x < y):=rfl
def lexLt_nil_nil:lexLt [] []=false:=rfl
def lexLt_nil_cons y ys:lexLt [] (y::ys)=true:=rfl
def lexLt_cons_nil x xs:lexLt (x::xs) []=false:=rfl
def Y0 A s a t c u:∃ e,Fp A s (.int a t) (.int c u) e/\(e=true ↔ a=c):=
 ⟨(a == c),GO a t c u,by simp⟩
def WA A s a t c u prog w E Q (h:Q (.bool (decide (a < c))) s) :
  AQ (model prog w) A (richCompare .Lt (.int a t) (.int c u)) Q E s:=
 (Jx h)
section
open PySem.SeqAt
open PySem.AutoSeq1 (wpAny_loadPart')
open PySem.MeetsSeq PySem.MeetsSeq2 PySem.MeetsSeq3
def tuple_lt_ints(l b:Addr)(items items2:Array AM)(n n2:Nat)(dd dd2:Option Addr)(sl sl2:Array (Option AM))(ns ms:List Int)(hi:Bp items.toList ns)(hj:Bp items2.toList ms) :
  IH (Builtin.«tuple.__lt__» ⟨[.ref l,.ref b],[]⟩)
   (λ_ R s=>s.heap.get? l=some { cls:=.type "tuple",dict:=dd,data:=.seq items n,slots:=sl }/\s.heap.get? b=some { cls:=.type "tuple",dict:=dd2,data:=.seq items2 n2,slots:=sl2 } /\
    R (.ok (.ret (.bool (lexLt ns ms)))) s):=
 .of_wp λprog w A R s h=>by
  obtain⟨hp,g,d,tk,os⟩:=s;obtain⟨hl,hb,h⟩:=h;have f2:=AutoSeq1.sub_tuple_tuple;have z1:items.size=ns.length:=by rw[← hi.length];simp
  have z2:items2.size=ms.length:=by rw[← hj.length];simp
  wp_walk using Gh hl,Gh hb,JT _ (λrest b s'=>b.1=none/\s'=⟨hp,g,d,tk,os⟩/\∃ (vs ws:List AM) (ns' ms':List Int),rest=vs.zip ws /\
   Bp vs ns'/\Bp ws ms'/\ns'.length+items2.size=ms'.length+items.size/\R (.ok (.ret (.bool (lexLt ns' ms')))) ⟨hp,g,d,tk,os⟩) _
  case turn =>
   rintro ⟨y,x⟩ rest b s' ⟨hb',rfl,vs,ws,ns',ms',hz,hvi,hwi,hlen,hR⟩;cases hvi with
   | nil=>rw[List.zip_nil_left]at hz;cases hz
   | cons a t hvi' =>
    cases hwi with
    | nil=>rw[HQ]at hz;cases hz
    | cons c u hwi' =>
     rw[HR]at hz;injection hz with hyx hrest;injection hyx with hy hx;subst hy hx;rw[lexLt_cons]at hR;simp only[Co]at hlen;obtain⟨e,he,hiff⟩:=Y0 A.in1 ⟨hp,g,d,tk,os⟩ a t c u;refine AA (he prog w _ _ ?_);cases e with
     | true =>
      rw[if_pos (hiff.mp rfl)]at hR
      wp_walk
      exact⟨rfl,rfl,_,_,_,_,hrest,hvi',hwi',by lia,hR⟩
     | false =>
      rw[if_neg (λq=>absurd (hiff.mpr q) AV)]at hR;have hri:=WA A.in1 ⟨hp,g,d,tk,os⟩ a t c u prog w
      wp_walk using hri
      exact⟨_,rfl,by simpa using hR⟩
  case fin =>
   rintro ⟨b1,b2⟩ s' ⟨hb',rfl,vs,ws,ns',ms',hz,hvi,hwi,hlen,hR⟩;simp only at hb';subst hb';have hv:lexLt ns' ms'=decide (items.size < items2.size):=by
    cases hvi with
    | nil =>
     cases hwi with
     | nil =>
      simp only[DW]at hlen;rw[lexLt_nil_nil];exact (decide_eq_false ⋯).symm
     | cons c u hw =>
      simp only[DW,Co]at hlen;rw[lexLt_nil_cons];exact (decide_eq_true ⋯).symm
    | cons a t hv =>
     cases hwi with
     | nil =>
      simp only[DW,Co]at hlen;rw[lexLt_cons_nil];exact (decide_eq_false ⋯).symm
     | cons c u hw =>
      rw[HR]at hz;cases hz
   rw[hv]at hR
   wp_walk
   exact⟨_,rfl,by simpa [JU] using hR⟩
  case h =>
   exact⟨rfl,rfl,items.toList,items2.toList,ns,ms,rfl,hi,hj,by lia,h⟩
end
section
variable {prog:Ai}{w:A5}{A:BD}{E:AM->AR->Prop}{s:AR}
def lt_tupInts{items items2 ns ms Q}(hl:Em s.heap l items)(hb:Em s.heap b items2)(hi:Bp items.toList ns)(hj:Bp items2.toList ms)
  (hu:A.units < DV) (h:Q (.bool (lexLt ns ms)) s):AQ (model prog w) A (Bi .Lt (.ref l) (.ref b)) Q E s:=by
 obtain⟨⟨cls,dd,data,sl⟩,ho,hc,n,hd⟩:=id hl;obtain⟨⟨cls2,dd2,data2,sl2⟩,ho2,hc2,n2,hd2⟩:=id hb;simp only at hc hd hc2 hd2;subst hc hd hc2 hd2;exact richCompare_meets_room (op:=.Lt) ⟨_,ho,rfl⟩ ⟨_,ho2,rfl⟩ EC GC (Fz _ _) (tuple_lt_ints l b items items2 n n2 dd dd2 sl sl2 ns ms hi hj)
  ⟨ho,ho2,show HE (lexLt ns ms)≠Value.notImplemented/\Q (.bool (lexLt ns ms)) s from ⟨(λx=>nomatch x),h⟩⟩ hu
def cat_tup{vs ws Q}(ht:Em s.heap t vs.toArray)(hb:Em s.heap b ws.toArray)(hv:vs≠[])
  (h1:ws=[]->Q (.ref t) s) (h2:ws≠[]->Q (.ref s.heap.objs.size) { s with heap:=s.heap.push { cls:=.type "tuple",data:=.seq (vs++ws).toArray } })
  (hsz:vs.length+ws.length<=AD):AQ (model prog w) A (CW .Add (.ref t) (.ref b)) Q E s:=by
 obtain⟨⟨cls,dd,data,sl⟩,ho,hc,n,hd⟩:=id ht;obtain⟨⟨cls2,dd2,data2,sl2⟩,ho2,hc2,n2,hd2⟩:=id hb;simp only at hc hd hc2 hd2;subst hc hd hc2 hd2;have e:vs.toArray++ws.toArray=(vs++ws).toArray:=by simp
 by_cases hw:ws=[]
 ·exact Ha ⟨_,ho,rfl⟩ ⟨_,ho2,rfl⟩ GD HF Dy Dq (Dj _ _)
   (tuple_addW1 t b vs.toArray ws.toArray n n2 dd dd2 sl sl2 (by simpa using hv) (by simp[hw])) ⟨ho,ho2,h1 hw⟩
 ·refine Ha ⟨_,ho,rfl⟩ ⟨_,ho2,rfl⟩ GD HF Dy Dq (Dj _ _)
   (tuple_addW2 t b vs.toArray ws.toArray n n2 dd dd2 sl sl2 (by simpa using hv) (by simpa using hw) ‹_›) ⟨ho,ho2,?_⟩
  rw[e];exact h2 hw
def sIx (n d:Nat):Option Int->Nat
 | none=>d
 | some v=>if v < 0 then (v+(n:Int)).toNat else min v.toNat n
def sIx_none n d:sIx n d none=d:=rfl
def sIx_nat(n d k:Nat):sIx n d (some k)=min k n:=rfl
def Q6(v:Int)(n d:Nat):(if v < 0 then max (v+n) 0 else min v n)=((sIx n d (some v):Nat):Int):=by
 show (if v < 0 then max (v+n) 0 else min v n)=((if v < 0 then (v+n).toNat else min v.toNat n));by_cases hv:v < 0
 ·simp_all
 ·simp[if_neg hv];lia
def iN lo hi (n:Nat):Ez lo hi 1 n=((sIx n 0 lo:Int),(sIx n n hi:Int)):=by
 refine Prod.ext ?_ ?_
 ·cases lo with
  | none=>rfl
  | some v=>exact Q6 v n 0
 ·cases hi with
  | none=>rfl
  | some v=>exact Q6 v n n
def jy(i j:Nat):CY i j 1=j - i:=by
 unfold CY;simp;split <;> lia
theorem U5{o Q}(p:E7 v o)(h:Q o s):AQ (model prog w) A (JV v) Q E s:=by
 cases p with
 | none=>exact KH h
 | int i t=>exact slicePart_int h
def sliceApplied_gen{vl vu lo hi}{n:Nat}{Q}(hs:s.heap.IsSliceOf sl vl vu .none)(pl:E7 vl lo)(pu:E7 vu hi)
  (h:Q (sIx n 0 lo,1,sIx n n hi - sIx n 0 lo) s):AQ (model prog w) A (JW (.ref sl) (pure n)) Q E s:=by
 obtain⟨os,hos,hcs,hds⟩:=id hs;refine AA (AA (Ao hos hds (x:=vl) rfl (AA (Ao hos hds (x:=vu) rfl (AA (Ao hos hds (x:=.none) rfl (AF (AA (KH (AA (U5 pl (AA (U5 pu (AA (AF ?_)))))))))))))));show AQ _ _ (match Ez lo hi 1 n with | (lo,hi)=>pure (lo,(1:Int),CY lo hi 1)) _ _ s;rw[iN lo hi n];show AQ _ _ (pure ((sIx n 0 lo:Int),1,CY (sIx n 0 lo) (sIx n n hi) 1)) _ _ s;rw[jy];exact AF h
def Yg(xs:Array AM)(i k:Nat):((AI k).filterMap λ(m:Nat)=>xs[(i+(m:Int) * 1).toNat]?).toArray=((xs.toList.drop i).take k).toArray:=by
 have e:(λ(m:Nat)=>xs[((i:Int)+m * 1).toNat]?)=λm=>xs[i+m]?:=by
  funext m;have:((i:Int)+m * 1).toNat=i+m:=by lia
  rw[this]
 rw[e];have:=pick_run xs i k;rw[List.filterMap_map]at this;have e2:((λx=>xs[x]?) ∘ λx=>i+x)=λm=>xs[i+m]?:=rfl
 rw[e2]at this;rw[this]
def qY{items vl vu lo hi Q}(ht:Em s.heap t items)(hs:s.heap.IsSliceOf sl vl vu .none)(pl:E7 vl lo)(pu:E7 vu hi)
  (hw:¬ (sIx items.size 0 lo=0/\sIx items.size items.size hi=items.size))
  (h:Q (.ref s.heap.objs.size) { s with heap:=s.heap.push { cls:=.type "tuple",data:=.seq ((items.toList.drop (sIx items.size 0 lo)).take (sIx items.size items.size hi - sIx items.size 0 lo)).toArray } })
  (hsz:items.size<=AD):AQ (model prog w) A (EF (.ref t) (.ref sl)) Q E s:=by
 have htake:=by
  show ((items.toList.drop (sIx items.size 0 lo)).take (sIx items.size items.size hi - sIx items.size 0 lo)).toArray.size<=AD;rw[Aa,DH,FO,As];lia
 obtain⟨os,hos,hcs,hds⟩:=id hs;have hTs:s.TypeIs (.ref sl) "slice":=⟨os,hos,hcs⟩
 unfold EF
 try with_reducible refine BN ?_
 refine AA (I0 ht.typeIs ∅ (AA (Ay ht.typeIs Bh
  (Az Bh ht.typeIs IT ?_ (Ig _ _)))))
 show AQ _ _ (Ex (.ref t) >>= _) _ _ s;refine AA (Ki ht (AA (Cy hTs (AA (sliceApplied_gen hs pl pu ?_)))));have hno:¬ ((((sIx items.size 0 lo):Int) == 0 && (1:Int) == 1 && (sIx items.size items.size hi - sIx items.size 0 lo) == items.size)=true):=λq=>hw ⟨by lia,by lia⟩
 show AQ _ _ (if (((sIx items.size 0 lo):Int) == 0 && 1 == 1 && (sIx items.size items.size hi - sIx items.size 0 lo) == items.size)=true then _ else _) _ _ s;rw[if_neg hno,Yg]
 first
  | exact AA (A8 (AF ⟨_,rfl,AF h⟩) htake)
  | exact AA (A8 (AA (AF (AF ⟨_,rfl,AF h⟩))) htake)
  | exact AA (AA (A8 (AF (AF ⟨_,rfl,AF h⟩)) htake))
  | exact AA (AA (A8 (AF ⟨_,rfl,AF h⟩) htake))
end
end HT
namespace L2
open PySem PySem.Spec PyProof.Rows
abbrev TO:=St->Hp->(Option Int->Hp->Prop)->Prop
def PO (X:Cx) (e:Option Expr) (t:TO):Prop:=
 ∀ pins s (σ:St) H Q,Inv X pins σ H s->t σ H Q ->
  AQ (model X.prog X.w) X.A (evalPart e X.env) (λu s'=>∃ o H',Inv X pins σ H' s'/\E7 u o/\Q o H') X.xe s
def tNoPart:TO:=λ_ H Q=>Q none H
def tPart (t:TE):TO:=λσ H Q=>t σ H λx H1=>∃ i,x=.int i/\Q (some i) H1
theorem TL:∀ {us},Vals (ns.map V.int) us->Bp us ns:=by
 induction ns with
 | nil=>intro us r;rw[CH]at r;cases r;exact .nil
 | cons n ns ih =>
  intro us r;cases r with
  | cons r1 r2 =>
   obtain⟨t,rfl⟩:=r1;exact .cons n t (ih r2)
section
variable {X:Cx}{e:Expr}{te:TE}{lo hi:Option Expr}{tl th:TO}{pos p2:Pos}
def aZ:PO X none tNoPart:=λpins s σ H Q I h=>AF ⟨none,H,I,.none,h⟩
def kU(h:PE X e te):PO X (some e) (tPart te):=by
 intro pins s σ H Q I hw;refine thn (h pins s σ H _ I hw) λu s1 ⟨x,H1,I1,r1,q1⟩=>?_
 obtain⟨i,rfl,q⟩:=q1;obtain⟨t,rfl⟩:=r1;exact⟨some i,H1,I1,.int i t,q⟩
def SlR (X:Cx) (r:V->Option Int->Option Int->Hp->VK->Prop):Prop:=
 ∀ pins s (σ:St) H x v vl vu lo hi sl Q,Inv X pins σ H s->RelV x v->s.heap.IsSliceOf sl vl vu .none->E7 vl lo->E7 vu hi->r x lo hi H Q ->
  ∃ T id,FW (.type T) "__getitem__"=pure (some (.builtin id))/\s.TypeIs v T/\AQ (model X.prog X.w) X.A (EF v (.ref sl)) (EP X pins σ Q) X.xe s
def SlR.or(h:SlR X r)(h':SlR X r'):SlR X (λx lo hi H Q=>r x lo hi H Q\/r' x lo hi H Q):=by
 intro pins s σ H x v vl vu lo hi sl Q I rx hs pl pu q;rcases q with q | q
 ·exact h pins s σ H x v vl vu lo hi sl Q I rx hs pl pu q
 ·exact h' pins s σ H x v vl vu lo hi sl Q I rx hs pl pu q
def tSl (r:V->Option Int->Option Int->Hp->VK->Prop) (te:TE) (tl th:TO):TE:=λσ H Q=>te σ H λx H1=>tl σ H1 λl H2=>th σ H2 λu H3=>r x l u H3 Q
def kN(hr:SlR X r)(he:PE X e te)(hl:PO X lo tl)(hu:PO X hi th):PE X (.Subscript e (.Slice lo hi none p2) pos) (tSl r te tl th):=by
 intro pins s σ H Q I h;refine Ih (thn (he pins s σ H _ I h) λv s1 ⟨x,H1,I1,r1,q1⟩=>wpAny_Slice (thn (hl pins s1 σ H1 _ I1 q1) λvl s2 ⟨l,H2,I2,pl,q2⟩=>thn (hu pins s2 σ H2 _ I2 q2) λvu s3 ⟨u,H3,I3,pu,q3⟩=>AF ?_));have I4:Inv X pins σ H3 { s3 with heap:=s3.heap.push { cls:=.type "slice",data:=.fields #[vl,vu,.none] } }:=I3.kept λb ob q=>AB _ q
 obtain⟨T,id,hT,ht,hg⟩:=hr pins { s3 with heap:=s3.heap.push { cls:=.type "slice",data:=.fields #[vl,vu,.none] } } σ H3 x v vl vu l u s3.heap.objs.size Q I4 r1 (JA ..) pl pu q3;exact tail_any ht hT hg rfl
def cutV (xs:List V) (lo hi:Option Int):List V:=(xs.drop (HT.sIx xs.length 0 lo)).take (HT.sIx xs.length xs.length hi - HT.sIx xs.length 0 lo)
def TZ xs lo hi:(cutV xs lo hi).length<=xs.length:=by
 unfold cutV;rw[DH,FO];lia
end
def ixN (n:Nat) (i:Int):Option Nat:=if 0<=i then (if i < n then some i.toNat else none) else if -(n:Int)<=i then some (i+n).toNat else none
def atI {α:Type} (xs:List α) (i:Int):Option α:=(ixN xs.length i).bind λj=>xs[j]?
def O8{j}(h:ixN n i=some j):FG i n=some j/\j < n/\-n<=i/\i < n:=by
 unfold ixN at h;by_cases h0:0<=i
 ·rw[if_pos h0]at h;by_cases h1:i < n
  ·rw[if_pos h1]at h;exact⟨by rw[GP h0 h1,(Av h)],by lia,by lia,h1⟩
  ·rw[if_neg h1]at h;cases h
 ·rw[if_neg h0]at h;by_cases h1:-n<=i
  ·rw[if_pos h1]at h;exact⟨by rw[Hb ⋯ h1,(Av h)],by lia,h1,by lia⟩
  ·rw[if_neg h1]at h;cases h
theorem PH{xs i}{v:α}(h:atI xs i=some v):∃ j,FG i xs.length=some j/\xs[j]?=some v/\j < xs.length/\-(xs.length:Int)<=i/\i < xs.length:=by
 unfold atI at h;cases e:ixN xs.length i with
 | none=>rw[e]at h;cases h
 | some j =>
  rw[e]at h;obtain⟨h1,h2,h3,h4⟩:=O8 e;exact⟨j,h1,h,h2,h3,h4⟩
def OZ{xs}{j:Nat}{v:α}(h:xs[j]?=some v):atI xs j=some v:=by
 have hj:=(AZ.mp h).1;have e:ixN xs.length j=some j:=by
  unfold ixN;simp_all
 unfold atI;rw[e];exact h
def PN xs (v:α):atI (xs++[v]) (-1)=some v:=by
 have hl:(xs++[v]).length=xs.length+1:=by simp
 have e:ixN (xs++[v]).length (-1)=some xs.length:=by
  unfold ixN;rw[hl,if_neg ∅,if_pos ⋯];congr 1;lia
 unfold atI;rw[e];simp
def PlainIx (b:Expr):Prop:=∀ o i,subscripted b false o i=operate [o,i] (EF o i)
def IxR (X:Cx) (r:R2):Prop:=
 ∀ value slice pins s (σ:St) H x y v u Q,Inv X pins σ H s->RelV x v->RelV y u->r x y H Q ->
  subscripted slice false v u=operate [v,u] (EF v u)->AQ (model X.prog X.w) X.A (subscriptTail value slice v u) (EP X pins σ Q) X.xe s
def MtR (X:Cx) (id:String) (r:V->List V->Hp->VK->Prop):Prop:=
 ∀ pins s (σ:St) H x xs v us Q,Inv X pins σ H s->RelV x v->Vals xs us->r x xs H Q ->
  AQ (model X.prog X.w) X.A (call (.builtin id) (v::us)) (EP X pins σ Q) X.xe s
section
variable {X:Cx}{a b:Expr}{ta tb:TE}{pos:Pos}
def IxR.or(h:IxR X r)(h':IxR X r'):IxR X (λx y H Q=>r x y H Q\/r' x y H Q):=by
 intro value slice pins s σ H x y v u Q I rx ry q hs;rcases q with q | q
 ·exact h value slice pins s σ H x y v u Q I rx ry q hs
 ·exact h' value slice pins s σ H x y v u Q I rx ry q hs
def VO(hr:IxR X r)(ha:PE X a ta)(hb:PE X b tb)(hs:PlainIx b):PE X (.Subscript a b pos) (tOp r ta tb):=λpins s σ H Q I h=>Ih (binT ha hb I h λv u s2 x y H2 I2 rx ry q=>hr a b pins s2 σ H2 x y v u Q I2 rx ry q (hs _ _))
def rIxL (K:Ab):R2:=λx y H Q=>∃ p xs i v,x=.ref p/\y=.int i/\SqL K H p xs/\atI xs i=some v/\Q v H
def rIxT (K:Ab):R2:=λx y H Q=>∃ p xs i v,x=.ref p/\y=.int i/\SqT K H p xs/\atI xs i=some v/\Q v H
def rIxS:R2:=λx y H Q=>∃ z i c,x=.str z/\y=.int i/\z.length<=AD/\atI z.cps.toList i=some c/\Q (.str ⟨#[c]⟩) H
def bo:IxR X (rIxL X.K):=by
 intro value slice pins s σ H x y v u Q I rx ry h hs;obtain⟨p,xs,i,z,rfl,rfl,hq,he,q⟩:=h;cases rx;obtain⟨t,rfl⟩:=ry;obtain⟨its,r,pl,hz⟩:=I.list hq;obtain⟨j,h1,h2,h3,h4,h5⟩:=PH he;obtain⟨w,ew,rw'⟩:=r.get h2;have hl:=r.length;have hn:=line63;have fin:EP X pins σ Q w s:=⟨z,H,I,rw',q⟩
 by_cases h0:0<=i
 ·have hj:=by
   rw[GP h0 h5]at h1;exact Av h1
  exact item_listR pl.isList h0 ⋯ (by rw[hj];simpa using ew) fin hs
 ·have hj:(i+(its.toArray.size)).toNat=j:=by
   rw[Hb ⋯ h4]at h1;rw[Aa,← hl];exact Av h1
  exact Hc pl.isList.typeIs JB.lookup
   (wpAny_getItem_list_neg pl.isList ⋯ (by simp_all) ⋯ (by rw[hj];simpa using ew) ⟨rfl,fin⟩) hs
def Yz:IxR X (rIxT X.K):=by
 intro value slice pins s σ H x y v u Q I rx ry h hs;obtain⟨p,xs,i,z,rfl,rfl,hq,he,q⟩:=h;cases rx;obtain⟨t,rfl⟩:=ry;obtain⟨its,r,pl,hz⟩:=I.tuple hq;obtain⟨j,h1,h2,h3,h4,h5⟩:=PH he;obtain⟨w,ew,rw'⟩:=r.get h2;have hn:=line63;have fin:EP X pins σ Q w s:=⟨z,H,I,rw',q⟩
 exact Hc pl.typeIs slot_tuple_getitem.lookup
  (getItem_tuple pl ⋯ ⋯ (by rw[Aa,← r.length];exact h1) (by simpa using ew) ⟨rfl,fin⟩) hs
def ZS:IxR X rIxS:=by
 intro value slice pins s σ H x y v u Q I rx ry h hs;obtain⟨z,i,c,rfl,rfl,hz,he,q⟩:=h;obtain⟨t,rfl⟩:=rx;obtain⟨t',rfl⟩:=ry;obtain⟨j,h1,h2,h3,h4,h5⟩:=PH he;have hl:z.cps.toList.length=z.length:=by simp[Str.length]
 rw[hl]at h1 h4 h5;have hn:=line63;exact tail_any (typeIs_str s z t) slot_str_getitem.lookup (getItem_str (by
  have e1:decide (i < -(2 ^ 63))=false:=decide_eq_false ⋯;have e2:decide (i ≥ 2 ^ 63)=false:=decide_eq_false ⋯;rw[e1,e2,Bool.or_false]) (by rw[h1];simpa using h2) ⟨.str ⟨#[c]⟩,H,I.tok _,⟨_,rfl⟩,q⟩) hs
def rIx (K:Ab):R2:=λx y H Q=>rIxL K x y H Q\/rIxT K x y H Q\/rIxS x y H Q
def aX:IxR X (rIx X.K):=bo.or (Yz.or ZS)
def jt(its:List AM) n j u:BJ (·.setIfInBounds j u) { cls:=.type "list",data:=.seq its.toArray n }={ cls:=.type "list",data:=.seq (its.set j u).toArray n }:=by
 simp[BJ]
theorem Inv.lst{σ:St}{H s p xs}(I:Inv X pins σ H s)(h:H p=some (.lst xs)) :
  ∃ (its:List AM) (n:Nat),Vals xs its/\s.heap.get? p=some { cls:=.type "list",data:=.seq its.toArray n }/\xs.length<=AD:=by
 obtain⟨z,its,n,r,e⟩:=I.hok p _ h;exact⟨its,n,r,e,z⟩
def Inv.lstUpd{σ:St}{H s p xs ys}{its its':List AM}{n n' f}(I:Inv X pins σ H s)(h:H p=some (.lst xs))
  (ho:s.heap.get? p=some { cls:=.type "list",data:=.seq its.toArray n }) (hf:f { cls:=.type "list",data:=.seq its.toArray n }={ cls:=.type "list",data:=.seq its'.toArray n' }) (r:Vals ys its') (hz:ys.length<=AD) t :
  Inv X pins σ (upd H p (.lst ys)) { s with heap:=s.heap.update p f,toks:=t }:=by
 have e:(s.heap.update p f).get? p=some { cls:=.type "list",data:=.seq its'.toArray n' }:=by
  rw[CA f ho (by rw[hf] <;> rfl),hf]
 refine I.write (by rw[h];trivial) (.inl rfl) (λb u hb q=>(Bj _ _ (Ax hb)).trans q) ⟨_,e⟩ ?_;exact⟨hz,its',n',r,e⟩
def rSetL:V->V->V->Hp->(Hp->Prop)->Prop:=λo i v H Q=>∃ p xs k j,o=.ref p/\i=.int k/\H p=some (.lst xs)/\ixN xs.length k=some j/\Q (upd H p (.lst (xs.set j v)))
def du:PSet X rSetL:=by
 intro pins s σ H o i v ov iv u Q I ro ri rv h;obtain⟨p,xs,k,j,rfl,rfl,hp,hj,q⟩:=h;cases ro;obtain⟨t,rfl⟩:=ri;obtain⟨its,n,r,ho,hz⟩:=I.lst hp;obtain⟨h1,h2,h3,h4⟩:=O8 hj;have hl:=r.length;have hn:=line63;have I':Inv X pins σ (upd H p (.lst (xs.set j v))) { s with heap:=s.heap.update p (BJ (·.setIfInBounds j u)) }:=
  I.lstUpd hp ho (jt its n j u) (r.set rv j) (by rw[List.length_set];exact hz) s.toks
 by_cases h0:0<=k
 ·have hk:=by
   rw[GP h0 h4]at h1;exact Av h1
  exact PySem.W.ki_setAt ho h0 ⋯ (by simp_all) (by rw[hk];exact⟨_,I',q⟩)
 ·have hk:(k+(its.toArray.size)).toNat=j:=by
   rw[Hb ⋯ h3]at h1;rw[Aa,← hl];exact Av h1
  exact PySem.W.ki_setBack ho ⋯ (by simp_all) ⋯ (by rw[hk];exact⟨_,I',q⟩)
def bJ lo hi n:(Dh lo hi none n).1=((HT.sIx n 0 lo:Nat):Int)/\(Dh lo hi none n).2.1=((HT.sIx n n hi:Nat):Int)/\(Dh lo hi none n).2.2=1:=by
 refine⟨?_,?_,rfl⟩
 ·cases lo with
  | none=>simp[Dh,HT.sIx]
  | some i =>
   simp[Dh,HT.sIx,if_true];by_cases h:i < 0
   ·simp only[h,if_true] <;> lia
   ·simp only[h,if_false] <;> lia
 ·cases hi with
  | none=>simp[Dh,HT.sIx]
  | some i =>
   simp[Dh,HT.sIx,if_true];by_cases h:i < 0
   ·simp only[h,if_true] <;> lia
   ·simp only[h,if_false] <;> lia
def fE(its:List AM) lo hi:slicePick its.toArray lo hi none=((its.drop (HT.sIx its.length 0 lo)).take (HT.sIx its.length its.length hi - HT.sIx its.length 0 lo)).toArray:=by
 obtain⟨h1,h2,h3⟩:=bJ lo hi its.toArray.size;unfold slicePick;rw[h1,h2,h3];simp only[sliceRange_one,pick_run] <;> rfl
def rSlL (K:Ab):V->Option Int->Option Int->Hp->VK->Prop:=λx lo hi H Q=>∃ a xs,x=.ref a/\SqL K H a xs/\∀ p,H p=none->Q (.ref p) (upd H p (.lst (cutV xs lo hi)))
def iL:SlR X (rSlL X.K):=by
 intro pins s σ H x v vl vu lo hi sl Q I rx hs pl pu h;obtain⟨a,xs,rfl,hx,q⟩:=h;cases rx;obtain⟨its,r,ht,hz⟩:=I.list hx;have hlen:=r.length;refine⟨"list",_,JB.lookup,ht.isList.typeIs,wpAny_getItem_list_slice ht.isList hs pl pu .none ↥1 ?_ (by simp_all)⟩;rw[fE,← hlen];refine⟨.ref s.heap.objs.size,_,I.laid (λb ob q=>AB _ q) (AE _) ?_,rfl,q _ (I.hok.fresh (AE _))⟩;exact⟨Ak (TZ xs lo hi) hz,_,0,(r.drop (HT.sIx xs.length 0 lo)).take (HT.sIx xs.length xs.length hi - HT.sIx xs.length 0 lo),AK _ rfl⟩
def flatV:V->Bool
 | .non=>true
 | .bl _=>true
 | .int _=>true
 | .str _=>true
 | _=>false
def eqV:V->V->Bool
 | .non,.non=>true
 | .bl a,.bl b=>a == b
 | .bl a,.int b=>(if a then 1 else 0) == b
 | .int a,.bl b=>a == (if b then 1 else 0)
 | .int a,.int b=>a == b
 | .str a,.str b=>a == b
 | _,_=>false
theorem dv{s y x u v}(ry:RelV y u)(rx:RelV x v)(fy:flatV y=true)(fx:flatV x=true):Fp A s u v (eqV y x):=by
 cases y with
 | non =>
  cases ry;cases x with
  | non=>cases rx;exact Kj _
  | bl b=>cases rx;exact Kk b
  | int b=>obtain⟨t,rfl⟩:=rx;exact Kl b t
  | str b=>obtain⟨t,rfl⟩:=rx;exact Km b t
  | _=>exact absurd (show false=true from fx) AV
 | bl a =>
  cases ry;cases x with
  | non=>cases rx;exact Kn a
  | bl b=>cases rx;exact Ko a b
  | int b=>obtain⟨t,rfl⟩:=rx;exact Kp a b t
  | str b=>obtain⟨t,rfl⟩:=rx;exact Kq a b t
  | _=>exact absurd (show false=true from fx) AV
 | int a =>
  obtain⟨t',rfl⟩:=ry;cases x with
  | non=>cases rx;exact Kr a t'
  | bl b=>cases rx;exact Ks a t' b
  | int b=>obtain⟨t,rfl⟩:=rx;exact GO a t' b t
  | str b=>obtain⟨t,rfl⟩:=rx;exact GM a t' b t
  | _=>exact absurd (show false=true from fx) AV
 | str a =>
  obtain⟨t',rfl⟩:=ry;cases x with
  | non=>cases rx;exact Kt a t'
  | bl b=>cases rx;exact Ku a t' b
  | int b=>obtain⟨t,rfl⟩:=rx;exact GN a t' b t
  | str b=>obtain⟨t,rfl⟩:=rx;exact Kv a t' b t
  | _=>exact absurd (show false=true from fx) AV
 | _=>exact absurd (show false=true from fy) AV
def eqU (x:V) (u:AM):Bool:=match u with
 | .none=>eqV .non x
 | .bool b=>eqV (.bl b) x
 | .int i _=>eqV (.int i) x
 | .str z _=>eqV (.str z) x
 | _=>false
theorem P7{x y u}(r:RelV y u)(f:flatV y=true):eqU x u=eqV y x:=by
 cases y with
 | non=>cases r;rfl
 | bl b=>cases r;rfl
 | int i=>obtain⟨t,rfl⟩:=r;rfl
 | str z=>obtain⟨t,rfl⟩:=r;rfl
 | _=>exact absurd f AV
theorem Pi:∀ {xs us},Vals xs us->xs.all flatV=true->us.any (eqU x)=xs.any λy=>eqV y x
 | _,_,.nil,_=>rfl
 | y::xs,u::us,.cons r t,f=>by
  rw[Dt,Ar]at f;rw[B6,B6,P7 r f.1,Pi t f.2]
theorem Oh{s x v}(rx:RelV x v)(fx:flatV x=true):∀ {xs us},Vals xs us->xs.all flatV=true->∀ u∈us,Fp A s u v (eqU x u)
 | _,_,.nil,_=>λu hu=>by cases hu
 | y::xs,u::us,.cons r t,f=>λu' hu=>by
  rw[Dt,Ar]at f;rcases AN.mp hu with rfl | hu
  ·rw[P7 r f.1];exact dv r rx f.1 fx
  ·exact Oh rx fx t f.2 u' hu
def inV (x:V) (xs:List V):Bool:=xs.any λy=>eqV y x
def rIn (K:Ab) (neg:Bool):R2:=λx y H Q=>∃ p xs,y=.ref p/\(SqL K H p xs\/SqT K H p xs)/\flatV x=true/\xs.all flatV=true/\Q (.bl (if neg then !inV x xs else inV x xs)) H
def cG:OpR X (Bi .In) (rIn X.K false):=by
 intro pins s σ H x y v u Q I rx ry h;obtain⟨p,xs,rfl,hq,fx,fs,q⟩:=h;cases ry;rcases hq with hq | hq
 ·obtain⟨its,r,pl,hz⟩:=I.list hq;refine SeqAt.in_listAt (eqU x) pl.isList (λw hw=>Oh rx fx r fs w (by simp_all)) ⟨.bl _,H,I,rfl,?_⟩;rw[show its.toArray.any (eqU x)=its.any (eqU x) by simp,Pi r fs];exact q
 ·obtain⟨its,r,pl,hz⟩:=I.tuple hq;refine SeqAt.in_tupleAt (eqU x) pl (λw hw=>Oh rx fx r fs w (by simp_all)) ⟨.bl _,H,I,rfl,?_⟩;rw[show its.toArray.any (eqU x)=its.any (eqU x) by simp,Pi r fs];exact q
def XW:CallR X (.builtin "len") (λxs H Q=>∃ p ys,xs=[.ref p]/\(SqL X.K H p ys\/SqT X.K H p ys)/\Q (.int ys.length) H):=by
 intro pins s σ H xs us Q I r h;obtain⟨p,ys,rfl,hq,q⟩:=h;obtain⟨u,rfl,rfl⟩:=vals1 r;have hn:=line63;rcases hq with hq | hq
 ·obtain⟨its,r',pl,hz⟩:=I.list hq;have hlen:=r'.length;exact Calls.call_len_list pl.isList (by simp only[Aa] <;> lia) ⟨.int ys.length,H,I.tok _,⟨s.toks+1,by rw[Aa,hlen]⟩,q⟩
 ·obtain⟨its,r',pl,hz⟩:=I.tuple hq;have hlen:=r'.length;exact JX pl (by simp only[Aa] <;> lia) ⟨.int ys.length,H,I.tok _,⟨s.toks+1,by rw[Aa,hlen]⟩,q⟩
def bB:CallR X (.builtin "len") (λxs H Q=>∃ z,xs=[.str z]/\z.length<=AD/\Q (.int z.length) H):=by
 intro pins s σ H xs us Q I r h;obtain⟨z,rfl,hz,q⟩:=h;obtain⟨u,rfl,t,rfl⟩:=vals1 r;have hn:=line63;exact len_str ⋯ ⟨.int z.length,H,I.tok _,⟨_,rfl⟩,q⟩
def CallR.or{r r'}(h:CallR X f r)(h':CallR X f r'):CallR X f (λxs H Q=>r xs H Q\/r' xs H Q):=by
 intro pins s σ H xs us Q I rs q;rcases q with q | q
 ·exact h pins s σ H xs us Q I rs q
 ·exact h' pins s σ H xs us Q I rs q
def Wy:CallR X (.type "tuple") (λxs H Q=>∃ p ys,xs=[.ref p]/\((SqL X.K H p ys/\∀ l,H l=none->Q (.ref l) (upd H l (.tup ys)))\/(SqT X.K H p ys/\Q (.ref p) H))):=by
 intro pins s σ H xs us Q I r h;obtain⟨p,ys,rfl,h⟩:=h;obtain⟨u,rfl,rfl⟩:=vals1 r;rcases h with ⟨hq,q⟩ | ⟨hq,q⟩
 ·obtain⟨its,r',pl,hz⟩:=I.list hq;have hlen:=r'.length;refine call_tuple_list pl.isList (λh' kp=>?_) (by simp_all);have I1:=I.kept (t':=s.toks) kp;have I2:Inv X pins σ (upd H h'.objs.size (.tup ys)) { s with heap:=h'.push { cls:=.type "tuple",data:=.seq its.toArray } }:=
   I1.laid (λb o e=>AB _ e) (AE _) ⟨hz,its,r',TupD.new _ _⟩
  exact⟨.ref h'.objs.size,_,I2,rfl,q _ (I1.hok.fresh (AE _))⟩
 ·obtain⟨its,r',pl,hz⟩:=I.tuple hq;exact call_tuple_same pl ⟨.ref p,H,I,rfl,q⟩
def tyV (K:Ab) (T:String) (x:V) (H:Hp):Prop:=match x with
 | .str _=>T="str"
 | .int _=>T="int"
 | .ref p=>(T="list"/\∃ xs,SqL K H p xs)\/(T="tuple"/\∃ o,K.lookup p=some o/\o.cls=.type "tuple"/\o.dict=none) \/
   (T="dict"/\((∃ kvs,H p=some (.dK kvs))\/∃ kvs,H p=some (.dT kvs)))\/(T="set"/\∃ S n,H p=some (.set S n))
 | _=>False
theorem UU{σ:St}{H s T x v}(I:Inv X pins σ H s)(r:RelV x v)(ty:tyV X.K T x H) :
  s.TypeIs v T/\∀ a,v=.ref a->∃ ob,s.heap.get? a=some ob/\ob.dict=none:=by
 cases x with
 | str z =>
  obtain⟨t,rfl⟩:=r;cases (show T="str" from ty);exact⟨typeIs_str s z t,λ_ e=>nomatch e⟩
 | int i =>
  obtain⟨t,rfl⟩:=r;cases (show T="int" from ty);exact⟨Ii s i t,λ_ e=>nomatch e⟩
 | ref p =>
  cases r;rcases ty with ⟨rfl,xs,hq⟩ | ⟨rfl,o,hk,hc,hd⟩ | ⟨rfl,hk⟩ | ⟨rfl,S,n,hk⟩
  ·obtain⟨its,_,pl,_⟩:=I.list hq;refine⟨pl.isList.typeIs,λa e=>?_⟩;cases e;obtain⟨o,n,e,c,hd,_⟩:=pl;exact⟨o,e,hd⟩
  ·refine⟨⟨o,I.kIn p o hk,hc⟩,λa e=>?_⟩;cases e;exact⟨o,I.kIn _ o hk,hd⟩
  ·have z:∃ o,s.heap.get? p=some o/\o.ExactDict:=by
    rcases hk with ⟨kvs,hk⟩ | ⟨kvs,hk⟩
    ·obtain⟨_,_,_,_,o,_,_,e,ex,_⟩:=I.hok p _ hk;exact⟨o,e,ex⟩
    ·obtain⟨_,_,_,_,o,_,_,e,ex,_⟩:=I.hok p _ hk;exact⟨o,e,ex⟩
   obtain⟨o,e,ex⟩:=z;refine⟨⟨o,e,ex.1⟩,λa e2=>?_⟩;cases e2;exact⟨o,e,ex.2.1⟩
  ·obtain⟨o,_,_,_,e,ex,_⟩:=I.hok p _ hk;refine⟨⟨o,e,ex.1⟩,λa e2=>?_⟩;cases e2;exact⟨o,e,ex.2.1⟩
 | _=>exact BU ty
def tBM0 (K:Ab) (T:String) (r:V->List V->Hp->VK->Prop) (to:TE):TE:=λσ H Q=>to σ H λx H1=>tyV K T x H1/\r x [] H1 Q
def tBM (K:Ab) (T:String) (r:V->List V->Hp->VK->Prop) (to:TE) (t:TA):TE:=λσ H Q=>to σ H λx H1=>tyV K T x H1/\t σ H1 λxs H2=>r x xs H2 Q
variable {o e:Expr}{es:List Expr}{to:TE}{t:TA}{name:Str}{apos cpos:Pos}{T id:String}{r:V->List V->Hp->VK->Prop}
def Yb(pa:PlainAttrs T)(slot:Slot T name id)(hty:Gv (.builtin id)=pure (.type "method_descriptor"))(hm:MtR X id r)(ho:PE X o to)
  (hbase:Da o name X.env (eval o X.env)=eval o X.env:=by rfl) (hline:(apos.endLine == cpos.line)=true:=by rfl):PE X (.Call (.Attribute o name apos) [] [] cpos) (tBM0 X.K T r to):=by
 intro pins s σ H Q I h;refine wpAny_Call_method0_late hbase hline (thn (ho pins s σ H _ I h) λv s1 ⟨x,H1,I1,r1,ty,q1⟩=>?_);obtain⟨h1,h2⟩:=UU I1 r1 ty;exact⟨T,id,pa,slot,hty,h1,h2,ED rfl (PySem.evalArgs_none (hm pins s1 σ H1 x [] v [] Q I1 r1 .nil q1))⟩
def az(pa:PlainAttrs T)(slot:Slot T name id)(hty:Gv (.builtin id)=pure (.type "method_descriptor"))(hm:MtR X id r)(ho:PE X o to)(ha:PA X (e::es) t)
  (hbase:Da o name X.env (eval o X.env)=eval o X.env:=by rfl)
  (hfew:((CV cpos (AW (e::es) X.env)).all (λx=>!x.1) && (II cpos (GQ [] X.env)).all (λx=>x.1.isSome)
   && decide ((e::es).length+([]:List FH).length+(if ([]:List FH).isEmpty then 0 else 1) < 30))=true:=by rfl)
  (hline:(apos.endLine == cpos.line)=true:=by rfl) (hs:AW (e::es) X.env=(false,eval e X.env)::AW es X.env:=by rfl) (hplain:(CV cpos (AW es X.env)).any (·.1)=false:=by rfl) :
  PE X (.Call (.Attribute o name apos) (e::es) [] cpos) (tBM X.K T r to t):=by
 intro pins s σ H Q I h;refine Hd hbase hfew hline rfl (thn (ho pins s σ H _ I h) λv s1 ⟨x,H1,I1,r1,ty,q1⟩=>?_);obtain⟨h1,h2⟩:=UU I1 r1 ty;refine⟨T,id,pa,slot,hty,h1,h2,?_⟩;have hA:=ha cpos pins s1 σ H1 _ I1 q1;rw[hs]at hA ⊢;exact ED ‹_› (Gw (thn hA λus s2 ⟨vs,H2,I2,r2,q2⟩=>hm pins s2 σ H2 x vs v us Q I2 r1 r2 q2))
end
def MtM (X:Cx) (id:String) (r:V->List V->Hp->VK->Prop):Prop:=
 ∀ pins s (σ:St) H x xs v us Q,Inv X pins σ H s->RelV x v->Vals xs us->r x xs H Q ->
  AQ (model X.prog X.w) X.A (call (.builtin id) (v::us)) (EP X pins σ Q) X.xe s
theorem Vals.one:∀ {x us},Vals [x] us->∃ u,us=[u]/\RelV x u
 | _,_,.cons r .nil=>⟨_,rfl,r⟩
theorem Vals.zero:∀ {us},Vals [] us->us=[]
 | _,.nil=>rfl
theorem Vals.dropLast{us}(h:Vals xs us):Vals xs.dropLast us.dropLast:=by
 induction h with
 | nil=>exact .nil
 | cons r t ih =>
  cases t with
  | nil=>exact .nil
  | cons q t'=>exact .cons r ih
theorem Vals.eraseIdx:∀ {xs us} i,Vals xs us->Vals (xs.eraseIdx i) (us.eraseIdx i)
 | _,_,_,.nil=>.nil
 | _,_,0,.cons _ t=>t
 | _,_,i+1,.cons r t=>.cons r (Vals.eraseIdx i t)
theorem Vals.rep{us}(h:Vals xs us):∀ k,Vals (Ae k xs).flatten (Ae k us).flatten
 | 0=>.nil
 | k+1=>Vals.append h (Vals.rep h k)
theorem T9{α:Type}:∀ (l:List α) i,(l.eraseIdx i).length<=l.length
 | [],_=>AE _
 | _::_,0=>Jy _
 | _::r,i+1=>Nat.succ_le_succ (T9 r i)
theorem UC(its:List AM):∀ k acc,
  E3 (λx1 x2=>x1++x2) acc.toArray (Ae k its.toArray)=(acc++(Ae k its).flatten).toArray
 | 0,acc=>by simp
 | k+1,acc=>by
  have e:acc.toArray++its.toArray=(acc++its).toArray:=by simp
  have e2:(acc++its)++(Ae k its).flatten=acc++(Ae (k+1) its).flatten:=by
   rw[Cs,List.flatten_cons,BC]
  rw[← e2,← UC its k (acc++its),← e,Cs,EL]
section
variable {X:Cx}{pins:List (Addr×Obj)}{σ:St}{H:Hp}{s:AR}{l b:Addr}{xs ys zs:List V}
def Inv.lset{its its':List AM}{n f t'}(I:Inv X pins σ H s)(hH:H l=some (.lst xs))
  (e:s.heap.get? l=some { cls:=.type "list",data:=.seq its.toArray n }) (hf:f its.toArray=its'.toArray) (hv:Vals ys its') (hz:ys.length<=AD) :
  Inv X pins σ (upd H l (.lst ys)) { s with heap:=s.heap.update l (BJ f),toks:=t' }:=by
 have q:=K1 e f;rw[hf]at q;refine I.write (by rw[hH];exact trivial) (.inl rfl) (λb' u hb hu=>(Bj s.heap (BJ f) (Ax hb)).trans hu) ⟨_,q⟩ ?_;exact⟨hz,its',_,hv,q⟩
def Inv.lnew(I:Inv X pins σ H s)(hv:Vals ys its)(hz:ys.length<=AD) :
  Inv X pins σ (upd H s.heap.objs.size (.lst ys)) { s with heap:=s.heap.push { cls:=.type "list",data:=.seq its.toArray },toks:=t' }:=
 I.laid (λ_ _ q=>AB _ q) (AE _) ⟨hz,its,0,hv,AK _ rfl⟩
theorem Inv.fresh(I:Inv X pins σ H s):H s.heap.objs.size=none:=I.hok.fresh (AE _)
def Inv.lstM(I:Inv X pins σ H s)(hH:H l=some (.lst xs)):xs.length<=AD/\∃ (its:List AM) (n:Nat),Vals xs its/\xs.length=its.length/\s.heap.get? l=some { cls:=.type "list",data:=.seq its.toArray n }:=by
 obtain⟨z,its,n,r,e⟩:=I.hok l _ hH;exact⟨z,its,n,r,r.length,e⟩
def notLongL(h:n<=AD):Cd n=false:=decide_eq_false ⋯
end
section
variable {X:Cx}
def rAppend:V->List V->Hp->VK->Prop:=λx vs H Q=>∃ l xs y,x=.ref l/\vs=[y]/\H l=some (.lst xs)/\xs.length < AD/\Q .non (upd H l (.lst (xs++[y])))
def Vo:MtM X "list.append" rAppend:=by
 intro pins s σ H x vs v us Q I rx rv h;obtain⟨l,xs,y,rfl,rfl,hH,hz,q⟩:=h;cases rx;obtain⟨u,rfl,ru⟩:=rv.one;obtain⟨z,its,n,r,hl,e⟩:=I.lstM hH;refine Cu F.slot_list_append ⟨_,e,rfl⟩ F.entry_list_append (F.args_list_append_2 _ _) (PySem.list_append l its.toArray n u (by simp_all)) ⟨e,⟨.non,_,I.lset hH e ↥1 (r.append (.cons ru .nil)) ?_,rfl,q⟩⟩;rw[A7,Gx];lia
def rExtend:V->List V->Hp->VK->Prop:=λx vs H Q=>∃ l b xs zs,x=.ref l/\vs=[.ref b]/\H l=some (.lst xs)/\H b=some (.lst zs)/\xs.length+zs.length<=AD/\Q .non (upd H l (.lst (xs++zs)))
def g7:MtM X "list.extend" rExtend:=by
 intro pins s σ H x vs v us Q I rx rv h;obtain⟨l,b,xs,zs,rfl,rfl,hH,hB,hz,q⟩:=h;cases rx;obtain⟨u,rfl,rfl⟩:=rv.one;obtain⟨z,its,n,r,hl,e⟩:=I.lstM hH;obtain⟨z2,its2,n2,r2,hl2,e2⟩:=I.lstM hB;have hsz:its.toArray.size+its2.toArray.size<=AD:=by rw[Aa,Aa];lia
 have hlong:¬ (!its.toArray.isEmpty && Cd (its.toArray.size+its2.toArray.size))=true:=by
  rw[notLongL hsz,Bool.and_false];exact AV
 refine Cu F.slot_list_extend ⟨_,e,rfl⟩ F.entry_list_extend (F.args_list_extend_2 _ _)
  (AutoSeq1.list_extend_list_list_0 l its.toArray n b its2.toArray n2 hlong ⋯ ⋯) ⟨e,e2,?_⟩
 refine⟨.non,_,I.lset hH e ↥1 (r.append r2) ?_,rfl,q⟩;rw[A7];lia
def rPop:V->List V->Hp->VK->Prop:=λx vs H Q=>∃ l xs y,x=.ref l/\vs=[]/\H l=some (.lst xs)/\xs[xs.length - 1]?=some y/\Q y (upd H l (.lst xs.dropLast))
def jh:MtM X "list.pop" rPop:=by
 intro pins s σ H x vs v us Q I rx rv h;obtain⟨l,xs,y,rfl,rfl,hH,hy,q⟩:=h;cases rx;have hus:=rv.zero;subst hus;obtain⟨z,its,n,r,hl,e⟩:=I.lstM hH;obtain⟨u,hu,ru⟩:=r.get hy;have hy':its.toArray[its.toArray.size - 1]?=some u:=by
  simp_all
 refine Cu JC ⟨_,e,rfl⟩ Ij (F.args_list_pop_1 _) (MeetsSeq.list_pop_last l its.toArray n u hy' (by simp_all)) ⟨e,⟨y,_,I.lset hH e ?_ r.dropLast ?_,ru,q⟩⟩
 ·simp_all
 ·rw[List.length_dropLast];lia
def rPopAt:V->List V->Hp->VK->Prop:=λx vs H Q=>∃ l xs i k y,x=.ref l/\vs=[.int i]/\H l=some (.lst xs)/\-(2 ^ 63)<=i/\i < 2 ^ 63/\FG i xs.length=some k/\xs[k]?=some y/\Q y (upd H l (.lst (xs.eraseIdx k)))
def fS:MtM X "list.pop" rPopAt:=by
 intro pins s σ H x vs v us Q I rx rv h;obtain⟨l,xs,i,k,y,rfl,rfl,hH,h1,h2,hk,hy,q⟩:=h;cases rx;obtain⟨u,rfl,ru⟩:=rv.one;obtain⟨t,rfl⟩:=ru;obtain⟨z,its,n,r,hl,e⟩:=I.lstM hH;obtain⟨w,hw,rw'⟩:=r.get hy;refine Cu JC ⟨_,e,rfl⟩ Ij (F.args_list_pop_2 _ _)
  (MeetsSeq.list_pop_at l its.toArray n i t k w (KI h1 h2) (by simp_all) (by simp_all) (by simp_all)) ⟨e,?_⟩
 refine⟨y,_,I.lset hH e ?_ (r.eraseIdx k) ?_,rw',q⟩
 ·simp_all
 ·have:=T9 xs k;lia
def rCat:R2:=λx y H Q=>∃ l b xs zs,x=.ref l/\y=.ref b/\H l=some (.lst xs)/\H b=some (.lst zs)/\xs.length+zs.length<=AD/\∀ p,H p=none->Q (.ref p) (upd H p (.lst (xs++zs)))
def cm:OpR X (CW .Add) rCat:=by
 intro pins s σ H x y v u Q I rx ry h;obtain⟨l,b,xs,zs,rfl,rfl,hH,hB,hz,q⟩:=h;cases rx;cases ry;obtain⟨z,its,n,r,hl,e⟩:=I.lstM hH;obtain⟨z2,its2,n2,r2,hl2,e2⟩:=I.lstM hB;refine PySem.P.add_list e e2 ?_ (by simp_all);have ea:its.toArray++its2.toArray=(its++its2).toArray:=by simp
 rw[ea];exact⟨.ref _,_,I.lnew (r.append r2) (by rw[A7];lia),rfl,q _ I.fresh⟩
def rRep:R2:=λx y H Q=>∃ l k xs,x=.ref l/\y=.int k/\H l=some (.lst xs)/\-(2 ^ 63)<=k/\k < 2 ^ 63/\xs.length * k.toNat<=AD /\
 ∀ p,H p=none->Q (.ref p) (upd H p (.lst (Ae k.toNat xs).flatten))
def dE{α:Type}(xs:List α) k:(Ae k xs).flatten.length=k * xs.length:=↥1
def dm:OpR X (CW .Mult) rRep:=by
 intro pins s σ H x y v u Q I rx ry h;obtain⟨l,k,xs,rfl,rfl,hH,h1,h2,hz,q⟩:=h;cases rx;obtain⟨t,rfl⟩:=ry;obtain⟨z,its,n,r,hl,e⟩:=I.lstM hH;have hlen:its.toArray.size * k.toNat<=AD:=by rw[Aa,← hl];exact hz
 have hcap:¬ its.toArray.size * k.toNat > (2 ^ 63 - 1) / 8:=by
  have:AD<=(2 ^ 63 - 1) / 8:=by decide
  lia
 have hfit:¬ (!Builtin.List.listFitsIndex k)=true:=by
  rw[KI h1 h2];exact AV
 have hlong:¬ Cd (its.toArray.size * k.toNat)=true:=by
  rw[notLongL hlen];exact AV
 have hnew:E3 (λx1 x2=>x1++x2) #[] (Ae (if its.toArray.isEmpty=true then 0 else k.toNat) its.toArray)=(Ae k.toNat its).flatten.toArray:=by
  have f0:=λm=>by
   have:=UC its m [];rw[Fd]at this;exact this
  rw[f0];cases its with
  | nil=>simp
  | cons a r'=>rw[if_neg ↥1]
 refine wpAny_binaryOp_repeat_ref ∅ ⟨_,e,rfl⟩ (λs'=>Ii s' k t) noFill_list_mul F.fills_int_mul JD repeat_list F.slot_int_index.lookup
  (Cu JD (Ii s k t) F.entry_int_rmul (F.args_int_rmul_2 _ _) (int___rmul___int_list k t l its.toArray n)
   ⟨e,rfl,⟨_,e,rfl⟩,Cu F.slot_list_mul ⟨_,e,rfl⟩ F.entry_list_mul (F.args_list_mul_2 _ _) (K2 l its.toArray n k t hfit hcap hlong) ⟨e,?_⟩⟩)
 rw[hnew];exact⟨.ref _,_,I.lnew (r.rep k.toNat) (by rw[dE,Nat.mul_comm];exact hz),rfl,q _ I.fresh⟩
end
end L2
namespace Att
open PySem PySem.W PySem.Calls PyProof.Rows
theorem i7:∀ ns vs,WellAll P h vs (ns.map WData.int)->Bp vs ns:=by
 intro ns;induction ns with
 | nil =>
  intro vs w;cases w;exact .nil
 | cons n ns ih =>
  intro vs w;cases w with
  | cons a b =>
   cases a;exact .cons _ _ (ih _ b)
theorem eS{l:OpenLaw}{n}(hn:l.most=some n){P h args vals}
  (hpre:l.row.toRowW.claim.pre args=true) (hwl:WellAll P h vals args) :
  ∃ a vs ns,vals=[B3 a]/\args=[WData.list (ns.map WData.int)]/\h.get? a=some { cls:=.type "list",data:=.seq vs.toArray }/\Bp vs ns/\ns.length<=n:=by
 have hsh:WShape.hasAll [] args [.list .int]=true:=(pre_splitW hpre).1;have hc:l.pre.holds [] { args:=args }=true:=(pre_splitW hpre).2;obtain⟨d,r,rfl,h1,h2⟩:=hasAllW_cons hsh;obtain rfl:=hasAllW_nil h2;obtain⟨xs,rfl,h3⟩:=hasW_list h1;obtain⟨ns,rfl⟩:=items_int h3;have hlen:ns.length<=n:=by
  unfold OpenLaw.pre at hc;have h4:=by
   have h4:=(holds_andW hc).1;rw[hn]at h4;exact h4
  have h5:=condW_of h4 (w_not (w_lt w_lit (w_len_list (w_arg rfl))))
  first
   | (rw[decide_eq_true q']at h5;exact absurd h5 ∅)
   | (simp at h5;lia)
 cases hwl with
 | cons w1 w2 =>
  cases w2;cases w1 with
  | list ho hall=>exact⟨_,_,ns,rfl,rfl,ho,i7 ns _ hall,hlen⟩
def gS(l:OpenLaw) args:l.row.toRowW.claim.post args (.bool true) args=true:=
 postW_of
  (show WShape.has [] (.bool true) .bool=true by first | rfl | decide | simp)
  (w_eq_bool (w_res rfl) w_lit) rfl
def attach_call{l:OpenLaw}{n q loose XP YP d}
  (hn:l.most=some n) (hdf:d.params.defaults=[])
  (call:∀ w s₀ s₁ mg mb fa o pm cd doc a vs ns,
   Ground q loose [] XP w s₀ mg mb s₁.heap->YP w s₁.heap ->
   s₁.heap.get? fa=some o->o.data=.func (docDef d.name d.params d.body d.scope pm cd doc)->s₁.heap.CodeRec cd d.name->mg d.name=some (.ref fa) ->
   s₁.heap.get? a=some { cls:=.type "list",data:=.seq vs.toArray }->Bp vs ns->ns.length<=n->s₁.gens=#[] ->
   Dp (model l.prog w) Fq (.call (.ref fa) ⟨[.ref a],[]⟩) (λr s'=>r=.ok (.ret (.bool true))/\OldK s₁.heap s'.heap/\s'.os=s₁.os/\Ej s'.gens) s₁) :
  WalkO q loose XP YP l.row.toRowW d [] (λf vs=>HG f vs):=by
 intro w s₀ s₁ mg mb G Y fa o pm cd doc dV kV ho hd hcd hD hmg hg args vals as hpre hlay hrd hwl hlo;obtain rfl:dV=.none:=Dflts.none hD hdf;obtain rfl:kV=.none:=Dflts.noKw hD;obtain⟨a,vs,ns,rfl,rfl,hobj,hints,hlen⟩:=eS hn hpre hwl;refine enter_call (Fo (call w s₀ s₁ mg mb fa o pm cd doc a vs ns G Y ho (fd_plain hd) hcd hmg hobj hints hlen hg) λr s' hq=>?_);obtain⟨rfl,h2,h3,h4⟩:=hq;exact⟨.inl ⟨.bool true,.bool true,[],rfl,λ_=>rfl,.bool true,gS l _,λ_=>⟨JY,λ_ hm=>(nomatch hm)⟩⟩,h2,h3,h4⟩
end Att
namespace L2
open PySem PySem.Spec PyProof.Rows
theorem UZ:∀ {vs ns},Bp vs ns->Vals (ns.map V.int) vs
 | _,_,.nil=>.nil
 | _,_,.cons n t h=>.cons ⟨t,rfl⟩ (UZ h)
def Only (H:Hp):Prop:=∀ b,H b=none\/∃ o xs,H b=some (.frz o (.lst xs))
theorem Z6{K mg mb CX k fa a fd x sp s₁ vs ns}
  (KX:K.In s₁.heap) (hns:s₁.heap.Ns A4 mg) (hb:s₁.heap.Ns Gs mb) (hbb:∀ x:Str,x≠"__name__"->mb x=B9 x) (hlim:s₁.heap.NoLimit) (hg:s₁.gens=#[])
  (ha:s₁.heap.get? a=some { cls:=.type "list",data:=.seq vs.toArray }) (hi:Bp vs ns) (hl:ns.length<=AD) (hr:Room k Fq)
  (F:∀ base,K.In base->base.Ns A4 mg->FnOk P w K mg base CX k fa fd [x] sp) (hbind:∀ s u,Fk s fd ⟨[u],[]⟩ [(x,u)])
  (hsp:∀ H,Only H->SqL K H a (ns.map V.int)->sp [.ref a] H (λv _=>v=.bl true) λ_ _ _=>False)
  (hCX:∀ H e s',CX [] H s₁ (λ_ _ _=>False) e s'->False) :
  Dp (model P w) Fq (.call (.ref fa) ⟨[.ref a],[]⟩) (λr s'=>r=.ok (.ret (.bool true))/\OldK s₁.heap s'.heap/\s'.os=s₁.os/\Ej s'.gens) s₁:=by
 have rv:=UZ hi;have core:∀ H,Only H->SqL K H a (ns.map V.int)->HOk P w H s₁.heap->(∀ b,H b≠none->b=a)->(H a≠none->K.lookup a=none) ->
   Dp (model P w) Fq (.call (.ref fa) ⟨[.ref a],[]⟩) (λr s'=>r=.ok (.ret (.bool true))/\OldK s₁.heap s'.heap/\s'.os=s₁.os/\Ej s'.gens) s₁:=by
  intro H hO hS hok hA hK;have base_of:∀ {b:Addr} {o:Obj},s₁.heap.get? b=some o->H b=none->(hidT s₁.heap H).get? b=some o:=aB;have noA:∀ {b:Addr} {o:Obj} {es:Array Eb} {ep:Nat},s₁.heap.get? b=some o->o.data=.dict es ep->H b=none:=λ{b o es ep} e d=>by
   cases q:H b with
   | none=>rfl
   | some u =>
    have e':=hA b (by rw[q];simp);subst e';rw[ha]at e;cases e;cases d
  have nsK:∀ {b:Addr} {m:Str->Option AM},s₁.heap.Ns b m->(hidT s₁.heap H).Ns b m:=λ{b m} ⟨o,es,ep,e,d,r⟩=>⟨o,es,ep,base_of e (noA e d),d,r⟩
  have hKb:=λb o e=>base_of (KX b o e) (by
   cases q:H b with
   | none=>rfl
   | some u =>
    have e':=hA b (by rw[q];simp);subst e';rw[hK (by rw[q];simp)]at e;cases e)
  have hM:Mod K mg (hidT s₁.heap H):=⟨hKb,nsK hns,⟨mb,nsK hb,hbb⟩,let ⟨mc,h1,h2⟩:=hlim;⟨mc,nsK h1,h2⟩⟩
  have e0:Env0 P w K mg (hidT s₁.heap H) Fq [] s₁ H:=⟨rfl,hM,λb o e=>dN e,JZ (XA _ _),trivial,λb hb=>absurd (show b∈[] from hb) ↥1,hok,.of_eq hg⟩
  refine Fo ((F _ hKb (nsK hns)).run Fq [] s₁ H ⟨[.ref a],[]⟩ [.ref a] [.ref a] _ _ hr e0 (hbind s₁ (.ref a)) (.cons rfl .nil) (hsp H hO hS)) λr s' h=>?_
  cases r with
  | error e=>exact (hCX H e s' h).elim
  | ok fl =>
   cases fl with
   | next=>exact BU h
   | brk=>exact BU h
   | cont=>exact BU h
   | ret u =>
    obtain⟨v,H',os,bare,un,hok',r',q⟩:=h;subst q;obtain rfl:u=HE true:=r';refine⟨rfl,OldK.of_keep λb o e=>?_,os,bare⟩;cases q:H b with
    | none=>exact un.keep b o e q (by intro z;exact absurd (show b∈[] from z) ↥1) ↥1
    | some u =>
     rcases hO b with z | ⟨ob,xs,z⟩
     ·rw[q]at z;cases z
     ·obtain⟨e1,_⟩:=hok b _ z;obtain⟨e2,_⟩:=hok' b _ (un.frzs b ob _ z);rw[e]at e1;cases e1;exact e2
 cases hk:K.lookup a with
 | some o =>
  have e:=KX a o hk;rw[ha]at e;cases e;refine core (λ_=>none) (λ_=>.inl rfl) (.inr ⟨_,vs.toArray,_,hk,rfl,rfl,rfl,by rw[Aa,hi.length];exact hl,by simpa using rv⟩) (λb u z=>by have z':=z;cases z') (λb z=>absurd rfl z) λz=>absurd rfl z
 | none =>
  refine core (λb=>if b=a then some (.frz { cls:=.type "list",data:=.seq vs.toArray } (.lst (ns.map V.int))) else none) (λb=>?_) (.inl (.inr ⟨{ cls:=.type "list",data:=.seq vs.toArray },if_pos rfl⟩)) (λb u z=>?_) (λb z=>?_) λ_=>hk
  ·by_cases hb:b=a
   ·exact .inr ⟨_,_,if_pos hb⟩
   ·exact .inl (if_neg hb)
  ·by_cases hb:b=a
   ·have z':=(if_pos hb).symm.trans z;cases z';subst hb;exact⟨ha,by rw[Af];exact hl,vs,_,rv,ha⟩
   ·have z':=(if_neg hb).symm.trans z;cases z'
  ·by_cases hb:b=a
   ·exact hb
   ·exact absurd (if_neg hb) z
def walk_of{l:D7}{n k q loose XP YP d}{K:Params->Ab}{CX:A5->CXT}{sp:A5->Sp}{x}
  (hn:l.most=some n) (hn2:n<=AD) (hdf:d.params.defaults=[]) (hr:Room k Fq)
  (hY:∀ w h,YP w h->(K w.params).In h)
  (F:∀ w mg fa h,(K w.params).In h->h.Ns A4 mg->mg d.name=some (.ref fa) ->
   ∃ fd,(∀ s u,Fk s fd ⟨[u],[]⟩ [(x,u)]) /\
    ∀ base,(K w.params).In base->base.Ns A4 mg->FnOk l.prog w (K w.params) mg base (CX w) k fa fd [x] (sp w))
  (hsp:∀ w H a (ns:List Int),ns.length<=n->Only H->SqL (K w.params) H a (ns.map V.int)->sp w [.ref a] H (λv _=>v=.bl true) λ_ _ _=>False)
  (hCX:∀ w H s e s',CX w [] H s (λ_ _ _=>False) e s'->False) :
  H9 q loose XP YP l.row.toRowW d [] (λf vs=>HG f vs):=by
 refine Att.attach_call hn hdf λw s₀ s₁ mg mb fa o pm cd doc a vs ns G Y ho hd hcd hmg hobj hints hlen hg=>?_
 have KX:=hY w _ Y;obtain⟨fd,hb,hF⟩:=F w mg fa _ KX G.T.g hmg;exact Z6 KX G.T.g G.T.b G.T.builtins G.T.nolimit hg hobj hints (Ak hlen hn2) hr hF hb (λH hO hS=>hsp w H a ns hlen hO hS) λH e s'=>hCX w H s₁ e s'
def defArgs (s:Stmt):Arguments:=match s with
 | .FunctionDef _ a _ _ _ _ _ _ _ _=>a
 | _=>{ posonlyargs:=[],args:=[],vararg:=none,kwonlyargs:=[],kw_defaults:=[],kwarg:=none,defaults:=[] }
def defBody (s:Stmt):List Stmt:=match s with
 | .FunctionDef _ _ b _ _ _ _ _ _ _=>b
 | _=>[]
def defScope (s:Stmt):Ea:=match s with
 | .FunctionDef _ _ _ _ _ _ sc _ _ _=>sc
 | _=>{ kind:=.function,names:=[],isGenerator:=false,isCoroutine:=false }
abbrev CX0:CXT:=λ_ _ _ _ _ _=>False
abbrev E0:XK:=λ_ _ _=>False
def pass0:Passes CX0 X E0:=λ_ _ _ _ _ _ _ h=>h.elim
structure Fun(K:Ab)(x qual:Str)(st:Stmt)(f:Addr)(fd:Dg):Prop where
 ex:∃ (oc:AM) (od:Option Addr) (kV doc pm:AM) (an:Option Addr) (cdv ct:AM) (osl:Array (Option AM)),
  fd=BW x qual (defArgs st) (defBody st) (defScope st) .none kV doc pm an cdv ct/\K.lookup f=some ⟨oc,od,.func fd,osl⟩/\Cc K cdv qual=true
 kp:Bt K (.ref f)=true
section
variable {P:Ai}{w:A5}{K:Ab}{mg:Str->Option AM}{base:Heap}
def Fun.ok{st f fd N ps k sp}(F:Fun K x qual st f fd)(S:FnScope N ps (defScope st))(len:∀ vs H Q E,sp vs H Q E->vs.length=ps.length)
  (hbody:∀ cdv A outer s H vs Q E,Room k (A.deeper (E6 qual (defScope st) s.heap.objs.size f cdv))->sp vs H Q E ->
   ∃ t,PSs (cxOf CX0 P w K mg base N qual (defScope st) f cdv A outer s H E).nox (defBody st) t/\t { nx:=λ_ H'=>Q .non H',rt:=Q } (start N vs) H):FnOk P w K mg base CX0 (k+1) f fd ps sp:=by
 obtain⟨oc,od,kV,doc,pm,an,cdv,ct,osl,rfl,lk,hcd⟩:=F.ex;refine SD lk hcd S len λA outer s H vs Q E hr hsp=>?_
 obtain⟨t,h,q⟩:=hbody cdv A outer s H vs Q E hr hsp;exact⟨t,h.nox,q⟩
def Fun.binds{st f fd ps}(F:Fun K x qual st f fd)
  (h:∀ kV doc pm an cdv ct us,us.length=ps.length->Fl (BW x qual (defArgs st) (defBody st) (defScope st) .none kV doc pm an cdv ct) ⟨us,[]⟩=pure (ps.zip us)):Binds K fd ps []:=by
 obtain⟨oc,od,kV,doc,pm,an,cdv,ct,osl,rfl,lk,hcd⟩:=F.ex;exact .all (h kV doc pm an cdv ct)
def au{st f oc od an osl kV doc pm cdv ct}(l:K.lookup f=some ⟨oc,od,.func (BW x qual (defArgs st) (defBody st) (defScope st) .none kV doc pm an cdv ct),osl⟩)
  (c:Cc K cdv qual=true) (k:Bt K (.ref f)=true):Fun K x qual st f (BW x qual (defArgs st) (defBody st) (defScope st) .none kV doc pm an cdv ct):=⟨⟨oc,od,kV,doc,pm,an,cdv,ct,osl,rfl,l,c⟩,k⟩
end
def Same (H H':Hp):Prop:=∀ b o,H b=some o->H' b=some o
def Same.refl H:Same H H:=λ_ _ h=>h
end L2
set_option maxHeartbeats 4000000
namespace L2
open PySem PySem.Spec PyProof.Rows
def cloOf (cells:List (Str×Addr)):List (Str×KJ)->List (Str×Addr)->List (Str×Addr)
 | [],acc=>acc
 | (n,k)::r,acc=>if k == .free then cloOf cells r ((n,(cells.lookup n).getD 0)::acc) else cloOf cells r acc
def Zs(h:∀ x∈scope.names,x.2=.free->∃ c,env.cells.lookup x.1=some c):closureFor scope env=pure (cloOf env.cells scope.names []):=by
 have go:∀ names acc,(∀ x∈names,x.2=.free->∃ c,env.cells.lookup x.1=some c) ->
   (forIn names acc λx cs=>if (x.2 == Bf)=true then (do let c ← cellOf env x.1;pure (Cp ((x.1,c)::cs))) else (pure (Cp cs)))=(pure (cloOf env.cells names acc):Sem _):=by
  intro names;induction names with
  | nil=>intro acc _;rfl
  | cons x r ih =>
   intro acc hx;obtain⟨n,k⟩:=x;rw[EM];have hr:=λacc=>ih acc λy hy=>hx y (AH _ hy)
   unfold cloOf;by_cases hk:(k == Bf)=true
   ·obtain⟨c,hc⟩:=hx (n,k) AG (by simpa using hk);have hc':=hc;have e:cellOf env n=pure c:=by unfold cellOf;rw[hc']
    simp only[hk,e,hc'];exact hr _
   ·simp only[hk];exact hr _
 unfold closureFor;have:=go scope.names [] h;simp only[bind_pure];exact this
theorem NV:∀ names acc,(cloOf cells names acc).lookup x=some c->((x,Bf)∈names/\c=(cells.lookup x).getD 0)\/acc.lookup x=some c
 | [],acc,h=>.inr h
 | (n,k)::r,acc,h=>by
  unfold cloOf at h;by_cases hk:(k == Bf)=true
  ·rw[if_pos hk]at h;have hk':=by simpa using hk
   subst hk';rcases NV r _ h with ⟨a,b⟩ | h'
   ·exact .inl ⟨AH _ a,b⟩
   ·clear h;rw[Cq]at h';cases e:x == n with
    | true =>
         rw[e]at h';have q:=by simpa using e
         subst q;exact .inl ⟨AG,(Av h').symm⟩
    | false=>rw[e]at h';exact .inr h'
  ·rw[if_neg hk]at h;rcases NV r _ h with ⟨a,b⟩ | h
   ·exact .inl ⟨AH _ a,b⟩
   ·exact .inr h
theorem OS:∀ names acc,((x,Bf)∈names\/(acc.lookup x).isSome=true)->((cloOf cells names acc).lookup x).isSome=true
 | [],acc,h=>h.elim (λz=>nomatch z) id
 | (n,k)::r,acc,h=>by
  unfold cloOf;by_cases hk:(k == Bf)=true
  ·rw[if_pos hk];refine OS r _ ?_;by_cases e:x=n
   ·subst e;exact .inr ↥1
   ·rcases h with h | h
    ·rcases AN.mp h with h | h
     ·cases h;exact absurd rfl e
     ·exact .inl h
    ·refine .inr ?_;rw[Cq];have:(x == n)=false:=by simpa using e
     rw[this];exact h
  ·rw[if_neg hk];refine OS r _ ?_;rcases h with h | h
   ·rcases AN.mp h with h | h
    ·cases h;exact absurd rfl hk
    ·exact .inl h
   ·exact .inr h
theorem Nd:∀ names n acc,(BM n names acc).lookup x=some c->(n<=c/\(x,Bq)∈names)\/acc.lookup x=some c
 | [],_,acc,h=>.inr h
 | (y,k)::r,n,acc,h=>by
  unfold BM at h;by_cases hk:(k == Bq)=true
  ·rw[if_pos hk]at h;have hk':=by simpa using hk
   subst hk';rcases Nd r _ _ h with ⟨a,b⟩ | h'
   ·exact .inl ⟨by lia,AH _ b⟩
   ·clear h;rw[Cq]at h';cases e:x == y with
    | true =>
         rw[e]at h';have q:=by simpa using e
         simp_all
    | false=>rw[e]at h';exact .inr h'
  ·rw[if_neg hk]at h;rcases Nd r _ _ h with ⟨a,b⟩ | h
   ·exact .inl ⟨a,AH _ b⟩
   ·exact .inr h
theorem QN:∀ names n acc,(x,c)∈BM n names acc->n<=c\/(x,c)∈acc
 | [],_,acc,h=>.inr h
 | (y,k)::r,n,acc,h=>by
  unfold BM at h;by_cases hk:(k == Bq)=true
  ·rw[if_pos hk]at h;rcases QN r _ _ h with a | h
   ·exact .inl ⋯
   ·rcases AN.mp h with h | h
    ·lia
    ·exact .inr h
  ·rw[if_neg hk]at h;exact QN r _ _ h
theorem Pl:∀ names (n:Nat) (acc:List (Str×Addr)),(∀ p∈acc,p.2 < n)->n<=c->(x,c)∈BM n names acc->(y,c)∈BM n names acc->x=y
 | [],n,acc,ha,hc,h1,_=>by have q:c < n:=ha _ h1;exact absurd (AU q hc) (BA _)
 | (z,k)::r,n,acc,ha,hc,h1,h2=>by
  unfold BM at h1 h2;by_cases hk:(k == Bq)=true
  ·rw[if_pos hk]at h1 h2;have ha':∀ p∈(z,n)::acc,p.2 < n+1:=λp hp=>by
    rcases AN.mp hp with h | h
    ·subst h;exact CQ _
    ·exact C6 (ha p h)
   by_cases hcn:n+1<=c
   ·exact Pl r _ _ ha' hcn h1 h2
   ·have hcn':=Nat.le_antisymm (He.mp hcn) hc;subst hcn';have g:∀ w,(w,c)∈BM (c+1) r ((z,c)::acc)->w=z:=λw hw=>by
     rcases QN r _ _ hw with a | a
     ·exact absurd a (Nat.not_succ_le_self _)
     ·rcases AN.mp a with a | a
      ·cases a;rfl
      ·have:=ha _ a;exact absurd this (BA _)
    rw[g x h1,g y h2]
  ·rw[if_neg hk]at h1 h2;exact Pl r _ _ ha hc h1 h2
theorem QC:∀ names h acc,(∀ p∈acc,∃ v,h.IsCell p.2 v)->(x,c)∈BM h.objs.size names acc->∃ v,(GE h names).IsCell c v
 | [],_,acc,ha,hm=>ha _ hm
 | (z,k)::r,h,acc,ha,hm=>by
  unfold BM at hm;unfold GE;by_cases hk:(k == Bq)=true
  ·rw[if_pos hk]at hm ⊢;refine QC r (h.push { cls:=.type "cell",data:=.cell none }) ((z,h.objs.size)::acc) (λp hp=>?_) (by rw[BQ];exact hm);rcases AN.mp hp with e | e
   ·subst e;exact⟨none,_,AK _ rfl,rfl⟩
   ·obtain⟨v,q⟩:=ha p e;exact⟨v,q.keeps λb o e=>AB _ e⟩
  ·rw[if_neg hk]at hm ⊢;exact QC r h acc ha hm
def WL
  (hQ:Q (newEnv scope s.heap.objs.size globals (BM (s.heap.objs.size+1) scope.names cl) qual none .none (some env) Gs) { s with heap:=GE (s.heap.push { cls:=.type "dict",data:=.dict #[] }) scope.names }) :
  AQ M A (KM scope globals cl [] qual none .none (some env)) Q E s:=by
 simp only[KM,Option.isSome_some,if_true];refine AA (wpAny_alloc (AA (wpAny_layCells _ (λname kind cells=>by cases hkc:kind == Bq <;> simp) _ _ _ _ ?_)));rw[show ({ s with heap:=s.heap.push { cls:=.type "dict",data:=.dict #[] } }:AR).heap.objs.size=s.heap.objs.size+1 from BQ ..];exact AA (AF (AF hQ))
def compOk (N N':List Str) (ix:List (Option Nat)) (outer names:List (Str×KJ)):Bool:=
 decide (N'.length=ix.length) && ((N'.zip ix).all λp=>match p.2 with | none=>true | some j=>decide (N[j]?=some p.1) && names.contains (p.1,Bf)) &&
 (names.all λp=>(p.2 != .free || outer.lookup p.1 == some .cell || outer.lookup p.1 == some .free) && (p.2 != .local || names.lookup p.1 == some .local) && (p.2 != .cell || names.lookup p.1 == some .cell) && (p.2 != .free || names.lookup p.1 == some .free))
def frm (ix:List (Option Nat)) (σ:St):St:=ix.map λo=>o.bind λj=>(σ[j]?).join
def cxC (X:Cx) (N:List Str) (scope:Ea) (C:Addr) (cs:List (Str×Addr)) (s:AR) (H:Hp) (ex:List Addr):Cx where
 prog:=X.prog
 w:=X.w
 K:=X.K
 mg:=X.mg
 base:=X.base
 A:=X.A
 N:=N
 s₀:=s
 H₀:=H
 env:=Fs scope cs C X.env
 outer:=X.stack
 stack:=X.stack
 ex:=ex
 fn:=λx=>scope.names.lookup x == some .cell
 calm:=X.calm
 pn:=[]
 xe:=λ_ _=>False
structure CompOk(X:Cx)(N':List Str)(ix:List (Option Nat))(scope:Ea):Prop where
 kind:scope.kind=.function
 ok:compOk X.N N' ix X.env.scope.names scope.names=true
section
variable {X:Cx}{N':List Str}{ix:List (Option Nat)}{scope:Ea}
def CompOk.len(S:CompOk X N' ix scope):N'.length=ix.length:=by
 have h:=S.ok;unfold compOk at h;simp only[Ar,decide_eq_true_eq]at h;exact h.1.1
def CompOk.name(S:CompOk X N' ix scope)(hp:p∈scope.names) :
  (p.2=.free->X.env.scope.names.lookup p.1=some .cell\/X.env.scope.names.lookup p.1=some .free)/\(p.2=.local->scope.names.lookup p.1=some .local)/\(p.2=.cell->scope.names.lookup p.1=some .cell)/\(p.2=.free->scope.names.lookup p.1=some .free):=by
 have h:=S.ok;unfold compOk at h;simp only[Ar]at h;have q:=AJ.mp h.2 p hp;simp at q;obtain⟨⟨⟨a,b⟩,c⟩,d⟩:=q;refine⟨λe=>?_,λe=>?_,λe=>?_,λe=>?_⟩
 ·rcases a with (a | a) | a
  ·exact absurd e a
  ·exact .inl a
  ·exact .inr a
 ·exact b.resolve_left λz=>z e
 ·exact c.resolve_left λz=>z e
 ·exact d.resolve_left λz=>z e
theorem CompOk.at(S:CompOk X N' ix scope){i j:Nat}{x}(h1:N'[i]?=some x)(h2:ix[i]?=some (some j)):X.N[j]?=some x/\(x,Bf)∈scope.names:=by
 have h:=S.ok;unfold compOk at h;simp only[Ar]at h;have hz:=by
  have:(N'.zip ix)[i]?=some (x,some j):=by rw[GF];exact⟨h1,h2⟩
  exact DQ this
 have q:=AJ.mp h.1.2 _ hz;simp at q;exact q
theorem dU{i:Nat}{v}(h:(frm ix σ)[i]?=some (some v)):∃ j,ix[i]?=some (some j)/\σ[j]?=some (some v):=by
 unfold frm at h;rw[Am]at h;cases e:ix[i]? with
 | none=>rw[e]at h;cases h
 | some o =>
  rw[e]at h;cases o with
  | none=>cases h
  | some j =>
   have h':(σ[j]?).join=some v:=Av h;refine⟨j,rfl,?_⟩;cases e2:σ[j]? with
   | none=>rw[e2]at h';cases h'
   | some w=>rw[e2]at h';rw[show w=some v from h']
theorem SJ{env:Env}:∀ (names:List (Str×KJ)) x,
  (names.map λ(n,k)=>if (k == Bf && env.scope.kind == .function && env.kindOf n == some .cell) then (n,Bq) else (n,k)).lookup x =
   match names.lookup x with
   | some .free=>if (env.scope.kind == .function && env.kindOf x == some .cell) then some Bq else some .free
   | o=>o
 | [],_=>rfl
 | (n,k)::r,x=>by
  rw[Ad];cases hx:x == n with
  | true =>
   have e:=by simpa using hx
   subst e;cases k <;> by_cases hc:(env.scope.kind == .function && env.kindOf x == some .cell)=true <;> simp[ hc] <;> simp_all
  | false =>
   simp only[Cq,hx];rw[← (SJ r x)];split <;> simp only[Cq,hx]
theorem kindC x:(Fs scope cs C X.env).kindOf x =
   match scope.names.lookup x with
   | some .free=>if (X.env.scope.kind == .function && X.env.kindOf x == some .cell) then some Bq else some .free
   | o=>o:=SJ scope.names x
end
def d6{N' ix scope}(S:CompOk X N' ix scope){pins}{σ:St}{H s fp}{D:Addr}{o:Obj}
  (I:Inv X pins σ H s) (hf:∀ b∈fp,FpOk X pins H b) (ho:∀ b∈fp,∃ o,s.heap.get? b=some o) (hc:X.calm=true) {h3:Heap} {C:Addr} (hk3:∀ b u,s.heap.get? b=some u->h3.get? b=some u) (hC:C=h3.objs.size) (hs3:s.heap.objs.size<=h3.objs.size) {h4}
  (h4e:h4=GE (h3.push { cls:=.type "dict",data:=.dict #[] }) scope.names) {t4} :
  Inv (cxC X N' scope C (BM (C+1) scope.names (cloOf X.env.cells scope.names [])) s H fp) [] (frm ix σ) H { s with heap:=h4,toks:=t4 }:=by
 have hsz:s.heap.objs.size<=C:=by rw[hC];exact hs3
 have hk4:∀ b u,h3.get? b=some u->h4.get? b=some u:=λb u e=>by rw[h4e];exact Gi _ _ b u (AB _ e)
 have hk:=λb u e=>hk4 b u (hk3 b u e)
 have hpC:(h3.push { cls:=.type "dict",data:=.dict #[] }).objs.size=C+1:=by rw[hC,BQ]
 have clo:∀ x c,(cloOf X.env.cells scope.names []).lookup x=some c->X.env.cells.lookup x=some c:=λx c h=>by
  rcases NV scope.names [] h with ⟨hm,e⟩ | h
  ·obtain⟨c',hc'⟩:=I.ok.has x ((S.name hm).1 rfl);rw[hc']at e ⊢;rw[e];rfl
  ·cases h
 have cloM:=by
  have go:∀ names acc,(∀ q∈names,q∈scope.names)->(∀ p∈acc,∃ x,(x,Bf)∈scope.names/\p.1=x/\X.env.cells.lookup x=some p.2) ->
    ∀ p∈cloOf X.env.cells names acc,∃ x,(x,Bf)∈scope.names/\p.1=x/\X.env.cells.lookup x=some p.2:=by
   intro names;induction names with
   | nil=>intro acc _ ha;exact ha
   | cons q r ih =>
    intro acc hn ha;obtain⟨n,k⟩:=q;unfold cloOf;by_cases hkf:(k == Bf)=true
    ·have e:=by simpa using hkf
     subst e;refine ih _ (λq hq=>hn q (AH _ hq)) λp hp=>?_
     rcases AN.mp hp with e | hp
     ·subst e;have hm:=hn (n,.free) AG;obtain⟨c',hc'⟩:=I.ok.has n ((S.name hm).1 rfl);refine⟨n,hm,rfl,?_⟩;rw[hc'];rfl
     ·exact ha p hp
    ·rw[if_neg hkf];exact ih _ (λq hq=>hn q (AH _ hq)) ha
  exact go scope.names [] (λ_ h=>h) λp hp=>nomatch hp
 have cellLt:∀ x c,X.env.cells.lookup x=some c->c < s.heap.objs.size:=λx c h=>by
  obtain⟨v,q⟩:=I.cell x c h;exact q.lt
 have split:∀ x c,(BM (C+1) scope.names (cloOf X.env.cells scope.names [])).lookup x=some c->(C+1<=c/\(x,Bq)∈scope.names)\/X.env.cells.lookup x=some c:=λx c h=>by
  rcases Nd scope.names _ _ h with h | h
  ·exact .inl h
  ·exact .inr (clo x c h)
 have cells4:∀ x c,(BM (C+1) scope.names (cloOf X.env.cells scope.names [])).lookup x=some c->∃ v,h4.IsCell c v:=λx c h=>by
  rw[h4e];refine QC scope.names _ (cloOf X.env.cells scope.names []) (λp hp=>?_) (by rw[hpC];exact BV h);obtain⟨y,_,_,e⟩:=cloM p hp;obtain⟨v,q⟩:=I.cell y p.2 e;exact⟨v,q.keeps λb u e=>AB _ (hk3 b u e)⟩
 have bLt:∀ b∈fp,b < s.heap.objs.size:=λb hb=>by obtain⟨u,e⟩:=ho b hb;exact AL e
 have nfree:∀ b,s.heap.objs.size<=b->H b=none:=λb hb=>I.hok.fresh hb
 refine⟨⟨I.ok.mod,?_,I.ok.glob,I.ok.blt,hsz,λx y c h1 h2=>?_,λx hx=>?_,λx c hx h=>?_,λh=>I.ok.hd hc,I.ok.frames,.inl rfl,λb hb=>⟨?_,λx c h=>?_⟩,I.bs,Ak I.ok.bsz I.sz,λb u e hb=>?_,λb hb hz=>?_,I.stack,I.stkFree⟩,
  rfl,I.bare,Un.kept hk,⟨λ_=>none,?_,λi x v h1 h2 h3=>?_⟩,cells4,?_,λx c h=>?_,λp hp=>absurd (show p∈[] from hp) ↥1,I.hok.kept hk,?_⟩
 ·exact S.kind
 ·-- injective
  rcases split x c h1 with ⟨a,_⟩ | a
  ·exact Pl scope.names (C+1) _ (λp hp=>by obtain⟨y,_,_,e⟩:=cloM p hp;exact C6 (AU (cellLt y _ e) hsz)) a (BV h1) (BV h2)
  ·rcases split y c h2 with ⟨b,_⟩ | b
   ·exact absurd (AU (cellLt x c a) (Ak hsz (Du b))) (BA _)
   ·exact I.ok.inj x y c a b
 ·-- has
  have hx':(Fs scope (BM (C+1) scope.names (cloOf X.env.cells scope.names [])) C X.env).kindOf x=some .cell\/(Fs scope (BM (C+1) scope.names (cloOf X.env.cells scope.names [])) C X.env).kindOf x=some .free:=hx;rw[kindC]at hx';have key:scope.names.lookup x=some .cell\/scope.names.lookup x=some .free:=by
   cases e:scope.names.lookup x with
   | none=>rw[e]at hx';rcases hx' with z | z <;> cases z
   | some k =>
    rw[e]at hx';cases k <;> first | exact .inl rfl | exact .inr rfl | (rcases hx' with z | z <;> cases z)
  refine CG.mp (C0 scope.names _ _ ?_);rcases key with k | k
  ·exact .inl k
  ·exact .inr (OS scope.names [] (.inl (BV k)))
 ·-- own cells are new
  have hx':(scope.names.lookup x == some Bq)=true:=hx;have hx'':=by simpa using hx'
  rcases Nd scope.names _ _ h with ⟨a,_⟩ | a
  ·exact Ak hsz (Du a)
  ·rcases NV scope.names [] a with ⟨hm,_⟩ | z
   ·have:=(S.name hm).2.2.2 rfl;rw[hx'']at this;cases this
   ·cases z
 ·exact Ag (AU (bLt b hb) hsz)
 ·rcases split x c h with ⟨a,_⟩ | a
  ·exact Bb (AU (bLt b hb) (Ak hsz (Du a)))
  ·exact (hf b hb).2.2.2.2.1 x c a
 ·rcases (hf b hb).2.2.2.1 with z | z
  ·exact I.ok.noex b u e z
  ·exact absurd (AU (AL e) (Ak I.ok.bsz z)) (BA _)
 ·rcases AN.mp (I.stkSub b hz) with e | e
  ·exact (hf b hb).2.1 e
  ·exact (hf b hb).2.2.1 e
 ·-- the block's names
  rw[h4e];rw[hC];exact (Heap.Ns.new h3 (.type "dict")).keeps (Gi _ _)
 ·obtain⟨j,e1,e2⟩:=dU h2;obtain⟨hn,hm⟩:=S.at h1 e1;have hkx:=(S.name hm).2.2.2 rfl;have hox:=(S.name hm).1 rfl;obtain⟨m,hns,hl⟩:=I.loc;have vis:Vis X.env.scope x:=by rcases hox with z | z;exact .inr (.inl z);exact .inr (.inr z)
  obtain⟨u,r,l⟩:=hl j x v hn e2 vis;refine⟨u,r,.inr ⟨?_,?_⟩⟩
  ·show (Fs scope _ C X.env).kindOf x=some .cell\/(Fs scope _ C X.env).kindOf x=some .free;rw[kindC,hkx];dsimp only;split
   ·exact .inl rfl
   ·exact .inr rfl
  ·rcases l with ⟨k,_⟩ | ⟨_,c,hc',hcell⟩
   ·have k':X.env.scope.names.lookup x=some .local:=k;rcases hox with z | z <;> rw[z]at k' <;> cases k'
   ·have hs:((BM (C+1) scope.names (cloOf X.env.cells scope.names [])).lookup x).isSome=true:=C0 scope.names _ _ (.inr (OS scope.names [] (.inl hm)));obtain⟨c',e'⟩:=CG.mp hs;have:c'=c:=by
     rcases split x c' e' with ⟨_,q⟩ | q
     ·have:=(S.name q).2.2.1 rfl;rw[show scope.names.lookup x=some .free from hkx]at this;cases this
     ·rw[hc']at q;exact (Av q).symm
    subst this;exact⟨c',e',hcell.keeps hk⟩
 ·exact nfree C hsz
 ·rcases split x c h with ⟨a,_⟩ | a
  ·exact nfree c (Ak hsz (Du a))
  ·exact I.freeC x c a
 ·show (frm ix σ).length=N'.length;unfold frm;rw[Af,S.len]
theorem ZJ(I:Nat->AR->Prop)
  (turn:∀ n s,I n s->AQ (model prog w) A (Ek it) (λr s₁=>match r with
   | none=>R (.ok .next) s₁
   | some v=>AQ (model prog w) A (Gf target it v) (λ_ s₁'=>AQ (model prog w) A (assign target env v) (λ_ s₂ =>
     AQ (model prog w) A (forIn ifs true λc r=>if r=true then do let ok ← HZ c env (eval c env);pure (Cp ok) else pure (Cp r)) (λok s₃ =>
      if ok=true then AQ (model prog w) A (eval elt env) (λx s₄ =>
       AQ (model prog w) A (call (.builtin "list.append") [acc,x]) (λ_ s₅=>∃ m,m < n/\I m s₅) (λ_ _=>False) s₄) (λ_ _=>False) s₃
      else ∃ m,m < n/\I m s₃) (λ_ _=>False) s₂) (λ_ _=>False) s₁') (λ_ _=>False) s₁) (λ_ _=>False) s)
  n (h:I n s) :
  Dp (model prog w) A (.compLoop (.ListComp elt [⟨target,iter,ifs,0⟩] scope pos) 0 it acc env) R s:=by
 refine codeAny_loop rfl I (λn s hI=>?_) n h;show AQ _ A ((compTurn (.ListComp elt [⟨target,iter,ifs,0⟩] scope pos) 0 it acc env).onRaise (λx=>do noteFrame x env;theTreesLotGoes x)) _ _ s;refine wpAny_noted ?_;rw[compTurn_list];refine AA (EJ (AA (BE (turn n s hI) (λr s₁ h₁=>?_) λ_ _ h'=>h'.elim)));cases r with
 | none=>exact AF h₁
 | some v =>
  refine AA (BE h₁ (λ_ s₁' h₁'=>AA (BE h₁' (λ_ s₂ h₂=>AA (BE h₂ (λok s₃ h₃=>?_) λ_ _ h'=>h'.elim)) λ_ _ h'=>h'.elim)) λ_ _ h'=>h'.elim);cases ok with
  | false=>exact AF ⟨rfl,h₃⟩
  | true =>
   exact AA (AA (BE h₃ (λx s₄ h₄=>AA (BE h₄ (λ_ s₅ h₅=>AF (AF ⟨rfl,h₅⟩)) λ_ _ h'=>h'.elim)) λ_ _ h'=>h'.elim))
def PTs (X:Cx) (ifs:List Expr) (t:TT):Prop:=
 ∀ pins s (σ:St) H Q,Inv X pins σ H s->t σ H Q ->
  AQ (model X.prog X.w) X.A (forIn ifs true λc r=>if r=true then do let ok ← HZ c X.env (eval c X.env);pure (Cp ok) else pure (Cp r)) (TP X pins σ Q) X.xe s
def tYes:TT:=λ_ H Q=>Q true H
def ZT:PTs X [] tYes:=λ_ _ _ H _ I h=>wpAny_tests_nil ⟨H,I,h⟩
def YZ(h:PT X c t):PTs X [c] t:=λpins s σ H Q I hw=>wpAny_tests_one (h pins s σ H Q I hw)
def CompW (J:It) (ix:List (Option Nat)) (g:TG) (tc:TT) (te:TE) (σ:St) (H1:Hp) (Q:VK):Prop:=∃ W:Nat->Nat->List V->St->Hp->Prop,(∃ m,W 0 m [] (frm ix σ) H1) /\
 ∀ i m ys σ' H',W i m ys σ' H' ->
  (J.stop i H'/\ys.length<=AD/\∀ D,H' D=none->Q (.ref D) (upd H' D (.lst ys))) \/
  (J.go i H'/\ys.length < AD/\∃ N:List V->St->Hp->Prop,(∀ ys' σ2 H2,N ys' σ2 H2->∃ m',m' < m/\W (i+1) m' ys' σ2 H2) /\
   ∀ x H2,J.yld i H' x H2->g x σ' H2 λσ2 H3=>tc σ2 H3 λb H4=>if b=true then te σ2 H4 λv H5=>N (ys++[v]) σ2 H5 else N ys σ2 H4)
def tComp (wi:TI) (ix:List (Option Nat)) (g:TG) (tc:TT) (te:TE):TE:=λσ H Q=>wi σ H λJ H1=>CompW J ix g tc te σ H1 Q
def HOk.adopt(x:HOk P w H h)(hn:H a=none)(new:ObjOk P w (upd H a o) h a o):HOk P w (upd H a o) h:=λb u e=>by
 by_cases hb:b=a
 ·subst hb;rw[Ld]at e;cases e;exact new
 ·rw[LG hb]at e;exact (x b u e).stay (λc v _ q=>q) (λc q=>by rw[LG (Lc q hn)];exact q) λc xs q=>by rw[LG (Lc q hn)];exact q
section
variable {X:Cx}{N':List Str}{ix:List (Option Nat)}{scope:Ea}{elt tg iter:Expr}{ifs:List Expr}{pos:Pos}{wi:TI}{g:TG}{tc:TT}{te:TE}
def Uv(S:CompOk X N' ix scope)(hc:X.calm=true)(hi:PI X tg iter wi)
  (hg:∀ C cs s H ex,PG (cxC X N' scope C cs s H ex) tg g) (ht:∀ C cs s H ex,PTs (cxC X N' scope C cs s H ex) ifs tc) (he:∀ C cs s H ex,PE (cxC X N' scope C cs s H ex) elt te) (I:Inv X pins σ H s) (hw:tComp wi ix g tc te σ H Q)
  (fin:∀ D C o H' s',Inv X (pins++[(C,o)]) σ H' s'->(∃ m,s'.heap.Ns C m)->(X.s₀.heap.objs.size<=C)->(∀ x c,X.env.cells.lookup x=some c->c≠C)->(∀ p∈X.pn++pins,p.1≠C)->Q (.ref D) H'->compPost (model X.prog X.w) X.A X.xe use QQ (.ref D) C (.ok .next) s')
  (hs:∀ x,CM iter X.env x=pure x:=by intro _;rfl) :
  AQ (model X.prog X.w) X.A (comprehension (.ListComp elt [⟨tg,iter,ifs,0⟩] scope pos) scope X.env (firstIterPos [⟨tg,iter,ifs,0⟩] pos) (newList []) false (eval iter X.env) use) QQ X.xe s:=by
 refine wpAny_comprehension_free rfl hs (Zs λx hx hk=>I.ok.has x.1 ((S.name hx).1 hk)) S.kind (λx hx hl=>(S.name hx).2.1 hl) ?_;refine thn (hi pins s σ H _ I hw) λv s1 h1=>thn h1 λitv s2 h2=>?_
 obtain⟨it,fp,tn,J,H2,rfl,I2,T,st2,f2,W,⟨m0,w0⟩,turn⟩:=h2;refine A8 (WL ?_);generalize hH3:s2.heap.push { cls:=.type "list",dict:=none,data:=.seq ([]).toArray }=h3;have hD3:h3.get? s2.heap.objs.size=some { cls:=.type "list",dict:=none,data:=.seq ([]).toArray }:=by rw[← hH3];exact AK _ rfl
 have hk3:∀ b u,s2.heap.get? b=some u->h3.get? b=some u:=λb u e=>by rw[← hH3];exact AB _ e
 have hz3:h3.objs.size=s2.heap.objs.size+1:=by rw[← hH3,BQ]
 have ho2:∀ b∈fp,∃ o,s2.heap.get? b=some o:=λb hb=>by obtain⟨o,e,_⟩:=T.obj _ _ st2 b hb;exact⟨o,e⟩
 generalize hD:s2.heap.objs.size=D at hD3 hz3 ⊢;generalize hC:h3.objs.size=C at hz3 ⊢;generalize h4e:GE (h3.push { cls:=.type "dict",data:=.dict #[] }) scope.names=h4;have hk4:∀ b u,h3.get? b=some u->h4.get? b=some u:=λb u e=>by rw[← h4e];exact Gi _ _ b u (AB _ e)
 have I4:Inv (cxC X N' scope C (BM (C+1) scope.names (cloOf X.env.cells scope.names [])) s2 H2 fp) [] (frm ix σ) H2 { s2 with heap:=h4,toks:=s2.toks }:=
  d6 (D:=D) (o:={ cls:=.none,data:=.dict #[] }) S I2 f2 ho2 hc hk3 hC.symm (by simp_all) h4e.symm
 have hcellD:∀ x c,(BM (C+1) scope.names (cloOf X.env.cells scope.names [])).lookup x=some c->c≠D:=λx c h z=>by
  rcases Nd scope.names _ _ h with ⟨a,_⟩ | a
  ·rw[z,hz3]at a;lia
  ·rcases NV scope.names [] a with ⟨hm,e⟩ | a
   ·obtain⟨c',hc'⟩:=I2.ok.has x ((S.name hm).1 rfl);rw[hc']at e;obtain⟨v,q⟩:=I2.cell x c' hc';have e':c=c':=e;rw[← e',z,← hD]at q;exact absurd q.lt (BA _)
   ·cases a
 have hDC:D≠C:=by rw[hz3];exact Ag (CQ _)
 have hDfp:D∉fp:=λhb=>by obtain⟨o,e⟩:=ho2 D hb;exact absurd (hD ▸ AL e) (BA _)
 generalize hX':cxC X N' scope C (BM (C+1) scope.names (cloOf X.env.cells scope.names [])) s2 H2 fp=X' at I4;have hfpX:∀ {H':Hp} {oD:Obj},(∀ b∈fp,H' b=none)->∀ b∈fp,FpOk X' [(D,oD)] H' b:=λ{H' oD} hn b hb=>by
  rw[← hX'];refine⟨hn b hb,λz=>?_,λz=>?_,.inl hb,λx c h z=>?_,λp hp=>?_⟩
  rotate_right
  ·have hp':p∈[(D,oD)]:=hp;have e:=by simpa using hp'
   exact λz=>hDfp (by simp_all)
  ·obtain⟨o,e⟩:=ho2 b hb;have z':b=C:=z;have q:=AL e;rw[z',hz3,hD]at q;exact absurd (Ja (CQ D) q) (BA _)
  ·have z':=z;rcases AN.mp (I2.stkSub b z') with e | e
   ·exact (f2 b hb).2.1 e
   ·exact (f2 b hb).2.2.1 e
  ·rw[← hX']at I4;exact (I4.ok.exf b hb).2 x c h z
 have HDnone:=I2.hok.fresh (by rw[hD];exact AE _);have key:∀ s',s'={ s2 with heap:=h4,toks:=s2.toks } ->
   Dp (model X.prog X.w) X.A (.compLoop (.ListComp elt [⟨tg,iter,ifs,0⟩] scope pos) 0 (.ref it) (.ref D) X'.env) (compPost (model X.prog X.w) X.A X.xe use QQ (.ref D) C) s':=by
  rintro s' rfl;refine ZJ (λn s'=>∃ i ys σ' H' its,Inv X' [] σ' H' s'/\tn i s'.heap/\(∀ b∈fp,H' b=none)/\H' D=none/\s'.heap.PlainList D its/\Vals ys its.toList/\W i n ys σ' H') ?_ m0
   ⟨0,[],frm ix σ,H2,#[],I4,T.keep _ _ _ st2 λb hb o e=>hk4 b o (hk3 b o e),λb hb=>(f2 b hb).1,HDnone,⟨_,hk4 _ _ hD3⟩,.nil,w0⟩
  rintro n s3 ⟨i,ys,σ3,H3,its,I3,st3,fr3,hD3n,hpl,hv,w3⟩;have hc':X'.calm=true:=by rw[← hX'];exact hc
  have xe':∀ e s,X'.xe e s->False:=by rw[← hX'];exact λ_ _ z=>z
  have pr:X'.prog=X.prog:=by rw[← hX'];rfl
  have pw:X'.w=X.w:=by rw[← hX'];rfl
  have pK:X'.K=X.K:=by rw[← hX'];rfl
  have pA:X'.A=X.A:=by rw[← hX'];rfl
  have p0:X'.s₀=s2:=by rw[← hX'];rfl
  have pH:X'.H₀=H2:=by rw[← hX'];rfl
  have px:X'.ex=fp:=by rw[← hX'];rfl
  have pf:X'.fs=frs X.stack:=by rw[← hX'];rfl
  have pL:X'.env.locals=C:=by rw[← hX'];rfl
  have pn0:X'.pn=[]:=by rw[← hX'];rfl
  have pcs:X'.env.cells=BM (C+1) scope.names (cloOf X.env.cells scope.names []):=by rw[← hX'];rfl
  obtain⟨nD,hoD⟩:=id hpl;have Dfs:D∉X'.fs:=λz=>by
   rw[pf]at z;rcases AN.mp (I2.stkSub D z) with e | e
   ·have q:=I2.lt;rw[← e,hD]at q;exact BA _ q
   ·exact I2.nofs (by rw[hD];exact AE _) e
  have I3':Inv X' [(D,_)] σ3 H3 s3:=I3.pins_of λp hp=>by
   have e:=AC.mp hp;subst e;exact⟨hoD,hD3n,by rw[pL];exact hDC,Dfs,λv z=>by cases z⟩
  have hg':=hX' ▸ hg _ _ _ _ _;have ht':=hX' ▸ ht _ _ _ _ _;have he':=hX' ▸ he _ _ _ _ _;have hsizes:=hv.length.symm;rcases turn i n ys σ3 H3 w3 with ⟨stop,hlen,qn⟩ | ⟨go,hlt,N,hN,step⟩
  ·-- the end
   have T':=T.done X' pr pw pK hc' i _ s3 σ3 H3 (λ_ _=>False) I3' (hfpX fr3) st3 stop;rw[pA]at T';refine thn T' λr s4 ⟨hr,I5⟩=>?_
   subst hr;obtain⟨gD,nDn,_,_,_⟩:=I5.pin (D,_) (Ac _ (AC.mpr rfl));have gD':=gD;obtain⟨m,hns,_⟩:=I5.loc;rw[pL]at hns;obtain⟨oC,es,ep,hoC,hdC,_⟩:=id hns;have ub:Un (frs X.stack) fp H2 H3 s2.heap s4.heap:=by
    have q:=I5.base;rw[px,pH,p0]at q;rw[← pf];exact q
   have bLt:∀ b u,s2.heap.get? b=some u->b≠D:=λb u e z=>by have q:=AL e;rw[z,hD]at q;exact BA _ q
   have u':Un (frs X.stack) fp H2 (upd H3 D (.lst ys)) s2.heap s4.heap:=
    ⟨ub.keep,ub.slot,λb o e n hx=>by rw[LG (bLt b o e)];exact ub.free b o e n hx,ub.there,λb xs e=>by rw[LG (Lc (ub.tups b xs e) hD3n)];exact ub.tups b xs e,
     λb o u e=>by rw[LG (Lc (ub.frzs b o u e) hD3n)];exact ub.frzs b o u e,λb ps e=>by obtain⟨more,q⟩:=ub.tbls b ps e;exact⟨more,by rw[LG (Lc q hD3n)];exact q⟩⟩
   have hok':HOk X.prog X.w (upd H3 D (.lst ys)) s4.heap:=by
    have q:=I5.hok;rw[pr,pw]at q;exact q.adopt hD3n ⟨hlen,its.toList,nD,hv,by simpa using gD'⟩
   have os':=by have q:=I5.os;rw[p0]at q;exact q
   have Iend:=I2.call' os' u' hok' I5.bare λb hb=>⟨(f2 b hb).2.2.2.1,(f2 b hb).2.1,(f2 b hb).2.2.2.2.1,(f2 b hb).2.2.2.2.2⟩
   have hsC:s2.heap.objs.size<=C:=by rw[hz3,hD];exact Jy _
   have freeC:upd H3 D (.lst ys) C=none:=by rw[LG (Ax hDC)];have q:=I5.free;rw[pL]at q;exact q
   have Iend':=Iend.pins_of λp hp=>by
    rcases Aw.mp hp with hp | hp
    ·exact Iend.pin p (Ac _ hp)
    ·have e:p=(C,oC):=AC.mp hp;subst e;exact⟨hoC,freeC,Bb (AU I2.lt hsC),I2.nofs hsC,λv z=>by rw[show oC.data=Data.cell v from z]at hdC;cases hdC⟩
   exact fin D C oC _ s4 Iend' ⟨m,hns⟩ (Ak I2.sz hsC) (λx c h z=>by obtain⟨v,q⟩:=I2.cell x c h;exact absurd (AU q.lt hsC) (by rw[z];exact BA _))
    (λp hp z=>by have q:=AL (I2.pin p hp).1;exact absurd (AU q hsC) (by rw[z];exact BA _)) (qn D hD3n)
  ·have T':=T.item X' pr pw pK hc' i _ s3 σ3 H3 (λ_ _=>False) I3' (hfpX fr3) st3 go;rw[pA]at T';refine thn T' λr s4 ⟨u,hr,h4'⟩=>?_
   subst hr;refine thn h4' λ_ s5 ⟨x,H5,I5,r5,y5,st5,fr5⟩=>?_
   have I5':=I5.pinned (hfpX fr5) (T.obj _ _ st5);have A1:=hg' _ s5 σ3 H5 x u _ I5' r5 (step x H5 y5);rw[pr,pw,pA]at A1;refine BE A1 (λ_ s6 ⟨σ6,H6,I6,q6⟩=>?_) xe';have A2:=ht' _ s6 σ6 H6 _ I6 q6;rw[pr,pw,pA]at A2;refine BE A2 (λb s7 ⟨H7,I7,q7⟩=>?_) xe';have pinD:∀ {σ':St} {H':Hp} {s':AR},Inv X' ([(D,{ cls:=.type "list",data:=.seq its nD })]++pinsAt fp s5.heap) σ' H' s'->s'.heap.get? D=some { cls:=.type "list",data:=.seq its nD }/\H' D=none/\(∀ b∈fp,∀ o,s5.heap.get? b=some o->s'.heap.get? b=some o/\H' b=none):=λ{σ' H' s'} J=>by
    obtain⟨a1,a2,_⟩:=J.pin (D,_) (Ac _ (BB _ (AC.mpr rfl)));refine⟨a1,a2,λb hb o e=>?_⟩;obtain⟨b1,b2,_⟩:=J.pin (b,o) (Ac _ (Ac _ (Pp hb e)));exact⟨b1,b2⟩
   have frOf:∀ {σ':St} {H':Hp} {s':AR},Inv X' ([(D,{ cls:=.type "list",data:=.seq its nD })]++pinsAt fp s5.heap) σ' H' s'->∀ b∈fp,H' b=none:=λ{σ' H' s'} J b hb=>by
    obtain⟨o,e,_⟩:=T.obj _ _ st5 b hb;exact ((pinD J).2.2 b hb o e).2
   have bare:∀ {σ':St} {H':Hp} {s':AR},Inv X' ([(D,{ cls:=.type "list",data:=.seq its nD })]++pinsAt fp s5.heap) σ' H' s'->Inv X' [] σ' H' s':=λ{σ' H' s'} J=>J.pins_of λp hp=>nomatch hp
   cases b with
   | false =>
    obtain⟨m',hm,w'⟩:=hN ys σ6 H7 q7;exact⟨m',hm,i+1,ys,σ6,H7,its,bare I7,T.keep _ _ _ st5 λb hb o e=>((pinD I7).2.2 b hb o e).1,frOf I7,(pinD I7).2.1,⟨nD,(pinD I7).1⟩,hv,w'⟩
   | true =>
    have A3:=he' _ s7 σ6 H7 _ I7 q7;rw[pr,pw,pA]at A3;refine BE A3 (λv s8 ⟨x8,H8,I8,r8,q8⟩=>wpAny_list_append_plain (items:=its) ⟨nD,(pinD I8).1⟩ (λh9 hl9 hs9=>?_) (by
     have:its.size=its.toList.length:=by simp
     rw[this,hsizes];exact CJ hlt)) xe'
    obtain⟨m',hm,w'⟩:=hN (ys++[x8]) σ6 H8 q8;have I9:=(bare I8).turned (t':=s8.toks) (λb o hb e=>(hs9.2 b hb).trans e) (pinD I8).2.1 (by rw[pL];exact hDC) (.inr (by rw[p0,hD];exact AE _)) (by rw[pcs];exact hcellD) (λp hp=>by rw[pn0]at hp;exact nomatch hp);refine⟨m',hm,i+1,ys++[x8],σ6,H8,its.push v,I9,T.keep _ _ _ st5 λb hb o e=>(hs9.2 b λz=>hDfp (z ▸ hb)).trans ((pinD I8).2.2 b hb o e).1,frOf I8,(pinD I8).2.1,hl9,?_,w'⟩;rw[C4];exact hv.append (.cons r8 .nil)
 rw[← hX']at key;exact codeAny_compStart_list (key _ rfl) (T.self _ 0 _ _ _ (T.keep _ _ _ st2 λb hb o e=>hk4 b o (hk3 b o e)) (key _ rfl))
def Y9(S:CompOk X N' ix scope)(hc:X.calm=true)(hi:PI X tg iter wi)
  (hg:∀ C cs s H ex,PG (cxC X N' scope C cs s H ex) tg g) (ht:∀ C cs s H ex,PTs (cxC X N' scope C cs s H ex) ifs tc) (he:∀ C cs s H ex,PE (cxC X N' scope C cs s H ex) elt te)
  (hs:∀ x,CM iter X.env x=pure x:=by intro _;rfl):PE X (.ListComp elt [⟨tg,iter,ifs,0⟩] scope pos) (tComp wi ix g tc te):=by
 intro pins s σ H Q I h;refine Uv S hc hi hg ht he I h (λD C o H' s' I' hns h1 h2 h3 q=>?_) hs;obtain⟨m,hns⟩:=hns;refine⟨m,hns,λh' hs'=>⟨.ref D,H',?_,rfl,q⟩⟩;obtain⟨a1,a2,a3,a4,_⟩:=I'.pin (C,o) (Ac _ (Ac _ (AC.mpr rfl)));exact I'.unpinned.turned (λb u hb e=>(hs'.2 b hb).trans e) a2 a3 (.inr h1) h2 h3
def Vm(hN:X.N.Nodup)(hi':X.N[i]?=some x)(hx:Loc X.env.scope x)(S:CompOk X N' ix scope)(hc:X.calm=true)(hi:PI X tg iter wi)
  (hg:∀ C cs s H ex,PG (cxC X N' scope C cs s H ex) tg g) (ht:∀ C cs s H ex,PTs (cxC X N' scope C cs s H ex) ifs tc) (he:∀ C cs s H ex,PE (cxC X N' scope C cs s H ex) elt te)
  (hsw:DX (.ListComp elt [⟨tg,iter,ifs,0⟩] scope pos) (some (.Name x pos')) spos.line X.env=pure true:=by rfl)
  (hf:X.fn x=true\/X.env.scope.names.lookup x=some .local:=by first | exact .inl rfl | exact .inr rfl | assumption)
  (hs:∀ x,CM iter X.env x=pure x:=by intro _;rfl):PS X (.Assign [.Name x pos'] (.ListComp elt [⟨tg,iter,ifs,0⟩] scope pos) spos) (tAsg (tComp wi ix g tc te) (gName i)):=by
 intro pins s σ H D I h;rw[exec_Assign_Name_used _ _ _ _ hsw];refine AA (EJ (AA (AA (thn (Uv S hc hi hg ht he I h (λE C o H' s' I' hns h1 h2 h3 q=>?_) hs) λ_ s' q=>AF (AF q)))));obtain⟨m,hns⟩:=hns;refine thn ((Ql hN hi' hx hf) _ s' σ H' (.ref E) (.ref E) _ I' rfl q) λ_ s2 ⟨σ2,H2,I2,q2⟩=>?_
 obtain⟨a1,_⟩:=I'.pin (C,o) (Ac _ (Ac _ (AC.mpr rfl)));obtain⟨b1,b2,b3,b4,_⟩:=I2.pin (C,o) (Ac _ (Ac _ (AC.mpr rfl)));refine⟨m,?_,λh' hs'=>⟨σ2,H2,I2.unpinned.turned (λb u hb e=>(hs'.2 b hb).trans e) b2 b3 (.inr h1) h2 h3,q2⟩⟩;obtain⟨oC,es,ep,hoC,r⟩:=hns;have e:=Av (hoC.symm.trans a1);subst e;exact⟨oC,es,ep,b1,r⟩
end
structure Drawer(prog:Ai)(w:A5)(it l:Addr)(xs:Array AM)(St:Nat->Heap->Prop):Prop where
 keep:∀ k h h',St k h->(∀ o,h.get? it=some o->h'.get? it=some o)->(∀ o,h.get? l=some o->h'.get? l=some o)->St k h'
 live:∀ k h,St k h->∃ o,h.get? it=some o/\∀ v,o.data≠.cell v
 item:∀ (A:BD) (k:Nat) (s:AR) (x:AM) (Q:AM->AR->Prop) (E:AM->AR->Prop),St k s.heap->xs[k]?=some x ->
  (∀ h',St (k+1) h'->Cm it s.heap h'->Q x { s with heap:=h' })->AQ (model prog w) A (Ap (.ref it)) Q E s
 fini:∀ (A:BD) (k:Nat) (s:AR) (Q:AM->AR->Prop) (E:AM->AR->Prop),A.handled=none->St k s.heap->xs[k]?=none ->
  (∀ h' e,Ef it s.heap h'->(∃ o,h'.get? e=some o/\o.cls=.type "StopIteration")->E (.ref e) { s with heap:=h' })->AQ (model prog w) A (Ap (.ref it)) Q E s
section
variable {prog:Ai}{w:A5}{A:BD}{E:AM->AR->Prop}{s:AR}
def fJ it l xs (hne:l≠it):Drawer prog w it l xs (λk h=>h.IsListIter it l k/\h.IsList l xs) where
 keep:=λk h h' st k1 k2=>⟨st.1.at k1,st.2.at k2⟩
 live:=λk h st=>by obtain⟨⟨o,e,_,d⟩,_⟩:=st;exact⟨o,e,λv z=>by rw[d]at z;cases z⟩
 item:=λA k s x Q E st hx hQ=>wpAny_nextOf_list_item st.1 st.2 hx λh' st' sb=>hQ h' ⟨st',st.2.extBut sb.extBut hne⟩ sb
 fini:=λA k s Q E hh st hx hE=>wpAny_nextOf_list_end hh st.1 st.2 hx hE
def cM(hit:s.heap.IsTupleIter it t i)(ht:s.heap.IsTuple t items)(hx:items[i]?=some x)
  (hQ:∀ h',h'.IsTupleIter it t (i+1)->Cm it s.heap h'->Q x { s with heap:=h' }):AQ (model prog w) A (Ap (.ref it)) Q E s:=by
 obtain⟨oi,hoi,hci,hdi⟩:=id hit;obtain⟨ot,hot,_,nt,hdt⟩:=ht;unfold Ap;refine AA (Ay hit.typeIs Cr (Az Cr hit.typeIs GR ?_ (GG _)));show AQ _ _ (field (.ref it) 0 >>= _) _ _ s;refine AA (Ao hoi hdi (x:=.ref t) rfl ?_);show AQ _ _ (field (.ref it) 1 >>= _) _ _ s;refine AA (Ao hoi hdi (x:=.int i 0) rfl ?_);show AQ _ _ (Jb (.ref t) >>= _) _ _ s;refine AA (Bd hot hdt ?_);simp[ hx];refine AA (KN hoi hdi ↥1 (AF ⟨x,rfl,AF (hQ _ ⟨_,CA _ hoi (Obj.isFreed_of_fields (Hf hdi _)),(Obj.cls_mapFields ..).trans hci,by rw[Hf hdi];simp[Di]⟩ (Be ..))⟩))
def ij(hh:A.handled=none)(hit:s.heap.IsTupleIter it t i)(ht:s.heap.IsTuple t items)(hx:items[i]?=none)
  (hE:∀ h' e,Ef it s.heap h'->(∃ o,h'.get? e=some o/\o.cls=.type "StopIteration")->E (.ref e) { s with heap:=h' }):AQ (model prog w) A (Ap (.ref it)) Q E s:=by
 obtain⟨oi,hoi,hci,hdi⟩:=id hit;obtain⟨ot,hot,_,nt,hdt⟩:=ht;unfold Ap;refine AA (Ay hit.typeIs Cr (Az Cr hit.typeIs GR ?_ (GG _)));show AQ _ _ (field (.ref it) 0 >>= _) _ _ s;refine AA (Ao hoi hdi (x:=.ref t) rfl ?_);show AQ _ _ (field (.ref it) 1 >>= _) _ _ s;refine AA (Ao hoi hdi (x:=.int i 0) rfl ?_);show AQ _ _ (Jb (.ref t) >>= _) _ _ s;refine AA (Bd hot hdt ?_);simp[ hx];refine AA (CP (AA (KN hoi hdi ↥1 ?_)));show AQ _ _ (newExc (.type "StopIteration") [] >>= _) _ _ _;refine AA ?_;simp[newExc];refine AA (A8 ?_ (by size_fits));refine AA (CB (a:=CU) rfl ?_);refine A8 ?_ (by size_fits);simp only[raiseNew];refine AA (HH ?_);(first | rw[show A.in1.handled=none from hh] | rw[hh]);refine AA (AF (IJ ?_));exact hE _ _ (((Be ..).extBut.push _).push _) ⟨_,AK _ rfl,rfl⟩
def MO it l xs (hne:l≠it):Drawer prog w it l xs (λk h=>h.IsTupleIter it l k/\h.IsTuple l xs) where
 keep:=λk h h' st k1 k2=>⟨let ⟨o,e,r⟩:=st.1;⟨o,k1 o e,r⟩,let ⟨o,e,r⟩:=st.2;⟨o,k2 o e,r⟩⟩
 live:=λk h st=>by obtain⟨⟨o,e,_,d⟩,_⟩:=st;exact⟨o,e,λv z=>by rw[d]at z;cases z⟩
 item:=λA k s x Q E st hx hQ=>cM st.1 st.2 hx λh' st' sb=>hQ h' ⟨st',st.2.extBut sb.extBut hne⟩ sb
 fini:=λA k s Q E hh st hx hE=>ij hh st.1 st.2 hx hE
structure ZAp(z TI TO i1 i2 l1 l2:Addr):Prop where
 a:ZipApart z TI TO i1 i2 l1 l2
 l1TI:l1≠TI
 l2TI:l2≠TI
structure ZSt(z TI TO i1 i2:Addr)(S1 S2:Nat->Heap->Prop)(k:Nat)(f0:AM)(h:Heap):Prop where
 z:HS h z TI TO f0
 ti:C7 h TI (.ref i1) (.ref i2)
 to:∃ a b,C7 h TO a b
 s1:S1 k h
 s2:S2 k h
variable {z TI TO i1 i2 l1 l2:Addr}{S1 S2:Nat->Heap->Prop}{xs ys:Array AM}{k:Nat}
def Wq{Q:AM->AR->Prop}(D:ZAp z TI TO i1 i2 l1 l2)(D1:Drawer prog w i1 l1 xs S1)(D2:Drawer prog w i2 l2 ys S2)(st:ZSt z TI TO i1 i2 S1 S2 k .none s.heap)(hx:xs[k]?=some x)(hy:ys[k]?=some y)
  (hQ:∀ h',ZSt z TI TO i1 i2 S1 S2 (k+1) (Di s.heap.objs.size) h'->C7 h' s.heap.objs.size x y ->
   (∀ c o,c≠z->c≠TO->c≠i1->c≠i2->s.heap.get? c=some o->h'.get? c=some o)->Q (.ref s.heap.objs.size) { s with heap:=h' }) :
  AQ (model prog w) A (Builtin.«zip.__next__» ⟨[.ref z],[]⟩) (λfin s'=>∃ v,fin=.done (.ret v)/\Q v s') E s:=by
 obtain⟨hz,hTI,⟨a,b,hTO⟩,st1,st2⟩:=st;obtain⟨⟨TIz,TOz,i1z,i2z,TITO,TIi1,TIi2,TOi1,TOi2,i12,l1z,l1TO,l1i1,l1i2,l2z,l2TO,l2i1,l2i2⟩,_,_⟩:=D;show AQ _ _ (field (.ref z) 2 >>= _) _ _ _;refine AA (Ao hz rfl (x:=.bool false) rfl ?_);show AQ _ _ (field (.ref z) 3 >>= _) _ _ _;refine AA (Ao hz rfl (x:=.ref TI) rfl (AA (Bd hTI rfl ?_)));show AQ _ _ (BO (.ref z) >>= _) _ _ _;refine AA ?_;unfold BO;refine AA (Ao hz rfl (x:=.none) rfl (AF (AA (CP (AA (Ao hz rfl (x:=.ref TO) rfl (AA (A0 hz ↥1 λh1 z1 b1=>?_))))))));simp only[if_true];refine AA ?_;simp only[FP,IK,EM,IU];refine AA (AA (FQ ?_));show AQ _ _ (Ap (.ref i1) >>= _) _ _ _;refine AA (D1.item _ k _ x _ _ (D1.keep _ _ _ st1 (λo e=>b1.extBut _ _ i1z e) λo e=>b1.extBut _ _ l1z e) hx λh2 t1 b2=>AF ?_);have o2:=b2.extBut _ _ TOi1 (b1.extBut _ _ TOz hTO);refine AA (Bd o2 rfl (AA (E8 o2 λh3 o3 b3=>?_)));have o3':C7 h3 TO x b:=o3;refine AA (GT (AF (AA (AA (FQ ?_)))));show AQ _ _ (Ap (.ref i2) >>= _) _ _ _;refine AA (D2.item _ k _ y _ _ (D2.keep _ _ _ st2 (λo e=>b3.extBut _ _ TOi2.symm (b2.extBut _ _ i12.symm (b1.extBut _ _ i2z e))) λo e=>b3.extBut _ _ l2TO (b2.extBut _ _ l2i1 (b1.extBut _ _ l2z e))) hy λh4 t2 b4=>AF ?_);have o4:=b4.extBut _ _ TOi2 o3';refine AA (Bd o4 rfl (AA (E8 o4 λh5 o5 b5=>?_)));have o5':C7 h5 TO x y:=o5;refine AA (GT (AF (AF (AA (Bd o5' rfl (AA (Dz ?_)))))));have hsz:h5.objs.size=s.heap.objs.size:=by rw[b5.1,b4.1,b3.1,b2.1,b1.1]
 have z5:=b5.extBut _ _ TOz.symm (b4.extBut _ _ i2z.symm (b3.extBut _ _ TOz.symm (b2.extBut _ _ i1z.symm z1)));have k5:∀ c o,c≠z->c≠TO->c≠i1->c≠i2->s.heap.get? c=some o->h5.get? c=some o:=λc o c1 c2 c3 c4 e=>b5.extBut _ _ c2 (b4.extBut _ _ c4 (b3.extBut _ _ c2 (b2.extBut _ _ c3 (b1.extBut _ _ c1 e))))
 have t1':=D1.keep _ _ _ t1 (λo e=>b5.extBut _ _ TOi1.symm (b4.extBut _ _ i12 (b3.extBut _ _ TOi1.symm e))) λo e=>b5.extBut _ _ l1TO (b4.extBut _ _ l1i2 (b3.extBut _ _ l1TO e))
 have t2':=D2.keep _ _ _ t2 (λo e=>b5.extBut _ _ TOi2.symm e) λo e=>b5.extBut _ _ l2TO e
 have hzlt:=AL z5;show AQ _ _ (CT (.ref z) (.ref h5.objs.size) >>= _) _ _ _;refine AA ?_;unfold CT;have z6:HS (h5.push { cls:=.type "tuple",data:=.seq #[x,y] }) z TI TO .ellipsis:=AB _ z5;refine AA (A0 z6 ↥1 λh7 z7 b7=>?_);have z7':HS h7 z TI TO (Di h5.objs.size):=z7;refine A0 z7' ↥1 λh8 z8 b8=>?_
 have z8':HS h8 z TI TO (Di h5.objs.size):=z8;have up:∀ c o,c≠z->h5.get? c=some o->h8.get? c=some o:=λc o c1 e=>b8.extBut _ _ c1 (b7.extBut _ _ c1 (AB _ e))
 have p8:=b8.extBut _ _ (Bb hzlt) (b7.extBut _ _ (Bb hzlt) (AK _ rfl));rw[hsz]at z8' p8;refine AF ⟨_,rfl,?_⟩;rw[hsz];have uu:=λc o c1 c2 c3 c4 e=>up c o c1 (k5 c o c1 c2 c3 c4 e)
 exact hQ h8 ⟨z8',uu _ _ TIz TITO TIi1 TIi2 hTI,⟨x,y,up _ _ TOz o5'⟩,D1.keep _ _ _ t1' (λo e=>up _ o i1z e) (λo e=>up _ o l1z e),D2.keep _ _ _ t2' (λo e=>up _ o i2z e) (λo e=>up _ o l2z e)⟩ p8 uu
theorem fK(hh:A.handled=none)(D:ZAp z TI TO i1 i2 l1 l2)(D1:Drawer prog w i1 l1 xs S1)(D2:Drawer prog w i2 l2 ys S2)(st:ZSt z TI TO i1 i2 S1 S2 k .none s.heap)(hend:xs[k]?=none\/ys[k]?=none)
  (hE:∀ h' e,(∀ c o,c≠z->c≠TO->c≠i1->c≠i2->s.heap.get? c=some o->h'.get? c=some o)->(∃ o,h'.get? e=some o/\o.cls=.type "StopIteration")->E (.ref e) { s with heap:=h' }) :
  AQ (model prog w) A (Builtin.«zip.__next__» ⟨[.ref z],[]⟩) Q E s:=by
 obtain⟨hz,hTI,⟨a,b,hTO⟩,st1,st2⟩:=st;obtain⟨⟨TIz,TOz,i1z,i2z,TITO,TIi1,TIi2,TOi1,TOi2,i12,l1z,l1TO,l1i1,l1i2,l2z,l2TO,l2i1,l2i2⟩,_,_⟩:=D;show AQ _ _ (field (.ref z) 2 >>= _) _ _ _;refine AA (Ao hz rfl (x:=.bool false) rfl ?_);show AQ _ _ (field (.ref z) 3 >>= _) _ _ _;refine AA (Ao hz rfl (x:=.ref TI) rfl (AA (Bd hTI rfl ?_)));show AQ _ _ (BO (.ref z) >>= _) _ _ _;refine AA ?_;unfold BO;refine AA (Ao hz rfl (x:=.none) rfl (AF (AA (CP (AA (Ao hz rfl (x:=.ref TO) rfl (AA (A0 hz ↥1 λh1 z1 b1=>?_))))))));simp only[if_true];have z1':HS h1 z TI TO .ellipsis:=z1;refine AA ?_;simp only[FP,IK,EM,IU];refine AA (AA (FQ ?_));show AQ _ _ (Ap (.ref i1) >>= _) _ _ _;have s1':=D1.keep _ _ _ st1 (λo e=>b1.extBut _ _ i1z e) λo e=>b1.extBut _ _ l1z e
 cases hx:xs[k]? with
 | none =>
  refine AA (D1.fini _ k _ _ _ hh s1' hx λh2 e b2 he=>?_);obtain⟨oe,hoe,hce⟩:=he;have z2:=b2 _ _ i1z.symm z1';have ez:e≠z:=λq=>by subst q;rw[z2]at hoe;cases hoe;simp at hce
  exact A0 z2 ↥1 λh3 _ b3=>hE h3 e (λc o c1 _ c3 _ q=>b3.extBut _ _ c1 (b2 _ _ c3 (b1.extBut _ _ c1 q))) ⟨oe,b3.extBut _ _ ez hoe,hce⟩
 | some x =>
  have hy:ys[k]?=none:=by rcases hend with q | q;(rw[hx]at q;cases q);exact q
  refine AA (D1.item _ k _ x _ _ s1' hx λh2 t1 b2=>AF ?_);have o2:=b2.extBut _ _ TOi1 (b1.extBut _ _ TOz hTO);refine AA (Bd o2 rfl (AA (E8 o2 λh3 o3 b3=>?_)));refine AA (GT (AF (AA (AA (FQ ?_)))));show AQ _ _ (Ap (.ref i2) >>= _) _ _ _;refine AA (D2.fini _ k _ _ _ hh (D2.keep _ _ _ st2 (λo e=>b3.extBut _ _ TOi2.symm (b2.extBut _ _ i12.symm (b1.extBut _ _ i2z e))) λo e=>b3.extBut _ _ l2TO (b2.extBut _ _ l2i1 (b1.extBut _ _ l2z e))) hy λh4 e b4 he=>?_);obtain⟨oe,hoe,hce⟩:=he;have z4:=b4 _ _ i2z.symm (b3.extBut _ _ TOz.symm (b2.extBut _ _ i1z.symm z1'));have ez:e≠z:=λq=>by subst q;rw[z4]at hoe;cases hoe;simp at hce
  exact A0 z4 ↥1 λh5 _ b5=>hE h5 e (λc o c1 c2 c3 c4 q=>b5.extBut _ _ c1 (b4 _ _ c4 (b3.extBut _ _ c2 (b2.extBut _ _ c3 (b1.extBut _ _ c1 q))))) ⟨oe,b5.extBut _ _ ez hoe,hce⟩
end
def Sq (b:Bool) (K:Ab) (H:Hp) (a:Addr) (xs:List V):Prop:=if b then SqT K H a xs else SqL K H a xs
def SIt (b:Bool) (it l:Addr) (k:Nat) (h:Heap):Prop:=if b then h.IsTupleIter it l k else h.IsListIter it l k
def SOb (b:Bool) (l:Addr) (its:Array AM) (h:Heap):Prop:=if b then h.IsTuple l its else h.IsList l its
theorem SIt.keep(st:SIt b it l k h)(e:∀ o,h.get? it=some o->h'.get? it=some o):SIt b it l k h':=by
 cases b with
 | false=>exact st.at e
 | true=>obtain⟨o,q,r⟩:=st;exact⟨o,e o q,r⟩
theorem SIt.live(st:SIt b it l k h):∃ o,h.get? it=some o/\∀ v,o.data≠.cell v:=by
 cases b with
 | false=>obtain⟨o,q,_,d⟩:=st;exact⟨o,q,λv z=>by rw[d]at z;cases z⟩
 | true=>obtain⟨o,q,_,d⟩:=st;exact⟨o,q,λv z=>by rw[d]at z;cases z⟩
theorem Rm b it l xs (hne:l≠it):Drawer prog w it l xs (λk h=>SIt b it l k h/\SOb b l xs h):=by
 cases b with
 | false=>exact fJ it l xs hne
 | true=>exact MO it l xs hne
section
variable {X:Cx}{pins:List (Addr×Obj)}{σ:St}{H:Hp}{s:AR}
theorem Inv.sq(I:Inv X pins σ H s)(h:Sq b X.K H a xs):∃ its,Vals xs its/\SOb b a its.toArray s.heap/\xs.length<=AD:=by
 cases b with
 | false=>obtain⟨its,r,p,z⟩:=I.list h;exact⟨its,r,p.isList,z⟩
 | true=>obtain⟨its,r,p,z⟩:=I.tuple h;exact⟨its,r,p,z⟩
theorem Inv.sq_inj(I:Inv X pins σ H s)(h:Sq b X.K H a xs)(h':Sq b X.K H a ys):xs=ys:=by
 cases b with
 | false=>exact I.list_inj h h'
 | true=>exact I.tuple_inj h h'
end
structure ZTn(b:Bool)(z TI TO i1 i2 a1 a2:Addr)(k:Nat)(h:Heap):Prop where
 z:HS h z TI TO .none
 ti:C7 h TI (.ref i1) (.ref i2)
 to:∃ a b,C7 h TO a b
 s1:SIt b i1 a1 k h
 s2:SIt b i2 a2 k h
section
variable {prog:Ai}{w:A5}{A:BD}{E:AM->AR->Prop}{s:AR}
abbrev PM (h:Heap) (l1:Addr):Heap:=h.push { cls:=.type "tuple_iterator",data:=.fields #[.ref l1,.int 0 0] }
abbrev Oq (h:Heap) (l1 l2:Addr):Heap:=(PM h l1).push { cls:=.type "tuple_iterator",data:=.fields #[.ref l2,.int 0 0] }
abbrev O6 (h:Heap) (l1 l2:Addr):Heap:=(Oq h l1 l2).push { cls:=.type "tuple",data:=.seq #[.ref h.objs.size,.ref (PM h l1).objs.size] }
abbrev NX (h:Heap) (l1 l2:Addr):Heap:=(O6 h l1 l2).push { cls:=.type "tuple",data:=.seq #[.none,.none] }
abbrev O1 (h:Heap) (l1 l2:Addr):Heap:=(NX h l1 l2).push { cls:=.type "zip",data:=.fields #[.none,.bool false,.bool false,.ref (Oq h l1 l2).objs.size,.ref (O6 h l1 l2).objs.size] }
def dM l1 l2 xs ys :
  IH (Builtin.«zip.__new__» ⟨[.type "zip",.ref l1,.ref l2],[]⟩) (λ_ R s=>s.heap.IsTuple l1 xs/\s.heap.IsTuple l2 ys/\R (.ok (.ret (.ref (NX s.heap l1 l2).objs.size))) { s with heap:=O1 s.heap l1 l2 }):=
 .of_wp λprog w A R s h=>by
  obtain⟨hp,g,d,tk,os⟩:=s;obtain⟨hl1,hl2,h⟩:=h;have sub0:=sub_zip;have T1:=hl1;have T2:Heap.IsTuple (Shared.heap ⟨hp.push { cls:=.type "tuple_iterator",data:=.fields #[.ref l1,.int 0 0] },g,d,tk,os⟩) l2 ys:=Jz hl2 _
  wp_walk using CF T1,CF T2
  exact⟨_,rfl,h⟩
def fA(hl1:s.heap.IsTuple l1 xs)(hl2:s.heap.IsTuple l2 ys)
  (h:∀ h',ZTn true (s.heap.objs.size+4) (s.heap.objs.size+2) (s.heap.objs.size+3) s.heap.objs.size (s.heap.objs.size+1) l1 l2 0 h'->(∀ c o,s.heap.get? c=some o->h'.get? c=some o)->Q (.ref (s.heap.objs.size+4)) { s with heap:=h' }) :
  AQ (model prog w) A (call (.type "zip") [.ref l1,.ref l2]) Q E s:=by
 refine Ft F.called_zip ∅ (F.typeCall_zip_2 _ _) (F.newCall_zip_2 _ _) (λobj=>F.args_object_init_3 obj _ _) F.entry_zip_new (dM l1 l2 xs ys) ⟨hl1,hl2,?_⟩;have z1:(PM s.heap l1).objs.size=s.heap.objs.size+1:=BQ ..;have z2:(Oq s.heap l1 l2).objs.size=s.heap.objs.size+2:=by rw[BQ,z1]
 have z3:(O6 s.heap l1 l2).objs.size=s.heap.objs.size+3:=by rw[BQ,z2]
 have z4:(NX s.heap l1 l2).objs.size=s.heap.objs.size+4:=by rw[BQ,z3]
 have up:∀ c o,(NX s.heap l1 l2).get? c=some o->(O1 s.heap l1 l2).get? c=some o:=λc o e=>AB _ e
 have g5:(O1 s.heap l1 l2).get? (NX s.heap l1 l2).objs.size=some _:=AK _ rfl;have g4:=up _ _ (AK _ rfl);have g3:=up _ _ (AB _ (AK _ rfl));have g2:=up _ _ (AB _ (AB _ (AK _ rfl)));rw[z2,z3,z4]at g5;rw[z1,z2]at g3;rw[z3]at g4;rw[z1]at g2;rw[z4];exact⟨⟨_,g5,rfl⟩,h _ ⟨g5,g3,⟨_,_,g4⟩,⟨_,(up _ _ (AB _ (AB _ (AB _ (AK _ rfl))))),rfl,rfl⟩,⟨_,g2,rfl,rfl⟩⟩ λc o x=>up _ _ (AB _ (AB _ (AB _ (AB _ x))))⟩
end
open AutoSeq1 (wpAny_loadPart')
def rngV (lo:Int) (n:Nat):List V:=(AI n).map λ(i:Nat)=>V.int (lo+(i:Int))
def Ou lo n:(rngV lo n).length=n:=by simp[rngV]
theorem UV{lo n acc}(h:Dc (λi v=>∃ t,v=.int (lo+i * 1) t) acc n):Vals (rngV lo n) acc.toList:=by
 obtain⟨hn,hi⟩:=h;have key:∀ xs us,xs.length=us.length->(∀ (i:Nat) x u,xs[i]?=some x->us[i]?=some u->RelV x u)->Vals xs us:=by
  intro xs;induction xs with
  | nil=>intro us hl _;cases us with
   | nil=>exact .nil
   | cons _ _=>cases hl
  | cons x xs ih=>intro us hl hr;cases us with
   | nil=>cases hl
   | cons u us=>exact .cons (hr 0 x u rfl rfl) (ih us (by simpa using hl) λi y v e1 e2=>hr (i+1) y v ‹_› ‹_›)
 refine key _ _ (by rw[Ou];simp[hn]) λi x u e1 e2=>?_
 unfold rngV at e1;rw[Am]at e1;cases e3:(AI n)[i]? with
 | none=>rw[e3]at e1;cases e1
 | some j =>
  rw[e3]at e1;have hj:j=i/\i < n:=by
   obtain⟨h1,h2⟩:=AZ.mp e3;rw[List.getElem_range]at h2;exact⟨h2.symm,by simpa using h1⟩
  obtain⟨rfl,hjn⟩:=hj;have e1':=(Av e1).symm;subst e1';obtain⟨t,ht⟩:=hi j u (by simpa using e2);exact⟨t,by rw[ht];simp⟩
section
variable {prog:Ai}{w:A5}{A:BD}{E:AM->AR->Prop}{s:AR}
theorem ZE{r a b c t u v}{n:Nat}(hh:A.handled=none)(hr:IsRange s.heap r a b c t u v)(hsmall:D3 a b c=true)(hn:CC a b c=n)(hlen:n<=2 ^ 24)
  (hQ:∀ h' tk acc,(∀ b o,s.heap.get? b=some o->h'.get? b=some o)->Dc (λi v=>∃ t,v=.int (a+i * c) t) acc n->Q acc.toList { s with heap:=h',toks:=tk }) :
  AQ (model prog w) A (collect (.ref r)) Q E s:=by
 refine AA (wpAny_runValue (Dl F.entry_proto_collect ?_));rw[ET F.plain_proto_collect _];refine AA (A8 (AF ⟨Dd IV _,Dl F.entry_list_iadd ?_⟩));rw[ET IV _];have hS:(s.heap.push { cls:=.type "list",data:=.seq [].toArray }).get? s.heap.objs.size=some { cls:=.type "list",data:=.seq [].toArray }:=AK _ rfl;have hr2:IsRange (s.heap.push { cls:=.type "list",data:=.seq [].toArray }) r a b c t u v:=AB _ hr;let RR:Result->AR->Prop:=λr s'=>match r with
  | .ok (.ret v)=>v=.ref s.heap.objs.size/\∃ h' tk acc c',s'={ s with heap:=h',toks:=tk }/\(∀ b o,s.heap.get? b=some o->h'.get? b=some o)/\h'.get? s.heap.objs.size=some { cls:=.type "list",dict:=none,data:=.seq acc c',slots:=#[] }/\Dc (λi v=>∃ t,v=.int (a+i * c) t) acc n
  | _=>False
 have go:∀ v s',RR (.ok (.ret v)) s'->AQ (model prog w) A (match v with | .ref a=>(do match (← load a).data with | .seq xs _=>pure xs.toList | _=>unsupported "internal:collect") | _=>unsupported "internal:collect") Q E s':=λv s' hR=>by
  obtain⟨rfl,h',tk,acc,c',rfl,hk,hS',hacc⟩:=hR;exact AA (wpAny_load hS' (AF (hQ h' tk acc hk hacc)))
 have base:=wpAny_extend_range (prog:=prog) (w:=w) (R:=RR) (s:={ s with heap:=s.heap.push { cls:=.type "list",data:=.seq [].toArray } }) hh hr2 hsmall hn hlen _ (.ref s.heap.objs.size) _ hS λh' tk acc' c' hk hS' hacc =>
  ⟨rfl,h',tk,acc',c',rfl,λb o e=>hk b o (Ag (AL e)) (AB _ e),hS',hacc⟩
 refine BE base (λfin s' h=>?_) (λe s' h=>BU h);cases fin with
 | done f=>cases f with
  | ret v=>exact go v s' h
  | next=>exact BU h
  | brk=>exact BU h
  | cont=>exact BU h
 | again c' =>
  refine⟨h.1,Fo h.2 λr s'' hr=>?_⟩;cases r with
  | error e=>exact BU hr
  | ok f=>cases f with
   | ret v=>exact go v s'' hr
   | next=>exact BU hr
   | brk=>exact BU hr
   | cont=>exact BU hr
def ee(r:Addr){a b c:Int}{t u v:Tok}{n:Nat}(hsmall:D3 a b c=true)(hn:CC a b c=n)(hlen:n<=2 ^ 24) :
  IH (Builtin.«tuple.__new__» ⟨[.type "tuple",.ref r],[]⟩) (λA R s=>A.handled=none/\s.heap.get? r=some { cls:=.type "range",data:=.fields #[.int a t,.int b u,.int c v] }/\∀ (h':Heap) (tk:Nat) (acc:Array AM),(∀ b o,s.heap.get? b=some o->h'.get? b=some o) ->
   Dc (λi v=>∃ t,v=.int (a+i * c) t) acc n->R (.ok (.ret (.ref h'.objs.size))) { s with heap:=h'.push { cls:=.type "tuple",data:=.seq acc },toks:=tk }):=
 .of_wp λprog w A R s h=>by
  obtain⟨hh,hr,h⟩:=h;have s1:=KO;have s2:=JE;have s3:=KP;have hT:s.TypeIs (.ref r) "range":=⟨_,hr,rfl⟩
  have hh1:A.in1.handled=none:=hh;have hr':=hr
  wp_walk using Cy hT,ZE hh1 hr' hsmall hn hlen
  intro h' tk acc hk hacc;show AQ _ _ (DU acc.toList.toArray >>= λv=>ret v) _ _ _;unfold DU;refine AA (A8 ?_ (show acc.toList.toArray.size<=AD by simp only[Gy];rw[hacc.1,BK];omega));refine AF ⟨_,rfl,?_⟩;exact h h' tk acc hk hacc
def Z1{r a b c t u v}{n:Nat}(hh:A.handled=none)(hr:s.heap.get? r=some { cls:=.type "range",data:=.fields #[.int a t,.int b u,.int c v] })(hsmall:D3 a b c=true)
  (hn:CC a b c=n) (hlen:n<=2 ^ 24)
  (h:∀ (h':Heap) tk acc,(∀ b o,s.heap.get? b=some o->h'.get? b=some o)->Dc (λi v=>∃ t,v=.int (a+i * c) t) acc n->Q (.ref h'.objs.size) { s with heap:=h'.push { cls:=.type "tuple",data:=.seq acc },toks:=tk }) :
  AQ (model prog w) A (call (.type "tuple") [.ref r]) Q E s:=
 Ft F.called_tuple ∅ (F.typeCall_tuple_1 _) (F.newCall_tuple_1 _) (λobj=>Ey obj _) F.entry_tuple_new (ee r hsmall hn hlen) ⟨hh,hr,λh' tk acc hk hacc=>⟨⟨_,AK _ rfl,rfl⟩,h h' tk acc hk hacc⟩⟩
end
section
variable {X:Cx}
def hV:CallR X (.type "range") (λxs H Q=>∃ j,xs=[.int j]/\∀ p,H p=none->Q (.ref p) (upd H p (.rng 0 j))):=by
 intro pins s σ H xs us Q I r h;obtain⟨j,rfl,q⟩:=h;obtain⟨u,rfl,t,rfl⟩:=vals1 r;refine Kz ⟨.ref s.heap.objs.size,_,I.laid (λb o e=>AB _ e) (AE _) (show ObjOk X.prog X.w _ _ _ (.rng 0 j) from ⟨_,_,_,AK _ rfl⟩),rfl,q _ (I.hok.fresh (AE _))⟩
def Zo:CallR X (.type "range") (λxs H Q=>∃ i j,xs=[.int i,.int j]/\∀ p,H p=none->Q (.ref p) (upd H p (.rng i j))):=by
 intro pins s σ H xs us Q I r h;obtain⟨i,j,rfl,q⟩:=h;obtain⟨u,u',rfl,⟨t,rfl⟩,⟨t',rfl⟩⟩:=vals2 r;refine K0 ⟨.ref s.heap.objs.size,_,I.laid (λb o e=>AB _ e) (AE _) (show ObjOk X.prog X.w _ _ _ (.rng i j) from ⟨_,_,_,AK _ rfl⟩),rfl,q _ (I.hok.fresh (AE _))⟩
def rsz{lo hi}:CC lo hi 1=(((hi - lo).toNat:Nat):Int):=by rw[Ke];split <;> omega
def Vw(hc:X.calm=true):CallR X (.type "list") (λxs H Q=>∃ p lo hi,xs=[.ref p]/\H p=some (.rng lo hi)/\(-(2 ^ 62)<=lo/\lo < 2 ^ 62/\-(2 ^ 62)<=hi/\hi < 2 ^ 62)/\(hi - lo).toNat<=2 ^ 24/\∀ l,H l=none->Q (.ref l) (upd H l (.lst (rngV lo (hi - lo).toNat)))):=by
 intro pins s σ H xs us Q I r h;obtain⟨p,lo,hi,rfl,hp,⟨b1,b2,b3,b4⟩,hl,q⟩:=h;obtain⟨u,rfl,rfl⟩:=vals1 r;obtain⟨t,t',t'',ho⟩:=(I.hok p _ hp)
 exact call_list_range (I.ok.hd hc) ho (JK b1 b2 b3 b4) rsz hl λh' tk acc c' hk e hacc=>⟨.ref s.heap.objs.size,_,I.laid hk (AE _) (show ObjOk X.prog X.w _ h' _ (.lst _) from ⟨by rw[Ou,BK];omega,acc.toList,c',UV hacc,by simpa using e⟩),rfl,q _ (I.hok.fresh (AE _))⟩
def Zj(hc:X.calm=true):CallR X (.type "tuple") (λxs H Q=>∃ p lo hi,xs=[.ref p]/\H p=some (.rng lo hi)/\(-(2 ^ 62)<=lo/\lo < 2 ^ 62/\-(2 ^ 62)<=hi/\hi < 2 ^ 62)/\(hi - lo).toNat<=2 ^ 24/\∀ l,H l=none->Q (.ref l) (upd H l (.tup (rngV lo (hi - lo).toNat)))):=by
 intro pins s σ H xs us Q I r h;obtain⟨p,lo,hi,rfl,hp,⟨b1,b2,b3,b4⟩,hl,q⟩:=h;obtain⟨u,rfl,rfl⟩:=vals1 r;obtain⟨t,t',t'',ho⟩:=(I.hok p _ hp)
 refine Z1 (I.ok.hd hc) ho (JK b1 b2 b3 b4) rsz hl λh' tk acc hk hacc=>?_
 have I1:Inv X pins σ H { s with heap:=h',toks:=tk }:=I.kept hk;exact⟨.ref h'.objs.size,_,I1.laid (λb o e=>AB _ e) (AE _) (show ObjOk X.prog X.w _ _ _ (.tup _) from ⟨by rw[Ou,BK];omega,acc.toList,UV hacc,by simpa using TupD.new h' acc⟩),rfl,q _ (I1.hok.fresh (AE _))⟩
theorem Wa:∀ {us},Vals (bs.map V.bl) us->LSm.BoolsAre us bs:=by
 induction bs with
 | nil=>intro us h;cases h;exact .nil
 | cons b bs ih=>intro us h;cases h with
  | cons r t=>cases r;exact .cons b (ih t)
def Y5(hc:X.calm=true):CallR X (.builtin "all") (λxs H Q=>∃ (p:Addr) (bs:List Bool),xs=[.ref p]/\SqL X.K H p (bs.map V.bl)/\Q (.bl (bs.all id)) H):=by
 intro pins s σ H xs us Q I r h;obtain⟨p,bs,rfl,hq,q⟩:=h;obtain⟨u,rfl,rfl⟩:=vals1 r;obtain⟨its,rv,pl,hz⟩:=I.list hq;have hb:=Wa rv;have hl:=pl.isList;have hlt:p < s.heap.objs.size:=by obtain⟨_,e,_⟩:=hl;exact AL e
 refine call_all_walk (Fu hl ⟨s.heap.objs.size,[s.heap.objs.size,p],[s.heap.objs.size],its.toArray.size,_,_,λi=>(bs[i]?).getD true,rfl,Jc (A:=X.A.in1) (I.ok.hd hc) _ p (Ag hlt) its.toArray,⟨⟨_,AK _ rfl,rfl,rfl⟩,hl.push _⟩,λi v s' Q' E' hP hQ=>?_,λh' tk hk=>?_⟩)
 ·obtain⟨b,e,rfl⟩:=hb.get i v (by simpa using hP);simp[e]at hQ;exact Bz hQ
 ·have e:((AI its.toArray.size).all λi=>(bs[i]?).getD true)=bs.all id:=by rw[Aa,hb.length];exact LSm.range_all bs
  rw[e];exact⟨.bl (bs.all id),H,I.kept (Gj hk),rfl,q⟩
end
def cf t items n dd sl x (e:AM->Bool) (j:Nat) hj (hit:e items[j]=true) (hno:∀ m hm,m < j->e items[m]=false) :
  IH (Builtin.«tuple.index» ⟨[.ref t,x],[]⟩) (λA R s=>s.heap.get? t=some { cls:=.type "tuple",dict:=dd,data:=.seq items n,slots:=sl }/\(∀ y,y∈items->Fp A.in1 s y x (e y))/\R (.ok (.ret (.int j s.toks))) { s with toks:=s.toks+1 }):=
 .of_wp λprog w A R s h=>by
  obtain⟨hp,g,d,tk,os⟩:=s;obtain⟨hl,he,h⟩:=h
  wp_walk using Gh hl
  show AQ _ _ (forIn [:min items.size items.size] (none,()) _) _ _ _;rw[IW];refine JT _ (λrest b s'=>b=(none,())/\s'=⟨hp,g,d,tk,os⟩/\∃ i,i<=j/\rest=Dr i (items.size - i) 1) _ ?_ ?_ _ _ ?_
  ·rintro i rest b s' ⟨rfl,rfl,k,hk,hr⟩;have hlt:k < items.size:=by lia
   obtain⟨m,hm⟩:∃ m,items.size - k=m+1:=⟨items.size - k - 1,by lia⟩
   rw[hm]at hr;injection hr with h1 h2;subst h1;have hi:items[i]?=some items[i]:=by simp
   simp only[hi];refine AA (he items[i] (Array.getElem_mem hlt) prog w _ _ ?_);by_cases hij:i=j
   ·subst hij;rw[hit];refine AA ?_;exact AA (GU (AF (AF (AF ⟨_,rfl,h⟩))))
   ·rw[hno i hlt ⋯];exact AF ⟨rfl,rfl,i+1,by lia,by rw[h2];congr 1;lia⟩
  ·rintro b s' ⟨rfl,rfl,k,hk,hr⟩;have q:items.size - k=0:=by have q:=congrArg G8 hr;simp at q;lia
   lia
  ·refine⟨rfl,rfl,0,Au _,?_⟩;simp
section
variable {X:Cx}
def rTupIndex (K:Ab):V->List V->Hp->VK->Prop:=λx vs H Q=>∃ t xs y j,x=.ref t/\vs=[y]/\SqT K H t xs/\flatV y=true/\xs.all flatV=true/\(xs.findIdx? λz=>eqV z y)=some j/\Q (.int j) H
def Zc:MtM X "tuple.index" (rTupIndex X.K):=by
 intro pins s σ H x vs v us Q I rx rv h;obtain⟨t,xs,y,j,rfl,rfl,hq,fy,fx,hj,q⟩:=h;cases rx;obtain⟨u,rfl,ru⟩:=rv.one;obtain⟨its,r,⟨⟨cls,dd,data,sl⟩,ho,hc,n,hd⟩,hz⟩:=I.tuple hq;simp only at hc hd;subst hc hd;have hlen:=r.length;obtain⟨hjl,hjt,hjn⟩:=E9.mp hj;have hiU:∀ m (hm:m < its.length),eqU y its[m]=eqV (xs[m]'⋯) y:=λm hm=>by
  have e1:xs[m]?=some (xs[m]'⋯):=by simp
  obtain⟨u',hu',ru'⟩:=r.get e1;have e2:=by rw[AY hm]at hu';exact Av hu'
  rw[e2];exact P7 ru' (AJ.mp fx _ (D8 _))
 refine Cu F.slot_tuple_index ⟨_,ho,rfl⟩ F.entry_tuple_index (F.args_tuple_index_2 _ _)
  (cf t its.toArray n dd sl u (eqU y) j ↥2 (by simp_all) (λm hm hmj=>by
   show eqU y its[m]=false;rw[hiU m ‹_›];exact FI.mpr (hjn m hmj))) ⟨ho,?_,?_⟩
 ·intro z hzm;exact Oh ru fy r fx z (by simp_all)
 ·exact⟨.int j,H,I.tok _,⟨_,rfl⟩,q⟩
end
section
variable {X:Cx}
theorem Same.upd(h:H p=none):Same H (upd H p o):=λb u e=>by rw[LG (Lc e h)];exact e
end
def fq(hg:Gl X x)(hm:X.mg x=none)(hv:B9 x=some (.type T))(hn:x≠"__name__":=by decide)(hd:(x == ("__debug__":Str))=false:=by decide):PE X (.Name x pos) (tC (.ty T)):=Ym hg hm hv rfl hn hd
def kH K (hK:X.K=K) (hc:X.calm=true) (h:PGs X es t) (hn:(B5 es X.env).length=n:=by rfl) (hst:(B5 es X.env).findIdx? (·.1)=none:=by rfl):PG X (.Tuple es k pos) (gTup K n t):=by
 subst hK;exact aH hc h hn hst
section
variable {prog:Ai}{w:A5}{A:BD}{E:AM->AR->Prop}{s:AR}
def YU(hT:T="list"\/T="tuple")(ho:s.heap.get? it=some o)(hc:o.cls=.type T)(hd:o.data=.seq vs.toArray n)(hI:Bp vs ns)(h64:vs.length < 64)
  (h:∀ (h1 h':Heap) out e ns',(∀ b o,s.heap.get? b=some o->h1.get? b=some o)->(∀ b o,h1.get? b=some o->h'.get? b=some o)->h'.get? h1.objs.size=some (Bx "list" out e)->Bp out.toList ns'->ns'.Perm ns->ns'.Pairwise (·<=·)->Q (.ref h1.objs.size) { s with heap:=h' }) :
  AQ (model prog w) A (call (.builtin "sorted") [.ref it]) Q E s:=by
 refine F5 kind_sorted K3 K4 (K5 _) ?_;unfold Builtin.«sorted»;refine AA (AF ?_);refine AA (wpAny_collect_seq it hT ho hc hd (λh1 hk1=>AA (FR ?_)) (by rw[Aa,BK];lia));have hoL:(h1.push (Bx "list" vs.toArray 0)).get? h1.objs.size=some (Bx "list" vs.toArray 0):=AK _ rfl;refine AA (BN (Az KQ ⟨_,hoL,rfl⟩ J0 (list_sort_tree hoL hI h64 λout ns' a1 a2 a3=>⟨_,rfl,?_⟩) (KR _)));obtain⟨e,he⟩:=sortedHeap_at hoL;refine AF ⟨_,rfl,h h1 _ out e ns' hk1 (λb ob q=>?_) he a1 a2 a3⟩;have hlt:=AL q;rw[sortedHeap_old (Ag hlt) (by rw[size_push'];exact C6 hlt)];exact AB _ q
end
theorem Tc:∀ {us ns},Bp us ns->Vals (ns.map V.int) us
 | _,_,.nil=>.nil
 | _,_,.cons _ t r=>.cons ⟨t,rfl⟩ (Tc r)
section
variable {X:Cx}
def cH:CallR X (.builtin "sorted") (λxs H Q=>∃ (p:Addr) (ns:List Int),xs=[.ref p]/\(SqL X.K H p (ns.map V.int)\/SqT X.K H p (ns.map V.int))/\ns.length < 64/\∀ l (ns':List Int),H l=none->ns'.Perm ns->ns'.Pairwise (·<=·)->Q (.ref l) (upd H l (.lst (ns'.map V.int)))):=by
 intro pins s σ H xs us Q I r h;obtain⟨p,ns,rfl,hq,hl,q⟩:=h;obtain⟨u,rfl,rfl⟩:=vals1 r;have go:∀ T o its n,(T="list"\/T="tuple")->s.heap.get? p=some o->o.cls=.type T->o.data=.seq its.toArray n->Vals (ns.map V.int) its->AQ (model X.prog X.w) X.A (call (.builtin "sorted") [.ref p]) (EP X pins σ Q) X.xe s:=λT o its n hT ho hc hd rv=>by
  have hlen:=rv.length;rw[Af]at hlen;refine YU hT ho hc hd (TL rv) ⋯ λh1 h' out e ns' k1 k2 he hI hp hs=>?_
  have I1:=I.kept (t':=s.toks) k1;have hl':ns'.length < 64:=by rw[hp.length_eq];exact hl
  exact⟨.ref h1.objs.size,_,I1.laid k2 (AE _) (show ObjOk X.prog X.w _ h' _ (.lst _) from ⟨by rw[Af,BK];lia,out.toList,e,Tc hI,by simpa using he⟩),rfl,q _ ns' (I1.hok.fresh (AE _)) hp hs⟩
 rcases hq with hq | hq
 ·obtain⟨its,rv,⟨o,n,e,c,_,d⟩,_⟩:=I.list hq;exact go "list" o its n (.inl rfl) e c d rv
 ·obtain⟨its,rv,⟨o,e,c,n,d⟩,_⟩:=I.tuple hq;exact go "tuple" o its n (.inr rfl) e c d rv
end
section
variable {prog:Ai}{w:A5}{A:BD}{E:AM->AR->Prop}{s:AR}
def eJ{items vl vu lo hi Q}(ht:Em s.heap t items)(hs:s.heap.IsSliceOf sl vl vu .none)(pl:E7 vl lo)(pu:E7 vu hi)
  (hw:HT.sIx items.size 0 lo=0/\HT.sIx items.size items.size hi=items.size) (h:Q (.ref t) s):AQ (model prog w) A (EF (.ref t) (.ref sl)) Q E s:=by
 obtain⟨os,hos,hcs,hds⟩:=id hs;have hTs:s.TypeIs (.ref sl) "slice":=⟨os,hos,hcs⟩
 unfold EF;try with_reducible refine BN ?_
 refine AA (I0 ht.typeIs ∅ ?_);refine AA (Ay ht.typeIs Bh (Az Bh ht.typeIs IT ?_ (Ig _ _)));show AQ _ _ (Ex (.ref t) >>= _) _ _ s;refine AA (Ki ht ?_);refine AA (Cy hTs ?_);rw[if_pos ∅];refine AA (HT.sliceApplied_gen hs pl pu ?_);have hyes:((((HT.sIx items.size 0 lo):Int) == 0 && (1:Int) == 1 && (HT.sIx items.size items.size hi - HT.sIx items.size 0 lo) == items.size)=true):=by
  rw[hw.1,hw.2];simp
 show AQ _ _ (if (((HT.sIx items.size 0 lo):Int) == 0 && 1 == 1 && (HT.sIx items.size items.size hi - HT.sIx items.size 0 lo) == items.size)=true then _ else _) _ _ s;rw[if_pos hyes];exact AA (AA (Cy ht.typeIs (AF (AA (CP (AF ⟨_,rfl,AF h⟩))))))
end
end L2
namespace D
open PySem L2
abbrev Fg:=Ab
inductive T where
 | a (v:V)
 | t (xs:List T)
 | l (xs:List T)
 | f (n:Str)
 | x (c:Str) (fs:List (Str×V))
 | w (xs:List T)
abbrev Dk:=Sum (List (Key×T)) (List (List Key×T))
inductive G where
 | v (t:T)
 | l (xs:List T)
 | r (xs:List T)
 | k (xs:List T)
 | d (kvs:Dk)
 | e (kvs:Dk)
noncomputable def isMut:G->Bool
 | .l _=>true
 | .d _=>true
 | _=>false
inductive S where
 | v (t:T)
 | l (xs:List T)
 | s (i:Nat)
 | d (kvs:Dk)
abbrev En:=List (Option G)
abbrev DE:=En->Option (S×En)
abbrev DT:=En->Option (Bool×En)
abbrev DA:=En->Option (List S×En)
inductive O where
 | nx (g:En) | rt (s:S) (g:En) | bk (g:En) | ct (g:En)
abbrev DS:=En->Option O
noncomputable def cOk:List V->Bool
 | [.int _]=>false
 | [.int _,.int _,.int _,.int _,.int _]=>false
 | .int _::_=>true
 | .ref _::_=>true
 | [.str x]=>decide (x="yes") || decide (x="no")
 | _=>false
def KT (K:Fg) (a:Addr) (xs:List V):Prop:=∃ (o:Obj) (its:Array AM) (n:Nat),K.lookup a=some o/\o.cls=.type "tuple"/\o.dict=none/\o.data=.seq its n/\its.size<=AD/\Vals xs its.toList/\cOk xs=true
def Tp (K:Fg) (H:Hp) (p:Addr) (vs:List V):Prop:=H p=some (.tup vs)\/KT K p vs
def Tp.sq(h:Tp K H p vs):SqT K H p vs:=by
 rcases h with h | ⟨o,its,n,a,b,c,d,e,f,_⟩
 ·exact SqT.of h
 ·exact .inr ⟨o,its,n,a,b,d,e,f⟩
def Tp.of(h:H p=some (.tup vs)):Tp K H p vs:=.inl h
def KW (K:Fg) (a:Addr) (xs:List V):Prop:=∃ (o:Obj) (its:Array AM) (n:Nat),K.lookup a=some o/\o.cls=.type "tuple"/\o.dict=none/\o.data=.seq its n/\its.size<=AD/\Vals xs its.toList
def KW.sq(h:KW K p vs):SqT K H p vs:=let ⟨o,its,n,a,b,_,d,e,f⟩:=h;.inr ⟨o,its,n,a,b,d,e,f⟩
def KL (K:Fg) (a:Addr) (xs:List V):Prop:=∃ (o:Obj) (its:Array AM) (n:Nat),K.lookup a=some o/\o.cls=.type "list"/\o.dict=none/\o.data=.seq its n/\its.size<=AD/\Vals xs its.toList
def KF (K:Fg) (H:Hp) (p:Addr) (vs:List V):Prop:=(∃ o,H p=some (.frz o (.lst vs)))\/KL K p vs
def XOk (K:Fg) (H:Hp) (p:Addr) (c:Str) (fs:List (Str×V)):Prop:=∃ (C:Addr) (d:Option Addr),CS K A4 c=some (some (.ref C)) /\
 H p=some (.ext λh=>∃ o,h.get? p=some o/\o.cls=.ref C/\o.dict=d/\PySem.W.notCls o=true)/\((d=none/\fs=[])\/∃ dx,d=some dx/\H dx=some (.xd fs))
def FOk (K:Fg) (v:V) (n:Str):Prop:=∃ p,v=.ref p/\CS K A4 n=some (some (.ref p))
mutual
noncomputable def Im (K:Fg) (H:Hp):V->T->Prop
 | v,.a u=>v=u
 | v,.t ts=>∃ p vs,v=.ref p/\Tp K H p vs/\Ims K H vs ts
 | v,.l ts=>∃ p vs,v=.ref p/\KF K H p vs/\Ims K H vs ts
 | v,.f n=>FOk K v n
 | v,.x c fs=>∃ p,v=.ref p/\XOk K H p c fs
 | v,.w ts=>∃ p vs,v=.ref p/\KW K p vs/\Ims K H vs ts
noncomputable def Ims (K:Fg) (H:Hp):List V->List T->Prop
 | vs,[]=>vs=[]
 | vs,t::ts=>∃ v r,vs=v::r/\Im K H v t/\Ims K H r ts
end
structure W where
 L:List Addr
 R:Addr->Prop
structure Fr where
 H0:Hp
 fx:List Addr
 pins:List (Nat×Addr)
def Evo (L:List Addr) (H H':Hp):Prop:=∀ b o,H b=some o->b∉L->H' b=some o
noncomputable def Mu:HO->Prop
 | .lst _=>True
 | .dK _=>True
 | .dT _=>True
 | _=>False
def LL (L:List Addr) (H:Hp):Prop:=∀ p∈L,∃ o,H p=some o/\Mu o
def Evo.refl:Evo L H H:=λ_ _ h _=>h
def Evo.trans(a:Evo L H H1)(b:Evo L H1 H2):Evo L H H2:=λc o h n=>b c o (a c o h n) n
def Evo.wide(a:Evo L' H H')(h:∀ p∈L',p∈L):Evo L H H':=λc o e n=>a c o e λz=>n (h c z)
def Evo.new(h:H p=none):Evo L H (upd H p o):=λb u e _=>by rw[LG (Lc e h)];exact e
def Evo.of_same(h:Same H H'):Evo L H H':=λb u e _=>h b u e
def Po(e:Evo L H H')(hL:LL L H)(h:Tp K H p vs):Tp K H' p vs:=by
 rcases h with h | h
 ·refine .inl (e _ _ h λz=>?_);obtain⟨o,q,m⟩:=hL p z;rw[h]at q;cases q;exact m
 ·exact .inr h
def KF.evo(e:Evo L H H')(hL:LL L H)(h:KF K H p vs):KF K H' p vs:=by
 rcases h with ⟨o,h⟩ | h
 ·refine .inl ⟨o,e _ _ h λz=>?_⟩;obtain⟨o,q,m⟩:=hL p z;rw[h]at q;cases q;exact m
 ·exact .inr h
def XOk.evo(e:Evo L H H')(hL:LL L H)(h:XOk K H p c fs):XOk K H' p c fs:=by
 obtain⟨C,d,h1,h2,h3⟩:=h;refine⟨C,d,h1,e _ _ h2 λz=>?_,h3.imp id λ⟨dx,a,b⟩=>⟨dx,a,e _ _ b λz=>?_⟩⟩
 ·obtain⟨o,q,m⟩:=hL p z;rw[h2]at q;cases q;exact m
 ·obtain⟨o,q,m⟩:=hL dx z;rw[b]at q;cases q;exact m
mutual
theorem Im.evo(e:Evo L H H')(hL:LL L H):∀ {v t},Im K H v t->Im K H' v t
 | _,.a _,h=>h
 | _,.t _,h=>by
  obtain⟨p,vs,rfl,hs,hi⟩:=h;exact⟨p,vs,rfl,Po e hL hs,Ims.evo e hL hi⟩
 | _,.l _,h=>by
  obtain⟨p,vs,rfl,hs,hi⟩:=h;exact⟨p,vs,rfl,hs.evo e hL,Ims.evo e hL hi⟩
 | _,.f _,h=>by
  unfold Im at h ⊢;exact h
 | _,.x _ _,h=>by
  obtain⟨p,rfl,hs⟩:=h;exact⟨p,rfl,hs.evo e hL⟩
 | _,.w _,h=>by
  obtain⟨p,vs,rfl,hs,hi⟩:=h;exact⟨p,vs,rfl,hs,Ims.evo e hL hi⟩
theorem Ims.evo(e:Evo L H H')(hL:LL L H):∀ {vs:List V} {ts:List T},Ims K H vs ts->Ims K H' vs ts
 | _,[],h=>h
 | _,_::_,h=>by
  unfold Ims at h ⊢;obtain⟨v,r,rfl,h1,h2⟩:=h;exact⟨v,r,rfl,Im.evo e hL h1,Ims.evo e hL h2⟩
end
section
variable {K:Fg}{H H':Hp}
def Ims.nil:Ims K H [] []:=rfl
def Ims.cons(h:Im K H v t)(hs:Ims K H vs ts):Ims K H (v::vs) (t::ts):=by unfold Ims;exact⟨v,vs,rfl,h,hs⟩
def Ims.inv(h:Ims K H vs (t::ts)):∃ v r,vs=v::r/\Im K H v t/\Ims K H r ts:=by unfold Ims at h;exact h
def Ims.inv0(h:Ims K H vs []):vs=[]:=by unfold Ims at h;exact h
theorem Ims.len:∀ {vs ts},Ims K H vs ts->vs.length=ts.length
 | _,[],h=>by rw[h.inv0];rfl
 | _,_::_,h=>by obtain⟨v,r,rfl,_,h2⟩:=h.inv;simp[h2.len]
theorem Ims.app:∀ {vs us ts ss},Ims K H vs ts->Ims K H us ss->Ims K H (vs++us) (ts++ss)
 | _,_,[],_,h,h'=>by rw[h.inv0];exact h'
 | _,_,_::_,_,h,h'=>by obtain⟨v,r,rfl,h1,h2⟩:=h.inv;exact .cons h1 (h2.app h')
def Ims.one(h:Im K H v t):Ims K H [v] [t]:=.cons h .nil
theorem Ims.get:∀ {vs ts} {i:Nat} {t},Ims K H vs ts->ts[i]?=some t->∃ v,vs[i]?=some v/\Im K H v t
 | _,[],_,_,_,e=>by simp at e
 | _,_::_,0,_,h,e=>by obtain⟨v,r,rfl,h1,h2⟩:=h.inv;simp at e;subst e;exact⟨v,rfl,h1⟩
 | _,_::_,i+1,_,h,e=>by obtain⟨v,r,rfl,h1,h2⟩:=h.inv;simpa using h2.get ‹_›
theorem Ims.take:∀ n {vs ts},Ims K H vs ts->Ims K H (vs.take n) (ts.take n)
 | 0,_,_,_=>by simp;exact .nil
 | _+1,_,[],h=>by rw[h.inv0];exact .nil
 | n+1,_,_::_,h=>by obtain⟨v,r,rfl,h1,h2⟩:=h.inv;exact .cons h1 (h2.take n)
theorem Ims.drop:∀ n {vs ts},Ims K H vs ts->Ims K H (vs.drop n) (ts.drop n)
 | 0,_,_,h=>h
 | _+1,_,[],h=>by rw[h.inv0];exact .nil
 | n+1,_,_::_,h=>by obtain⟨v,r,rfl,h1,h2⟩:=h.inv;exact h2.drop n
theorem Ims.set:∀ {vs ts} i {v t},Ims K H vs ts->Im K H v t->Ims K H (vs.set i v) (ts.set i t)
 | _,[],_,_,_,h,_=>by rw[h.inv0];exact .nil
 | _,_::_,0,_,_,h,h'=>by obtain⟨v,r,rfl,h1,h2⟩:=h.inv;exact .cons h' h2
 | _,_::_,i+1,_,_,h,h'=>by obtain⟨v,r,rfl,h1,h2⟩:=h.inv;exact .cons h1 (h2.set i h')
theorem Ims.erase:∀ {vs ts} i,Ims K H vs ts->Ims K H (vs.eraseIdx i) (ts.eraseIdx i)
 | _,[],_,h=>by rw[h.inv0];exact .nil
 | _,_::_,0,h=>by obtain⟨v,r,rfl,h1,h2⟩:=h.inv;exact h2
 | _,_::_,i+1,h=>by obtain⟨v,r,rfl,h1,h2⟩:=h.inv;exact .cons h1 (h2.erase i)
theorem Ims.rev:∀ {vs ts},Ims K H vs ts->Ims K H vs.reverse ts.reverse
 | _,[],h=>by rw[h.inv0];exact .nil
 | _,_::_,h=>by obtain⟨v,r,rfl,h1,h2⟩:=h.inv;simp;exact h2.rev.app (.one h1)
theorem Ims.atoms:∀ vs,Ims K H vs (vs.map T.a)
 | []=>.nil
 | v::r=>.cons rfl (Ims.atoms r)
theorem Ims.of_atoms:∀ {vs us},Ims K H vs (us.map T.a)->vs=us
 | _,[],h=>h.inv0
 | _,_::_,h=>by obtain⟨v,r,rfl,h1,h2⟩:=h.inv;unfold Im at h1;rw[h1,Ims.of_atoms h2]
def Im.atom:Im K H v (.a v):=rfl
theorem Im.tup(h:H p=some (.tup vs))(hs:Ims K H vs ts):Im K H (.ref p) (.t ts):=by unfold Im;exact⟨p,vs,rfl,Tp.of h,hs⟩
def Im.inv(h:Im K H v (.t ts)):∃ p vs,v=.ref p/\Tp K H p vs/\Ims K H vs ts:=by unfold Im at h;exact h
def Im.invl(h:Im K H v (.l ts)):∃ p vs,v=.ref p/\KF K H p vs/\Ims K H vs ts:=by unfold Im at h;exact h
def Im.fn(h:FOk K v n):Im K H v (.f n):=by unfold Im;exact h
def Im.invf(h:Im K H v (.f n)):FOk K v n:=by unfold Im at h;exact h
def Im.invw(h:Im K H v (.w ts)):∃ p vs,v=.ref p/\KW K p vs/\Ims K H vs ts:=by unfold Im at h;exact h
def Im.inva(h:Im K H v (.a u)):v=u:=by unfold Im at h;exact h
end
def KF.sq(h:KF K H p vs):SqL K H p vs:=by
 rcases h with h | h
 ·exact .inl (.inr h)
 ·exact .inr h
def KF.of(h:SqL K H p vs)(n:∀ us,H p≠some (.lst us)):KF K H p vs:=by
 rcases h with (h | h) | h
 ·exact absurd h (n vs)
 ·exact .inl h
 ·exact .inr h
noncomputable def DOk (K:Fg) (H:Hp):HO->Dk->Prop
 | .dK l,.inl kvs=>EI (λa b=>a.1=b.1/\Im K H a.2 b.2) l kvs
 | .dT l,.inr kvs=>EI (λa b=>a.1=b.1/\Im K H a.2 b.2) l kvs
 | _,_=>False
def DOk.mu(h:DOk K H o kvs):Mu o:=by
 unfold DOk at h;split at h
 ·trivial
 ·trivial
 ·exact h.elim
theorem DOk.evo(e:Evo L H H')(hL:LL L H)(h:DOk K H o kvs):DOk K H' o kvs:=by
 unfold DOk at h ⊢;split at h
 ·exact Paired.mapP h λ_ _ z=>⟨z.1,z.2.evo e hL⟩
 ·exact Paired.mapP h λ_ _ z=>⟨z.1,z.2.evo e hL⟩
 ·exact h.elim
noncomputable def GOk (K:Fg) (w:W) (H:Hp) (v:V):G->Prop
 | .v t=>Im K H v t
 | .l xs=>∃ p vs,v=.ref p/\p∈w.L/\H p=some (.lst vs)/\Ims K H vs xs
 | .r xs=>∃ p vs,v=.ref p/\Ims K H vs xs/\H p=some (.lst vs)/\p∉w.L/\w.R p
 | .k xs=>∃ p vs,v=.ref p/\Ims K H vs xs/\KF K H p vs
 | .d kvs=>∃ p o,v=.ref p/\p∈w.L/\H p=some o/\DOk K H o kvs
 | .e kvs=>∃ p o,v=.ref p/\DOk K H o kvs/\H p=some o/\p∉w.L/\w.R p
theorem GOk.own(m:isMut g=true)(h:GOk K w H v g):∃ p,v=.ref p/\p∈w.L:=by
 cases g with
 | l xs=>obtain⟨p,vs,e,m,_⟩:=h;exact⟨p,e,m⟩
 | d xs=>obtain⟨p,vs,e,m,_⟩:=h;exact⟨p,e,m⟩
 | v _=>cases m
 | r _=>cases m
 | k _=>cases m
 | e _=>cases m
def Ow (C:Fr) (p:Addr):Prop:=p∈C.fx\/C.H0 p=none
structure Rep(K:Fg)(C:Fr)(w:W)(Γ:En)(σ:St)(H:Hp):Prop where
 len:σ.length=Γ.length
 val:∀ (i:Nat) g,Γ[i]?=some (some g)->∃ v,σ[i]?=some (some v)/\GOk K w H v g
 apart:∀ (i j:Nat) p g g',isMut g=true->isMut g'=true->Γ[i]?=some (some g)->Γ[j]?=some (some g')->σ[i]?=some (some (.ref p))->σ[j]?=some (some (.ref p))->i=j
 lst:LL w.L H
 own:∀ p∈w.L,Ow C p
 ra:∀ p,w.R p->∃ o,H p=some o
 rl:∀ p,w.R p->p∉w.L
 frame:∀ b o,C.H0 b=some o->b∉C.fx->H b=some o
 pin:∀ q∈C.pins,σ[q.1]?=some (some (.ref q.2))/\∃ xs,Γ[q.1]?=some (some (.l xs))
noncomputable def SOk (K:Fg) (C:Fr) (w:W) (σ:St) (H:Hp) (v:V):S->Prop
 | .v t=>Im K H v t
 | .l xs=>∃ p vs,v=.ref p/\p∉w.L/\¬ w.R p/\Ow C p/\H p=some (.lst vs)/\Ims K H vs xs
 | .s i=>σ[i]?=some (some v)
 | .d kvs=>∃ p o,v=.ref p/\p∉w.L/\¬ w.R p/\Ow C p/\H p=some o/\DOk K H o kvs
section
variable {K:Fg}{C:Fr}{w:W}{Γ Γ':En}{σ:St}{H H':Hp}
theorem GOk.evo(e:Evo w.L H H')(hL:LL w.L H)(hl:isMut g=false)(h:GOk K w H v g):GOk K w H' v g:=by
 cases g with
 | v t=>exact Im.evo e hL h
 | l xs=>cases hl
 | d xs=>cases hl
 | e kvs =>
  obtain⟨p,o,rfl,hi,h⟩:=h;exact⟨p,o,rfl,hi.evo e hL,e _ _ h.1 h.2.1,h.2⟩
 | r xs =>
  obtain⟨p,vs,rfl,hi,h⟩:=h;exact⟨p,vs,rfl,hi.evo e hL,e _ _ h.1 h.2.1,h.2⟩
 | k xs =>
  obtain⟨p,vs,rfl,hi,h⟩:=h;exact⟨p,vs,rfl,hi.evo e hL,h.evo e hL⟩
theorem SOk.evo(e:Evo w.L H H')(hL:LL w.L H)(h:SOk K C w σ H v s):SOk K C w σ H' v s:=by
 cases s with
 | v t=>exact Im.evo e hL h
 | l xs =>
  obtain⟨p,vs,rfl,n1,n2,o,h1,h2⟩:=h;exact⟨p,vs,rfl,n1,n2,o,e _ _ h1 n1,h2.evo e hL⟩
 | s i=>exact h
 | d kvs =>
  obtain⟨p,o,rfl,n1,n2,ow,h1,h2⟩:=h;exact⟨p,o,rfl,n1,n2,ow,e _ _ h1 n1,h2.evo e hL⟩
def SOk.atom:SOk K C w σ H v (.v (.a v)):=rfl
theorem SOk.inva(h:SOk K C w σ H v (.v (.a u))):v=u:=by
 have h':Im K H v (.a u):=h;exact h'.inva
def SOk.invt(h:SOk K C w σ H v (.v (.t ts))):∃ p vs,v=.ref p/\Tp K H p vs/\Ims K H vs ts:=h.inv
def Rep.evo0(r:Rep K C w Γ σ H)(e:∀ b o,H b=some o->H' b=some o):Rep K C w Γ σ H' where
 len:=r.len
 val:=λi g h=>by
  obtain⟨v,e1,e2⟩:=r.val i g h;refine⟨v,e1,?_⟩;cases g with
  | l xs =>
   obtain⟨p,vs,rfl,hp,h1,h2⟩:=e2;exact⟨p,vs,rfl,hp,e _ _ h1,h2.evo (λb o h _=>e b o h) r.lst⟩
  | d xs =>
   obtain⟨p,o,rfl,hp,h1,h2⟩:=e2;exact⟨p,o,rfl,hp,e _ _ h1,h2.evo (λb o h _=>e b o h) r.lst⟩
  | v t=>exact GOk.evo (λb o h _=>e b o h) r.lst rfl e2
  | r xs=>exact GOk.evo (λb o h _=>e b o h) r.lst rfl e2
  | k xs=>exact GOk.evo (λb o h _=>e b o h) r.lst rfl e2
  | e xs=>exact GOk.evo (λb o h _=>e b o h) r.lst rfl e2
 apart:=r.apart
 lst:=λp hp=>by obtain⟨o,h,m⟩:=r.lst p hp;exact⟨o,e _ _ h,m⟩
 own:=r.own
 ra:=λp hp=>by obtain⟨o,h⟩:=r.ra p hp;exact⟨o,e _ _ h⟩
 rl:=r.rl
 frame:=λb o h n=>e _ _ (r.frame b o h n)
 pin:=r.pin
def Rep.same(r:Rep K C w Γ σ H)(e:Same H H'):Rep K C w Γ σ H':=r.evo0 e
def Rep.new(r:Rep K C w Γ σ H)(h:H p=none):Rep K C w Γ σ (upd H p o):=r.evo0 λb u e=>by rw[LG (Lc e h)];exact e
def Rep.fresh(r:Rep K C w Γ σ H)(h:H p=none):p∉w.L/\¬ w.R p/\Ow C p:=by
 refine⟨λz=>?_,λz=>?_,?_⟩
 ·obtain⟨vs,e,_⟩:=r.lst p z;rw[h]at e;cases e
 ·obtain⟨o,e⟩:=r.ra p z;rw[h]at e;cases e
 ·by_cases q:p∈C.fx
  ·exact .inl q
  ·refine .inr ?_;cases e:C.H0 p with
   | none=>rfl
   | some o=>rw[r.frame p o e q]at h;cases h
def Rep.newl(r:Rep K C w Γ σ H)(h:H p=none)(hi:Ims K H vs ts):SOk K C w σ (upd H p (.lst vs)) (.ref p) (.l ts):=by
 obtain⟨a,b,c⟩:=r.fresh h;exact⟨p,vs,rfl,a,b,c,Ld,hi.evo (Evo.new h) r.lst⟩
def Rep.newt(r:Rep K C w Γ σ H)(h:H p=none)(hi:Ims K H vs ts):SOk K C w σ (upd H p (.tup vs)) (.ref p) (.v (.t ts)):=Im.tup Ld (hi.evo (Evo.new h) r.lst)
def Rep.put3(r:Rep K C w Γ σ H)(m0:isMut g0=true)(m1:isMut g1=true)(hpin:∀ xs,g0=.l xs->∃ ys,g1=.l ys)(hi:Γ[i]?=some (some g0))(hp:σ[i]?=some (some (.ref p)))(ev1:Evo [p] H H')(hp':H' p=some ob)(mb:Mu ob)(hq:p∈w.L)(hu:GOk K w H' (.ref p) g1) :
  Rep K C w (Γ.set i (some g1)) σ H'/\Evo w.L H H':=by
 have hiΓ:=(AZ.mp hi).1;have ev:=ev1.wide λq hq'=>AC.mp hq' ▸ hq
 have ne:∀ {c:Addr} {o:HO},c≠p->H c=some o->H' c=some o:=λn e=>ev1 _ _ e λz=>n (AC.mp z)
 refine⟨⟨by simpa using r.len,λj g h=>?_,λj k c g g' mg mg' h1 h2 h3 h4=>?_,λc hc=>?_,r.own,λc hc=>?_,r.rl,λb o h n=>?_,λc hc=>?_⟩,ev⟩
 ·by_cases hj:j=i
  ·subst hj;rw[Aj hiΓ]at h;cases h;exact⟨_,hp,hu⟩
  ·rw[AO (Ax hj)]at h;obtain⟨v,e1,e2⟩:=r.val j g h;refine⟨v,e1,?_⟩;cases g with
   | l zs =>
    obtain⟨c,vs',rfl,hc,h1,h2⟩:=e2;have:c≠p:=λz=>hj (r.apart j i p _ _ rfl m0 h hi (z ▸ e1) hp)
    exact⟨c,vs',rfl,hc,ne this h1,h2.evo ev r.lst⟩
   | d zs =>
    obtain⟨c,vs',rfl,hc,h1,h2⟩:=e2;have:c≠p:=λz=>hj (r.apart j i p _ _ rfl m0 h hi (z ▸ e1) hp)
    exact⟨c,vs',rfl,hc,ne this h1,h2.evo ev r.lst⟩
   | v t=>exact GOk.evo ev r.lst rfl e2
   | r zs=>exact GOk.evo ev r.lst rfl e2
   | k zs=>exact GOk.evo ev r.lst rfl e2
   | e zs=>exact GOk.evo ev r.lst rfl e2
 ·have back:∀ (m:Nat) g,isMut g=true->(Γ.set i (some g1))[m]?=some (some g)->∃ g',isMut g'=true/\Γ[m]?=some (some g'):=λm g mg h=>by
   by_cases hm:m=i
   ·subst hm;exact⟨g0,m0,hi⟩
   ·rw[AO (Ax hm)]at h;exact⟨g,mg,h⟩
  obtain⟨z1,y1,g1⟩:=back j g mg h1;obtain⟨z2,y2,g2⟩:=back k g' mg' h2;exact r.apart j k c z1 z2 y1 y2 g1 g2 h3 h4
 ·by_cases hcp:c=p
  ·subst hcp;exact⟨ob,hp',mb⟩
  ·obtain⟨o,e,m⟩:=r.lst c hc;exact⟨o,ne hcp e,m⟩
 ·have:c≠p:=λz=>r.rl c hc (z ▸ hq)
  obtain⟨o,e⟩:=r.ra c hc;exact⟨o,ne this e⟩
 ·by_cases hb:b=p
  ·subst hb;rcases r.own b hq with z | z
   ·exact absurd z n
   ·rw[z]at h;cases h
  ·exact ne hb (r.frame b o h n)
 ·obtain⟨h1,zs,h2⟩:=r.pin c hc;refine⟨h1,?_⟩;by_cases hm:c.1=i
  ·rw[hm,hi]at h2;cases h2;obtain⟨ys,e⟩:=hpin zs rfl;exact⟨ys,by rw[hm,Aj hiΓ,e]⟩
  ·exact⟨zs,by rw[AO (Ax hm)];exact h2⟩
def Rep.put2(r:Rep K C w Γ σ H)(hi:Γ[i]?=some (some (.l xs)))(hp:σ[i]?=some (some (.ref p)))(ev1:Evo [p] H H')(hp':H' p=some (.lst us))(hu:Ims K H' us ys) :
  Rep K C w (Γ.set i (some (.l ys))) σ H'/\Evo w.L H H':=by
 obtain⟨v,e1,q,vs,rfl,hq,hv,_⟩:=r.val i _ hi;rw[hp]at e1;cases e1;exact r.put3 rfl rfl (λ_ _=>⟨ys,rfl⟩) hi hp ev1 hp' trivial hq ⟨p,us,rfl,hq,hp',hu⟩
def Rep.putD(r:Rep K C w Γ σ H)(hi:Γ[i]?=some (some (.d kvs)))(hp:σ[i]?=some (some (.ref p)))(hu:DOk K H ob kvs') :
  Rep K C w (Γ.set i (some (.d kvs'))) σ (upd H p ob)/\Evo w.L H (upd H p ob):=by
 obtain⟨v,e1,q,vs,rfl,hq,hv,_⟩:=r.val i _ hi;rw[hp]at e1;cases e1;have ev1:Evo [p] H (upd H p ob):=λb o e n=>by rw[LG (λz=>n (AC.mpr z))];exact e
 have hu':=hu.evo (ev1.wide λq hq'=>AC.mp hq' ▸ hq) r.lst;exact r.put3 rfl rfl (λ_ e=>by cases e) hi hp ev1 Ld hu'.mu hq ⟨p,ob,rfl,hq,Ld,hu'⟩
def Rep.put(r:Rep K C w Γ σ H)(hi:Γ[i]?=some (some (.l xs)))(hp:σ[i]?=some (some (.ref p)))(hu:Ims K H us ys) :
  Rep K C w (Γ.set i (some (.l ys))) σ (upd H p (.lst us))/\Evo w.L H (upd H p (.lst us)):=by
 obtain⟨v,e1,q,vs,rfl,hq,hv,_⟩:=r.val i _ hi;rw[hp]at e1;cases e1;have ev1:Evo [p] H (upd H p (.lst us)):=λb o e n=>by rw[LG (λz=>n (AC.mpr z))];exact e
 exact r.put2 hi hp ev1 Ld (hu.evo (ev1.wide λq hq'=>AC.mp hq' ▸ hq) r.lst)
def Rep.temp(r:Rep K C w Γ σ H)(n1:p∉w.L)(n2:¬ w.R p)(ow:Ow C p)(hl:∃ o,H p=some o/\Mu o)(ev1:Evo [p] H H'):Rep K C w Γ σ H':=by
 have ne:∀ {c:Addr} {o:HO},c≠p->H c=some o->H' c=some o:=λn e=>ev1 _ _ e λz=>n (AC.mp z)
 have hL:LL [p] H:=λq hq=>by rw[AC.mp hq];exact hl
 refine⟨r.len,λj g h=>?_,r.apart,λc hc=>?_,r.own,λc hc=>?_,r.rl,λb o h n=>?_,r.pin⟩
 ·obtain⟨v,e1,e2⟩:=r.val j g h;refine⟨v,e1,?_⟩;cases g with
  | v t=>exact Im.evo ev1 hL e2
  | l zs =>
   obtain⟨c,vs',rfl,hc,h1,h2⟩:=e2;exact⟨c,vs',rfl,hc,ne (λz=>n1 (z ▸ hc)) h1,h2.evo ev1 hL⟩
  | r zs =>
   obtain⟨c,vs',rfl,h1,h2⟩:=e2;exact⟨c,vs',rfl,h1.evo ev1 hL,ne (λz=>n2 (z ▸ h2.2.2)) h2.1,h2.2⟩
  | k zs =>
   obtain⟨c,vs',rfl,h1,h2⟩:=e2;exact⟨c,vs',rfl,h1.evo ev1 hL,h2.evo ev1 hL⟩
  | d zs =>
   obtain⟨c,vs',rfl,hc,h1,h2⟩:=e2;exact⟨c,vs',rfl,hc,ne (λz=>n1 (z ▸ hc)) h1,h2.evo ev1 hL⟩
  | e zs =>
   obtain⟨c,vs',rfl,h1,h2⟩:=e2;exact⟨c,vs',rfl,h1.evo ev1 hL,ne (λz=>n2 (z ▸ h2.2.2)) h2.1,h2.2⟩
 ·obtain⟨o,e,m⟩:=r.lst c hc;exact⟨o,ne (λz=>n1 (z ▸ hc)) e,m⟩
 ·obtain⟨o,e⟩:=r.ra c hc;exact⟨o,ne (λz=>n2 (z ▸ hc)) e⟩
 ·by_cases hb:b=p
  ·subst hb;rcases ow with z | z
   ·exact absurd z n
   ·rw[z]at h;cases h
  ·exact ne hb (r.frame b o h n)
def Rep.setv(r:Rep K C w Γ σ H)(hg:isMut g=false)(h:GOk K w H v g)(hn:∀ q∈C.pins,q.1≠i):Rep K C w (Γ.set i (some g)) (σ.set i (some v)) H where
 len:=by simpa using r.len
 val:=λj g' hj=>by
  by_cases hji:j=i
  ·subst hji;have hjl:j < Γ.length:=by
    rcases Bl j Γ.length with z | z
    ·exact z
    ·rw[Ca (by simpa using z)]at hj;cases hj
   rw[Aj hjl]at hj;cases hj;exact⟨v,by rw[Aj (by rw[r.len];exact hjl)],h⟩
  ·rw[AO (Ax hji)]at hj;rw[AO (Ax hji)];exact r.val j g' hj
 apart:=λj k p ga gb ma mb h1 h2 h3 h4=>by
  have ne:∀ m gc,isMut gc=true->(Γ.set i (some g))[m]?=some (some gc)->m≠i/\Γ[m]?=some (some gc):=λm gc mc hm=>by
   by_cases e:m=i
   ·subst e;rcases Bl m Γ.length with z | z
    ·rw[Aj z]at hm;cases hm;rw[hg]at mc;cases mc
    ·rw[Ca (by simpa using z)]at hm;cases hm
   ·rw[AO (Ax e)]at hm;exact⟨e,hm⟩
  obtain⟨n1,g1⟩:=ne j ga ma h1;obtain⟨n2,g2⟩:=ne k gb mb h2;rw[AO (Ax n1)]at h3;rw[AO (Ax n2)]at h4;exact r.apart j k p ga gb ma mb g1 g2 h3 h4
 lst:=r.lst
 own:=r.own
 ra:=r.ra
 rl:=r.rl
 frame:=r.frame
 pin:=λq hq=>by
  obtain⟨h1,xs,h2⟩:=r.pin q hq;have:=hn q hq;exact⟨by rw[AO (Ax this)];exact h1,xs,by rw[AO (Ax this)];exact h2⟩
def Rep.setm(r:Rep K C w Γ σ H)(mg:isMut g=true)(n1:p∉w.L)(n2:¬ w.R p)(ow:Ow C p)(hp:H p=some ob)(mb:Mu ob)(hv:GOk K ⟨p::w.L,w.R⟩ H (.ref p) g)(hn:∀ q∈C.pins,q.1≠i) :
  Rep K C ⟨p::w.L,w.R⟩ (Γ.set i (some g)) (σ.set i (some (.ref p))) H where
 len:=by simpa using r.len
 val:=λj g' hj=>by
  by_cases hji:j=i
  ·subst hji;have hjl:j < Γ.length:=by
    rcases Bl j Γ.length with z | z
    ·exact z
    ·rw[Ca (by simpa using z)]at hj;cases hj
   rw[Aj hjl]at hj;cases hj;exact⟨_,by rw[Aj (by rw[r.len];exact hjl)],hv⟩
  ·rw[AO (Ax hji)]at hj;rw[AO (Ax hji)];obtain⟨v,e1,e2⟩:=r.val j g' hj;refine⟨v,e1,?_⟩;cases g' with
   | v t=>exact e2
   | l ys=>obtain⟨c,us,rfl,hc,h1,h2⟩:=e2;exact⟨c,us,rfl,AH _ hc,h1,h2⟩
   | d ys=>obtain⟨c,us,rfl,hc,h1,h2⟩:=e2;exact⟨c,us,rfl,AH _ hc,h1,h2⟩
   | r ys =>
    obtain⟨c,us,rfl,hi,h⟩:=e2;refine⟨c,us,rfl,hi,h.1,λz=>?_,h.2.2⟩;rcases AN.mp z with z | z
    ·exact n2 (z ▸ h.2.2)
    ·exact h.2.1 z
   | e ys =>
    obtain⟨c,us,rfl,hi,h⟩:=e2;refine⟨c,us,rfl,hi,h.1,λz=>?_,h.2.2⟩;rcases AN.mp z with z | z
    ·exact n2 (z ▸ h.2.2)
    ·exact h.2.1 z
   | k ys=>exact e2
 apart:=λj k c ga gb ma mb' h1 h2 h3 h4=>by
  have ne:∀ m gc,isMut gc=true->m≠i->(Γ.set i (some g))[m]?=some (some gc)->(σ.set i (some (.ref p)))[m]?=some (some (.ref c))->Γ[m]?=some (some gc)/\σ[m]?=some (some (.ref c))/\c≠p:=λm gc mc e h h'=>by
   rw[AO (Ax e)]at h;rw[AO (Ax e)]at h';refine⟨h,h',λz=>?_⟩;obtain⟨v,e1,hg⟩:=r.val m _ h;obtain⟨q,rfl,hq⟩:=hg.own mc;rw[h']at e1;cases e1;exact n1 (z ▸ hq)
  have at_i:∀ m,m=i->(σ.set i (some (.ref p)))[m]?=some (some (.ref c))->c=p:=λm e h=>by
   subst e;rcases Bl m σ.length with z | z
   ·rw[Aj z]at h;cases h;rfl
   ·rw[Ca (by simpa using z)]at h;cases h
  by_cases e1:j=i
  ·by_cases e2:k=i
   ·rw[e1,e2]
   ·obtain⟨_,_,n⟩:=ne k gb mb' e2 h2 h4;exact absurd (at_i j e1 h3) n
  ·obtain⟨g1,s1,n⟩:=ne j ga ma e1 h1 h3;by_cases e2:k=i
   ·exact absurd (at_i k e2 h4) n
   ·obtain⟨g2,s2,_⟩:=ne k gb mb' e2 h2 h4;exact r.apart j k c ga gb ma mb' g1 g2 s1 s2
 lst:=λc hc=>by
  rcases AN.mp hc with e | e
  ·subst e;exact⟨ob,hp,mb⟩
  ·exact r.lst c e
 own:=λc hc=>by
  rcases AN.mp hc with e | e
  ·subst e;exact ow
  ·exact r.own c e
 ra:=r.ra
 rl:=λc hc z=>by
  rcases AN.mp z with e | e
  ·subst e;exact n2 hc
  ·exact r.rl c hc e
 frame:=r.frame
 pin:=λq hq=>by
  obtain⟨h1,xs',h2⟩:=r.pin q hq;have:=hn q hq;exact⟨by rw[AO (Ax this)];exact h1,xs',by rw[AO (Ax this)];exact h2⟩
def Rep.setl(r:Rep K C w Γ σ H)(n1:p∉w.L)(n2:¬ w.R p)(ow:Ow C p)(hp:H p=some (.lst vs))(hv:Ims K H vs xs)(hn:∀ q∈C.pins,q.1≠i) :
  Rep K C ⟨p::w.L,w.R⟩ (Γ.set i (some (.l xs))) (σ.set i (some (.ref p))) H:=
 r.setm rfl n1 n2 ow hp trivial ⟨p,vs,rfl,AG,hp,hv⟩ hn
def Rep.setd(r:Rep K C w Γ σ H)(n1:p∉w.L)(n2:¬ w.R p)(ow:Ow C p)(hp:H p=some ob)(hv:DOk K H ob kvs)(hn:∀ q∈C.pins,q.1≠i) :
  Rep K C ⟨p::w.L,w.R⟩ (Γ.set i (some (.d kvs))) (σ.set i (some (.ref p))) H:=
 r.setm rfl n1 n2 ow hp hv.mu ⟨p,ob,rfl,AG,hp,hv⟩ hn
def Rep.newd(r:Rep K C w Γ σ H)(h:H p=none)(hi:DOk K H ob kvs):SOk K C w σ (upd H p ob) (.ref p) (.d kvs):=by
 obtain⟨a,b,c⟩:=r.fresh h;exact⟨p,ob,rfl,a,b,c,Ld,hi.evo (Evo.new h) r.lst⟩
end
noncomputable def SOks (K:Fg) (C:Fr) (w:W) (σ:St) (H:Hp):List V->List S->Prop
 | [],[]=>True
 | v::vs,s::ss=>SOk K C w σ H v s/\SOks K C w σ H vs ss
 | _,_=>False
noncomputable def Nw (H:Hp) (v:V):S->Prop
 | .l _=>∃ p,v=.ref p/\H p=none
 | .d _=>∃ p,v=.ref p/\H p=none
 | _=>True
noncomputable def Nws (H:Hp):List V->List S->Prop
 | v::vs,s::ss=>Nw H v s/\Nws H vs ss
 | _,_=>True
theorem MD(e:Evo L H H')(hL:LL L H')(h:H' p=none):H p=none:=by
 cases q:H p with
 | none=>rfl
 | some o =>
  by_cases z:p∈L
  ·obtain⟨vs,u,_⟩:=hL p z;rw[h]at u;cases u
  ·rw[e p o q z]at h;cases h
theorem Nw.back{H H' v s}(n:Nw H' v s)(e:Evo L H H')(hL:LL L H'):Nw H v s:=by
 cases s with
 | l xs=>obtain⟨p,a,b⟩:=n;exact⟨p,a,MD e hL b⟩
 | d xs=>obtain⟨p,a,b⟩:=n;exact⟨p,a,MD e hL b⟩
 | v t=>trivial
 | s i=>trivial
theorem Nws.back(e:Evo L H H')(hL:LL L H'):∀ {vs ss},Nws H' vs ss->Nws H vs ss
 | [],[],_=>trivial
 | [],_::_,_=>trivial
 | _::_,[],_=>trivial
 | _::_,_::_,h=>⟨h.1.back e hL,Nws.back e hL h.2⟩
theorem Nws.get:∀ {vs ss} {k:Nat} {v s},Nws H vs ss->vs[k]?=some v->ss[k]?=some s->Nw H v s
 | [],_,_,_,_,_,e,_=>by simp at e
 | _::_,[],_,_,_,_,_,e=>by simp at e
 | _::_,_::_,0,_,_,h,e,e'=>by simp at e e';subst e e';exact h.1
 | _::_,_::_,k+1,_,_,h,e,e'=>Nws.get h.2 ‹_› ‹_›
def SimE (K:Fg) (te:TE) (f:DE):Prop:=∀ C w Γ σ H s Γ' Q,Rep K C w Γ σ H->f Γ=some (s,Γ') ->
 (∀ v H',Rep K C w Γ' σ H'->Evo w.L H H'->SOk K C w σ H' v s->Nw H v s->Q v H')->te σ H Q
def SimT (K:Fg) (tt:TT) (f:DT):Prop:=∀ C w Γ σ H b Γ' Q,Rep K C w Γ σ H->f Γ=some (b,Γ') ->
 (∀ H',Rep K C w Γ' σ H'->Evo w.L H H'->Q b H')->tt σ H Q
def SimA (K:Fg) (ta:TA) (f:DA):Prop:=∀ C w Γ σ H ss Γ' Q,Rep K C w Γ σ H->f Γ=some (ss,Γ') ->
 (∀ vs H',Rep K C w Γ' σ H'->Evo w.L H H'->SOks K C w σ H' vs ss->Nws H vs ss->Q vs H')->ta σ H Q
noncomputable def OkO (K:Fg) (C:Fr) (D:Ends):O->Prop
 | .nx Γ=>∀ w σ H,Rep K C w Γ σ H->D.nx σ H
 | .rt s Γ=>∀ w σ H v,Rep K C w Γ σ H->SOk K C w σ H v s->D.rt v H
 | .bk Γ=>∀ w σ H,Rep K C w Γ σ H->D.bk σ H
 | .ct Γ=>∀ w σ H,Rep K C w Γ σ H->D.ct σ H
def SimS (K:Fg) (ip:Option Nat) (ts:TS) (g:DS):Prop:=∀ C w Γ σ H D o,C.pins.map (·.1)=ip.toList->Rep K C w Γ σ H->g Γ=some o->OkO K C D o->ts D σ H
def SimR2 (K:Fg) (r:R2) (h:En->S->S->Option S):Prop:=∀ C w Γ σ H x y a b s Q,Rep K C w Γ σ H->SOk K C w σ H x a->SOk K C w σ H y b->h Γ a b=some s ->
 (∀ v H',Rep K C w Γ σ H'->Evo w.L H H'->SOk K C w σ H' v s->Nw H v s->Q v H')->r x y H Q
def SimR1 (K:Fg) (r:V->Hp->VK->Prop) (h:En->S->Option S):Prop:=∀ C w Γ σ H x a s Q,Rep K C w Γ σ H->SOk K C w σ H x a->h Γ a=some s ->
 (∀ v H',Rep K C w Γ σ H'->Evo w.L H H'->SOk K C w σ H' v s->Nw H v s->Q v H')->r x H Q
def SimRs (K:Fg) (r:List V->Hp->VK->Prop) (h:En->List S->Option S):Prop:=∀ C w Γ σ H xs as s Q,Rep K C w Γ σ H->SOks K C w σ H xs as->h Γ as=some s ->
 (∀ v H',Rep K C w Γ σ H'->Evo w.L H H'->SOk K C w σ H' v s->Nw H v s->Q v H')->r xs H Q
noncomputable def jV (i:Nat):DE:=λΓ=>match Γ[i]? with
 | some (some (.v t))=>some (.v t,Γ)
 | some (some (.l _))=>some (.s i,Γ)
 | some (some (.r _))=>some (.s i,Γ)
 | some (some (.k _))=>some (.s i,Γ)
 | some (some (.d _))=>some (.s i,Γ)
 | some (some (.e _))=>some (.s i,Γ)
 | _=>none
noncomputable def dC (v:V):DE:=λΓ=>some (.v (.a v),Γ)
noncomputable def dOp (h:En->S->S->Option S) (fa fb:DE):DE:=λΓ=>(fa Γ).bind λp=>(fb p.2).bind λq=>(h q.2 p.1 q.1).map λs=>(s,q.2)
noncomputable def dUn (h:En->S->Option S) (fa:DE):DE:=λΓ=>(fa Γ).bind λp=>(h p.2 p.1).map λs=>(s,p.2)
noncomputable def dCB (h:En->List S->Option S) (fa:DA):DE:=λΓ=>(fa Γ).bind λp=>(h p.2 p.1).map λs=>(s,p.2)
noncomputable def qQ:DA:=λΓ=>some ([],Γ)
noncomputable def jW (fa:DE) (fr:DA):DA:=λΓ=>(fa Γ).bind λp=>(fr p.2).bind λq=>some (p.1::q.1,q.2)
noncomputable def S.tree:S->Option T
 | .v t=>some t
 | _=>none
noncomputable def trees:List S->Option (List T)
 | []=>some []
 | s::r=>s.tree.bind λt=>(trees r).map λts=>t::ts
noncomputable def gd {α:Type} (n:Nat) (x:α):Option α:=if n<=AD then some x else none
def L5{x y:α}(h:gd n x=some y):n<=AD/\x=y:=by
 unfold gd at h;split at h
 ·exact⟨by assumption,Av h⟩
 ·cases h
noncomputable def dTup (fa:DA):DE:=λΓ=>(fa Γ).bind λp=>(trees p.1).bind λts=>gd ts.length (.v (.t ts),p.2)
noncomputable def dLst (fa:DA):DE:=λΓ=>(fa Γ).bind λp=>(trees p.1).bind λts=>gd ts.length (.l ts,p.2)
noncomputable def dTest (f:DE):DT:=λΓ=>(f Γ).bind λp=>match p.1 with
 | .v (.a (.bl b))=>some (b,p.2)
 | _=>none
noncomputable def dAnd (f g:DT):DT:=λΓ=>(f Γ).bind λp=>if p.1=true then g p.2 else some (false,p.2)
noncomputable def dOr (f g:DT):DT:=λΓ=>(f Γ).bind λp=>if p.1=true then some (true,p.2) else g p.2
noncomputable def dNot (f:DT):DT:=λΓ=>(f Γ).bind λp=>some (!p.1,p.2)
noncomputable def dAndV (f g:DE):DE:=λΓ=>(dTest f Γ).bind λp=>if p.1=true then g p.2 else some (.v (.a (.bl false)),p.2)
noncomputable def dIfE (c:DT) (f g:DE):DE:=λΓ=>(c Γ).bind λp=>if p.1=true then f p.2 else g p.2
section
variable {K:Fg}{ip:Option Nat}
theorem bind_some{α β:Type}{x:Option α}{f}{y:β}(h:x.bind f=some y):∃ a,x=some a/\f a=some y:=by
 cases x with
 | none=>cases h
 | some a=>exact⟨a,rfl,h⟩
def LF{α β:Type}{x:Option α}{f}{y:β}(h:x.map f=some y):∃ a,x=some a/\f a=y:=by simp_all
def Zh:SimE K (tVar i) (jV i):=by
 intro C w Γ σ H s Γ' Q R h k;unfold jV at h;split at h
 ·rename_i t e;cases h;obtain⟨v,e1,e2⟩:=R.val i _ e;exact⟨v,e1,k v H R .refl e2 trivial⟩
 ·rename_i xs e;cases h;obtain⟨v,e1,e2⟩:=R.val i _ e;exact⟨v,e1,k v H R .refl e1 trivial⟩
 ·rename_i xs e;cases h;obtain⟨v,e1,e2⟩:=R.val i _ e;exact⟨v,e1,k v H R .refl e1 trivial⟩
 ·rename_i xs e;cases h;obtain⟨v,e1,e2⟩:=R.val i _ e;exact⟨v,e1,k v H R .refl e1 trivial⟩
 ·rename_i xs e;cases h;obtain⟨v,e1,e2⟩:=R.val i _ e;exact⟨v,e1,k v H R .refl e1 trivial⟩
 ·rename_i xs e;cases h;obtain⟨v,e1,e2⟩:=R.val i _ e;exact⟨v,e1,k v H R .refl e1 trivial⟩
 ·cases h
def Nu:SimE K (tC v) (dC v):=by
 intro C w Γ σ H s Γ' Q R h k;cases h;exact k v H R .refl SOk.atom trivial
def Mb{h ta tb fa fb}(hr:SimR2 K r h)(ha:SimE K ta fa)(hb:SimE K tb fb):SimE K (tOp r ta tb) (dOp h fa fb):=by
 intro C w Γ σ H s Γ' Q R e k;obtain⟨p,e1,e⟩:=bind_some e;obtain⟨q,e2,e⟩:=bind_some e;obtain⟨z,e3,e⟩:=LF e;cases e;exact ha C w Γ σ H p.1 p.2 _ R e1 λv1 H1 R1 ev1 o1 n1=>hb C w p.2 σ H1 q.1 q.2 _ R1 e2 λv2 H2 R2 ev2 o2 n2=>hr C w q.2 σ H2 v1 v2 _ _ _ Q R2 (o1.evo ev2 R1.lst) o2 e3 λv H3 R3 ev3 o3 n3=>k v H3 R3 ((ev1.trans ev2).trans ev3) o3 (n3.back (ev1.trans ev2) R2.lst)
def eG{fa}(hr:SimR1 K r h)(ha:SimE K ta fa):SimE K (tUn r ta) (dUn h fa):=by
 intro C w Γ σ H s Γ' Q R e k;obtain⟨p,e1,e⟩:=bind_some e;obtain⟨z,e3,e⟩:=LF e;cases e;exact ha C w Γ σ H p.1 p.2 _ R e1 λv1 H1 R1 ev1 o1 n1=>hr C w p.2 σ H1 v1 _ _ Q R1 o1 e3 λv H3 R3 ev3 o3 n3=>k v H3 R3 (ev1.trans ev3) o3 (n3.back ev1 R1.lst)
def R9(hr:SimRs K r h)(ha:SimA K ta fa):SimE K (tCB r ta) (dCB h fa):=by
 intro C w Γ σ H s Γ' Q R e k;obtain⟨p,e1,e⟩:=bind_some e;obtain⟨z,e3,e⟩:=LF e;cases e;exact ha C w Γ σ H p.1 p.2 _ R e1 λv1 H1 R1 ev1 o1 n1=>hr C w p.2 σ H1 v1 _ _ Q R1 o1 e3 λv H3 R3 ev3 o3 n3=>k v H3 R3 (ev1.trans ev3) o3 (n3.back ev1 R1.lst)
def Uc:SimA K tNil qQ:=by
 intro C w Γ σ H s Γ' Q R e k;cases e;exact k [] H R .refl trivial trivial
def iK{tr fa fr}(ha:SimE K ta fa)(hr:SimA K tr fr):SimA K (tCons ta tr) (jW fa fr):=by
 intro C w Γ σ H s Γ' Q R e k;obtain⟨p,e1,e⟩:=bind_some e;obtain⟨q,e2,e⟩:=bind_some e;cases e;exact ha C w Γ σ H p.1 p.2 _ R e1 λv1 H1 R1 ev1 o1 n1=>hr C w p.2 σ H1 q.1 q.2 _ R1 e2 λvs H2 R2 ev2 o2 n2=>k (v1::vs) H2 R2 (ev1.trans ev2) ⟨o1.evo ev2 R1.lst,o2⟩ ⟨n1,n2.back ev1 R1.lst⟩
theorem QZ{σ H}:∀ {vs ss ts},SOks K C w σ H vs ss->trees ss=some ts->Ims K H vs ts
 | [],[],_,_,e=>by cases e;exact .nil
 | v::vs,s::ss,_,h,e=>by
  obtain⟨t,e1,e⟩:=bind_some e;obtain⟨ts,e2,rfl⟩:=LF e;cases s with
  | v t'=>cases e1;exact .cons h.1 (QZ h.2 e2)
  | l _=>cases e1
  | s _=>cases e1
  | d _=>cases e1
 | [],_::_,_,h,_=>h.elim
 | _::_,[],_,h,_=>h.elim
def iR{fa}(ha:SimA K ta fa):SimE K (tTup ta) (dTup fa):=by
 intro C w Γ σ H s Γ' Q R e k;obtain⟨p,e1,e⟩:=bind_some e;obtain⟨ts,e2,e⟩:=bind_some e;obtain⟨hn,e⟩:=L5 e;cases e;refine ha C w Γ σ H p.1 p.2 _ R e1 λvs H1 R1 ev1 o1 _=>?_
 have hi:=QZ o1 e2;exact⟨by rw[hi.len];exact hn,λq hq=>k _ _ (R1.new hq) (ev1.trans (Evo.new hq)) (R1.newt hq hi) trivial⟩
def iz{fa}(ha:SimA K ta fa):SimE K (tLst ta) (dLst fa):=by
 intro C w Γ σ H s Γ' Q R e k;obtain⟨p,e1,e⟩:=bind_some e;obtain⟨ts,e2,e⟩:=bind_some e;obtain⟨hn,e⟩:=L5 e;cases e;refine ha C w Γ σ H p.1 p.2 _ R e1 λvs H1 R1 ev1 o1 _=>?_
 have hi:=QZ o1 e2;exact⟨by rw[hi.len];exact hn,λq hq=>k _ _ (R1.new hq) (ev1.trans (Evo.new hq)) (R1.newl hq hi) ⟨_,rfl,MD ev1 R1.lst hq⟩⟩
def O3(ha:SimE K ta fa):SimT K (tTest ta) (dTest fa):=by
 intro C w Γ σ H s Γ' Q R e k;obtain⟨p,e1,e⟩:=bind_some e;obtain⟨p1,p2⟩:=p;dsimp only at e;split at e
 ·cases e;exact ha C w Γ σ H _ _ _ R e1 λv H1 R1 ev1 o1 _=>⟨_,SOk.inva o1,k H1 R1 ev1⟩
 ·cases e
theorem eh{fa fb}(ha:SimT K ta fa)(hb:SimT K tb fb):SimT K (tAnd ta tb) (dAnd fa fb):=by
 intro C w Γ σ H s Γ' Q R e k;obtain⟨⟨p,G1⟩,e1,e⟩:=bind_some e;refine ha C w Γ σ H p G1 _ R e1 λH1 R1 ev1=>?_
 cases p with
 | true=>exact (if_pos rfl).mpr (hb C w G1 σ H1 s Γ' Q R1 ‹_› λH2 R2 ev2=>k H2 R2 (ev1.trans ev2))
 | false =>
  have e':(false,G1)=(s,Γ'):=by simpa using e
  cases e';exact (if_neg AV).mpr (k H1 R1 ev1)
theorem b9{fa fb}(ha:SimT K ta fa)(hb:SimT K tb fb):SimT K (tOr ta tb) (dOr fa fb):=by
 intro C w Γ σ H s Γ' Q R e k;obtain⟨⟨p,G1⟩,e1,e⟩:=bind_some e;refine ha C w Γ σ H p G1 _ R e1 λH1 R1 ev1=>?_
 cases p with
 | false=>exact (if_neg AV).mpr (hb C w G1 σ H1 s Γ' Q R1 ‹_› λH2 R2 ev2=>k H2 R2 (ev1.trans ev2))
 | true =>
  have e':(true,G1)=(s,Γ'):=by simpa using e
  cases e';exact (if_pos rfl).mpr (k H1 R1 ev1)
def kR{fa}(ha:SimT K ta fa):SimT K (tNot ta) (dNot fa):=by
 intro C w Γ σ H s Γ' Q R e k;obtain⟨p,e1,e⟩:=bind_some e;cases e;exact ha C w Γ σ H p.1 p.2 _ R e1 λH1 R1 ev1=>k H1 R1 ev1
theorem Vu{fa fb}(ha:SimE K ta fa)(hb:SimE K tb fb):SimE K (tAndV ta tb) (dAndV fa fb):=by
 intro C w Γ σ H s Γ' Q R e k;obtain⟨⟨p,G1⟩,e1,e⟩:=bind_some e;refine (O3 ha) C w Γ σ H p G1 (λc H1=>if c=true then tb σ H1 Q else Q (.bl false) H1) R e1 λH1 R1 ev1=>?_
 cases p with
 | true=>exact (if_pos rfl).mpr (hb C w G1 σ H1 s Γ' Q R1 ‹_› λv H2 R2 ev2 o n=>k v H2 R2 (ev1.trans ev2) o (n.back ev1 R1.lst))
 | false =>
  have e':(S.v (.a (.bl false)),G1)=(s,Γ'):=by simpa using e
  cases e';exact (if_neg AV).mpr (k _ H1 R1 ev1 SOk.atom trivial)
theorem Y6{ta tb fc fa fb}(hc:SimT K tc fc)(ha:SimE K ta fa)(hb:SimE K tb fb):SimE K (tIf tc ta tb) (dIfE fc fa fb):=by
 intro C w Γ σ H s Γ' Q R e k;obtain⟨⟨p,G1⟩,e1,e⟩:=bind_some e;refine hc C w Γ σ H p G1 _ R e1 λH1 R1 ev1=>?_
 cases p with
 | true=>exact (if_pos rfl).mpr (ha C w G1 σ H1 s Γ' Q R1 ‹_› λv H2 R2 ev2 o n=>k v H2 R2 (ev1.trans ev2) o (n.back ev1 R1.lst))
 | false=>exact (if_neg AV).mpr (hb C w G1 σ H1 s Γ' Q R1 ‹_› λv H2 R2 ev2 o n=>k v H2 R2 (ev1.trans ev2) o (n.back ev1 R1.lst))
end
noncomputable def dNext:DS:=λΓ=>some (.nx Γ)
noncomputable def dSeq (f g:DS):DS:=λΓ=>(f Γ).bind λo=>match o with
 | .nx Γ'=>g Γ'
 | o=>some o
noncomputable def dNever:DS:=λ_=>none
noncomputable def dDrop (f:DE):DS:=λΓ=>(f Γ).map λp=>.nx p.2
noncomputable def dRet (f:DE):DS:=λΓ=>(f Γ).map λp=>.rt p.1 p.2
noncomputable def dIf (c:DT) (f g:DS):DS:=λΓ=>(c Γ).bind λp=>if p.1=true then f p.2 else g p.2
noncomputable def setS (i:Nat) (s:S) (Γ:En):Option En:=match s with
 | .v t=>some (Γ.set i (some (.v t)))
 | .l xs=>some (Γ.set i (some (.l xs)))
 | .d xs=>some (Γ.set i (some (.d xs)))
 | .s j=>match Γ[j]? with
  | some (some (.r xs))=>some (Γ.set i (some (.r xs)))
  | _=>none
noncomputable def dSet (i:Nat) (f:DE):DS:=λΓ=>(f Γ).bind λp=>(setS i p.1 p.2).map .nx
noncomputable def dWhile (c:DT) (b:DS):Nat->DS
 | 0=>λ_=>none
 | n+1=>λΓ=>(c Γ).bind λp=>if p.1=true then (b p.2).bind λo=>match o with
   | .nx Γ'=>dWhile c b n Γ'
   | .ct Γ'=>dWhile c b n Γ'
   | .bk Γ'=>some (.nx Γ')
   | .rt s Γ'=>some (.rt s Γ')
  else some (.nx p.2)
section
variable {K:Fg}{ip:Option Nat}
def ZH:SimS K ip tNext dNext:=λC w Γ σ H D o _ R e k=>by cases e;exact k w σ H R
def ZC{ts:DS}:SimS K ip tNever dNever:=λC w Γ σ H D o _ R e k=>by cases e
theorem W6{f g}(h1:SimS K ip t f)(h2:SimS K ip u g):SimS K ip (tSeq t u) (dSeq f g):=by
 intro C w Γ σ H D o hp R e k;obtain⟨o1,e1,e⟩:=bind_some e;refine h1 C w Γ σ H _ o1 hp R e1 ?_;cases o1 with
 | nx Γ1=>exact λw' σ' H' R'=>h2 C w' Γ1 σ' H' D o hp R' e k
 | rt s Γ1=>cases e;exact k
 | bk Γ1=>cases e;exact k
 | ct Γ1=>cases e;exact k
def jo(h:SimE K te f):SimS K ip (tDrop te) (dDrop f):=by
 intro C w Γ σ H D o hp R e k;obtain⟨p,e1,rfl⟩:=LF e;exact h C w Γ σ H p.1 p.2 _ R e1 λv H1 R1 _ _ _=>k w σ H1 R1
def gh(h:SimE K te f):SimS K ip (tRet te) (dRet f):=by
 intro C w Γ σ H D o hp R e k;obtain⟨p,e1,rfl⟩:=LF e;exact h C w Γ σ H p.1 p.2 _ R e1 λv H1 R1 _ o _=>k w σ H1 v R1 o
theorem Yk{t u c f g}(hc:SimT K tc c)(h1:SimS K ip t f)(h2:SimS K ip u g):SimS K ip (tIfS tc t u) (dIf c f g):=by
 intro C w Γ σ H D o hp R e k;obtain⟨⟨p,G1⟩,e1,e⟩:=bind_some e;refine hc C w Γ σ H p G1 _ R e1 λH1 R1 _=>?_
 cases p with
 | true=>exact (if_pos rfl).mpr (h1 C w G1 σ H1 D o hp R1 ‹_› k)
 | false=>exact (if_neg AV).mpr (h2 C w G1 σ H1 D o hp R1 ‹_› k)
def L7{C:Fr}{i}(hp:C.pins.map (·.1)=ip.toList)(hi:ip≠some i):∀ q∈C.pins,q.1≠i:=λq hq e=>by
 have:=hp ▸ Aq.mpr ⟨q,hq,rfl⟩;simp_all
theorem Xy{Γ Γ' σ H v s i}(R:Rep K C w Γ σ H)(o:SOk K C w σ H v s)(e:setS i s Γ=some Γ')(hn:∀ q∈C.pins,q.1≠i):∃ w',Rep K C w' Γ' (σ.set i (some v)) H:=by
 cases s with
 | v t=>cases e;exact⟨w,R.setv rfl o hn⟩
 | d xs =>
  cases e;obtain⟨p,vs,rfl,n1,n2,ow,h1,h2⟩:=o;exact⟨_,R.setd n1 n2 ow h1 h2 hn⟩
 | l xs =>
  cases e;obtain⟨p,vs,rfl,n1,n2,ow,h1,h2⟩:=o;exact⟨_,R.setl n1 n2 ow h1 h2 hn⟩
 | s j =>
  unfold setS at e;dsimp only at e;split at e
  ·rename_i xs he;cases e;obtain⟨v',e1,e2⟩:=R.val j _ he;rw[o]at e1;cases e1;exact⟨w,R.setv rfl e2 hn⟩
  ·cases e
def SM{i}(h:SimE K te f)(hi:ip≠some i):SimS K ip (tAsg te (gName i)) (dSet i f):=by
 intro C w Γ σ H D o hp R e k;obtain⟨p,e1,e⟩:=bind_some e;obtain⟨Γ1,e2,rfl⟩:=LF e;refine h C w Γ σ H p.1 p.2 _ R e1 λv H1 R1 _ o1 _=>?_
 obtain⟨w',R'⟩:=Xy R1 o1 e2 (L7 hp hi);exact k w' _ H1 R'
theorem Wb{tb c b} n (hc:SimT K tc c) (hb:SimS K ip tb b):SimS K ip (tWhile tc tb) (dWhile c b n):=by
 intro C w Γ σ H D o hp R e k;refine⟨λm σ H=>∃ w Γ,Rep K C w Γ σ H/\dWhile c b m Γ=some o,⟨n,w,Γ,R,e⟩,?_⟩;rintro m σ1 H1 ⟨w1,Γ1,R1,e1⟩;cases m with
 | zero=>cases e1
 | succ m =>
  unfold dWhile at e1;obtain⟨⟨p,G2⟩,e2,e1⟩:=bind_some e1;refine hc C w1 Γ1 σ1 H1 p G2 _ R1 e2 λH2 R2 _=>?_
  cases p with
  | false =>
   cases e1;exact k w1 σ1 H2 R2
  | true =>
   obtain⟨o2,e3,e1⟩:=bind_some e1;refine⟨λσ' H'=>∃ w Γ,Rep K C w Γ σ' H'/\dWhile c b m Γ=some o,λσ' H' ⟨w',Γ',R',e'⟩=>⟨m,CQ _,w',Γ',R',e'⟩,hb C w1 G2 σ1 H2 _ o2 hp R2 e3 ?_⟩;cases o2 with
   | nx Γ'=>exact λw' σ' H' R'=>⟨w',Γ',R',e1⟩
   | ct Γ'=>exact λw' σ' H' R'=>⟨w',Γ',R',e1⟩
   | bk Γ'=>cases e1;exact k
   | rt s Γ'=>cases e1;exact k
end
section
variable {K:Fg}{C:Fr}{w:W}{Γ Γ':En}{σ:St}{H H':Hp}
def Rep.base(R:Rep K C w Γ σ H):Rep K ⟨H,w.L,C.pins⟩ w Γ σ H:=
 ⟨R.len,R.val,R.apart,R.lst,λp hp=>.inl hp,R.ra,R.rl,λb o h _=>h,R.pin⟩
def Rep.back(R:Rep K C w Γ σ H)(hC:C1=⟨H,w.L,C.pins⟩)(R1:Rep K C1 w1 Γ1 σ1 H1):Rep K C w1 Γ1 σ1 H1:=by
 subst hC;refine⟨R1.len,R1.val,R1.apart,R1.lst,λp hp=>?_,R1.ra,R1.rl,λb o h n=>R1.frame b o (R.frame b o h n) λz=>?_,R1.pin⟩
 ·rcases R1.own p hp with z | z
  ·exact R.own p z
  ·exact (R.fresh z).2.2
 ·rcases R.own b z with q | q
  ·exact n q
  ·rw[q]at h;cases h
def Ow.back(R:Rep K C w Γ σ H)(hC:C1=⟨H,w.L,C.pins⟩)(h:Ow C1 p):Ow C p:=by
 subst hC;rcases h with z | z
 ·exact R.own p z
 ·exact (R.fresh z).2.2
theorem SOk.back(R:Rep K C w Γ σ H)(hC:C1=⟨H,w.L,C.pins⟩)(o:SOk K C1 w1 σ1 H1 v s):SOk K C w1 σ1 H1 v s:=by
 cases s with
 | v t=>exact o
 | s i=>exact o
 | l xs =>
  obtain⟨p,vs,e,n1,n2,ow,h1,h2⟩:=o;exact⟨p,vs,e,n1,n2,Ow.back R hC ow,h1,h2⟩
 | d xs =>
  obtain⟨p,vs,e,n1,n2,ow,h1,h2⟩:=o;exact⟨p,vs,e,n1,n2,Ow.back R hC ow,h1,h2⟩
def Rep.freeze(R:Rep K C w Γ σ H)(hi:Γ[i]?=some (some (.l xs)))(hp:σ[i]?=some (some (.ref p)))(hn:∀ q∈C.pins,q.1≠i) :
  Rep K C ⟨w.L.filter (λq=>decide (q≠p)),λq=>q=p\/w.R q⟩ (Γ.set i (some (.r xs))) σ H:=by
 have hiΓ:=(AZ.mp hi).1;obtain⟨v0,e0,q0,vs0,rfl,hq0,hv0,hi0⟩:=R.val i _ hi;rw[hp]at e0;cases e0;have mem:∀ {q:Addr},q∈w.L.filter (λq=>decide (q≠p)) ↔ q∈w.L/\q≠p:=by intro q;simp
 have back:∀ m g,isMut g=true->(Γ.set i (some (.r xs)))[m]?=some (some g)->m≠i/\Γ[m]?=some (some g):=λm g mg h=>by
  by_cases hm:m=i
  ·subst hm;rw[Aj hiΓ]at h;cases h;cases mg
  ·rw[AO (Ax hm)]at h;exact⟨hm,h⟩
 refine⟨by simpa using R.len,λj g h=>?_,λj k c ga gb ma mb h1 h2 h3 h4=>?_,λc hc=>R.lst c (mem.mp hc).1,λc hc=>R.own c (mem.mp hc).1,λc hc=>?_,λc hc z=>?_,R.frame,λq hq=>?_⟩
 ·by_cases hj:j=i
  ·subst hj;rw[Aj hiΓ]at h;cases h;exact⟨_,hp,p,vs0,rfl,hi0,hv0,λz=>(mem.mp z).2 rfl,.inl rfl⟩
  ·rw[AO (Ax hj)]at h;obtain⟨v,e1,e2⟩:=R.val j g h;refine⟨v,e1,?_⟩;cases g with
   | v t=>exact e2
   | l ys =>
    obtain⟨c,us,rfl,hc,h1,h2⟩:=e2;exact⟨c,us,rfl,mem.mpr ⟨hc,λz=>hj (R.apart j i p _ _ rfl rfl h hi (z ▸ e1) hp)⟩,h1,h2⟩
   | d ys =>
    obtain⟨c,us,rfl,hc,h1,h2⟩:=e2;exact⟨c,us,rfl,mem.mpr ⟨hc,λz=>hj (R.apart j i p _ _ rfl rfl h hi (z ▸ e1) hp)⟩,h1,h2⟩
   | r ys =>
    obtain⟨c,us,rfl,h1,h2⟩:=e2;exact⟨c,us,rfl,h1,h2.1,λz=>h2.2.1 (mem.mp z).1,.inr h2.2.2⟩
   | e ys =>
    obtain⟨c,us,rfl,h1,h2⟩:=e2;exact⟨c,us,rfl,h1,h2.1,λz=>h2.2.1 (mem.mp z).1,.inr h2.2.2⟩
   | k ys=>exact e2
 ·obtain⟨_,g1⟩:=back j ga ma h1;obtain⟨_,g2⟩:=back k gb mb h2;exact R.apart j k c ga gb ma mb g1 g2 h3 h4
 ·rcases hc with e | e
  ·subst e;exact⟨_,hv0⟩
  ·exact R.ra c e
 ·rcases hc with e | e
  ·exact (mem.mp z).2 e
  ·exact R.rl c e (mem.mp z).1
 ·obtain⟨h1,zs,h2⟩:=R.pin q hq;exact⟨h1,zs,by rw[AO (Ax (hn q hq))];exact h2⟩
noncomputable def frz1 (Γ:En) (i:Nat):En:=match Γ[i]? with
 | some (some (.l xs))=>Γ.set i (some (.r xs))
 | _=>Γ
noncomputable def frz (Γ:En) (src:List Nat):En:=src.foldl frz1 Γ
theorem Rep.frz:∀ src {w Γ},Rep K C w Γ σ H->(∀ i∈src,∀ q∈C.pins,q.1≠i) ->
  ∃ w',Rep K C w' (frz Γ src) σ H/\(∀ p∈w'.L,p∈w.L)/\∀ i∈src,∀ p,σ[i]?=some (some (.ref p))->(∃ xs,Γ[i]?=some (some (.l xs)))->p∉w'.L:=by
 intro src;induction src with
 | nil=>intro w Γ R _;exact⟨w,R,λp h=>h,λi hi=>nomatch hi⟩
 | cons i r ih =>
  intro w Γ R hn;have step:∃ w1,Rep K C w1 (frz1 Γ i) σ H/\(∀ p∈w1.L,p∈w.L)/\(∀ p,σ[i]?=some (some (.ref p))->(∃ xs,Γ[i]?=some (some (.l xs)))->p∉w1.L):=by
   unfold frz1;split
   ·rename_i xs e;obtain⟨v,e1,p,vs,rfl,_⟩:=R.val i _ e;refine⟨_,R.freeze e e1 (hn i AG),λq hq=>(Bm.mp hq).1,λq hq _ z=>?_⟩;simp_all
   ·rename_i e;exact⟨w,R,λp h=>h,λp _ ⟨xs,h⟩=>absurd h (e xs)⟩
  obtain⟨w1,R1,s1,n1⟩:=step;obtain⟨w2,R2,s2,n2⟩:=ih R1 (λj hj=>hn j (AH _ hj));refine⟨w2,R2,λp h=>s1 p (s2 p h),λj hj p hp hx=>?_⟩;rcases AN.mp hj with e | e
  ·subst e;exact λz=>n1 p hp hx (s2 p z)
  ·by_cases hji:j=i
   ·subst hji;exact λz=>n1 p hp hx (s2 p z)
   ·refine n2 j e p hp ?_;obtain⟨xs,hx⟩:=hx;refine⟨xs,?_⟩;unfold frz1;split
    ·rw[AO (Ax hji)];exact hx
    ·exact hx
end
abbrev DI:=En->Option ((List T×List Nat)×En)
def ItOk (K:Fg) (w:W) (Γ:En) (σ:St) (J:It) (H:Hp) (its:List T) (src:List Nat):Prop:=its.length<=AD/\∀ L',(∀ p∈L',p∈w.L)->(∀ i∈src,∀ p,σ[i]?=some (some (.ref p))->(∃ xs,Γ[i]?=some (some (.l xs)))->p∉L')->∀ H2,Evo L' H H2 ->
 (∀ i t,its[i]?=some t->J.go i H2/\∀ x H3,J.yld i H2 x H3->(∀ b o,H2 b=some o->H3 b=some o)/\Im K H3 x t)/\J.stop its.length H2
def SimI (K:Fg) (wi:TI) (di:DI):Prop:=∀ C w Γ σ H its src Γ' R,Rep K C w Γ σ H->di Γ=some ((its,src),Γ') ->
 (∀ J H',Rep K C w Γ' σ H'->Evo w.L H H'->ItOk K w Γ' σ J H' its src->R J H')->wi σ H R
def SimG (K:Fg) (ip:Option Nat) (g:TG) (tg:En->T->Option En):Prop:=∀ C w Γ σ H v t Γ' Q,C.pins.map (·.1)=ip.toList->Rep K C w Γ σ H->Im K H v t->tg Γ t=some Γ' ->
 (∀ σ',Rep K C w Γ' σ' H->Q σ' H)->g v σ H Q
def SimGs (K:Fg) (ip:Option Nat) (g:TGs) (tg:En->List T->Option En):Prop:=∀ C w Γ σ H vs ts Γ' Q,C.pins.map (·.1)=ip.toList->Rep K C w Γ σ H->Ims K H vs ts->tg Γ ts=some Γ' ->
 (∀ σ',Rep K C w Γ' σ' H->Q σ' H)->g vs σ H Q
noncomputable def gdName (i:Nat):En->T->Option En:=λΓ t=>some (Γ.set i (some (.v t)))
noncomputable def gdNil:En->List T->Option En:=λΓ ts=>match ts with
 | []=>some Γ
 | _=>none
noncomputable def gdCons (f:En->T->Option En) (g:En->List T->Option En):En->List T->Option En:=λΓ ts=>match ts with
 | []=>none
 | t::r=>(f Γ t).bind λΓ1=>g Γ1 r
noncomputable def gdTup (n:Nat) (g:En->List T->Option En):En->T->Option En:=λΓ t=>match t with
 | .t ts=>if ts.length=n then g Γ ts else none
 | _=>none
section
variable {K:Fg}{ip:Option Nat}
def d7(hi:ip≠some i):SimG K ip (gName i) (gdName i):=by
 intro C w Γ σ H v t Γ' Q hp R h e k;cases e;exact k _ (R.setv rfl h (L7 hp hi))
theorem gq:SimGs K ip gNil gdNil:=by
 intro C w Γ σ H vs ts Γ' Q hp R h e k;cases ts with
 | nil=>cases e;exact⟨h.inv0,k σ R⟩
 | cons t r=>cases e
theorem aG(h1:SimG K ip g f)(h2:SimGs K ip gs fs):SimGs K ip (gCons g gs) (gdCons f fs):=by
 intro C w Γ σ H vs ts Γ' Q hp R h e k;cases ts with
 | nil=>cases e
 | cons t r =>
  obtain⟨Γ1,e1,e2⟩:=bind_some e;obtain⟨v,us,rfl,i1,i2⟩:=h.inv;exact⟨v,us,rfl,h1 C w Γ σ H v t Γ1 _ hp R i1 e1 λσ1 R1=>h2 C w Γ1 σ1 H us r Γ' Q hp R1 i2 e2 k⟩
theorem Vb(h:SimGs K ip gs fs):SimG K ip (gTup K n gs) (gdTup n fs):=by
 intro C w Γ σ H v t Γ' Q hp R hi e k;cases t with
 | a u=>cases e
 | l u=>cases e
 | f u=>cases e
 | x u v=>cases e
 | w u=>cases e
 | t ts =>
  unfold gdTup at e;dsimp only at e;split at e
  ·rename_i hn;obtain⟨p,us,rfl,h1,h2⟩:=hi.inv;exact⟨p,us,rfl,h1.sq,by rw[h2.len];exact hn,h C w Γ σ H us ts Γ' Q hp R h2 e k⟩
  ·cases e
end
noncomputable def forD (tg:En->T->Option En) (b:DS):List T->DS
 | []=>λΓ=>some (.nx Γ)
 | t::r=>λΓ=>(tg Γ t).bind λΓ1=>(b Γ1).bind λo=>match o with
  | .nx Γ'=>forD tg b r Γ'
  | .ct Γ'=>forD tg b r Γ'
  | .bk Γ'=>some (.nx Γ')
  | .rt s Γ'=>some (.rt s Γ')
noncomputable def dFor (ip:Option Nat) (di:DI) (tg:En->T->Option En) (b:DS):DS:=λΓ=>(di Γ).bind λp=>if p.1.2.all (λi=>decide (ip≠some i))=true then forD tg b p.1.1 (frz p.2 p.1.2) else none
def ZD(hi:SimI K wi di)(hg:SimG K ip g tg)(hb:SimS K ip tb b):SimS K ip (tFor wi g tb) (dFor ip di tg b):=by
 intro C w Γ σ H D o hp R e k;obtain⟨⟨⟨its,src⟩,Γ1⟩,e1,e⟩:=bind_some e;dsimp only at e;split at e
 rotate_left
 ·cases e
 rename_i hsrc;refine hi C w Γ σ H its src Γ1 _ R e1 λJ H1 R1 _ ⟨hl,hJ⟩=>?_
 obtain⟨w2,R2,sub,avoid⟩:=R1.frz src (λi hi'=>L7 hp (by have:=AJ.mp hsrc i hi';simpa using this));have hC:∃ C1:Fr,C1=⟨H1,w2.L,C.pins⟩:=⟨_,rfl⟩
 obtain⟨C1,hC⟩:=hC;have hp1:C1.pins.map (·.1)=ip.toList:=by rw[hC];exact hp
 refine⟨λi m σ H=>m=its.length - i/\i<=its.length/\∃ w Γ,Rep K C1 w Γ σ H/\forD tg b (its.drop i) Γ=some o,⟨_,rfl,Au _,w2,_,(hC ▸ R2.base),e⟩,?_⟩;rintro i m σ' H' ⟨rfl,hi',w',Γ',R',e'⟩;have ev:Evo w2.L H1 H':=λb o h n=>R'.frame b o (by rw[hC];exact h) (by rw[hC];exact n)
 obtain⟨go,stop⟩:=hJ w2.L sub avoid H' ev;by_cases hlt:i < its.length
 ·obtain⟨t,ht⟩:∃ t,its[i]?=some t:=⟨its[i],by simp⟩
  have hd:its.drop i=t::its.drop (i+1):=by
   obtain⟨h1,h2⟩:=AZ.mp ht;rw[← h2];exact GH h1
  rw[hd]at e';unfold forD at e';obtain⟨Γ2,e2,e'⟩:=bind_some e';obtain⟨o2,e3,e'⟩:=bind_some e';obtain⟨g1,g2⟩:=go i t ht;refine .inr ⟨g1,λσ H=>∃ w Γ,Rep K C1 w Γ σ H/\forD tg b (its.drop (i+1)) Γ=some o,λσ2 H2 ⟨w2,Γ2,R2,e2⟩=>⟨_,by lia,rfl,hlt,w2,Γ2,R2,e2⟩,λx H3 hx=>?_⟩;obtain⟨k1,k2⟩:=g2 x H3 hx;refine hg C1 w' Γ' σ' H3 x t Γ2 _ hp1 (R'.evo0 k1) k2 e2 λσ4 R4=>hb C1 w' Γ2 σ4 H3 _ o2 hp1 R4 e3 ?_
  cases o2 with
  | nx Γ5=>exact λw5 σ5 H5 R5=>⟨w5,Γ5,R5,e'⟩
  | ct Γ5=>exact λw5 σ5 H5 R5=>⟨w5,Γ5,R5,e'⟩
  | bk Γ5=>cases e';exact λw5 σ5 H5 R5=>k w5 σ5 H5 (R2.back hC R5)
  | rt s Γ5=>cases e';exact λw5 σ5 H5 v R5 o5=>k w5 σ5 H5 v (R2.back hC R5) (o5.back R2 hC)
 ·have:i=its.length:=by lia
  subst this;rw[IA]at e';cases e';exact .inl ⟨stop,k w' σ' H' (R2.back hC R')⟩
noncomputable def pick1 (mu:Option Nat) (k:Nat):Option G->Option G
 | some (.l xs)=>if mu=some k then some (.l xs) else some (.r xs)
 | some (.d xs)=>some (.e xs)
 | o=>o
noncomputable def pick (mu:Option Nat) (ix:List (Option Nat)) (Γ:En):En:=ix.map λo=>o.bind λk=>pick1 mu k (Γ[k]?).join
noncomputable def compD (tg:En->T->Option En) (dc:DT) (de:DE):List T->En->Option (List T×En)
 | [],Γ=>some ([],Γ)
 | t::r,Γ=>(tg Γ t).bind λΓ1=>(dc Γ1).bind λp=>if p.1=true then (de p.2).bind λq=>q.1.tree.bind λt'=>(compD tg dc de r q.2).map λz=>(t'::z.1,z.2) else compD tg dc de r p.2
noncomputable def cback (mu:Option (Nat×Nat)) (Γ Γo:En):En:=match mu with
 | none=>Γ
 | some (j,i)=>match Γo[j]? with
  | some (some (.l xs))=>Γ.set i (some (.l xs))
  | _=>Γ
noncomputable def dComp (mu:Option (Nat×Nat)) (ix:List (Option Nat)) (di:DI) (tg:En->T->Option En) (dc:DT) (de:DE):DE:=λΓ=>(di Γ).bind λp =>
 match mu with
 | none=>(compD tg dc de p.1.1 (pick none ix p.2)).map λz=>(.l z.1,p.2)
 | some (j,i)=>if i∈p.1.2 then none else match p.2[i]? with
  | some (some (.l _))=>(compD tg dc de p.1.1 (pick (some i) ix p.2)).map λz=>(.l z.1,cback mu p.2 z.2)
  | _=>none
section
variable {K:Fg}
def Ub
  (hp:C1.pins.map (·.1)=jp.toList) (hg:SimG K jp g tg) (hc:SimT K tc dc) (he:SimE K te de) (hl:its.length<=AD) (hC:C1.H0=H1)
  (hJ:∀ H2,Evo C1.fx H1 H2->(∀ i t,its[i]?=some t->J.go i H2/\∀ x H3,J.yld i H2 x H3->(∀ b o,H2 b=some o->H3 b=some o)/\Im K H3 x t)/\J.stop its.length H2)
  (hfx:∀ p,p∈w1.L->p∈C1.fx)
  (R:Rep K C1 w1 Γ0 (frm ix σ) H1) (e:compD tg dc de its Γ0=some (ts,Γe))
  (k:∀ σ' H' ys,Rep K C1 w1 Γe σ' H'->Ims K H' ys ts->ys.length<=AD->∀ D,H' D=none->Q (.ref D) (upd H' D (.lst ys))):CompW J ix g tc te σ H1 Q:=by
 refine⟨λi m ys σ' H'=>m=its.length - i/\i<=its.length/\ys.length<=i/\∃ Γ pre post,Rep K C1 w1 Γ σ' H'/\Ims K H' ys pre/\compD tg dc de (its.drop i) Γ=some (post,Γe)/\ts=pre++post,⟨_,rfl,Au _,Au _,Γ0,[],ts,R,.nil,e,rfl⟩,?_⟩;rintro i m ys σ' H' ⟨rfl,hi,hy,Γ,pre,post,R',hpre,e',rfl⟩;obtain⟨go,stop⟩:=hJ H' (λb o h n=>R'.frame b o (by rw[hC];exact h) n);by_cases hlt:i < its.length
 ·obtain⟨t,ht⟩:∃ t,its[i]?=some t:=⟨its[i],by simp⟩
  have hd:its.drop i=t::its.drop (i+1):=by
   obtain⟨h1,h2⟩:=AZ.mp ht;rw[← h2];exact GH h1
  rw[hd]at e';unfold compD at e';obtain⟨Γ1,e1,e'⟩:=bind_some e';obtain⟨⟨b,Γ2⟩,e2,e'⟩:=bind_some e';obtain⟨g1,g2⟩:=go i t ht;refine .inr ⟨g1,by lia,λys' σ2 H2=>ys'.length<=i+1/\∃ Γ pre' post',Rep K C1 w1 Γ σ2 H2/\Ims K H2 ys' pre'/\compD tg dc de (its.drop (i+1)) Γ=some (post',Γe)/\pre++post=pre'++post',λys' σ2 H2 ⟨a,b⟩=>⟨_,by lia,rfl,hlt,a,b⟩,λx H2 hx=>?_⟩;obtain⟨k1,k2⟩:=g2 x H2 hx;have ev1:Evo w1.L H' H2:=λb o h _=>k1 b o h
  refine hg C1 w1 Γ σ' H2 x t Γ1 _ hp (R'.evo0 k1) k2 e1 λσ3 R3=>hc C1 w1 Γ1 σ3 H2 b Γ2 _ R3 e2 λH4 R4 ev4=>?_
  have hpre4:=(hpre.evo ev1 R'.lst).evo ev4 R3.lst;cases b with
  | true =>
   rw[if_pos rfl]at e' ⊢;obtain⟨⟨s,Γ3⟩,e3,e'⟩:=bind_some e';obtain⟨t',e4,e'⟩:=bind_some e';obtain⟨⟨ts',Γ4⟩,e5,e'⟩:=LF e';cases e';refine he C1 w1 Γ2 σ3 H4 s Γ3 _ R4 e3 λv H5 R5 ev5 o5 _=>?_
   cases s with
   | l _=>cases e4
   | s _=>cases e4
   | d _=>cases e4
   | v t'' =>
    cases e4;exact⟨by simp;lia,Γ3,pre++[t'],ts',R5,(hpre4.evo ev5 R4.lst).app (.one o5),e5,by simp⟩
  | false =>
   exact⟨by lia,Γ2,pre,post,R4,hpre4,e',rfl⟩
 ·have:i=its.length:=by lia
  subst this;rw[IA]at e';cases e';rw[Bn]at k;exact .inl ⟨stop,by lia,k σ' H' ys R' hpre ⋯⟩
theorem Oj{ix Γ}{j:Nat}{g}(h:(pick mu ix Γ)[j]?=some (some g)):∃ k g',ix[j]?=some (some k)/\Γ[k]?=some (some g')/\pick1 mu k (some g')=some g:=by
 unfold pick at h;rw[Am]at h;cases e:ix[j]? with
 | none=>rw[e]at h;cases h
 | some o =>
  rw[e]at h;cases o with
  | none=>cases h
  | some k =>
   have h':pick1 mu k (Γ[k]?).join=some g:=Av h;cases e2:Γ[k]? with
   | none=>rw[e2]at h';cases h'
   | some o2 =>
    cases o2 with
    | none=>rw[e2]at h';cases h'
    | some g'=>rw[e2]at h';exact⟨k,g',rfl,e2,h'⟩
def Pt{j k:Nat}{v}(h:ix[j]?=some (some k))(hv:σ[k]?=some (some v)):(frm ix σ)[j]?=some (some v):=by
 unfold frm;simp_all
theorem RW{wi g tc te di tg dc de}(hi:SimI K wi di)(hg:SimG K (mu.map (·.1)) g tg)(hc:SimT K tc dc)(he:SimE K te de)
  (hmu:∀ j i,mu=some (j,i)->ix[j]?=some (some i)) (hix:∀ (j j' i:Nat),mu.map (·.2)=some i->ix[j]?=some (some i)->ix[j']?=some (some i)->j=j'):SimE K (tComp wi ix g tc te) (dComp mu ix di tg dc de):=by
 intro C w Γ σ H s Γ' Q R e k;obtain⟨⟨⟨its,src⟩,Γ1⟩,e1,e⟩:=bind_some e;refine hi C w Γ σ H its src Γ1 _ R e1 λJ H1 R1 ev1 ⟨hl,hJ⟩=>?_
 cases mu with
 | none =>
  obtain⟨⟨ts,Γe⟩,e2,e⟩:=LF e;cases e;have Rin:Rep K ⟨H1,[],[]⟩ ⟨[],λq=>w.R q\/q∈w.L⟩ (pick none ix Γ1) (frm ix σ) H1:=by
   refine⟨by simp[pick,frm],λj g h=>?_,λi j p ga gb ma mb h1 h2 h3 h4=>?_,λp hp=>(nomatch hp),λp hp=>(nomatch hp),λp hp=>?_,λp hp=>(nofun),λb o h _=>h,λq hq=>(nomatch hq)⟩
   ·obtain⟨k',g',a1,a2,a3⟩:=Oj h;obtain⟨v,b1,b2⟩:=R1.val k' g' a2;refine⟨v,Pt a1 b1,?_⟩;cases g' with
    | v t=>cases a3;exact b2
    | l xs =>
     have:=by simpa [pick1] using a3.symm
     subst this;obtain⟨p,vs,rfl,c1,c2,c3⟩:=b2;exact⟨p,vs,rfl,c3,c2,nofun,.inr c1⟩
    | r xs =>
     cases a3;obtain⟨p,vs,rfl,c1,c2⟩:=b2;exact⟨p,vs,rfl,c1,c2.1,nofun,.inl c2.2.2⟩
    | d xs =>
     cases a3;obtain⟨p,vs,rfl,c1,c2,c3⟩:=b2;exact⟨p,vs,rfl,c3,c2,nofun,.inr c1⟩
    | e xs =>
     cases a3;obtain⟨p,vs,rfl,c1,c2⟩:=b2;exact⟨p,vs,rfl,c1,c2.1,nofun,.inl c2.2.2⟩
    | k xs=>cases a3;exact b2
   ·obtain⟨k',g',a1,a2,a3⟩:=Oj h1;cases g' with
    | v t=>cases a3;cases ma
    | l xs =>
     have:=by simpa [pick1] using a3.symm
     subst this;cases ma
    | r xs=>cases a3;cases ma
    | k xs=>cases a3;cases ma
    | d xs=>cases a3;cases ma
    | e xs=>cases a3;cases ma
   ·rcases hp with z | z
    ·exact R1.ra p z
    ·obtain⟨o,z,_⟩:=R1.lst p z;exact⟨o,z⟩
  refine Ub rfl hg hc he hl rfl (λH2 ev=>hJ [] (λp hp=>nomatch hp) (λ_ _ _ _ _=>nofun) H2 ev) (λp hp=>hp) Rin e2 λσ' H' ys R' hy hz D hD=>?_
  have R2:=R1.evo0 λb o h=>R'.frame b o h nofun
  exact k _ _ (R2.new hD) ((ev1.trans λb o h _=>R'.frame b o h nofun).trans (Evo.new hD)) (R2.newl hD hy) ⟨_,rfl,MD (ev1.trans λb o h _=>R'.frame b o h nofun) R2.lst hD⟩
 | some m =>
  obtain⟨j,i⟩:=m;dsimp only at e;split at e
  ·cases e
  rename_i hsrc;split at e
  rotate_left
  ·cases e
  rename_i xs0 hx0;obtain⟨⟨ts,Γe⟩,e2,e⟩:=LF e;cases e;obtain⟨v0,s0,p,vs0,rfl,m0,h0,i0⟩:=R1.val i _ hx0;have hij:=hmu j i rfl;have Rin:Rep K ⟨H1,[p],[(j,p)]⟩ ⟨[p],λq=>w.R q\/(q∈w.L/\q≠p)⟩ (pick (some i) ix Γ1) (frm ix σ) H1:=by
   refine⟨by simp[pick,frm],λj' g h=>?_,λi1 i2 p' ga gb ma mb h1 h2 h3 h4=>?_,λq hq=>?_,λq hq=>.inl hq,λq hq=>?_,λq hq z=>?_,λb o h _=>h,λq hq=>?_⟩
   ·obtain⟨k',g',a1,a2,a3⟩:=Oj h;obtain⟨v,b1,b2⟩:=R1.val k' g' a2;refine⟨v,Pt a1 b1,?_⟩;cases g' with
    | v t=>cases a3;exact b2
    | l xs =>
     obtain⟨p',vs,rfl,c1,c2,c3⟩:=b2;by_cases hk:i=k'
     ·subst hk;have:=by simpa [pick1] using a3.symm
      subst this;rw[s0]at b1;cases b1;exact⟨p,vs,rfl,AC.mpr rfl,c2,c3⟩
     ·have:=by simpa [pick1,hk] using a3.symm
      subst this;have hne:p'≠p:=λz=>hk (R1.apart i k' p _ _ rfl rfl hx0 a2 s0 (z ▸ b1))
      exact⟨p',vs,rfl,c3,c2,λz=>hne (AC.mp z),.inr ⟨c1,hne⟩⟩
    | d xs =>
     cases a3;obtain⟨p',o',rfl,c1,c2,c3⟩:=b2;have hne:p'≠p:=λz=>by
      subst z;rw[h0]at c2;cases c2;exact c3
     exact⟨p',o',rfl,c3,c2,λz=>hne (AC.mp z),.inr ⟨c1,hne⟩⟩
    | r xs =>
     cases a3;obtain⟨p',vs,rfl,c1,c2⟩:=b2;exact⟨p',vs,rfl,c1,c2.1,λz=>c2.2.1 (AC.mp z ▸ m0),.inl c2.2.2⟩
    | e xs =>
     cases a3;obtain⟨p',vs,rfl,c1,c2⟩:=b2;exact⟨p',vs,rfl,c1,c2.1,λz=>c2.2.1 (AC.mp z ▸ m0),.inl c2.2.2⟩
    | k xs=>cases a3;exact b2
   ·have only:∀ n gc,isMut gc=true->(pick (some i) ix Γ1)[n]?=some (some gc)->ix[n]?=some (some i):=λn gc mc h=>by
     obtain⟨k',g',a1,a2,a3⟩:=Oj h;cases g' with
     | v t=>cases a3;cases mc
     | l xs =>
      by_cases hk:i=k'
      ·subst hk;exact a1
      ·have:=by simpa [pick1,hk] using a3.symm
       subst this;cases mc
     | r xs=>cases a3;cases mc
     | k xs=>cases a3;cases mc
     | d xs=>cases a3;cases mc
     | e xs=>cases a3;cases mc
    exact hix i1 i2 i rfl (only i1 ga ma h1) (only i2 gb mb h2)
   ·rw[AC.mp hq];exact⟨_,h0,trivial⟩
   ·rcases hq with z | z
    ·exact R1.ra q z
    ·obtain⟨o,z,_⟩:=R1.lst q z.1;exact⟨o,z⟩
   ·have e:=AC.mp z;rcases hq with z | z
    ·exact R1.rl q z (e ▸ m0)
    ·exact z.2 e
   ·rw[AC.mp hq];refine⟨Pt hij s0,xs0,?_⟩;unfold pick;rw[Am,hij];show some (pick1 (some i) i (Γ1[i]?).join)=_;rw[hx0];simp[pick1]
  have av:∀ i'∈src,∀ q,σ[i']?=some (some (.ref q))->(∃ xs,Γ1[i']?=some (some (.l xs)))->q∉[p]:=λi' hi' q hq ⟨xs,hx⟩ z=>by
   rw[AC.mp z]at hq;have:=R1.apart i i' p _ _ rfl rfl hx0 hx s0 hq;subst this;exact hsrc hi'
  refine Ub rfl hg hc he hl rfl (λH2 ev=>hJ [p] (λq hq=>AC.mp hq ▸ m0) av H2 ev) (λp hp=>hp) Rin e2 λσ' H' ys R' hy hz D hD=>?_
  obtain⟨q1,xs',q2⟩:=R'.pin (j,p) (AC.mpr rfl);obtain⟨v',s',p',us',rfl,_,h',i'⟩:=R'.val j _ q2;have s'':σ'[j]?=some (some (.ref p)):=q1;rw[s'']at s';cases s';have evp:Evo [p] H1 H':=R'.frame;have R2:=(R1.put2 hx0 s0 evp h' i').1;have eb:cback (some (j,i)) Γ1 Γe=Γ1.set i (some (.l xs')):=by unfold cback;dsimp only;rw[q2]
  rw[eb]at k;exact k _ _ (R2.new hD) ((ev1.trans (evp.wide λq hq=>AC.mp hq ▸ m0)).trans (Evo.new hD)) (R2.newl hD hy) ⟨_,rfl,MD (ev1.trans (evp.wide λq hq=>AC.mp hq ▸ m0)) R2.lst hD⟩
end
abbrev DF:=List G->Option (G×List T)
noncomputable def ROk (K:Fg) (H H':Hp) (v:V):G->Prop
 | .v t=>Im K H' v t
 | .l xs=>∃ p us,v=.ref p/\H p=none/\H' p=some (.lst us)/\Ims K H' us xs
 | .r _=>False
 | .k _=>False
 | .d kvs=>∃ p o,v=.ref p/\H p=none/\H' p=some o/\DOk K H' o kvs
 | .e _=>False
def O9(h:DOk K H (.lst vs) kvs):False:=h
noncomputable def pinsG (ip:Option Nat) (vs:List V):List (Nat×Addr):=match ip with
 | none=>[]
 | some k=>match vs[k]? with
  | some (.ref p)=>[(k,p)]
  | _=>[]
noncomputable def spD (K:Fg) (ip:Option Nat) (n:Nat) (F:DF):Sp:=λvs H Q _=>vs.length=n/\∃ (w:W) (gs:List G) (r:G) (ys:List T),F gs=some (r,ys)/\Rep K ⟨H,w.L,pinsG ip vs⟩ w (gs.map some) (vs.map some) H /\
 (pinsG ip vs).map (·.1)=ip.toList/\(∀ p∈w.L,p∈(pinsG ip vs).map (·.2)) /\
 ∀ v H',Evo w.L H H'->(∀ q∈pinsG ip vs,∃ us,H' q.2=some (.lst us)/\Ims K H' us ys)->ROk K H H' v r->Q v H'
noncomputable def outl (ip:Option Nat) (Γ:En):List T:=match ip with
 | none=>[]
 | some k=>match Γ[k]? with
  | some (some (.l xs))=>xs
  | _=>[]
noncomputable def resG (ip:Option Nat) (Γ:En):S->Option G
 | .v t=>some (.v t)
 | .l xs=>some (.l xs)
 | .s i=>if ip=some i then none else match Γ[i]? with
  | some (some (.l xs))=>some (.l xs)
  | some (some (.d xs))=>some (.d xs)
  | _=>none
 | .d xs=>some (.d xs)
noncomputable def fnD (ip:Option Nat) (np nN:Nat) (g:DS):DF:=λgs=>if gs.length=np then (g (gs.map some++Ae (nN - np) none)).bind λo=>match o with
  | .nx Γ=>some (.v (.a .non),outl ip Γ)
  | .rt s Γ=>(resG ip Γ s).map λr=>(r,outl ip Γ)
  | _=>none
 else none
section
variable {K:Fg}
def Rep.more(R:Rep K C w Γ σ H) n:Rep K C w (Γ++Ae n none) (σ++Ae n none) H:=by
 have get:∀ {j:Nat} {g:G},(Γ++Ae n none)[j]?=some (some g)->Γ[j]?=some (some g):=λ{j g} h=>by
  rcases Bl j Γ.length with z | z
  ·rw[BH z]at h;exact h
  ·rw[Cj z,Gg]at h;split at h <;> cases h
 have put:∀ {j:Nat} {o:Option V},j < σ.length->(σ++Ae n none)[j]?=σ[j]?:=BH;have lt:∀ {j:Nat} {g:G},Γ[j]?=some (some g)->j < σ.length:=λh=>by rw[R.len];exact (AZ.mp h).1
 refine⟨by simp[R.len],λi g h=>?_,λi j p ga gb ma mb h1 h2 h3 h4=>?_,R.lst,R.own,R.ra,R.rl,R.frame,λq hq=>?_⟩
 ·have h':=get h;obtain⟨v,e1,e2⟩:=R.val i g h';exact⟨v,by rw[put (o:=none) (lt h')];exact e1,e2⟩
 ·have g1:=get h1;have g2:=get h2;rw[put (o:=none) (lt g1)]at h3;rw[put (o:=none) (lt g2)]at h4;exact R.apart i j p ga gb ma mb g1 g2 h3 h4
 ·obtain⟨h1,xs,h2⟩:=R.pin q hq;exact⟨by rw[put (o:=none) (lt h2)];exact h1,xs,by rw[BH (AZ.mp h2).1];exact h2⟩
theorem QW(hb:SimS K ip ts g)(h:spD K ip np (fnD ip np N.length g) vs H Q E):ts { nx:=λ_ H'=>Q .non H',rt:=Q } (L2.start N vs) H:=by
 obtain⟨hn,w,gs,r,ys,e,R,hp,hL,k⟩:=h;unfold fnD at e;have hg:gs.length=np:=by
  have:=R.len;simp at this;lia
 rw[if_pos hg]at e;obtain⟨o,e1,e⟩:=bind_some e;have R0:Rep K ⟨H,w.L,pinsG ip vs⟩ w (gs.map some++Ae (N.length - np) none) (L2.start N vs) H:=by
  unfold L2.start;rw[hn];exact R.more _
 have fin:∀ {w':W} {Γ':En} {σ':St} {H':Hp},Rep K ⟨H,w.L,pinsG ip vs⟩ w' Γ' σ' H'->outl ip Γ'=ys->∀ v,ROk K H H' v r->Q v H':=λ{w' Γ' σ' H'} R' eo v hr=>by
  refine k v H' (R'.frame) (λq hq=>?_) hr;obtain⟨h1,xs,h2⟩:=R'.pin q hq;obtain⟨v',e1,p,us,rfl,_,h3,h4⟩:=R'.val q.1 _ h2;rw[h1]at e1;cases e1;refine⟨us,h3,?_⟩;have hq1:=hp ▸ Aq.mpr ⟨q,hq,rfl⟩;rw[E4]at hq1;unfold outl at eo;rw[hq1]at eo;dsimp only at eo;rw[h2]at eo;rw[← eo];exact h4
 have notpin:∀ {w':W} {Γ':En} {σ':St} {H':Hp} {p:Addr},Rep K ⟨H,w.L,pinsG ip vs⟩ w' Γ' σ' H'->(∀ q∈pinsG ip vs,q.2≠p)->Ow ⟨H,w.L,pinsG ip vs⟩ p->H p=none:=λ{w' Γ' σ' H' p} R' hne ow=>by
  rcases ow with z | z
  ·obtain⟨q,hq,e⟩:=Aq.mp (hL p z);exact absurd e (hne q hq)
  ·exact z
 refine hb _ w _ _ H _ o hp R0 e1 ?_;cases o with
 | nx Γ' =>
  cases e;exact λw' σ' H' R'=>fin R' rfl _ rfl
 | rt s Γ' =>
  obtain⟨r',e2,e⟩:=LF e;cases e;refine λw' σ' H' v R' o'=>fin R' rfl v ?_
  have inL:∀ q∈pinsG ip vs,q.2∈w'.L:=λq hq=>by
   obtain⟨h1,xs,h2⟩:=R'.pin q hq;obtain⟨v',e1,p,us,rfl,h3,_⟩:=R'.val q.1 _ h2;rw[h1]at e1;cases e1;exact h3
  cases s with
  | v t=>cases e2;exact o'
  | l xs =>
   cases e2;obtain⟨p,us,rfl,n1,n2,ow,h1,h2⟩:=o';exact⟨p,us,rfl,notpin R' (λq hq z=>n1 (z ▸ inL q hq)) ow,h1,h2⟩
  | d xs =>
   cases e2;obtain⟨p,us,rfl,n1,n2,ow,h1,h2⟩:=o';exact⟨p,us,rfl,notpin R' (λq hq z=>n1 (z ▸ inL q hq)) ow,h1,h2⟩
  | s i =>
   unfold resG at e2;dsimp only at e2;split at e2
   ·cases e2
   rename_i hi;split at e2
   ·rename_i xs hx;cases e2;obtain⟨v',e3,p,us,rfl,h3,h4,h5⟩:=R'.val i _ hx;have o'':σ'[i]?=some (some v):=o';rw[o'']at e3;cases e3;refine⟨p,us,rfl,notpin R' (λq hq z=>?_) (R'.own p h3),h4,h5⟩;obtain⟨h1,ys',h2⟩:=R'.pin q hq;have:=R'.apart q.1 i q.2 _ _ rfl rfl h2 hx h1 (z ▸ o'');have hq1:=hp ▸ Aq.mpr ⟨q,hq,rfl⟩;rw[E4]at hq1;exact hi (by rw[hq1,this])
   ·rename_i xs hx;cases e2;obtain⟨v',e3,p,us,rfl,h3,h4,h5⟩:=R'.val i _ hx;have o'':σ'[i]?=some (some v):=o';rw[o'']at e3;cases e3;refine⟨p,us,rfl,notpin R' (λq hq z=>?_) (R'.own p h3),h4,h5⟩;obtain⟨h1,ys',h2⟩:=R'.pin q hq;have:=R'.apart q.1 i q.2 _ _ rfl rfl h2 hx h1 (z ▸ o'');have hq1:=hp ▸ Aq.mpr ⟨q,hq,rfl⟩;rw[E4]at hq1;exact hi (by rw[hq1,this])
   ·cases e2
 | bk Γ'=>cases e
 | ct Γ'=>cases e
noncomputable def argG (ip:Option Nat) (Γ:En) (k:Nat):S->Option G
 | .v t=>some (.v t)
 | .l xs=>some (if ip=some k then .l xs else .r xs)
 | .s i=>match Γ[i]? with
  | some (some (.l xs))=>some (if ip=some k then .l xs else .r xs)
  | some (some (.r xs))=>if ip=some k then none else some (.r xs)
  | some (some (.k xs))=>if ip=some k then none else some (.k xs)
  | some (some (.d xs))=>if ip=some k then none else some (.e xs)
  | some (some (.e xs))=>if ip=some k then none else some (.e xs)
  | _=>none
 | .d xs=>if ip=some k then none else some (.e xs)
noncomputable def argsG (ip:Option Nat) (Γ:En):Nat->List S->Option (List G)
 | _,[]=>some []
 | k,s::r=>(argG ip Γ k s).bind λg=>(argsG ip Γ (k+1) r).map λgs=>g::gs
noncomputable def isSl (i:Nat):S->Bool
 | .s j=>j == i
 | _=>false
noncomputable def isTmp:S->Bool
 | .l _=>true
 | _=>false
noncomputable def onceS (ip:Option Nat) (ss:List S):Bool:=match ip with
 | none=>true
 | some k=>match ss[k]? with
  | some (.s i)=>(ss.eraseIdx k).all λs=>!isSl i s
  | some (.l _)=>(ss.eraseIdx k).all λs=>!isTmp s
  | _=>false
noncomputable def backS (ip:Option Nat) (Γ:En) (ss:List S) (ys:List T):En:=match ip with
 | none=>Γ
 | some k=>match ss[k]? with
  | some (.s i)=>Γ.set i (some (.l ys))
  | _=>Γ
noncomputable def toS:G->S
 | .v t=>.v t
 | .l xs=>.l xs
 | .r xs=>.l xs
 | .k xs=>.l xs
 | .d xs=>.d xs
 | .e xs=>.d xs
noncomputable def dCall (ip:Option Nat) (F:DF) (ds:List V) (fa:DA):DE:=λΓ=>(fa Γ).bind λp=>if onceS ip p.1=true then (argsG ip p.2 0 (p.1++ds.map λv=>.v (.a v))).bind λgs=>(F gs).map λq=>(toS q.1,backS ip p.2 p.1 q.2) else none
theorem SOks.app:∀ {vs ss},SOks K C w σ H vs ss->∀ ds,SOks K C w σ H (vs++ds) (ss++ds.map λv=>.v (.a v))
 | [],[],_,[]=>trivial
 | [],[],_,d::ds=>⟨SOk.atom,SOks.app (vs:=[]) (ss:=[]) trivial ds⟩
 | _::_,_::_,h,ds=>⟨h.1,SOks.app h.2 ds⟩
 | [],_::_,h,_=>h.elim
 | _::_,[],h,_=>h.elim
theorem SOks.len:∀ {vs ss},SOks K C w σ H vs ss->vs.length=ss.length
 | [],[],_=>rfl
 | _::_,_::_,h=>by simp[SOks.len h.2]
 | [],_::_,h=>h.elim
 | _::_,[],h=>h.elim
theorem SOks.get:∀ {vs ss} {k:Nat} {s},SOks K C w σ H vs ss->ss[k]?=some s->∃ v,vs[k]?=some v/\SOk K C w σ H v s
 | [],[],_,_,_,e=>by simp at e
 | v::_,_::_,0,_,h,e=>by simp at e;subst e;exact⟨v,rfl,h.1⟩
 | _::_,_::_,k+1,_,h,e=>by simpa using SOks.get h.2 ‹_›
 | [],_::_,_,_,h,_=>h.elim
 | _::_,[],_,_,h,_=>h.elim
theorem SH:∀ {ss k gs},argsG ip Γ k ss=some gs->gs.length=ss.length
 | [],_,_,e=>by cases e;rfl
 | s::r,k,_,e=>by
  obtain⟨g,e1,e⟩:=bind_some e;obtain⟨gs,e2,rfl⟩:=LF e;simp[SH e2]
theorem My:∀ {ss k gs j g},argsG ip Γ k ss=some gs->gs[j]?=some g->∃ s,ss[j]?=some s/\argG ip Γ (k+j) s=some g
 | [],_,_,_,_,e,h=>by cases e;simp at h
 | s::r,k,_,j,g,e,h=>by
  obtain⟨g',e1,e⟩:=bind_some e;obtain⟨gs,e2,rfl⟩:=LF e;cases j with
  | zero=>simp at h;subst h;exact⟨s,rfl,e1⟩
  | succ j =>
   obtain⟨s',a,b⟩:=My e2 ‹_›;exact⟨s',by simpa using a,by rw[← b];congr 1;lia⟩
theorem PY(hF:∀ gs r,F gs=some r->gs.length=n)(ha:SimA K ta fa):SimE K (tCall (spD K ip n F) ds E ta) (dCall ip F ds fa):=by
 intro C w Γ σ H s Γ' Q R e k;obtain⟨⟨ss,Γ1⟩,e1,e⟩:=bind_some e;dsimp only at e;split at e
 rotate_left
 ·cases e
 rename_i honce;obtain⟨gs,e2,e⟩:=bind_some e;obtain⟨⟨r,ys⟩,e3,e⟩:=LF e;cases e;refine ha C w Γ σ H ss Γ1 _ R e1 λvs0 H1 R1 ev1 o0 n0=>?_
 have o1:=o0.app ds;have hl0:=o0.len;generalize hvs:vs0++ds=vs at o1 ⊢;generalize hss:ss++(ds.map λv=>S.v (.a v))=ss' at o1 e2;have hl:=o1.len;have hgl:=SH e2;have hn:vs.length=n:=by rw[hl,← hgl];exact hF _ _ e3
 have resOk:∀ {H2:Hp} {v:V} {L:List Addr},Evo L H1 H2->ROk K H1 H2 v r->Rep K C w Γ1 σ H1->SOk K C w σ H2 v (toS r):=λ{H2 v L} ev hr R=>by
  cases r with
  | v t=>exact hr
  | l xs =>
   obtain⟨p,us,rfl,h1,h2,h3⟩:=hr;obtain⟨a,b,c⟩:=R.fresh h1;exact⟨p,us,rfl,a,b,c,h2,h3⟩
  | r xs=>exact hr.elim
  | k xs=>exact hr.elim
  | d xs =>
   obtain⟨p,us,rfl,h1,h2,h3⟩:=hr;obtain⟨a,b,c⟩:=R.fresh h1;exact⟨p,us,rfl,a,b,c,h2,h3⟩
  | e xs=>exact hr.elim
 have resNew:∀ {H2:Hp} {v:V},ROk K H1 H2 v r->Nw H v (toS r):=λ{H2 v} hr=>by
  cases r with
  | v t=>trivial
  | l xs =>
   obtain⟨p,us,rfl,h1,h2,h3⟩:=hr;exact⟨p,rfl,MD ev1 R1.lst h1⟩
  | r xs=>exact hr.elim
  | k xs=>exact hr.elim
  | d xs =>
   obtain⟨p,us,rfl,h1,h2,h3⟩:=hr;exact⟨p,rfl,MD ev1 R1.lst h1⟩
  | e xs=>exact hr.elim
 cases ip with
 | none =>
  have Rc:Rep K ⟨H1,[],[]⟩ ⟨[],λq=>∃ o,H1 q=some o⟩ (gs.map some) (vs.map some) H1:=by
   refine⟨by simp[hl,hgl],λj g h=>?_,λi j p ga gb ma mb h1 h2 h3 h4=>?_,λp hp=>(nomatch hp),λp hp=>(nomatch hp),λp hp=>hp,λp hp=>nofun,λb o h _=>h,λq hq=>(nomatch hq)⟩
   ·rw[Am]at h;obtain⟨g',h',h⟩:=LF h;cases h;obtain⟨s,a1,a2⟩:=My e2 h';obtain⟨v,b1,b2⟩:=o1.get a1;refine⟨v,by rw[Am,b1];rfl,?_⟩;cases s with
    | v t=>cases a2;exact b2
    | l xs =>
     simp[argG,BS]at a2;subst a2;obtain⟨p,us,rfl,n1,n2,ow,h1,h2⟩:=b2;exact⟨p,us,rfl,h2,h1,nofun,⟨_,h1⟩⟩
    | d xs =>
     simp[argG,reduceCtorEq,if_false,BS]at a2;subst a2;obtain⟨p,us,rfl,n1,n2,ow,h1,h2⟩:=b2;exact⟨p,us,rfl,h2,h1,nofun,⟨_,h1⟩⟩
    | s i =>
     unfold argG at a2;dsimp only at a2;split at a2
     ·rename_i xs hx;simp at a2;subst a2;obtain⟨v',c1,p,us,rfl,c2,c3,c4⟩:=R1.val i _ hx;have b2':=b2;rw[b2']at c1;cases c1;exact⟨p,us,rfl,c4,c3,nofun,⟨_,c3⟩⟩
     ·rename_i xs hx;simp at a2;subst a2;obtain⟨v',c1,p,us,rfl,c2,c3⟩:=R1.val i _ hx;have b2':=b2;rw[b2']at c1;cases c1;exact⟨p,us,rfl,c2,c3.1,nofun,R1.ra p c3.2.2⟩
     ·rename_i xs hx;simp at a2;subst a2;obtain⟨v',c1,c2⟩:=R1.val i _ hx;have b2':=b2;rw[b2']at c1;cases c1;exact c2
     ·rename_i xs hx;simp[reduceCtorEq,if_false,BS]at a2;subst a2;obtain⟨v',c1,p,us,rfl,c2,c3,c4⟩:=R1.val i _ hx;have b2':=b2;rw[b2']at c1;cases c1;exact⟨p,us,rfl,c4,c3,nofun,⟨_,c3⟩⟩
     ·rename_i xs hx;simp at a2;subst a2;obtain⟨v',c1,p,us,rfl,c2,c3⟩:=R1.val i _ hx;have b2':=b2;rw[b2']at c1;cases c1;exact⟨p,us,rfl,c2,c3.1,nofun,R1.ra p c3.2.2⟩
     ·cases a2
   ·rw[Am]at h1;obtain⟨g',h',h⟩:=LF h1;cases h;obtain⟨s,a1,a2⟩:=My e2 h';cases s with
    | v t=>cases a2;cases ma
    | l xs=>simp[argG]at a2;subst a2;cases ma
    | d xs=>simp[argG]at a2;subst a2;cases ma
    | s i =>
     unfold argG at a2;dsimp only at a2;split at a2 <;> simp at a2 <;> (subst a2;cases ma)
  refine⟨hn,⟨[],λq=>∃ o,H1 q=some o⟩,gs,r,ys,e3,Rc,rfl,(λp hp=>nomatch hp),λv H2 ev _ hr=>?_⟩;have R2:=R1.evo0 λb o h=>ev b o h nofun
  exact k v H2 R2 (ev1.trans λb o h _=>ev b o h nofun) (resOk ev hr R1) (resNew hr)
 | some kk =>
  have hkk:∃ s,ss[kk]?=some s:=by
   unfold onceS at honce;dsimp only at honce;cases z:ss[kk]? with
   | none=>rw[z]at honce;cases honce
   | some s=>exact⟨s,rfl⟩
  obtain⟨sk,hsk⟩:=hkk;have hkl:=(AZ.mp hsk).1;have hsk':ss'[kk]?=some sk:=by rw[← hss,BH hkl];exact hsk
  obtain⟨vk,hvk,ok⟩:=o1.get hsk';have at_k:∃ p us xs,vk=.ref p/\H1 p=some (.lst us)/\Ims K H1 us xs/\argG (some kk) Γ1 kk sk=some (.l xs)/\((∃ i,sk=.s i/\Γ1[i]?=some (some (.l xs))/\σ[i]?=some (some (.ref p))/\p∈w.L)\/(sk=.l xs/\p∉w.L/\¬ w.R p/\Ow C p)):=by
   obtain⟨gk,hgk⟩:∃ g,gs[kk]?=some g:=⟨gs[kk]'(by rw[hgl,← hss];simp;lia),by simp⟩
   obtain⟨s,a1,a2⟩:=My e2 hgk;rw[hsk']at a1;cases a1;rw[Bc]at a2;cases sk with
   | v t=>unfold onceS at honce;dsimp only at honce;rw[hsk]at honce;cases honce
   | l xs =>
    obtain⟨p,us,rfl,n1,n2,ow,h1,h2⟩:=ok;exact⟨p,us,xs,rfl,h1,h2,by simp[argG],.inr ⟨rfl,n1,n2,ow⟩⟩
   | s i =>
    unfold argG at a2;dsimp only at a2;have ok':=ok;split at a2
    ·rename_i xs hx;obtain⟨v',c1,p,us,rfl,c2,c3,c4⟩:=R1.val i _ hx;rw[ok']at c1;cases c1;exact⟨p,us,xs,rfl,c3,c4,by simp[argG,hx],.inl ⟨i,rfl,hx,ok',c2⟩⟩
    ·rw[if_pos rfl]at a2;cases a2
    ·rw[if_pos rfl]at a2;cases a2
    ·rw[if_pos rfl]at a2;cases a2
    ·rw[if_pos rfl]at a2;cases a2
    ·cases a2
   | d xs=>unfold onceS at honce;dsimp only at honce;rw[hsk]at honce;cases honce
  obtain⟨p,us,xs,rfl,hpu,hus,hag,hsort⟩:=at_k;have other:∀ j s,j≠kk->ss'[j]?=some s->(∀ i xs',s=.s i->Γ1[i]?=some (some (.l xs'))->σ[i]?≠some (some (.ref p)))/\(∀ xs' q,s=.l xs'->SOk K C w σ H1 (.ref q) s->q≠p):=λj s hj hs=>by
   rcases hsort with ⟨i0,rfl,g0,s0,m0⟩ | ⟨rfl,n1,n2,ow⟩
   ·refine⟨λi xs' e hx z=>?_,λxs' q e h z=>?_⟩
    ·subst e;have:=R1.apart i0 i p _ _ rfl rfl g0 hx s0 z;subst this;have hjl:j < ss.length:=by
      rcases Bl j ss.length with z | z
      ·exact z
      ·rw[← hss,Cj z,Am]at hs;obtain⟨d,_,hs⟩:=LF hs;cases hs
     rw[← hss,BH hjl]at hs;unfold onceS at honce;dsimp only at honce;rw[hsk]at honce;have:=AJ.mp honce (.s i0) (FS.mpr ⟨j,hj,hs⟩);simp[isSl]at this
    ·subst e;obtain⟨q',us'',e,n1,_⟩:=h;cases e;exact n1 (z ▸ m0)
   ·refine⟨λi xs' e hx z=>?_,λxs' q e h z=>?_⟩
    ·obtain⟨v',c1,p',us2,rfl,c2,_⟩:=R1.val i _ hx;rw[z]at c1;cases c1;exact n1 c2
    ·subst e;have hjl:j < ss.length:=by
      rcases Bl j ss.length with z | z
      ·exact z
      ·rw[← hss,Cj z,Am]at hs;obtain⟨d,_,hs⟩:=LF hs;cases hs
     rw[← hss,BH hjl]at hs;unfold onceS at honce;dsimp only at honce;rw[hsk]at honce;have:=AJ.mp honce _ (FS.mpr ⟨j,hj,hs⟩);simp[isTmp]at this
  have hpins:pinsG (some kk) vs=[(kk,p)]:=by unfold pinsG;dsimp only;rw[hvk]
  have Rc:Rep K ⟨H1,[p],[(kk,p)]⟩ ⟨[p],λq=>(∃ o,H1 q=some o)/\q≠p⟩ (gs.map some) (vs.map some) H1:=by
   have get:∀ {j:Nat} {g:G},(gs.map some)[j]?=some (some g)->∃ s,ss'[j]?=some s/\argG (some kk) Γ1 j s=some g:=λ{j g} h=>by
    rw[Am]at h;obtain⟨g',h',h⟩:=LF h;cases h;obtain⟨s,a1,a2⟩:=My e2 h';exact⟨s,a1,by rw[Bc]at a2;exact a2⟩
   have only:∀ {j:Nat} {gc:G},isMut gc=true->(gs.map some)[j]?=some (some gc)->j=kk:=λ{j gc} mc h=>by
    obtain⟨s,a1,a2⟩:=get h;by_cases hj:kk=j
    ·exact hj.symm
    ·cases s with
     | v t=>cases a2;cases mc
     | l xs=>simp[argG,hj]at a2;subst a2;cases mc
     | d xs=>simp[argG,hj]at a2;subst a2;cases mc
     | s i =>
      unfold argG at a2;dsimp only at a2;split at a2 <;> simp[hj]at a2 <;> (subst a2;cases mc)
   refine⟨by simp[hl,hgl],λj g h=>?_,λi j p' ga gb ma mb h1 h2 h3 h4=>(only ma h1).trans (only mb h2).symm,λq hq=>?_,λq hq=>.inl hq,λq hq=>hq.1,λq hq z=>hq.2 (AC.mp z),λb o h _=>h,λq hq=>?_⟩
   ·obtain⟨s,a1,a2⟩:=get h;obtain⟨v,b1,b2⟩:=o1.get a1;refine⟨v,by rw[Am,b1];rfl,?_⟩;by_cases hj:j=kk
    ·subst hj;rw[hsk']at a1;cases a1;rw[hag]at a2;cases a2;rw[hvk]at b1;cases b1;exact⟨p,us,rfl,AC.mpr rfl,hpu,hus⟩
    ·have hj':¬ kk=j:=λz=>hj z.symm
     obtain⟨x1,x2⟩:=other j s hj a1;cases s with
     | v t=>cases a2;exact b2
     | l xs' =>
      simp[argG,BS,hj']at a2;subst a2;have b3:=b2;obtain⟨q,us',rfl,n1,n2,ow,h1,h2⟩:=b2;have hne:=x2 xs' q rfl b3;exact⟨q,us',rfl,h2,h1,λz=>hne (AC.mp z),⟨_,h1⟩,hne⟩
     | s i =>
      have b2':=b2;unfold argG at a2;dsimp only at a2;split at a2
      ·rename_i xs' hx;simp[BS,hj',if_false]at a2;subst a2;obtain⟨v',c1,q,us',rfl,c2,c3,c4⟩:=R1.val i _ hx;rw[b2']at c1;cases c1;have hne:q≠p:=λz=>x1 i xs' rfl hx (z ▸ b2')
       exact⟨q,us',rfl,c4,c3,λz=>hne (AC.mp z),⟨_,c3⟩,hne⟩
      ·rename_i xs' hx;simp[BS,hj',if_false]at a2;subst a2;obtain⟨v',c1,q,us',rfl,c2,c3⟩:=R1.val i _ hx;rw[b2']at c1;cases c1;have hne:q≠p:=λz=>by
        subst z;rcases hsort with ⟨_,_,_,_,m0⟩ | ⟨_,n1,n2,ow⟩
        ·exact c3.2.1 m0
        ·exact n2 c3.2.2
       exact⟨q,us',rfl,c2,c3.1,λz=>hne (AC.mp z),R1.ra q c3.2.2,hne⟩
      ·rename_i xs' hx;simp[BS,hj',if_false]at a2;subst a2;obtain⟨v',c1,c2⟩:=R1.val i _ hx;rw[b2']at c1;cases c1;exact c2
      ·rename_i xs' hx;simp only[BS,hj',if_false]at a2;subst a2;obtain⟨v',c1,q,us',rfl,c2,c3,c4⟩:=R1.val i _ hx;rw[b2']at c1;cases c1;have hne:q≠p:=λz=>by subst z;rw[hpu]at c3;cases c3;exact O9 c4
       exact⟨q,us',rfl,c4,c3,λz=>hne (AC.mp z),⟨_,c3⟩,hne⟩
      ·rename_i xs' hx;simp only[BS,hj',if_false]at a2;subst a2;obtain⟨v',c1,q,us',rfl,c2,c3⟩:=R1.val i _ hx;rw[b2']at c1;cases c1;have hne:q≠p:=λz=>by subst z;have c4:=c3.1;rw[hpu]at c4;cases c4;exact O9 c2
       exact⟨q,us',rfl,c2,c3.1,λz=>hne (AC.mp z),R1.ra q c3.2.2,hne⟩
      ·cases a2
     | d xs' =>
      simp[argG,BS,hj',if_false]at a2;subst a2;obtain⟨q,us',rfl,n1,n2,ow,h1,h2⟩:=b2;have hne:q≠p:=λz=>by subst z;rw[hpu]at h1;cases h1;exact O9 h2
      exact⟨q,us',rfl,h2,h1,λz=>hne (AC.mp z),⟨_,h1⟩,hne⟩
   ·rw[AC.mp hq];exact⟨_,hpu,trivial⟩
   ·rw[AC.mp hq];refine⟨by rw[Am,hvk];rfl,xs,?_⟩;obtain⟨gk,hgk⟩:∃ g,gs[kk]?=some g:=⟨gs[kk]'(by rw[hgl,← hss];simp;lia),by simp⟩
    obtain⟨s,a1,a2⟩:=My e2 hgk;rw[hsk']at a1;cases a1;rw[Bc,hag]at a2;cases a2;rw[Am,hgk];rfl
  refine⟨hn,⟨[p],λq=>(∃ o,H1 q=some o)/\q≠p⟩,gs,r,ys,e3,by rw[hpins];exact Rc,by rw[hpins];rfl,by rw[hpins];exact λq hq=>hq,λv H2 ev hch hr=>?_⟩;rw[hpins]at hch;obtain⟨us2,hp2,hu2⟩:=hch (kk,p) (AC.mpr rfl);rcases hsort with ⟨i0,rfl,g0,s0,m0⟩ | ⟨rfl,n1,n2,ow⟩
  ·obtain⟨R2,ev2⟩:=R1.put2 g0 s0 ev hp2 hu2;have hb:backS (some kk) Γ1 ss ys=Γ1.set i0 (some (.l ys)):=by unfold backS;dsimp only;rw[hsk]
   rw[hb]at k;exact k v H2 R2 (ev1.trans ev2) (resOk ev hr R1) (resNew hr)
  ·have hb:backS (some kk) Γ1 ss ys=Γ1:=by unfold backS;dsimp only;rw[hsk]
   rw[hb]at k;refine k v H2 (R1.temp n1 n2 ow ⟨_,hpu,trivial⟩ ev) (λb o h n=>?_) (resOk ev hr R1) (resNew hr);by_cases z:b=p
   ·subst z;have hv0:=by
     rw[← hvs,BH (by simp_all)]at hvk;exact hvk
    obtain⟨p',e',hn'⟩:=n0.get hv0 hsk;cases e';rw[hn']at h;cases h
   ·exact ev b o (ev1 b o h n) λq=>z (AC.mp q)
end
noncomputable def lsOf (Γ:En):S->Option (List T)
 | .l xs=>some xs
 | .s i=>match Γ[i]? with
  | some (some (.l xs))=>some xs
  | some (some (.r xs))=>some xs
  | _=>none
 | .v _=>none
 | .d _=>none
noncomputable def sqlOf (Γ:En):S->Option (List T)
 | .l xs=>some xs
 | .s i=>match Γ[i]? with
  | some (some (.l xs))=>some xs
  | some (some (.r xs))=>some xs
  | some (some (.k xs))=>some xs
  | _=>none
 | .v (.l xs)=>some xs
 | .v _=>none
 | .d _=>none
section
variable {K:Fg}{C:Fr}{w:W}{Γ:En}{σ:St}{H:Hp}
theorem OA(R:Rep K C w Γ σ H)(o:SOk K C w σ H x s)(e:lsOf Γ s=some xs):∃ p vs,x=.ref p/\H p=some (.lst vs)/\Ims K H vs xs:=by
 cases s with
 | v t=>cases e
 | d _=>cases e
 | l ys=>cases e;obtain⟨p,vs,rfl,_,_,_,h1,h2⟩:=o;exact⟨p,vs,rfl,h1,h2⟩
 | s i =>
  have o':=o;unfold lsOf at e;dsimp only at e;split at e
  ·rename_i ys h;cases e;obtain⟨v,e1,p,vs,rfl,_,h1,h2⟩:=R.val i _ h;rw[o']at e1;cases e1;exact⟨p,vs,rfl,h1,h2⟩
  ·rename_i ys h;cases e;obtain⟨v,e1,p,vs,rfl,h1,h2,_⟩:=R.val i _ h;rw[o']at e1;cases e1;exact⟨p,vs,rfl,h2,h1⟩
  ·cases e
theorem MK(R:Rep K C w Γ σ H)(o:SOk K C w σ H x s)(e:sqlOf Γ s=some xs):∃ p vs,x=.ref p/\SqL K H p vs/\Ims K H vs xs:=by
 cases s with
 | v t =>
  cases t with
  | l ys =>
   cases e;obtain⟨p,vs,rfl,h1,h2⟩:=o.invl;exact⟨p,vs,rfl,h1.sq,h2⟩
  | a _=>cases e
  | t _=>cases e
  | f _=>cases e
  | x _ _=>cases e
  | w _=>cases e
 | d _=>cases e
 | l ys=>cases e;obtain⟨p,vs,rfl,_,_,_,h1,h2⟩:=o;exact⟨p,vs,rfl,SqL.of h1,h2⟩
 | s i =>
  have o':=o;unfold sqlOf at e;dsimp only at e;split at e
  ·rename_i ys h;cases e;obtain⟨v,e1,p,vs,rfl,_,h1,h2⟩:=R.val i _ h;rw[o']at e1;cases e1;exact⟨p,vs,rfl,SqL.of h1,h2⟩
  ·rename_i ys h;cases e;obtain⟨v,e1,p,vs,rfl,h1,h2,_⟩:=R.val i _ h;rw[o']at e1;cases e1;exact⟨p,vs,rfl,SqL.of h2,h1⟩
  ·rename_i ys h;cases e;obtain⟨v,e1,p,vs,rfl,h1,h2⟩:=R.val i _ h;rw[o']at e1;cases e1;exact⟨p,vs,rfl,h2.sq,h1⟩
  ·cases e
end
noncomputable def iS:S->Option Int
 | .v (.a (.int i))=>some i
 | _=>none
noncomputable def mkI (i:Int):S:=.v (.a (.int i))
noncomputable def mkB (b:Bool):S:=.v (.a (.bl b))
section
variable {K:Fg}{C:Fr}{w:W}{Γ:En}{σ:St}{H:Hp}
def ML(o:SOk K C w σ H x s)(e:iS s=some i):x=.int i:=by
 unfold iS at e;split at e
 ·cases e;exact o.inva
 ·cases e
end
noncomputable def inR (b:Nat):Int->Bool
 | .ofNat n=>EN n b
 | .negSucc n=>EN n b
theorem OR:inR b i=true ↔ -(b+1)<=i/\i<=b:=by
 cases i with
 | ofNat n =>
  simp[inR];lia
 | negSucc n =>
  simp[inR,Int.negSucc_eq];lia
def inR62(h:inR 4611686018427387903 i=true):-(2 ^ 62)<=i/\i < 2 ^ 62:=by have:=OR.mp h;lia
def inR63(h:inR 9223372036854775807 i=true):-(2 ^ 63)<=i/\i < 2 ^ 63:=by have:=OR.mp h;lia
def M4(h:n<=b):inR b n=true:=OR.mpr ⟨by lia,by lia⟩
noncomputable def opII (g:Int->Int->V):En->S->S->Option S:=λ_ a b=>(iS a).bind λi=>(iS b).bind λj=>some (.v (.a (g i j)))
noncomputable def opIIc (c:Int->Int->Prop) [∀ i j,Decidable (c i j)] (g:Int->Int->V):En->S->S->Option S:=λ_ a b=>(iS a).bind λi=>(iS b).bind λj=>if c i j then some (.v (.a (g i j))) else none
def NT:SimR2 K (rI0 g) (opII g):=by
 intro C w Γ σ H x y a b s Q R ox oy e k;obtain⟨i,e1,e⟩:=bind_some e;obtain⟨j,e2,e⟩:=bind_some e;cases e;exact⟨i,j,ML ox e1,ML oy e2,k _ H R .refl SOk.atom trivial⟩
def Nm [∀ i j,Decidable (c i j)]:SimR2 K (rI c g) (opIIc c g):=by
 intro C w Γ σ H x y a b s Q R ox oy e k;obtain⟨i,e1,e⟩:=bind_some e;obtain⟨j,e2,e⟩:=bind_some e;split at e
 ·rename_i hc;cases e;exact⟨i,j,ML ox e1,ML oy e2,hc,k _ H R .refl SOk.atom trivial⟩
 ·cases e
def cJ:((inR 18446744073709551615 i && inR 18446744073709551615 (-i)) || (inR 18446744073709551615 j && inR 18446744073709551615 (-j)))=true ↔ CMul i j:=by
 unfold CMul;simp[ OR];lia
noncomputable instance (i j:Int):Decidable (CMul i j):=decidable_of_iff _ cJ
noncomputable instance (i j:Int):Decidable (CDiv i j):=by unfold CDiv;infer_instance
noncomputable instance (i j:Int):Decidable (CPow i j):=by unfold CPow;infer_instance
theorem SimR2.or(a:SimR2 K r h)(b:SimR2 K r' h'):SimR2 K (λx y H Q=>r x y H Q\/r' x y H Q) (λΓ x y=>(h Γ x y).or (h' Γ x y)):=by
 intro C w Γ σ H x y s1 s2 s Q R ox oy e k;dsimp only at e;cases q:h Γ s1 s2 with
 | some z =>
  rw[q]at e;cases e;exact .inl (a C w Γ σ H x y s1 s2 _ Q R ox oy q k)
 | none =>
  rw[q]at e;exact .inr (b C w Γ σ H x y s1 s2 _ Q R ox oy e k)
noncomputable def addStr:En->S->S->Option S:=λ_ a b=>match a,b with
 | .v (.a (.str x)),.v (.a (.str y))=>gd (x.length+y.length) (.v (.a (.str (x++y))))
 | _,_=>none
noncomputable def rAddStr:R2:=λx y H Q=>∃ i j,x=.str i/\y=.str j/\i.length+j.length<=AD/\Q (.str (i++j)) H
def dO:SimR2 K rAddStr addStr:=by
 intro C w Γ σ H x y a b s Q R ox oy e k;unfold addStr at e;split at e
 ·obtain⟨h,rfl⟩:=L5 e;exact⟨_,_,ox.inva,oy.inva,h,k _ H R .refl SOk.atom trivial⟩
 ·cases e
noncomputable def rCatS (K:Fg):R2:=λx y H Q=>∃ a b xs ys,x=.ref a/\y=.ref b/\Tp K H a xs/\Tp K H b ys/\xs.length+ys.length<=AD/\∀ p H',Same H H'->Tp K H' p (xs++ys)->Q (.ref p) H'
open PySem.Spec PyProof.Rows in
def kX:OpR X (CW .Add) (rCatS X.K):=by
 intro pins s σ H x y v u Q I rx ry h;obtain⟨a,b,xs,ys,rfl,rfl,ha,hb,hz,q⟩:=h;cases rx;cases ry;obtain⟨its,r1,t1,z1⟩:=I.tuple ha.sq;obtain⟨its2,r2,t2,z2⟩:=I.tuple hb.sq;by_cases hx:xs=[]
 ·subst hx;have e:its=[]:=by have:=r1.length;simpa using this.symm
  subst e;obtain⟨⟨cls,dd,data,sl⟩,ho,hc,n,hd⟩:=id t1;obtain⟨⟨cls2,dd2,data2,sl2⟩,ho2,hc2,n2,hd2⟩:=id t2;simp only at hc hd hc2 hd2;subst hc hd hc2 hd2;refine Ha ⟨_,ho,rfl⟩ ⟨_,ho2,rfl⟩ GD HF Dy Dq (Dj _ _)
   (tuple_addW0 a b _ its2.toArray n n2 dd dd2 sl sl2 ↥1) ⟨ho,ho2,?_⟩
  exact⟨.ref b,H,I,rfl,q b H (Same.refl H) (by simpa using hb)⟩
 ·have hne:its≠[]:=λe=>hx (by have:=r1.length;rw[e]at this;simpa using this)
  refine HT.cat_tup t1 t2 hne (λe=>?_) (λe=>?_) (by rw[← r1.length,← r2.length];exact hz)
  ·have ey:ys=[]:=by have:=r2.length;rw[e]at this;simpa using this
   subst ey;exact⟨.ref a,H,I,rfl,q a H (Same.refl H) (by simpa using ha)⟩
  ·have hf:H s.heap.objs.size=none:=I.hok.fresh (AE _);refine⟨.ref s.heap.objs.size,_,I.laid (t':=s.toks) (λb o e=>AB _ e) (AE _) (show ObjOk X.prog X.w _ _ _ (.tup (xs++ys)) from ⟨by simpa using hz,its++its2,r1.append r2,TupD.new _ _⟩),rfl,q _ _ (Same.upd hf) (.inl Ld)⟩
noncomputable def addTup:En->S->S->Option S:=λ_ a b=>match a,b with
 | .v (.t xs),.v (.t ys)=>gd (xs.length+ys.length) (.v (.t (xs++ys)))
 | _,_=>none
def bM:SimR2 K (rCatS K) addTup:=by
 intro C w Γ σ H x y a b s Q R ox oy e k;unfold addTup at e;split at e
 ·obtain⟨h,rfl⟩:=L5 e;obtain⟨p,vs,rfl,h1,i1⟩:=ox.invt;obtain⟨q,us,rfl,h2,i2⟩:=oy.invt;refine⟨p,q,vs,us,rfl,rfl,h1,h2,by rw[i1.len,i2.len];exact h,λc H' sm hc=>k _ H' (R.same sm) (.of_same sm) ?_ trivial⟩;have ev:Evo w.L H H':=.of_same sm;exact⟨c,_,rfl,hc,(i1.evo ev R.lst).app (i2.evo ev R.lst)⟩
 ·cases e
noncomputable def addLst:En->S->S->Option S:=λΓ a b=>(lsOf Γ a).bind λxs=>(lsOf Γ b).bind λys=>gd (xs.length+ys.length) (.l (xs++ys))
def eR:SimR2 K rCat addLst:=by
 intro C w Γ σ H x y a b s Q R ox oy e k;obtain⟨xs,e1,e⟩:=bind_some e;obtain⟨ys,e2,e⟩:=bind_some e;obtain⟨h,rfl⟩:=L5 e;obtain⟨p,vs,rfl,h1,i1⟩:=OA R ox e1;obtain⟨q,us,rfl,h2,i2⟩:=OA R oy e2;exact⟨p,q,vs,us,rfl,rfl,h1,h2,by rw[i1.len,i2.len];exact h,λc hc=>k _ _ (R.new hc) (Evo.new hc) (R.newl hc (i1.app i2)) ⟨c,rfl,hc⟩⟩
noncomputable def addS:En->S->S->Option S:=λΓ x y=>((opII λi j=>.int (i+j)) Γ x y).or ((addTup Γ x y).or ((addLst Γ x y).or (addStr Γ x y)))
noncomputable def rAddS (K:Fg):R2:=λx y H Q=>rI0 (λi j=>.int (i+j)) x y H Q\/rCatS K x y H Q\/rCat x y H Q\/rAddStr x y H Q
def Zw:SimR2 K (rAddS K) addS:=NT.or (bM.or (eR.or dO))
def kP:OpR X (CW .Add) (rAddS X.K):=g6.or (kX.or (cm.or Xa))
noncomputable def fitM (n:Nat) (k:Int):Bool:=inR 9223372036854775807 k && EN (n * k.toNat) AD
noncomputable def mulLst:En->S->S->Option S:=λΓ a b=>(lsOf Γ a).bind λxs=>(iS b).bind λk=>if fitM xs.length k=true then some (.l (Ae k.toNat xs).flatten) else none
theorem Ims.rep(h:Ims K H vs ts):∀ n,Ims K H (Ae n vs).flatten (Ae n ts).flatten
 | 0=>.nil
 | n+1=>by rw[Cs];exact h.app (h.rep n)
def iJ:SimR2 K rRep mulLst:=by
 intro C w Γ σ H x y a b s Q R ox oy e k;obtain⟨xs,e1,e⟩:=bind_some e;obtain⟨n,e2,e⟩:=bind_some e;split at e
 ·rename_i h;cases e;unfold fitM at h;rw[Ar]at h;have h0:=inR63 h.1;obtain⟨p,vs,rfl,h1,i1⟩:=OA R ox e1;exact⟨p,n,vs,rfl,ML oy e2,h1,h0.1,h0.2,by rw[i1.len];exact (Ec h.2),λc hc=>k _ _ (R.new hc) (Evo.new hc) (R.newl hc (i1.rep _)) ⟨c,rfl,hc⟩⟩
 ·cases e
noncomputable def mulS:En->S->S->Option S:=λΓ x y=>(opIIc CMul (λi j=>.int (i * j)) Γ x y).or (mulLst Γ x y)
noncomputable def rMulS:R2:=λx y H Q=>rI CMul (λi j=>.int (i * j)) x y H Q\/rRep x y H Q
def gG:SimR2 K rMulS mulS:=Nm.or iJ
def cz:OpR X (CW .Mult) rMulS:=af.or dm
noncomputable def modS:En->S->S->Option S:=opIIc (λ_ j=>0 < j) λi j=>.int (i % j)
noncomputable def fdivS:En->S->S->Option S:=opIIc CDiv λi j=>.int (i / j)
noncomputable def powS:En->S->S->Option S:=opIIc CPow λi j=>.int (i ^ j.toNat)
noncomputable def subS:En->S->S->Option S:=opII λi j=>.int (i - j)
noncomputable def ltS:En->S->S->Option S:=opII λi j=>.bl (decide (i < j))
noncomputable def gtS:En->S->S->Option S:=opII λi j=>.bl (decide (j < i))
noncomputable def geS:En->S->S->Option S:=opII λi j=>.bl (decide (j<=i))
noncomputable def negS:En->S->Option S:=λ_ a=>(iS a).map λi=>mkI (-i)
def bU:SimR1 K (rU λi=>.int (-i)) negS:=by
 intro C w Γ σ H x a s Q R ox e k;obtain⟨i,e1,rfl⟩:=LF e;exact⟨i,ML ox e1,k _ H R .refl SOk.atom trivial⟩
noncomputable def ixS:En->S->S->Option S:=λΓ a b=>(iS b).bind λi=>match a with
 | .v (.t xs)=>(atI xs i).map .v
 | .v (.w xs)=>(atI xs i).map .v
 | .v (.a (.str z))=>if z.length<=AD then (atI z.cps.toList i).map λc=>.v (.a (.str ⟨#[c]⟩)) else none
 | a=>(sqlOf Γ a).bind λxs=>(atI xs i).map .v
def PJ(h:Ims K H vs ts)(e:atI ts i=some t):∃ v,atI vs i=some v/\Im K H v t:=by
 unfold atI at e ⊢;rw[h.len];obtain⟨j,e1,e⟩:=bind_some e;obtain⟨v,e2,hv⟩:=h.get e;exact⟨v,by rw[e1];exact e2,hv⟩
def jE:SimR2 K (rIx K) ixS:=by
 intro C w Γ σ H x y a b s Q R ox oy e k;obtain⟨i,e1,e⟩:=bind_some e;have hy:=ML oy e1;split at e
 ·obtain⟨t,e2,e⟩:=LF e;cases e;obtain⟨p,vs,rfl,h1,i1⟩:=ox.invt;obtain⟨v,e3,hv⟩:=PJ i1 e2;exact .inr (.inl ⟨p,vs,i,v,rfl,hy,h1.sq,e3,k v H R .refl hv trivial⟩)
 ·obtain⟨t,e2,e⟩:=LF e;cases e;obtain⟨p,vs,rfl,h1,i1⟩:=Im.invw ox;obtain⟨v,e3,hv⟩:=PJ i1 e2;exact .inr (.inl ⟨p,vs,i,v,rfl,hy,h1.sq,e3,k v H R .refl hv trivial⟩)
 ·split at e
  ·rename_i hz;obtain⟨c,e2,rfl⟩:=LF e;exact .inr (.inr ⟨_,i,c,ox.inva,hy,hz,e2,k _ H R .refl SOk.atom trivial⟩)
  ·cases e
 ·obtain⟨xs,e2,e⟩:=bind_some e;obtain⟨t,e3,rfl⟩:=LF e;obtain⟨p,vs,rfl,h1,i1⟩:=MK R ox e2;obtain⟨v,e4,hv⟩:=PJ i1 e3;exact .inl ⟨p,vs,i,v,rfl,hy,h1,e4,k v H R .refl hv trivial⟩
noncomputable def lenA (Γ:En):S->Option S
 | .v (.t xs)=>some (mkI xs.length)
 | .v (.w xs)=>some (mkI xs.length)
 | a=>(sqlOf Γ a).map λxs=>mkI xs.length
noncomputable def lenS:En->List S->Option S:=λΓ as=>match as with
 | [a]=>lenA Γ a
 | _=>none
noncomputable def rLenS (K:Fg):List V->Hp->VK->Prop:=λxs H Q=>(∃ p ys,xs=[.ref p]/\(SqL K H p ys\/SqT K H p ys)/\Q (.int ys.length) H)\/(∃ z,xs=[.str z]/\z.length<=AD/\Q (.int z.length) H)
theorem soks1(h:SOks K C w σ H vs [a]):∃ v,vs=[v]/\SOk K C w σ H v a:=by
 match vs,h with
 | [v],h=>exact⟨v,rfl,h.1⟩
theorem soks2(h:SOks K C w σ H vs [a,b]):∃ v u,vs=[v,u]/\SOk K C w σ H v a/\SOk K C w σ H u b:=by
 match vs,h with
 | [v,u],h=>exact⟨v,u,rfl,h.1,h.2.1⟩
def WC:SimRs K (rLenS K) lenS:=by
 intro C w Γ σ H vs as s Q R o e k;unfold lenS at e;split at e
 ·unfold lenA at e;split at e
  ·cases e;obtain⟨v,rfl,o1⟩:=soks1 o;obtain⟨p,us,rfl,h1,i1⟩:=o1.invt;refine .inl ⟨p,us,rfl,.inr h1.sq,?_⟩;rw[i1.len];exact k _ H R .refl SOk.atom trivial
  ·cases e;obtain⟨v,rfl,o1⟩:=soks1 o;obtain⟨p,us,rfl,h1,i1⟩:=Im.invw o1;refine .inl ⟨p,us,rfl,.inr h1.sq,?_⟩;rw[i1.len];exact k _ H R .refl SOk.atom trivial
  ·obtain⟨xs,e1,rfl⟩:=LF e;obtain⟨v,rfl,o1⟩:=soks1 o;obtain⟨p,us,rfl,h1,i1⟩:=MK R o1 e1;refine .inl ⟨p,us,rfl,.inl h1,?_⟩;rw[i1.len];exact k _ H R .refl SOk.atom trivial
 ·cases e
def iU:CallR X (.builtin "len") (rLenS X.K):=XW.or bB
noncomputable def seqS (Γ:En):S->Option (List T)
 | .v (.t xs)=>some xs
 | .v (.w xs)=>some xs
 | a=>sqlOf Γ a
def N2(R:Rep K C w Γ σ H)(o:SOk K C w σ H x s)(e:seqS Γ s=some xs):∃ p vs,x=.ref p/\(SqL K H p vs\/SqT K H p vs)/\Ims K H vs xs:=by
 unfold seqS at e;split at e
 ·cases e;obtain⟨p,us,rfl,h1,i1⟩:=o.invt;exact⟨p,us,rfl,.inr h1.sq,i1⟩
 ·cases e;obtain⟨p,us,rfl,h1,i1⟩:=Im.invw o;exact⟨p,us,rfl,.inr h1.sq,i1⟩
 ·obtain⟨p,us,rfl,h1,i1⟩:=MK R o e;exact⟨p,us,rfl,.inl h1,i1⟩
noncomputable def tupleS:En->List S->Option S:=λΓ as=>match as with
 | [.v (.t xs)]=>some (.v (.t xs))
 | [a]=>(sqlOf Γ a).map λxs=>.v (.t xs)
 | _=>none
def WI:SimRs K (λxs H Q=>∃ p ys,xs=[.ref p]/\((SqL K H p ys/\∀ l,H l=none->Q (.ref l) (upd H l (.tup ys)))\/(SqT K H p ys/\Q (.ref p) H))) tupleS:=by
 intro C w Γ σ H vs as s Q R o e k;unfold tupleS at e;split at e
 ·cases e;obtain⟨v,rfl,o1⟩:=soks1 o;obtain⟨p,us,rfl,h1,i1⟩:=o1.invt;exact⟨p,us,rfl,.inr ⟨h1.sq,k _ H R .refl o1 trivial⟩⟩
 ·obtain⟨xs,e1,rfl⟩:=LF e;obtain⟨v,rfl,o1⟩:=soks1 o;obtain⟨p,us,rfl,h1,i1⟩:=MK R o1 e1;exact⟨p,us,rfl,.inl ⟨h1,λl hl=>k _ _ (R.new hl) (Evo.new hl) (R.newt hl i1) trivial⟩⟩
 ·cases e
abbrev DO:=En->Option (Option Int×En)
def SimO (K:Fg) (t:TO) (f:DO):Prop:=∀ C w Γ σ H i Γ' Q,Rep K C w Γ σ H->f Γ=some (i,Γ')->(∀ H',Rep K C w Γ' σ H'->Evo w.L H H'->Q i H')->t σ H Q
noncomputable def dNoPart:DO:=λΓ=>some (none,Γ)
noncomputable def dPart (f:DE):DO:=λΓ=>(f Γ).bind λp=>(iS p.1).map λi=>(some i,p.2)
def Ws:SimO K tNoPart dNoPart:=λC w Γ σ H i Γ' Q R e k=>by cases e;exact k H R .refl
def dG(h:SimE K t f):SimO K (tPart t) (dPart f):=by
 intro C w Γ σ H i Γ' Q R e k;obtain⟨p,e1,e⟩:=bind_some e;obtain⟨i,e2,e⟩:=LF e;cases e;exact h C w Γ σ H p.1 p.2 _ R e1 λv H1 R1 ev o _=>⟨i,ML o e2,k H1 R1 ev⟩
noncomputable def cutT (xs:List T) (lo hi:Option Int):List T:=(xs.drop (HT.sIx xs.length 0 lo)).take (HT.sIx xs.length xs.length hi - HT.sIx xs.length 0 lo)
def Ims.cut(h:Ims K H vs ts) lo hi:Ims K H (cutV vs lo hi) (cutT ts lo hi):=by
 unfold cutV cutT;rw[h.len];exact (h.drop _).take _
noncomputable def slS (Γ:En) (lo hi:Option Int):S->Option S
 | .v (.t xs)=>some (.v (.t (cutT xs lo hi)))
 | .v (.a _)=>none
 | a=>(sqlOf Γ a).map λxs=>.l (cutT xs lo hi)
noncomputable def dSl (f:DE) (lo hi:DO):DE:=λΓ=>(f Γ).bind λp=>(lo p.2).bind λl=>(hi l.2).bind λh=>(slS h.2 l.1 h.1 p.1).map λs=>(s,h.2)
noncomputable def rSlTS (K:Fg):V->Option Int->Option Int->Hp->VK->Prop:=λx lo hi H Q=>∃ a xs,x=.ref a/\Tp K H a xs/\∀ p H',Same H H'->Tp K H' p (cutV xs lo hi)->Q (.ref p) H'
def je:SlR X (rSlTS X.K):=by
 intro pins s σ H x v vl vu lo hi sl Q I rx hs pl pu h;obtain⟨a,xs,rfl,hx,q⟩:=h;cases rx;obtain⟨its,r,ht,hz⟩:=I.tuple hx.sq;have hlen:its.toArray.size=xs.length:=by rw[Aa];exact r.length.symm
 refine⟨"tuple",_,Bh.lookup,ht.typeIs,?_⟩;by_cases hw:HT.sIx xs.length 0 lo=0/\HT.sIx xs.length xs.length hi=xs.length
 ·refine eJ ht hs pl pu (by rw[hlen];exact hw) ⟨.ref a,H,I,rfl,q a H (Same.refl H) ?_⟩;unfold cutV;rw[hw.1,hw.2,IY,Jd,Bk (AE _)];exact hx
 ·refine HT.qY ht hs pl pu (by rw[hlen];exact hw) ?_ (by rw[hlen];exact hz);rw[hlen];refine⟨.ref s.heap.objs.size,_,I.laid (λb ob q=>AB _ q) (AE _) ?_,rfl,q _ _ (Same.upd (I.hok.fresh (AE _))) (.inl Ld)⟩;exact⟨Ak (TZ xs lo hi) hz,_,(r.drop (HT.sIx xs.length 0 lo)).take (HT.sIx xs.length xs.length hi - HT.sIx xs.length 0 lo),TupD.new _ _⟩
noncomputable def rSlS (K:Fg):V->Option Int->Option Int->Hp->VK->Prop:=λx lo hi H Q=>rSlTS K x lo hi H Q\/rSlL K x lo hi H Q
def sl_S:SlR X (rSlS X.K):=je.or iL
def bG(he:SimE K te f)(hl:SimO K tl lo)(hh:SimO K th hi):SimE K (tSl (rSlS K) te tl th) (dSl f lo hi):=by
 intro C w Γ σ H s Γ' Q R e k;obtain⟨⟨a,G1⟩,e1,e⟩:=bind_some e;obtain⟨⟨i,G2⟩,e2,e⟩:=bind_some e;obtain⟨⟨j,G3⟩,e3,e⟩:=bind_some e;obtain⟨z,e4,e⟩:=LF e;cases e;dsimp only at e4;refine he C w Γ σ H a G1 _ R e1 λv H1 R1 ev1 o1 n1=>hl C w G1 σ H1 i G2 _ R1 e2 λH2 R2 ev2=>hh C w G2 σ H2 j G3 _ R2 e3 λH3 R3 ev3=>?_
 have o3:=(o1.evo ev2 R1.lst).evo ev3 R2.lst;have ev:=(ev1.trans ev2).trans ev3;unfold slS at e4;split at e4
 ·cases e4;obtain⟨p,us,rfl,h1,i1⟩:=o3.invt;exact .inl ⟨p,us,rfl,h1,λc H' sm hc=>k _ H' (R3.same sm) (ev.trans (.of_same sm)) (⟨c,_,rfl,hc,(i1.evo (.of_same sm) R3.lst).cut _ _⟩) trivial⟩
 ·cases e4
 ·obtain⟨xs,e5,e4⟩:=LF e4;cases e4;obtain⟨p,us,rfl,h1,i1⟩:=MK R3 o3 e5;exact .inr ⟨p,us,rfl,h1,λc hc=>k _ _ (R3.new hc) (ev.trans (Evo.new hc)) (R3.newl hc (i1.cut _ _)) ⟨c,rfl,MD ev R3.lst hc⟩⟩
def SimMut (K:Fg) (r:V->List V->Hp->VK->Prop) (h:En->List T->List S->Option (T×List T)):Prop:=∀ C w Γ σ H l us xs vs as t ys Q,Rep K C w Γ σ H->H l=some (.lst us)->Ims K H us xs->us.length<=AD->SOks K C w σ H vs as->h Γ xs as=some (t,ys) ->
 (∀ v us',Ims K H us' ys->Im K H v t->Q v (upd H l (.lst us')))->r (.ref l) vs H Q
noncomputable def isLs (Γ:En) (i:Nat):Bool:=match Γ[i]? with
 | some (some (.l _))=>true
 | _=>false
noncomputable def dMut (i:Nat) (h:En->List T->List S->Option (T×List T)) (fa:DA):DE:=λΓ=>if isLs Γ i=true then (fa Γ).bind λp=>match p.2[i]? with
 | some (some (.l xs))=>(gd xs.length ()).bind λ_=>(h p.2 xs p.1).map λq=>(.v q.1,p.2.set i (some (.l q.2)))
 | _=>none
 else none
def VI(R:Rep K C w Γ σ H)(h:isLs Γ i=true):∃ p vs,σ[i]?=some (some (.ref p))/\H p=some (.lst vs):=by
 unfold isLs at h;split at h
 ·rename_i xs e;obtain⟨v,e1,p,vs,rfl,_,h1,_⟩:=R.val i _ e;exact⟨p,vs,e1,h1⟩
 ·cases h
def TJ(hr:SimMut K r h)(ha:SimA K ta fa):SimE K (tBM K "list" r (tVar i) ta) (dMut i h fa):=by
 intro C w Γ σ H s Γ' Q R e k;unfold dMut at e;split at e
 rotate_left
 ·cases e
 rename_i hl;obtain⟨p,vs,e1,e2⟩:=VI R hl;obtain⟨⟨as,G1⟩,e3,e⟩:=bind_some e;dsimp only at e;split at e
 rotate_left
 ·cases e
 rename_i xs hx;obtain⟨_,eg,e⟩:=bind_some e;obtain⟨hsz,_⟩:=L5 eg;obtain⟨⟨t,ys⟩,e4,e⟩:=LF e;cases e;refine⟨.ref p,e1,.inl ⟨rfl,vs,SqL.of e2⟩,ha C w Γ σ H as G1 _ R e3 λus H1 R1 ev1 o1 n1=>?_⟩;obtain⟨v,s1,q,ws,rfl,m1,h1,i1⟩:=R1.val i _ hx;rw[e1]at s1;cases s1;refine hr C w G1 σ H1 p ws xs us as t ys _ R1 h1 i1 (by rw[i1.len];exact hsz) o1 e4 λv us' hu hv=>?_
 obtain⟨R2,ev2⟩:=R1.put hx e1 hu;exact k v _ R2 (ev1.trans ev2) (hv.evo ev2 R1.lst) trivial
def cj(hr:SimMut K r h):SimE K (tBM0 K "list" r (tVar i)) (dMut i h qQ):=by
 intro C w Γ σ H s Γ' Q R e k;have:=TJ hr (Uc) C w Γ σ H s Γ' Q R e k;obtain⟨v,e1,e2,e3⟩:=this;exact⟨v,e1,e2,e3⟩
noncomputable def hAppend:En->List T->List S->Option (T×List T):=λ_ xs as=>match as with
 | [.v t]=>if xs.length < AD then some (.a .non,xs++[t]) else none
 | _=>none
def ZX:SimMut K rAppend hAppend:=by
 intro C w Γ σ H l us xs vs as t ys Q R hl hi hz o e k;unfold hAppend at e;split at e
 ·split at e
  ·rename_i hn;cases e;obtain⟨v,rfl,o1⟩:=soks1 o;exact⟨l,us,v,rfl,rfl,hl,by rw[hi.len];exact hn,k _ _ (hi.app (.one o1)) Im.atom⟩
  ·cases e
 ·cases e
noncomputable def hPop:En->List T->List S->Option (T×List T):=λ_ xs as=>match as with
 | []=>(xs[xs.length - 1]?).map λt=>(t,xs.dropLast)
 | _=>none
theorem Ims.dropLast(h:Ims K H vs ts):Ims K H vs.dropLast ts.dropLast:=by
 rw[EU,EU,h.len];exact h.take _
theorem soks0(h:SOks K C w σ H vs []):vs=[]:=by
 match vs,h with
 | [],_=>rfl
def iE:SimMut K rPop hPop:=by
 intro C w Γ σ H l us xs vs as t ys Q R hl hi hz o e k;unfold hPop at e;split at e
 ·obtain⟨t',e1,e⟩:=LF e;cases e;obtain⟨v,e2,hv⟩:=hi.get e1;exact⟨l,us,v,rfl,soks0 o,hl,by rw[hi.len];exact e2,k _ _ hi.dropLast hv⟩
 ·cases e
noncomputable def hPopAt:En->List T->List S->Option (T×List T):=λ_ xs as=>match as with
 | [.v (.a (.int i))]=>if inR 9223372036854775807 i=true then (FG i xs.length).bind λk=>(xs[k]?).map λt=>(t,xs.eraseIdx k) else none
 | _=>none
def jz:SimMut K rPopAt hPopAt:=by
 intro C w Γ σ H l us xs vs as t ys Q R hl hi hz o e k;unfold hPopAt at e;split at e
 ·rename_i i;split at e
  ·rename_i hb;have hb:=inR63 hb;obtain⟨j,e1,e⟩:=bind_some e;obtain⟨t',e2,e⟩:=LF e;cases e;obtain⟨v,rfl,o1⟩:=soks1 o;obtain⟨y,e3,hy⟩:=hi.get e2;exact⟨l,us,i,j,y,rfl,by rw[o1.inva],hl,hb.1,hb.2,by rw[hi.len];exact e1,e3,k _ _ (hi.erase _) hy⟩
  ·cases e
 ·cases e
noncomputable def hExtend:En->List T->List S->Option (T×List T):=λΓ xs as=>match as with
 | [a]=>(lsOf Γ a).bind λzs=>gd (xs.length+zs.length) (.a .non,xs++zs)
 | _=>none
def Vf:SimMut K rExtend hExtend:=by
 intro C w Γ σ H l us xs vs as t ys Q R hl hi hz o e k;unfold hExtend at e;split at e
 ·obtain⟨zs,e1,e⟩:=bind_some e;obtain⟨hg,e⟩:=L5 e;cases e;obtain⟨v,rfl,o1⟩:=soks1 o;obtain⟨p,ws,rfl,h1,i1⟩:=OA R o1 e1;exact⟨l,p,us,ws,rfl,rfl,hl,h1,by rw[hi.len,i1.len];exact hg,k _ _ (hi.app i1) Im.atom⟩
 ·cases e
noncomputable def dSetIx (i:Nat) (fe fi:DE):DS:=λΓ=>(fe Γ).bind λp=>p.1.tree.bind λt=>if isLs p.2 i=true then (fi p.2).bind λq=>(iS q.1).bind λk=>match q.2[i]? with
  | some (some (.l xs))=>(ixN xs.length k).map λj=>.nx (q.2.set i (some (.l (xs.set j t))))
  | _=>none
 else none
theorem XU(he:SimE K te fe)(hi:SimE K ti fi):SimS K ip (tAsg te (gSub (tVar i) ti rSetL)) (dSetIx i fe fi):=by
 intro C w Γ σ H D o hp R e k;obtain⟨⟨s,G1⟩,e1,e⟩:=bind_some e;obtain⟨t,e2,e⟩:=bind_some e;dsimp only at e e2;split at e
 rotate_left
 ·cases e
 rename_i hl;obtain⟨⟨s2,G2⟩,e3,e⟩:=bind_some e;obtain⟨n,e4,e⟩:=bind_some e;dsimp only at e e4;split at e
 rotate_left
 ·cases e
 rename_i xs hx;obtain⟨j,e5,rfl⟩:=LF e;cases s with
 | l _=>cases e2
 | s _=>cases e2
 | d _=>cases e2
 | v t' =>
  cases e2;refine he C w Γ σ H _ G1 _ R e1 λv H1 R1 ev1 o1 n1=>?_
  obtain⟨p,vs,s1,h1⟩:=VI R1 hl;refine⟨.ref p,s1,hi C w G1 σ H1 s2 G2 _ R1 e3 λv2 H2 R2 ev2 o2 n2=>?_⟩;obtain⟨v3,s3,q,ws,rfl,m3,h3,i3⟩:=R2.val i _ hx;rw[s1]at s3;cases s3;exact⟨p,ws,n,j,rfl,ML o2 e4,h3,by rw[i3.len];exact e5,k w σ _ (R2.put hx s1 (i3.set j (o1.evo ev2 R1.lst))).1⟩
noncomputable def boolsOf:List T->Option (List Bool)
 | []=>some []
 | .a (.bl b)::r=>(boolsOf r).map λbs=>b::bs
 | _=>none
theorem RF:∀ {vs ts bs},Ims K H vs ts->boolsOf ts=some bs->vs=bs.map V.bl
 | _,[],_,h,e=>by cases e;exact h.inv0
 | _,.a (.bl b)::r,_,h,e=>by
  obtain⟨v,us,rfl,h1,h2⟩:=h.inv;obtain⟨bs,e1,rfl⟩:=LF e;rw[h1.inva,RF h2 e1];rfl
 | _,.t _::_,_,_,e=>by cases e
 | _,.l _::_,_,_,e=>by cases e
 | _,.f _::_,_,_,e=>by cases e
 | _,.x _ _::_,_,_,e=>by cases e
 | _,.w _::_,_,_,e=>by cases e
 | _,.a .non::_,_,_,e=>by cases e
 | _,.a (.int _)::_,_,_,e=>by cases e
 | _,.a (.str _)::_,_,_,e=>by cases e
 | _,.a (.byt _)::_,_,_,e=>by cases e
 | _,.a (.flt _)::_,_,_,e=>by cases e
 | _,.a (.ref _)::_,_,_,e=>by cases e
 | _,.a (.ty _)::_,_,_,e=>by cases e
noncomputable def allS:En->List S->Option S:=λΓ as=>match as with
 | [a]=>(sqlOf Γ a).bind λxs=>(boolsOf xs).map λbs=>mkB (bs.all id)
 | _=>none
def i9:SimRs K (λxs H Q=>∃ (p:Addr) (bs:List Bool),xs=[.ref p]/\SqL K H p (bs.map V.bl)/\Q (.bl (bs.all id)) H) allS:=by
 intro C w Γ σ H vs as s Q R o e k;unfold allS at e;split at e
 ·obtain⟨xs,e1,e⟩:=bind_some e;obtain⟨bs,e2,rfl⟩:=LF e;obtain⟨v,rfl,o1⟩:=soks1 o;obtain⟨p,us,rfl,h1,i1⟩:=MK R o1 e1;exact⟨p,bs,rfl,by rw[← RF i1 e2];exact h1,k _ H R .refl SOk.atom trivial⟩
 ·cases e
noncomputable def tyN (Γ:En):S->Option String
 | .v (.t _)=>some "tuple"
 | .v (.a (.int _))=>some "int"
 | .v (.a (.bl _))=>some "bool"
 | .v (.a (.str _))=>some "str"
 | .v (.a .non)=>some "NoneType"
 | .v (.l _)=>some "list"
 | .v _=>none
 | a=>(sqlOf Γ a).map λ_=>"list"
noncomputable def TyS (K:Fg) (H:Hp) (n:String):V->Prop
 | .int _=>n="int"
 | .bl _=>n="bool"
 | .str _=>n="str"
 | .non=>n="NoneType"
 | .ref p=>(n="list"/\∃ xs,SqL K H p xs)\/(n="tuple"/\∃ xs,SqT K H p xs)
 | _=>False
def Z3(R:Rep K C w Γ σ H)(o:SOk K C w σ H x s)(e:tyN Γ s=some n):TyS K H n x:=by
 unfold tyN at e;split at e
 ·cases e;obtain⟨p,us,rfl,h1,i1⟩:=o.invt;exact .inr ⟨rfl,us,h1.sq⟩
 ·cases e;rw[o.inva];exact rfl
 ·cases e;rw[o.inva];exact rfl
 ·cases e;rw[o.inva];exact rfl
 ·cases e;rw[o.inva];exact rfl
 ·rename_i ys;cases e;obtain⟨p,us,rfl,h1,i1⟩:=o.invl;exact .inl ⟨rfl,us,h1.sq⟩
 ·cases e
 ·obtain⟨xs,e1,rfl⟩:=LF e;obtain⟨p,us,rfl,h1,i1⟩:=MK R o e1;exact .inl ⟨rfl,us,h1⟩
theorem RY(I:Inv X pins σ H s)(rx:RelV x u)(ty:TyS X.K H n x):∃ P,PySem.W.KitX X.K u (.type n) P/\P s.heap/\u≠.builtin "__main__.__loader__#opaque":=by
 cases x with
 | non=>cases ty;cases rx;exact⟨_,PySem.W.kitx_none,Cz,λz=>nomatch z⟩
 | bl y=>cases ty;cases rx;exact⟨_,PySem.W.kitx_bool,Cz,λz=>nomatch z⟩
 | int i=>cases ty;obtain⟨t,q⟩:=rx;cases q;exact⟨_,PySem.W.kitx_int,Cz,λz=>nomatch z⟩
 | str y=>cases ty;obtain⟨t,q⟩:=rx;cases q;exact⟨_,PySem.W.kitx_str,Cz,λz=>nomatch z⟩
 | ref p =>
  cases rx;rcases ty with ⟨rfl,xs,h⟩ | ⟨rfl,xs,h⟩
  ·obtain⟨its,_,pl,_⟩:=I.list h;obtain⟨o,h1,h2,_⟩:=pl.isList;exact⟨_,PySem.W.kitx_list,⟨o,h1,h2⟩,λz=>nomatch z⟩
  ·obtain⟨its,_,pl,_⟩:=I.tuple h;obtain⟨o,h1,h2,_⟩:=pl;exact⟨_,PySem.W.kitx_tuple,⟨o,h1,h2⟩,λz=>nomatch z⟩
 | byt _=>exact ty.elim
 | flt _=>exact ty.elim
 | ty _=>exact ty.elim
noncomputable def tyIx:String->Option Nat
 | "int"=>some 0
 | "bool"=>some 1
 | "str"=>some 2
 | "list"=>some 3
 | "tuple"=>some 4
 | "NoneType"=>some 5
 | _=>none
noncomputable def tyNm:Nat->String
 | 0=>"int" | 1=>"bool" | 2=>"str" | 3=>"list" | 4=>"tuple" | _=>"NoneType"
@[simp] theorem l0:tyIx "tuple"=some 4:=(rfl)
def Te(h:tyIx a=some i):a=tyNm i/\i < 6:=by
 unfold tyIx at h;split at h <;> first | (cases h;exact⟨rfl,by decide⟩) | cases h
noncomputable def subTy (a b:String):Option Bool:=(tyIx a).bind λi=>(tyIx b).bind λj=>if j=5 then none else some (i == j || (i == 1 && j == 0))
def Vy(e:subTy a b=some c):Hg K (.type a) (.type b)=some c:=by
 obtain⟨i,e1,z0⟩:=bind_some e;obtain⟨j,e2,z⟩:=bind_some z0;clear z0;clear e;obtain⟨rfl,hi⟩:=Te e1;obtain⟨rfl,hj⟩:=Te e2;by_cases h5:j=5
 ·simp_all
 rw[if_neg h5]at z;cases z;have key:∀ i < 6,∀ j < 5,Hg K (.type (tyNm i)) (.type (tyNm j))=some (i == j || (i == 1 && j == 0)):=λi hi j hj=>by
  match i,hi,j,hj with
  | 0,_,0,_=>kernel_rfl
  | 0,_,1,_=>kernel_rfl
  | 0,_,2,_=>kernel_rfl
  | 0,_,3,_=>kernel_rfl
  | 0,_,4,_=>kernel_rfl
  | 1,_,0,_=>kernel_rfl
  | 1,_,1,_=>kernel_rfl
  | 1,_,2,_=>kernel_rfl
  | 1,_,3,_=>kernel_rfl
  | 1,_,4,_=>kernel_rfl
  | 2,_,0,_=>kernel_rfl
  | 2,_,1,_=>kernel_rfl
  | 2,_,2,_=>kernel_rfl
  | 2,_,3,_=>kernel_rfl
  | 2,_,4,_=>kernel_rfl
  | 3,_,0,_=>kernel_rfl
  | 3,_,1,_=>kernel_rfl
  | 3,_,2,_=>kernel_rfl
  | 3,_,3,_=>kernel_rfl
  | 3,_,4,_=>kernel_rfl
  | 4,_,0,_=>kernel_rfl
  | 4,_,1,_=>kernel_rfl
  | 4,_,2,_=>kernel_rfl
  | 4,_,3,_=>kernel_rfl
  | 4,_,4,_=>kernel_rfl
  | 5,_,0,_=>kernel_rfl
  | 5,_,1,_=>kernel_rfl
  | 5,_,2,_=>kernel_rfl
  | 5,_,3,_=>kernel_rfl
  | 5,_,4,_=>kernel_rfl
 exact key i hi j ⋯
noncomputable def subLT:String->Option Bool
 | "int"=>some false
 | "bool"=>some false
 | "str"=>some false
 | "NoneType"=>some false
 | "list"=>some true
 | "tuple"=>some true
 | _=>none
def cK(e:subLT a=some c):PySem.W.kitAny K (.type a) [.type "list",.type "tuple"]=some c:=by
 unfold subLT at e;split at e <;> first | (cases e;kernel_rfl) | cases e
noncomputable def rIsi (K:Fg):List V->Hp->VK->Prop:=λxs H Q=>∃ x T n b,xs=[x,.ty T]/\TyS K H n x/\subTy n T=some b/\Q (.bl b) H
def iF:CallR X (.builtin "isinstance") (rIsi X.K):=by
 intro pins s σ H xs us Q I r h;obtain⟨x,T,n,b,rfl,ty,e,q⟩:=h;obtain⟨u,u',rfl,r1,rfl⟩:=vals2 r;obtain⟨P,Z,hP,hx⟩:=RY I r1 ty;exact PySem.W.kia_one Z I.kIn hP (Vy e) hx λtk=>⟨.bl b,H,I.tok tk,rfl,q⟩
noncomputable def rIsiLT (K:Fg):List V->Hp->VK->Prop:=λxs H Q=>∃ x p n b,xs=[x,.ref p]/\SqT K H p [.ty "list",.ty "tuple"]/\TyS K H n x/\subLT n=some b/\Q (.bl b) H
def iB:CallR X (.builtin "isinstance") (rIsiLT X.K):=by
 intro pins s σ H xs us Q I r h;obtain⟨x,p,n,b,rfl,hp,ty,e,q⟩:=h;obtain⟨u,u',rfl,r1,rfl⟩:=vals2 r;obtain⟨its,rv,⟨o,ho,hcl,⟨m,hd⟩⟩,hz⟩:=I.tuple hp;obtain⟨u1,u2,rfl,rfl,rfl⟩:=vals2 rv;obtain⟨P,Z,hP,hx⟩:=RY I r1 ty;obtain⟨cls,dd,data,sl⟩:=o;simp only at hcl hd;subst hcl hd;exact PySem.W.kia_tup Z I.kIn hP ho (cK e) hx λtk=>⟨.bl b,H,I.tok tk,rfl,q⟩
noncomputable def isiT (Γ:En) (a:S):S->Option S
 | .v (.a (.ty T))=>(tyN Γ a).bind λn=>(subTy n T).map mkB
 | _=>none
noncomputable def isiS:En->List S->Option S:=λΓ as=>match as with
 | [a,b]=>isiT Γ a b
 | _=>none
noncomputable def rIsiS (K:Fg):List V->Hp->VK->Prop:=λxs H Q=>rIsi K xs H Q\/rIsiLT K xs H Q
def bD:CallR X (.builtin "isinstance") (rIsiS X.K):=iF.or iB
def kZ:SimRs K (rIsiS K) isiS:=by
 intro C w Γ σ H vs as s Q R o e k;unfold isiS at e;split at e
 ·unfold isiT at e;split at e
  ·obtain⟨n,e1,e⟩:=bind_some e;obtain⟨b,e2,rfl⟩:=LF e;obtain⟨v,u,rfl,o1,o2⟩:=soks2 o;exact .inl ⟨v,_,n,b,by rw[o2.inva],Z3 R o1 e1,e2,k _ H R .refl SOk.atom trivial⟩
  ·cases e
 ·cases e
noncomputable def intS:En->List S->Option S:=λ_ as=>match as with
 | [.v (.a (.int i))]=>some (mkI i)
 | [.v (.a (.bl b))]=>some (mkI (if b then 1 else 0))
 | _=>none
def Xn:SimRs K (λxs H Q=>(∃ i,xs=[.int i]/\Q (.int i) H)\/∃ k,xs=[.bl k]/\Q (.int (if k then 1 else 0)) H) intS:=by
 intro C w Γ σ H vs as s Q R o e k;unfold intS at e;split at e
 ·cases e;obtain⟨v,rfl,o1⟩:=soks1 o;exact .inl ⟨_,by rw[o1.inva],k _ H R .refl SOk.atom trivial⟩
 ·cases e;obtain⟨v,rfl,o1⟩:=soks1 o;exact .inr ⟨_,by rw[o1.inva],k _ H R .refl SOk.atom trivial⟩
 ·cases e
noncomputable def max2S:En->List S->Option S:=λ_ as=>match as with
 | [.v (.a (.int i)),.v (.a (.int j))]=>some (mkI (if j > i then j else i))
 | _=>none
def Wv:SimRs K (λxs H Q=>∃ i j,xs=[.int i,.int j]/\Q (.int (if j > i then j else i)) H) max2S:=by
 intro C w Γ σ H vs as s Q R o e k;unfold max2S at e;split at e
 ·cases e;obtain⟨v,u,rfl,o1,o2⟩:=soks2 o;exact⟨_,_,by rw[o1.inva,o2.inva],k _ H R .refl SOk.atom trivial⟩
 ·cases e
noncomputable def atomsOf:List T->Option (List V)
 | []=>some []
 | .a v::r=>(atomsOf r).map λvs=>v::vs
 | _=>none
theorem Nj:∀ {vs ts us},Ims K H vs ts->atomsOf ts=some us->vs=us
 | _,[],_,h,e=>by cases e;exact h.inv0
 | _,.a b::r,_,h,e=>by
  obtain⟨v,us,rfl,h1,h2⟩:=h.inv;obtain⟨bs,e1,rfl⟩:=LF e;rw[h1.inva,Nj h2 e1]
 | _,.t _::_,_,_,e=>by cases e
 | _,.l _::_,_,_,e=>by cases e
 | _,.f _::_,_,_,e=>by cases e
 | _,.x _ _::_,_,_,e=>by cases e
 | _,.w _::_,_,_,e=>by cases e
noncomputable def tBMS (K:Fg) (r:V->List V->Hp->VK->Prop) (to:TE) (t:TA):TE:=λσ H Q=>to σ H λx H1=>(∃ p xs,x=.ref p/\(Tp K H1 p xs\/KW K p xs))/\t σ H1 λxs H2=>r x xs H2 Q
open PySem.Spec PyProof.Rows in
def dq{X:Cx}{o e:Expr}{es:List Expr}{to:TE}{t:TA}{name:Str}{apos cpos:Pos}{id:String}{r:V->List V->Hp->VK->Prop}(slot:Slot "tuple" name id)(hty:Gv (.builtin id)=pure (.type "method_descriptor"))(hm:MtM X id r)(ho:PE X o to)(ha:PA X (e::es) t)
  (hbase:Da o name X.env (eval o X.env)=eval o X.env:=by rfl)
  (hfew:((CV cpos (AW (e::es) X.env)).all (λx=>!x.1) && (II cpos (GQ [] X.env)).all (λx=>x.1.isSome) && decide ((e::es).length+([]:List FH).length+(if ([]:List FH).isEmpty then 0 else 1) < 30))=true:=by rfl)
  (hline:(apos.endLine == cpos.line)=true:=by rfl) (hs:AW (e::es) X.env=(false,eval e X.env)::AW es X.env:=by rfl) (hplain:(CV cpos (AW es X.env)).any (·.1)=false:=by rfl) :
  PE X (.Call (.Attribute o name apos) (e::es) [] cpos) (tBMS X.K r to t):=by
 intro pins s σ H Q I h;refine Hd hbase hfew hline rfl (thn (ho pins s σ H _ I h) λv s1 ⟨x,H1,I1,r1,⟨p,xs,ex,hp⟩,q1⟩=>?_);subst ex;cases r1;have key:∃ o',s1.heap.get? p=some o'/\o'.cls=.type "tuple"/\o'.dict=none:=by
  rcases hp with (hp | ⟨o',its,n,a1,a2,a3,a4⟩) | ⟨o',its,n,a1,a2,a3,a4⟩
  ·obtain⟨_,its,_,o',ho',hc',_,hd'⟩:=(show ObjOk X.prog X.w H1 s1.heap p (.tup xs) from I1.hok p _ hp)
   exact⟨o',ho',hc',hd'⟩
  ·exact⟨o',I1.kIn p o' a1,a2,a3⟩
  ·exact⟨o',I1.kIn p o' a1,a2,a3⟩
 obtain⟨o',ho',hc',hd'⟩:=key;refine⟨"tuple",id,F.plainAttrs_tuple,slot,hty,⟨o',ho',hc'⟩,λa e=>by cases e;exact⟨o',ho',hd'⟩,?_⟩;have hA:=ha cpos pins s1 σ H1 _ I1 q1;rw[hs]at hA ⊢;refine ED (by show (false || (CV cpos (AW es X.env)).any (·.1))=false;rw[hplain] <;> rfl) (Gw ?_);exact thn hA λus s2 ⟨vs,H2,I2,r2,q2⟩=>hm pins s2 σ H2 (.ref p) vs (.ref p) us Q I2 (show RelV (.ref p) (.ref p) from rfl) r2 q2
noncomputable def dIndex (fo:DE) (fa:DA):DE:=λΓ=>(fo Γ).bind λp=>(fa p.2).bind λq=>match p.1,q.1 with
 | .v (.t xs),[.v (.a y)]=>(atomsOf xs).bind λvs=>if flatV y=true/\vs.all flatV=true then (vs.findIdx? λz=>eqV z y).map λj=>(mkI (j:Nat),q.2) else none
 | .v (.w xs),[.v (.a y)]=>(atomsOf xs).bind λvs=>if flatV y=true/\vs.all flatV=true then (vs.findIdx? λz=>eqV z y).map λj=>(mkI (j:Nat),q.2) else none
 | _,_=>none
def gJ(ho:SimE K to fo)(ha:SimA K ta fa):SimE K (tBMS K (rTupIndex K) to ta) (dIndex fo fa):=by
 intro C w Γ σ H s Γ' Q R e k;obtain⟨⟨a,G1⟩,e1,e⟩:=bind_some e;obtain⟨⟨as,G2⟩,e2,e⟩:=bind_some e;dsimp only at e;split at e
 ·obtain⟨vs,e3,e⟩:=bind_some e;split at e
  ·rename_i hf;obtain⟨j,e4,e⟩:=LF e;cases e;refine ho C w Γ σ H _ G1 _ R e1 λv H1 R1 ev1 o1 n1=>?_
   have o1':=o1;obtain⟨p,us,rfl,h1,i1⟩:=o1.invt;refine⟨⟨p,us,rfl,.inl h1⟩,ha C w G1 σ H1 _ _ _ R1 e2 λws H2 R2 ev2 o2 n2=>?_⟩;obtain⟨u,rfl,o3⟩:=soks1 o2;obtain⟨p',us',e5,h1',i1'⟩:=(o1'.evo ev2 R1.lst).invt;cases e5;have hus:=Nj i1' e3;subst hus;exact⟨p,us',_,j,rfl,by rw[o3.inva],h1'.sq,hf.1,hf.2,e4,k _ H2 R2 (ev1.trans ev2) SOk.atom trivial⟩
  ·cases e
 ·obtain⟨vs,e3,e⟩:=bind_some e;split at e
  ·rename_i hf;obtain⟨j,e4,e⟩:=LF e;cases e;refine ho C w Γ σ H _ G1 _ R e1 λv H1 R1 ev1 o1 n1=>?_
   have o1':=o1;obtain⟨p,us,rfl,h1,i1⟩:=Im.invw o1;refine⟨⟨p,us,rfl,.inr h1⟩,ha C w G1 σ H1 _ _ _ R1 e2 λws H2 R2 ev2 o2 n2=>?_⟩;obtain⟨u,rfl,o3⟩:=soks1 o2;obtain⟨p',us',e5,h1',i1'⟩:=Im.invw (o1'.evo ev2 R1.lst);cases e5;have hus:=Nj i1' e3;subst hus;exact⟨p,us',_,j,rfl,by rw[o3.inva],h1'.sq,hf.1,hf.2,e4,k _ H2 R2 (ev1.trans ev2) SOk.atom trivial⟩
  ·cases e
 ·cases e
end D
namespace L2
open PySem PySem.Spec PyProof.Rows
section
variable {X:Cx}{tg:Expr}
def iSeq (K:Ab) (tl:TE):TI:=λσ H R=>tl σ H λx H1=>∃ a,x=.ref a/\(((∃ xs,SqL K H1 a xs)/\R (Itl K a) H1)\/((∃ xs,SqT K H1 a xs)/\R (Itt K a) H1))
def WS(hl:PE X l tl):PI X tg l (iSeq X.K tl):=by
 intro pins s σ H R I h;refine thn (hl pins s σ H _ I h) λv s1 ⟨x,H1,I1,r1,q1⟩=>?_
 obtain⟨a,rfl,q⟩:=q1;cases r1;rcases q with ⟨⟨xs,hq⟩,q⟩ | ⟨⟨xs,hq⟩,q⟩
 ·obtain⟨its,rv,p,hz⟩:=I1.list hq;refine Fu p.isList ⟨s1.heap.objs.size,[s1.heap.objs.size],_,_,H1,rfl,I1.kept λb o e=>AB _ e,gZ a _,⟨_,AK _ rfl,rfl,rfl⟩,λb hb=>?_,q⟩;have e:=by simpa using hb
  subst e;exact I1.fpOk (AE _) (I1.hok.fresh (AE _))
 ·obtain⟨its,rv,p,hz⟩:=I1.tuple hq;refine CF p ⟨s1.heap.objs.size,[s1.heap.objs.size],_,_,H1,rfl,I1.kept λb o e=>AB _ e,gK a _,⟨_,AK _ rfl,rfl,rfl⟩,λb hb=>?_,q⟩;have e:=by simpa using hb
  subst e;exact I1.fpOk (AE _) (I1.hok.fresh (AE _))
end
section
variable {X:Cx}{pos:Pos}
def tPar3 (i j k:Nat) (ta:TA):TS:=λD σ H=>ta σ H λvs H1=>∃ v w z,vs=[v,w,z]/\D.nx (((σ.set i (some v)).set j (some w)).set k (some z)) H1
def Zz{kt k2 pt2}(hc:X.calm=true)(hN:X.N.Nodup)(hi:X.N[i]?=some x)(hj:X.N[j]?=some y)(hk:X.N[k]?=some z)(hij:i≠j)(hik:i≠k)(hjk:j≠k)
  (hx:X.env.scope.names.lookup x=some .local) (hy:X.env.scope.names.lookup y=some .local) (hz:X.env.scope.names.lookup z=some .local) (ha:PA X [a,b,c] ta)
  (hw:C3 [.Tuple [.Name x px,.Name y py,.Name z pz] kt pt] (.Tuple [a,b,c] k2 pt2) X.env=pure (some [x,y,z]))
  (hs:C2 [.Tuple [.Name x px,.Name y py,.Name z pz] kt pt] (.Tuple [a,b,c] k2 pt2) pos.line X.env=pure false:=by rfl) :
  PS X (.Assign [.Tuple [.Name x px,.Name y py,.Name z pz] kt pt] (.Tuple [a,b,c] k2 pt2) pos) (tPar3 i j k ta):=by
 intro pins s σ H D I h;refine AA (EJ (AA (AF (AA (Tuple_ (thn (ha _ pins s σ H _ I h) λus s1 ⟨vs,H1,I1,r1,q1⟩=>?_))))));obtain⟨v,w,q,rfl,q1⟩:=q1;obtain⟨u1,u2,u3,rfl,rv,rw',rz⟩:∃ u1 u2 u3,us=[u1,u2,u3]/\RelV v u1/\RelV w u2/\RelV q u3:=by
  cases r1 with
  | cons p q =>
   cases q with
   | cons p' q' =>
    cases q' with
    | cons p'' q'' =>
     cases q'';exact⟨_,_,_,rfl,p,p',p''⟩
 refine A8 ?_ (by show 3<=AD;decide);have I2:Inv X pins σ H1 { s1 with heap:=s1.heap.push { cls:=.type "tuple",data:=.seq [u1,u2,u3].toArray } }:=I1.kept λb o e=>AB _ e
 rw[hw];refine AA (AF (AA (CP (AA (Iz (items:=#[u1,u2,u3]) (I.ok.hd hc) (Jh s1.heap _) λh' hx'=>?_)))));refine AA (Cb (Dw (MX (I2.kept λb o e=>hx' b o (Ag (AL e)) e) hN hk (.inl hz) rz (λs2 I4=>?_) (.inr hz))));refine Cb (Dw (MX I4 hN hj (.inl hy) rw' (λs3 I5=>Cb (Dw (MX I5 hN hi (.inl hx) rv (λs4 I6=>Fj (AF ?_)) (.inr hx)))) (.inr hy)));rw[Eu _ _ (Ax hij),Eu _ _ (Ax hik),Eu _ _ (Ax hjk)]at I6;exact⟨_,H1,I6,q1⟩
end
end L2
namespace D
open PySem L2
noncomputable def rngT (lo:Int) (n:Nat):List T:=(AI n).map λ(i:Nat)=>T.a (.int (lo+(i:Int)))
noncomputable def dRng1 (fa:DA):DI:=λΓ=>(fa Γ).bind λp=>match p.1 with
 | [.v (.a (.int j))]=>if (inR 4611686018427387903 j && EN j.toNat AD)=true then some ((rngT 0 j.toNat,[]),p.2) else none
 | _=>none
noncomputable def dRng2 (fa:DA):DI:=λΓ=>(fa Γ).bind λp=>match p.1 with
 | [.v (.a (.int i)),.v (.a (.int j))]=>if (inR 4611686018427387903 i && inR 4611686018427387903 j && EN (j - i).toNat AD)=true then some ((rngT i (j - i).toNat,[]),p.2) else none
 | _=>none
section
variable {K:Fg}
def Td(h:n<=AD):ItOk K w Γ σ (Itr lo n) H (rngT lo n) []:=by
 refine⟨by simp[rngT];exact h,λL' _ _ H2 _=>⟨λi t e=>?_,by simp[rngT];exact AE n⟩⟩;unfold rngT at e;rw[Am]at e;obtain⟨j,e1,e⟩:=LF e;obtain⟨hi',e1⟩:=AZ.mp e1;have hi:=by simpa using hi'
 have e1':=by simpa using e1
 subst e;subst e1';refine⟨hi,λx H3 y=>?_⟩;obtain⟨a,b⟩:=y;subst a b;exact⟨λ_ _ z=>z,Im.atom⟩
def fit1(h:(inR 4611686018427387903 j && EN j.toNat AD)=true):-(2 ^ 62)<=j/\j < 2 ^ 62/\j.toNat<=AD:=by
 rw[Ar]at h;exact⟨(inR62 h.1).1,(inR62 h.1).2,Ec h.2⟩
def fit2(h:(inR 4611686018427387903 i && inR 4611686018427387903 j && EN (j - i).toNat AD)=true):(-(2 ^ 62)<=i/\i < 2 ^ 62/\-(2 ^ 62)<=j/\j < 2 ^ 62)/\(j - i).toNat<=AD:=by
 rw[Ar,Ar]at h;exact⟨⟨(inR62 h.1.1).1,(inR62 h.1.1).2,(inR62 h.1.2).1,(inR62 h.1.2).2⟩,Ec h.2⟩
def V1(ha:SimA K ta fa):SimI K (iRng1 ta) (dRng1 fa):=by
 intro C w Γ σ H its src Γ' R Rp e k;obtain⟨⟨as,G1⟩,e1,e⟩:=bind_some e;dsimp only at e;split at e
 ·split at e
  ·rename_i j hj0;have hj:=fit1 hj0;cases e;refine ha C w Γ σ H _ _ _ Rp e1 λvs H1 R1 ev1 o1 n1=>?_
   obtain⟨v,rfl,o2⟩:=soks1 o1;exact⟨_,by rw[o2.inva],hj.1,hj.2.1,k _ H1 R1 ev1 (Td hj.2.2)⟩
  ·cases e
 ·cases e
def Xr(ha:SimA K ta fa):SimI K (iRng2 ta) (dRng2 fa):=by
 intro C w Γ σ H its src Γ' R Rp e k;obtain⟨⟨as,G1⟩,e1,e⟩:=bind_some e;dsimp only at e;split at e
 ·split at e
  ·rename_i j hj0;have hj:=fit2 hj0;cases e;refine ha C w Γ σ H _ _ _ Rp e1 λvs H1 R1 ev1 o1 n1=>?_
   obtain⟨v,u,rfl,o2,o3⟩:=soks2 o1;exact⟨_,_,by rw[o2.inva,o3.inva],hj.1,k _ H1 R1 ev1 (Td hj.2)⟩
  ·cases e
 ·cases e
noncomputable def srcS (Γ:En):S->List Nat
 | .s i=>match Γ[i]? with
  | some (some (.l _))=>[i]
  | _=>[]
 | _=>[]
noncomputable def dSeqI (f:DE):DI:=λΓ=>(f Γ).bind λp=>(seqS p.2 p.1).bind λxs=>gd xs.length ((xs,srcS p.2 p.1),p.2)
theorem PL(R:Rep K C w Γ σ H)(o:SOk K C w σ H x s)(e:sqlOf Γ s=some xs):∃ p vs,x=.ref p/\SqL K H p vs/\Ims K H vs xs /\
  ∀ L',(∀ q∈L',q∈w.L)->(∀ i∈srcS Γ s,∀ q,σ[i]?=some (some (.ref q))->(∃ zs,Γ[i]?=some (some (.l zs)))->q∉L')->∀ H2,Evo L' H H2->SqL K H2 p vs:=by
 cases s with
 | v t =>
  cases t with
  | l ys =>
   cases e;obtain⟨p,vs,rfl,h1,h2⟩:=o.invl;exact⟨p,vs,rfl,h1.sq,h2,λL' hs _ H2 ev=>(h1.evo ev λq hq=>R.lst q (hs q hq)).sq⟩
  | a _=>cases e
  | t _=>cases e
  | f _=>cases e
  | x _ _=>cases e
  | w _=>cases e
 | d _=>cases e
 | l ys =>
  cases e;obtain⟨p,vs,rfl,n1,n2,n3,h1,h2⟩:=o;exact⟨p,vs,rfl,SqL.of h1,h2,λL' hs _ H2 ev=>SqL.of (ev _ _ h1 λz=>n1 (hs p z))⟩
 | s i =>
  have o':=o;unfold sqlOf at e;dsimp only at e;split at e
  ·rename_i ys h;cases e;obtain⟨v,e1,p,vs,rfl,_,h1,h2⟩:=R.val i _ h;rw[o']at e1;cases e1;refine⟨p,vs,rfl,SqL.of h1,h2,λL' hs av H2 ev=>SqL.of (ev _ _ h1 (av i ?_ p o' ⟨_,h⟩))⟩;simp[srcS,h]
  ·rename_i ys h;cases e;obtain⟨v,e1,p,vs,rfl,h1,h2,h3,_⟩:=R.val i _ h;rw[o']at e1;cases e1;exact⟨p,vs,rfl,SqL.of h2,h1,λL' hs av H2 ev=>SqL.of (ev _ _ h2 λz=>h3 (hs p z))⟩
  ·rename_i ys h;cases e;obtain⟨v,e1,p,vs,rfl,h1,h2⟩:=R.val i _ h;rw[o']at e1;cases e1;exact⟨p,vs,rfl,h2.sq,h1,λL' hs av H2 ev=>(h2.evo ev λq hq=>R.lst q (hs q hq)).sq⟩
  ·cases e
def dF(hl:SimE K tl f):SimI K (iSeq K tl) (dSeqI f):=by
 intro C w Γ σ H its src Γ' R Rp e k;obtain⟨⟨a,G1⟩,e1,e⟩:=bind_some e;obtain⟨xs,e2,e⟩:=bind_some e;obtain⟨hz,e⟩:=L5 e;cases e;refine hl C w Γ σ H a _ _ Rp e1 λv H1 R1 ev1 o1 n1=>?_
 dsimp only at e2;have go:∀ {vs:List V} {H2:Hp} {J:It} (mk:∀ i x,vs[i]?=some x->J.go i H2) (yl:∀ i x H3,J.yld i H2 x H3->H3=H2/\vs[i]?=some x),Ims K H2 vs its->∀ i t,its[i]?=some t->J.go i H2/\∀ x H3,J.yld i H2 x H3->(∀ b o,H2 b=some o->H3 b=some o)/\Im K H3 x t:=λ{vs H2 J} mk yl hi i t e=>by
  obtain⟨v,e3,hv⟩:=hi.get e;refine⟨mk i v e3,λx H3 y=>?_⟩;obtain⟨rfl,e4⟩:=yl i x H3 y;rw[e3]at e4;cases e4;exact⟨λ_ _ z=>z,hv⟩
 unfold seqS at e2;split at e2
 ·cases e2;obtain⟨p,vs,rfl,h1,i1⟩:=o1.invt;refine⟨p,rfl,.inr ⟨⟨vs,h1.sq⟩,k _ H1 R1 ev1 ⟨hz,λL' hs av H2 ev=>?_⟩⟩⟩;have hL:LL L' H1:=λq hq=>R1.lst q (hs q hq)
  have h2:=(Po ev hL h1).sq;have i2:=i1.evo ev hL;exact⟨go (λi x e=>⟨vs,x,h2,e⟩) (λi x H3 y=>⟨y.1,y.2 vs h2⟩) i2,⟨vs,h2,by rw[i2.len];exact AE _⟩⟩
 ·cases e2;obtain⟨p,vs,rfl,h1,i1⟩:=Im.invw o1;refine⟨p,rfl,.inr ⟨⟨vs,h1.sq⟩,k _ H1 R1 ev1 ⟨hz,λL' hs av H2 ev=>?_⟩⟩⟩;have hL:LL L' H1:=λq hq=>R1.lst q (hs q hq)
  have h2:SqT K H2 p vs:=h1.sq;have i2:=i1.evo ev hL;exact⟨go (λi x e=>⟨vs,x,h2,e⟩) (λi x H3 y=>⟨y.1,y.2 vs h2⟩) i2,⟨vs,h2,by rw[i2.len];exact AE _⟩⟩
 ·obtain⟨p,vs,rfl,h1,i1,st⟩:=PL R1 o1 e2;refine⟨p,rfl,.inl ⟨⟨vs,h1⟩,k _ H1 R1 ev1 ⟨hz,λL' hs av H2 ev=>?_⟩⟩⟩;have hL:LL L' H1:=λq hq=>R1.lst q (hs q hq)
  have h2:=st L' hs av H2 ev;have i2:=i1.evo ev hL;exact⟨go (λi x e=>⟨vs,x,h2,e⟩) (λi x H3 y=>⟨y.1,y.2 vs h2⟩) i2,⟨vs,h2,by rw[i2.len];exact AE _⟩⟩
def Uw lo n:Ims K H (rngV lo n) (rngT lo n):=by
 have:rngT lo n=(rngV lo n).map T.a:=by simp[rngT,rngV]
 rw[this];exact Ims.atoms _
noncomputable def rngS (as:List S):Option (List T):=match as with
 | [.v (.a (.int j))]=>if (inR 4611686018427387903 j && EN j.toNat AD)=true then some (rngT 0 j.toNat) else none
 | [.v (.a (.int i)),.v (.a (.int j))]=>if (inR 4611686018427387903 i && inR 4611686018427387903 j && EN (j - i).toNat AD)=true then some (rngT i (j - i).toNat) else none
 | _=>none
noncomputable def rRng:List V->Hp->VK->Prop:=λxs H Q=>(∃ j,xs=[.int j]/\∀ p,H p=none->Q (.ref p) (upd H p (.rng 0 j)))\/(∃ i j,xs=[.int i,.int j]/\∀ p,H p=none->Q (.ref p) (upd H p (.rng i j)))
noncomputable def rOfRngL:List V->Hp->VK->Prop:=λxs H Q=>∃ p lo hi,xs=[.ref p]/\H p=some (.rng lo hi)/\(-(2 ^ 62)<=lo/\lo < 2 ^ 62/\-(2 ^ 62)<=hi/\hi < 2 ^ 62)/\(hi - lo).toNat<=2 ^ 24/\∀ l,H l=none->Q (.ref l) (upd H l (.lst (rngV lo (hi - lo).toNat)))
noncomputable def rOfRngT:List V->Hp->VK->Prop:=λxs H Q=>∃ p lo hi,xs=[.ref p]/\H p=some (.rng lo hi)/\(-(2 ^ 62)<=lo/\lo < 2 ^ 62/\-(2 ^ 62)<=hi/\hi < 2 ^ 62)/\(hi - lo).toNat<=2 ^ 24/\∀ l,H l=none->Q (.ref l) (upd H l (.tup (rngV lo (hi - lo).toNat)))
noncomputable def dListRng (fa:DA):DE:=λΓ=>(fa Γ).bind λp=>(rngS p.1).map λxs=>(.l xs,p.2)
noncomputable def dTupRng (fa:DA):DE:=λΓ=>(fa Γ).bind λp=>(rngS p.1).map λxs=>(.v (.t xs),p.2)
def TM(R:Rep K C w Γ σ H)(o:SOks K C w σ H vs as)(e:rngS as=some xs)
  (k:∀ p lo hi,H p=none->(-(2 ^ 62)<=lo/\lo < 2 ^ 62/\-(2 ^ 62)<=hi/\hi < 2 ^ 62)->(hi - lo).toNat<=2 ^ 24->xs=rngT lo (hi - lo).toNat->Q (.ref p) (upd H p (.rng lo hi))):rRng vs H Q:=by
 have hs:AD=2 ^ 24:=by rw[BK]
 unfold rngS at e;split at e
 ·split at e
  ·rename_i j hj0;have hj:=fit1 hj0;cases e;obtain⟨v,rfl,o2⟩:=soks1 o;refine .inl ⟨_,by rw[o2.inva],λp hp=>k p 0 _ hp ⟨by decide,by decide,hj.1,hj.2.1⟩ ?_ (by rw[Je])⟩;rw[Je];have:=hj.2.2;lia
  ·cases e
 ·split at e
  ·rename_i j hj0;have hj:=fit2 hj0;cases e;obtain⟨v,u,rfl,o2,o3⟩:=soks2 o;exact .inr ⟨_,_,by rw[o2.inva,o3.inva],λp hp=>k p _ _ hp hj.1 ⋯ rfl⟩
  ·cases e
 ·cases e
def cI(ha:SimA K ta fa):SimE K (tCB rOfRngL (tCons (tCB rRng ta) tNil)) (dListRng fa):=by
 intro C w Γ σ H s Γ' Q R e k;obtain⟨⟨as,G1⟩,e1,e⟩:=bind_some e;obtain⟨xs,e2,e⟩:=LF e;cases e;refine ha C w Γ σ H as G1 _ R e1 λvs H1 R1 ev1 o1 n1=>TM R1 o1 e2 λp lo hi hp hb hz hx=>?_
 have R2:Rep K C w G1 σ (upd H1 p (.rng lo hi)):=R1.new hp;have ev2:Evo w.L H (upd H1 p (.rng lo hi)):=ev1.trans (Evo.new hp);refine⟨p,lo,hi,rfl,Ld,hb,hz,λl hl=>?_⟩;subst hx;exact k _ _ (R2.new hl) (ev2.trans (Evo.new hl)) (R2.newl hl (Uw _ _)) ⟨l,rfl,MD ev2 R2.lst hl⟩
def il(ha:SimA K ta fa):SimE K (tCB rOfRngT (tCons (tCB rRng ta) tNil)) (dTupRng fa):=by
 intro C w Γ σ H s Γ' Q R e k;obtain⟨⟨as,G1⟩,e1,e⟩:=bind_some e;obtain⟨xs,e2,e⟩:=LF e;cases e;refine ha C w Γ σ H as G1 _ R e1 λvs H1 R1 ev1 o1 n1=>TM R1 o1 e2 λp lo hi hp hb hz hx=>?_
 have R2:Rep K C w G1 σ (upd H1 p (.rng lo hi)):=R1.new hp;have ev2:Evo w.L H (upd H1 p (.rng lo hi)):=ev1.trans (Evo.new hp);refine⟨p,lo,hi,rfl,Ld,hb,hz,λl hl=>?_⟩;subst hx;exact k _ _ (R2.new hl) (ev2.trans (Evo.new hl)) (R2.newt hl (Uw _ _)) trivial
theorem aI(ha:SimA K ta fa)(hi:ip≠some i)(hj:ip≠some j):SimS K ip (tPar i j ta) (λΓ=>(fa Γ).bind λp=>match p.1 with
  | [.v a,.v b]=>some (.nx ((p.2.set i (some (.v a))).set j (some (.v b))))
  | _=>none):=by
 intro C w Γ σ H D o hp R e k;obtain⟨⟨as,G1⟩,e1,e⟩:=bind_some e;dsimp only at e;split at e
 ·cases e;refine ha C w Γ σ H _ G1 _ R e1 λvs H1 R1 ev1 o1 n1=>?_
  obtain⟨v,u,rfl,o2,o3⟩:=soks2 o1;exact⟨v,u,rfl,k w _ H1 ((R1.setv (g:=.v _) rfl o2 (L7 hp hi)).setv rfl o3 (L7 hp hj))⟩
 ·cases e
noncomputable def dPar2 (i j:Nat) (fa:DA):DS:=λΓ=>(fa Γ).bind λp=>match p.1 with
  | [.v a,.v b]=>some (.nx ((p.2.set i (some (.v a))).set j (some (.v b))))
  | _=>none
noncomputable def dPar3 (i j k:Nat) (fa:DA):DS:=λΓ=>(fa Γ).bind λp=>match p.1 with
  | [.v a,.v b,.v c]=>some (.nx (((p.2.set i (some (.v a))).set j (some (.v b))).set k (some (.v c))))
  | _=>none
theorem soks3(h:SOks K C w σ H vs [a,b,c]):∃ v u z,vs=[v,u,z]/\SOk K C w σ H v a/\SOk K C w σ H u b/\SOk K C w σ H z c:=by
 match vs,h with
 | [v,u,z],h=>exact⟨v,u,z,rfl,h.1,h.2.1,h.2.2.1⟩
def aM(ha:SimA K ta fa)(hi:ip≠some i)(hj:ip≠some j)(hk:ip≠some k):SimS K ip (tPar3 i j k ta) (dPar3 i j k fa):=by
 intro C w Γ σ H D o hp R e kk;obtain⟨⟨as,G1⟩,e1,e⟩:=bind_some e;dsimp only at e;split at e
 ·cases e;refine ha C w Γ σ H _ G1 _ R e1 λvs H1 R1 ev1 o1 n1=>?_
  obtain⟨v,u,z,rfl,o2,o3,o4⟩:=soks3 o1;exact⟨v,u,z,rfl,kk w _ H1 (((R1.setv (g:=.v _) rfl o2 (L7 hp hi)).setv (g:=.v _) rfl o3 (L7 hp hj)).setv rfl o4 (L7 hp hk))⟩
 ·cases e
noncomputable def dUnp (tg:En->T->Option En) (f:DE):DS:=λΓ=>(f Γ).bind λp=>p.1.tree.bind λt=>(tg p.2 t).map .nx
theorem bE(h:SimE K te f)(hg:SimG K ip g tg):SimS K ip (tAsg te g) (dUnp tg f):=by
 intro C w Γ σ H D o hp R e k;obtain⟨⟨s,G1⟩,e1,e⟩:=bind_some e;obtain⟨t,e2,e⟩:=bind_some e;obtain⟨Γ2,e3,rfl⟩:=LF e;cases s with
 | l _=>cases e2
 | s _=>cases e2
 | d _=>cases e2
 | v t' =>
  cases e2;exact h C w Γ σ H _ G1 _ R e1 λv H1 R1 ev1 o1 n1=>hg C w G1 σ H1 v t Γ2 _ hp R1 o1 e3 λσ' R'=>k w σ' H1 R'
end
noncomputable def toDa:V->Option El
 | .int i=>some (.int i)
 | .bl b=>some (.bool b)
 | .str x=>some (.str x)
 | .non=>some .none
 | _=>none
mutual
noncomputable def toD:T->Option El
 | .a v=>toDa v
 | .t ts=>(toDs ts).map .tuple
 | .l ts=>(toDs ts).map .list
 | .f _=>none
 | .x _ _=>none
 | .w _=>none
noncomputable def toDs:List T->Option (List El)
 | []=>some []
 | t::r=>(toD t).bind λd=>(toDs r).map λds=>d::ds
end
mutual
theorem P8(I:Inv X pins σ H s):∀ {v u t d},Im X.K H v t->RelV v u->toD t=some d->∃ as,IL s.heap u d as
 | v,u,.a x,d,h,r,e=>by
  have hv:=h.inva;subst hv;cases v with
  | int i=>cases e;obtain⟨t,rfl⟩:=r;exact⟨_,.int i t⟩
  | bl b=>cases e;cases r;exact⟨_,.bool b⟩
  | str x=>cases e;obtain⟨t,rfl⟩:=r;exact⟨_,.str x t⟩
  | non=>cases e;cases r;exact⟨_,.none⟩
  | byt _=>cases e
  | flt _=>cases e
  | ref _=>cases e
  | ty _=>cases e
 | v,u,.t ts,d,h,r,e=>by
  obtain⟨p,vs,rfl,h1,h2⟩:=h.inv;cases (show u=B3 p from r);obtain⟨ds,e1,rfl⟩:=LF e;obtain⟨its,rv,⟨o,ho,hc,n,hd⟩,_⟩:=I.tuple h1.sq;obtain⟨as,q⟩:=M0 I h2 rv e1;exact⟨as,.tuple ho hc hd ‹_›⟩
 | v,u,.l ts,d,h,r,e=>by
  obtain⟨p,vs,rfl,h1,h2⟩:=h.invl;cases (show u=B3 p from r);obtain⟨ds,e1,rfl⟩:=LF e;obtain⟨its,rv,pl,_⟩:=I.list h1.sq;obtain⟨o,ho,hc,n,hd⟩:=pl.isList;obtain⟨as,q⟩:=M0 I h2 rv e1;exact⟨_,.list ho hc hd ‹_›⟩
 | v,u,.f _,d,h,r,e=>by unfold toD at e;cases e
 | v,u,.x _ _,d,h,r,e=>by unfold toD at e;cases e
 | v,u,.w _,d,h,r,e=>by unfold toD at e;cases e
theorem M0(I:Inv X pins σ H s):∀ {vs:List V} {us:List AM} {ts:List T} {ds:List El},Ims X.K H vs ts->Vals vs us->toDs ts=some ds->∃ as,KS s.heap us ds as
 | vs,us,[],ds,h,r,e=>by
  have:=h.inv0;subst this;cases r;cases e;exact⟨_,.nil⟩
 | vs,us,t::ts,ds,h,r,e=>by
  obtain⟨v,r',rfl,h1,h2⟩:=h.inv;unfold toDs at e;obtain⟨d,e1,e⟩:=bind_some e;obtain⟨ds',e2,rfl⟩:=LF e;cases r with
  | cons r1 r2 =>
   obtain⟨as,q1⟩:=P8 I h1 r1 e1;obtain⟨bs,q2⟩:=M0 I h2 r2 e2;exact⟨_,Hh q1 q2⟩
end
def DatV (K:Fg) (H:Hp) (x:V) (d:El):Prop:=(∃ t,Im K H x t/\toD t=some d)\/(∃ p vs ts ds,x=.ref p/\SqL K H p vs/\Ims K H vs ts/\toDs ts=some ds/\d=.list ds)
def OY(I:Inv X pins σ H s)(r:RelV x u)(h:DatV X.K H x d):∃ as,IL s.heap u d as:=by
 rcases h with ⟨t,h,e⟩ | ⟨p,vs,ts,ds,rfl,h1,h2,e,rfl⟩
 ·exact P8 I h r e
 ·cases r;obtain⟨its,rv,pl,_⟩:=I.list h1;obtain⟨o,ho,hc,n,hd⟩:=pl.isList;obtain⟨as,q⟩:=M0 I h2 rv e;exact⟨_,.list ho hc hd ‹_›⟩
noncomputable def rEqD (K:Fg):R2:=λx y H Q=>∃ da db,DatV K H x da/\DatV K H y db/\da.canLay0=true/\db.canLay0=true/\min da.depth db.depth<=100/\Q (.bl (BG da db)) H
noncomputable def rNeD (K:Fg):R2:=λx y H Q=>∃ da db,DatV K H x da/\DatV K H y db/\da.canLay0=true/\db.canLay0=true/\min da.depth db.depth<=100/\Q (.bl (!PyData.eqv da db)) H
def cU(hr:Room k X.A):OpR X (Bi .Eq) (rEqD X.K):=by
 intro pins s σ H x y v u Q I rx ry h;obtain⟨da,db,h1,h2,c1,c2,hm,q⟩:=h;obtain⟨_,r1⟩:=OY I rx h1;obtain⟨_,r2⟩:=OY I ry h2;exact SeqAt.compareEq_reads r1 r2 c1 c2 (by have:=hr.un;lia) ⟨.bl _,H,I,rfl,q⟩
def Vx(hr:Room k X.A):OpR X (Bi .NotEq) (rNeD X.K):=by
 intro pins s σ H x y v u Q I rx ry h;obtain⟨da,db,h1,h2,c1,c2,hm,q⟩:=h;obtain⟨_,r1⟩:=OY I rx h1;obtain⟨_,r2⟩:=OY I ry h2;exact SeqAt.compareNe_reads r1 r2 c1 c2 (by have:=hr.un;lia) ⟨.bl _,H,I,rfl,q⟩
noncomputable def datS (Γ:En):S->Option El
 | .v t=>toD t
 | a=>(sqlOf Γ a).bind λxs=>(toDs xs).map .list
theorem ON(R:Rep K C w Γ σ H)(o:SOk K C w σ H x s)(e:datS Γ s=some d):DatV K H x d:=by
 have lst:∀ {s:S},SOk K C w σ H x s->(sqlOf Γ s).bind (λxs=>(toDs xs).map PyData.list)=some d->DatV K H x d:=λ{s} o e=>by
  obtain⟨xs,e1,e⟩:=bind_some e;obtain⟨ds,e2,rfl⟩:=LF e;obtain⟨p,vs,rfl,h1,h2⟩:=MK R o e1;exact .inr ⟨p,vs,xs,ds,rfl,h1,h2,e2,rfl⟩
 cases s with
 | v t=>exact .inl ⟨t,o,e⟩
 | l xs=>exact lst o e
 | s i=>exact lst o e
 | d _=>cases e
noncomputable def cmpD (f:El->El->Bool):En->S->S->Option S:=λΓ a b=>(datS Γ a).bind λda=>(datS Γ b).bind λdb=>if da.canLay0=true/\db.canLay0=true/\min da.depth db.depth<=100 then some (mkB (f da db)) else none
noncomputable def eqA (f:V->V->Bool):En->S->S->Option S:=λ_ a b=>match a,b with
 | .v (.a x),.v (.a y)=>if scal x y=true then some (mkB (f x y)) else none
 | _,_=>none
def ju:SimR2 K rEq (eqA λx y=>decide (x=y)):=by
 intro C w Γ σ H x y a b s Q R ox oy e k;unfold eqA at e;split at e
 ·split at e
  ·rename_i h;cases e;rw[ox.inva,oy.inva];exact⟨h,k _ H R .refl SOk.atom trivial⟩
  ·cases e
 ·cases e
def X2:SimR2 K rNe (eqA λx y=>!decide (x=y)):=by
 intro C w Γ σ H x y a b s Q R ox oy e k;unfold eqA at e;split at e
 ·split at e
  ·rename_i h;cases e;rw[ox.inva,oy.inva];exact⟨h,k _ H R .refl SOk.atom trivial⟩
  ·cases e
 ·cases e
noncomputable def eqS:En->S->S->Option S:=λΓ a b=>(eqA (λx y=>decide (x=y)) Γ a b).or (cmpD BG Γ a b)
noncomputable def neS:En->S->S->Option S:=λΓ a b=>(eqA (λx y=>!decide (x=y)) Γ a b).or (cmpD (λa b=>!PyData.eqv a b) Γ a b)
def bt:SimR2 K (rEqD K) (cmpD BG):=by
 intro C w Γ σ H x y a b s Q R ox oy e k;obtain⟨da,e1,e⟩:=bind_some e;obtain⟨db,e2,e⟩:=bind_some e;split at e
 ·rename_i h;cases e;exact⟨da,db,ON R ox e1,ON R oy e2,h.1,h.2.1,h.2.2,k _ H R .refl SOk.atom trivial⟩
 ·cases e
def YC:SimR2 K (rNeD K) (cmpD λa b=>!PyData.eqv a b):=by
 intro C w Γ σ H x y a b s Q R ox oy e k;obtain⟨da,e1,e⟩:=bind_some e;obtain⟨db,e2,e⟩:=bind_some e;split at e
 ·rename_i h;cases e;exact⟨da,db,ON R ox e1,ON R oy e2,h.1,h.2.1,h.2.2,k _ H R .refl SOk.atom trivial⟩
 ·cases e
def jI:SimR2 K (λx y H Q=>rEq x y H Q\/rEqD K x y H Q) eqS:=ju.or bt
def cR:SimR2 K (λx y H Q=>rNe x y H Q\/rNeD K x y H Q) neS:=X2.or YC
def gV(hr:Room k X.A):OpR X (Bi .Eq) (λx y H Q=>rEq x y H Q\/rEqD X.K x y H Q):=dZ.or (cU hr)
def g9(hr:Room k X.A):OpR X (Bi .NotEq) (λx y H Q=>rNe x y H Q\/rNeD X.K x y H Q):=c6.or (Vx hr)
noncomputable def inS (neg:Bool):En->S->S->Option S:=λΓ a b=>match a with
 | .v (.a x)=>(seqS Γ b).bind λxs=>(atomsOf xs).bind λvs=>if flatV x=true/\vs.all flatV=true then some (mkB (if neg then !inV x vs else inV x vs)) else none
 | _=>none
def gp:SimR2 K (rIn K neg) (inS neg):=by
 intro C w Γ σ H x y a b s Q R ox oy e k;unfold inS at e;split at e
 ·obtain⟨xs,e1,e⟩:=bind_some e;obtain⟨vs,e2,e⟩:=bind_some e;split at e
  ·rename_i h;cases e;obtain⟨p,us,rfl,h1,i1⟩:=N2 R oy e1;have:=Nj i1 e2;subst this;rw[ox.inva];exact⟨p,us,rfl,h1,h.1,h.2,k _ H R .refl SOk.atom trivial⟩
  ·cases e
 ·cases e
noncomputable def truS (Γ:En):S->Option Bool
 | .v (.a .non)=>some false
 | .v (.a (.bl b))=>some b
 | .v (.a (.int i))=>some (i != 0)
 | .v (.a (.str y))=>if y.length<=AD then some ((y.length:Int) != 0) else none
 | .v (.t xs)=>some (!xs.isEmpty)
 | .v _=>none
 | a=>(sqlOf Γ a).map λxs=>!xs.isEmpty
noncomputable def dTru (f:DE):DT:=λΓ=>(f Γ).bind λp=>(truS p.2 p.1).map λb=>(b,p.2)
theorem Ims.isEmpty(h:Ims K H vs ts):vs.isEmpty=ts.isEmpty:=by
 have:=h.len;cases vs <;> cases ts <;> simp at this ⊢
def iu(h:SimE K te f):SimT K (λσ H Q=>te σ H λx H'=>∃ k,TruV K x H' k/\Q k H') (dTru f):=by
 intro C w Γ σ H b Γ' Q R e k;obtain⟨⟨a,G1⟩,e1,e⟩:=bind_some e;obtain⟨b',e2,e⟩:=LF e;cases e;refine h C w Γ σ H a _ _ R e1 λv H1 R1 ev1 o1 n1=>⟨b,?_,k H1 R1 ev1⟩
 dsimp only at e2;unfold truS at e2;split at e2
 ·cases e2;rw[o1.inva];exact rfl
 ·cases e2;rw[o1.inva];exact rfl
 ·cases e2;rw[o1.inva];exact rfl
 ·split at e2
  ·rename_i hz;cases e2;rw[o1.inva];exact⟨hz,rfl⟩
  ·cases e2
 ·cases e2;obtain⟨p,us,rfl,h1,i1⟩:=o1.invt;exact .inr (.inl ⟨us,h1.sq,by rw[i1.isEmpty]⟩)
 ·cases e2
 ·obtain⟨xs,e3,rfl⟩:=LF e2;obtain⟨p,us,rfl,h1,i1⟩:=MK R1 o1 e3;exact .inl ⟨us,h1,by rw[i1.isEmpty]⟩
structure EX{ι:Type}(K:Fg)(X:ι->Cx)(e:Expr)(f:DE):Prop where o:∃ te,(∀ j,PE (X j) e te)/\SimE K te f
structure TX{ι:Type}(K:Fg)(X:ι->Cx)(e:Expr)(f:DT):Prop where o:∃ t,(∀ j,PT (X j) e t)/\SimT K t f
structure WX{ι:Type}(K:Fg)(X:ι->Cx)(e:Expr)(f:DT):Prop where o:∃ t,(∀ j,PW (X j) e t)/\SimT K t f
structure AX{ι:Type}(K:Fg)(X:ι->Cx)(es:List Expr)(f:DA):Prop where o:∃ t,(∀ j,PA (X j) es t)/\SimA K t f
structure OX{ι:Type}(K:Fg)(X:ι->Cx)(e:Option Expr)(f:DO):Prop where o:∃ t,(∀ j,PO (X j) e t)/\SimO K t f
structure IX{ι:Type}(K:Fg)(X:ι->Cx)(tg it:Expr)(f:DI):Prop where o:∃ t,(∀ j,PI (X j) tg it t)/\SimI K t f
structure GX{ι:Type}(K:Fg)(X:ι->Cx)(ip:Option Nat)(tg:Expr)(f:En->T->Option En):Prop where o:∃ t,(∀ j,PG (X j) tg t)/\SimG K ip t f
structure GXs{ι:Type}(K:Fg)(X:ι->Cx)(ip:Option Nat)(tg:List Expr)(f:En->List T->Option En):Prop where o:∃ t,(∀ j,PGs (X j) tg t)/\SimGs K ip t f
structure SX{ι:Type}(K:Fg)(X:ι->Cx)(ip:Option Nat)(s:Stmt)(f:DS):Prop where o:∃ t,(∀ j,PS (X j) s t)/\SimS K ip t f
structure BX{ι:Type}(K:Fg)(X:ι->Cx)(ip:Option Nat)(s:List Stmt)(f:DS):Prop where o:∃ t,(∀ j,PSs (X j) s t)/\SimS K ip t f
structure Fm{ι:Type}(K:Fg)(mg:Str->Option AM)(k:Nat)(X:ι->Cx):Prop where
 K:∀ j,(X j).K=K
 mg:∀ j,(X j).mg=mg
 calm:∀ j,(X j).calm=true
 room:∀ j,Room k (X j).A
section
variable {ι:Type}{K:Fg}{mg:Str->Option AM}{k:Nat}{X:ι->Cx}{ip:Option Nat}{a b c e:Expr}{es:List Expr}{pos:Pos}{fa fb fc:DE}{ta tb:DT}{da:DA}
def jZ i (hN:∀ j,(X j).N[i]?=some x:=by intro _;rfl) (hv:∀ j,Vis (X j).env.scope x:=by intro _;first | exact EV rfl | exact De (EV rfl) | exact De (De rfl)) (hd:(x == ("__debug__":Str))=false:=by decide)
  (hcd:(x == ("__classdict__":Str))=false:=by decide):EX K X (.Name x pos) (jV i):=⟨tVar i,λj=>Pk (hN j) (hv j) hd hcd,Zh⟩
def jJ{u}:EX K X (.Constant (.int i) u pos) (dC (.int i)):=⟨_,λ_=>Zl,Nu⟩
def gY{u}:EX K X (.Constant (.bool v) u pos) (dC (.bl v)):=⟨_,λ_=>f6,Nu⟩
def Wp{u}:EX K X (.Constant (.str v) u pos) (dC (.str v)):=⟨_,λ_=>fF,Nu⟩
def gn(M:Fm K mg k X)(hm:mg x=none)(hv:B9 x=some (.type N))(hg:∀ j,Gl (X j) x:=by intro _;rfl)(hn:x≠"__name__":=by decide)(hd:(x == ("__debug__":Str))=false:=by decide):EX K X (.Name x pos) (dC (.ty N)):=
 ⟨_,λj=>fq (hg j) (by rw[M.mg];exact hm) hv hn hd,Nu⟩
def Mw(ho:∀ j,OpR (X j) (CW op) r)(hs:SimR2 K r h)(ha:EX K X a fa)(hb:EX K X b fb):EX K X (.BinOp a op b pos) (dOp h fa fb):=
 let ⟨_,p,s⟩:=ha;let ⟨_,q,u⟩:=hb;⟨_,λj=>Wh (ho j) (p j) (q j),Mb hs s u⟩
def QA(M:Fm K mg k X)(ha:EX K X a fa)(hb:EX K X b fb):EX K X (.BinOp a .Add b pos) (dOp addS fa fb):=Mw (λj=>by rw[← M.K j];exact kP) Zw ha hb
def Z8(ha:EX K X a fa)(hb:EX K X b fb):EX K X (.BinOp a .Sub b pos) (dOp subS fa fb):=Mw (λj=>eE) NT ha hb
def Yy(ha:EX K X a fa)(hb:EX K X b fb):EX K X (.BinOp a .Mult b pos) (dOp mulS fa fb):=Mw (λj=>cz) gG ha hb
def Vc(ha:EX K X a fa)(hb:EX K X b fb):EX K X (.BinOp a .Mod b pos) (dOp modS fa fb):=Mw (λj=>VN) Nm ha hb
def YM(ha:EX K X a fa)(hb:EX K X b fb):EX K X (.BinOp a .FloorDiv b pos) (dOp fdivS fa fb):=Mw (λj=>iQ) Nm ha hb
def cZ(ha:EX K X a fa)(hb:EX K X b fb):EX K X (.BinOp a .Pow b pos) (dOp powS fa fb):=Mw (λj=>dJ) Nm ha hb
def eQ(ha:EX K X a fa):EX K X (.UnaryOp .USub a pos) (dUn negS fa):=let ⟨_,p,s⟩:=ha;⟨_,λj=>ZG gv (p j),eG bU s⟩
def W8(ho:∀ j,OpR (X j) (Bi op) r)(hs:SimR2 K r h)(hm:Bo op b=false)(ha:EX K X a fa)(hb:EX K X b fb):EX K X (.Compare a [op] [b] pos) (dOp h fa fb):=
 let ⟨_,p,s⟩:=ha;let ⟨_,q,u⟩:=hb;⟨_,λj=>YR (ho j) (p j) (q j) hm,Mb hs s u⟩
def fM(ho:∀ j,OpR (X j) (Bi op) r)(hs:SimR2 K r h)(hm:Bo op b=false)(ha:EX K X a fa)(hb:EX K X b fb):TX K X (.Compare a [op] [b] pos) (dTest (dOp h fa fb)):=
 let ⟨_,p,s⟩:=ha;let ⟨_,q,u⟩:=hb;⟨_,λj=>aV (ho j) (p j) (q j) hm,O3 (Mb hs s u)⟩
structure CmpR{ι:Type}(K:Fg)(X:ι->Cx)(op:CmpOp)(h:En->S->S->Option S):Prop where
 ex:∃ r,(∀ j,OpR (X j) (Bi op) r)/\SimR2 K r h
def fu:CmpR K X .Lt ltS:=⟨_,λ_=>kC,NT⟩
def a9:CmpR K X .Gt gtS:=⟨_,λ_=>dz,NT⟩
def cC:CmpR K X .GtE geS:=⟨_,λ_=>aN,NT⟩
def U8(M:Fm K mg k X):CmpR K X .Eq eqS:=⟨_,λj=>by have:=gV (M.room j);rw[M.K j]at this;exact this,jI⟩
def X3(M:Fm K mg k X):CmpR K X .NotEq neS:=⟨_,λj=>by have:=g9 (M.room j);rw[M.K j]at this;exact this,cR⟩
def jq(M:Fm K mg k X):CmpR K X .In (inS false):=⟨_,λj=>by have:=cG (X:=X j);rw[M.K j]at this;exact this,gp⟩
def ex_c(hc:CmpR K X op h)(ha:EX K X a fa)(hb:EX K X b fb)(hm:Bo op b=false:=by first | exact nomark _ | with_unfolding_all rfl):EX K X (.Compare a [op] [b] pos) (dOp h fa fb):=
 let ⟨_,p,q⟩:=hc.ex;W8 p q hm ha hb
def tx_c(hc:CmpR K X op h)(ha:EX K X a fa)(hb:EX K X b fb)(hm:Bo op b=false:=by first | exact nomark _ | with_unfolding_all rfl):TX K X (.Compare a [op] [b] pos) (dTest (dOp h fa fb)):=
 let ⟨_,p,q⟩:=hc.ex;fM p q hm ha hb
def tx_v(M:Fm K mg k X)(ha:EX K X a fa)(he:∀ j whole,HZ a (X j).env whole=(do let v ← whole;Iy a.pos;holding [v] (truthy v)):=by intro _ _;rfl):TX K X a (dTru fa):=
 let ⟨te,p,s⟩:=ha;⟨(λσ H Q=>te σ H λx H'=>∃ k,TruV K x H' k/\Q k H'),λj=>by have:=bq (p j) (he j);rw[M.K j]at this;exact this,iu s⟩
def Rv(ha:TX K X a ta):TX K X (.UnaryOp .Not a pos) (dNot ta):=let ⟨_,p,s⟩:=ha;⟨_,λj=>gy (p j),kR s⟩
def YF(ha:TX K X a ta):WX K X (.BoolOp .And [a] pos) ta:=let ⟨_,p,s⟩:=ha;⟨_,λj=>gf (p j),s⟩
def cy(ha:TX K X a ta):WX K X (.BoolOp .Or [a] pos) ta:=let ⟨_,p,s⟩:=ha;⟨_,λj=>Xl (p j),s⟩
def Zd(ha:TX K X a ta)(hb:WX K X (.BoolOp .And (b::es) pos) tb):WX K X (.BoolOp .And (a::b::es) pos) (dAnd ta tb):=let ⟨_,p,s⟩:=ha;let ⟨_,q,u⟩:=hb;⟨_,λj=>Z4 (p j) (q j),eh s u⟩
def iG(ha:TX K X a ta)(hb:WX K X (.BoolOp .Or (b::es) pos) tb):WX K X (.BoolOp .Or (a::b::es) pos) (dOr ta tb):=let ⟨_,p,s⟩:=ha;let ⟨_,q,u⟩:=hb;⟨_,λj=>jk (p j) (q j),b9 s u⟩
def tx_w(ha:WX K X a ta):TX K X a ta:=let ⟨_,p,s⟩:=ha;⟨_,λj=>(p j).pt,s⟩
def WW{op}(ha:EX K X a fa):EX K X (.BoolOp op [a] pos) fa:=let ⟨_,p,s⟩:=ha;⟨_,λj=>gX (p j),s⟩
def cA(ha:EX K X a fa)(hb:EX K X (.BoolOp .And (b::es) pos) fb):EX K X (.BoolOp .And (a::b::es) pos) (dAndV fa fb):=let ⟨_,p,s⟩:=ha;let ⟨_,q,u⟩:=hb;⟨_,λj=>Ya (p j) (q j),Vu s u⟩
def fB(hc:TX K X c ta)(ha:EX K X a fa)(hb:EX K X b fb):EX K X (.IfExp c a b pos) (dIfE ta fa fb):=let ⟨_,p,s⟩:=hc;let ⟨_,q,u⟩:=ha;let ⟨_,q',u'⟩:=hb;⟨_,λj=>fX (p j) (q j) (q' j),Y6 s u u'⟩
def jY:AX K X [] qQ:=⟨_,λ_=>Ot,Uc⟩
def jQ(ha:EX K X e fa)(hr:AX K X es fr)(hs:∀ j,AW (e::es) (X j).env=(false,eval e (X j).env)::AW es (X j).env:=by intro _;rfl):AX K X (e::es) (jW fa fr):=
 let ⟨_,p,s⟩:=ha;let ⟨_,q,u⟩:=hr;⟨_,λj=>QR (p j) (q j) (hs j),iK s u⟩
def jj{x1}(h:AX K X es da):EX K X (.Tuple es x1 pos) (dTup da):=let ⟨_,p,s⟩:=h;⟨_,λj=>kI (p j),iR s⟩
def X4(h:AX K X es da):EX K X (.List es pos) (dLst da):=let ⟨_,p,s⟩:=h;⟨_,λj=>ao (p j),iz s⟩
def ZR(M:Fm K mg k X)(ha:EX K X a fa)(hb:EX K X b fb)(hs:PlainIx b:=by exact λ_ _=>rfl):EX K X (.Subscript a b pos) (dOp ixS fa fb):=
 let ⟨_,p,s⟩:=ha;let ⟨_,q,u⟩:=hb;⟨_,λj=>VO (by have:=aX (X:=X j);rw[M.K j]at this;exact this) (p j) (q j) hs,Mb jE s u⟩
def ed:OX K X none dNoPart:=⟨_,λ_=>aZ,Ws⟩
def X6(ha:EX K X a fa):OX K X (some a) (dPart fa):=let ⟨_,p,s⟩:=ha;⟨_,λj=>kU (p j),dG s⟩
def ZI(M:Fm K mg k X)(ha:EX K X a fa)(hl:OX K X lo dl)(hh:OX K X hi dh):EX K X (.Subscript a (.Slice lo hi none p2) pos) (dSl fa dl dh):=
 let ⟨_,p,s⟩:=ha;let ⟨_,q,u⟩:=hl;let ⟨_,q',u'⟩:=hh;⟨_,λj=>kN (by have:=sl_S (X:=X j);rw[M.K j]at this;exact this) (p j) (q j) (q' j),bG s u u'⟩
structure CalR{ι:Type}(K:Fg)(X:ι->Cx)(f:AM)(h:En->List S->Option S):Prop where
 ex:∃ r,(∀ j,CallR (X j) f r)/\SimRs K r h
def Ly{p id h}(M:Fm K mg k X)(hc:CalR K X (.builtin id) h)(hm:mg x=none)(hv:B9 x=some (.builtin id))(ha:AX K X (e::es) da)(hg:∀ j,Gl (X j) x:=by intro _;rfl)(hn:x≠"__name__":=by decide)(hdb:(x == ("__debug__":Str))=false:=by decide)
  (he:∀ j,AW (e::es) (X j).env=(false,eval e (X j).env)::AW es (X j).env:=by intro _;rfl) (hpl:∀ j,(CV pos (AW es (X j).env)).any (·.1)=false:=by intro _;rfl):EX K X (.Call (.Name x p) (e::es) [] pos) (dCB h da):=
 let ⟨_,p,s⟩:=hc.ex;let ⟨_,q,u⟩:=ha;⟨_,λj=>dQ (p j) (hg j) (by rw[M.mg];exact hm) hv (q j) hn hdb (he j) (hpl j),R9 s u⟩
def MJ(M:Fm K mg k X)(hc:CalR K X (.type N) h)(hm:mg x=none)(hv:B9 x=some (.type N))(ha:AX K X (e::es) da)(hg:∀ j,Gl (X j) x:=by intro _;rfl)(hn:x≠"__name__":=by decide)(hdb:(x == ("__debug__":Str))=false:=by decide)
  (he:∀ j,AW (e::es) (X j).env=(false,eval e (X j).env)::AW es (X j).env:=by intro _;rfl) (hpl:∀ j,(CV pos (AW es (X j).env)).any (·.1)=false:=by intro _;rfl):EX K X (.Call (.Name x p) (e::es) [] pos) (dCB h da):=
 let ⟨_,p,s⟩:=hc.ex;let ⟨_,q,u⟩:=ha;⟨_,λj=>NN (p j) (hg j) (by rw[M.mg];exact hm) hv (q j) hn hdb (he j) (hpl j),R9 s u⟩
def On(M:Fm K mg k X):CalR K X (.builtin "len") lenS:=⟨_,λj=>by have:=iU (X:=X j);rw[M.K j]at this;exact this,WC⟩
def Rb(M:Fm K mg k X):CalR K X (.builtin "all") allS:=⟨_,λj=>by have:=Y5 (M.calm j);rw[M.K j]at this;exact this,i9⟩
def iI(M:Fm K mg k X):CalR K X (.builtin "isinstance") isiS:=⟨_,λj=>by have:=bD (X:=X j);rw[M.K j]at this;exact this,kZ⟩
def Zx(M:Fm K mg k X):CalR K X (.builtin "max") max2S:=⟨_,λj=>cn (M.calm j),Wv⟩
def kE:CalR K X (.type "int") intS:=⟨_,λj=>Vh,Xn⟩
def MY(M:Fm K mg k X):CalR K X (.type "tuple") tupleS:=⟨_,λj=>by have:=Wy (X:=X j);rw[M.K j]at this;exact this,WI⟩
def Rz{X}:CallR X (.type "range") rRng:=hV.or Zo
def Ze(M:Fm K mg k X)(hl:mg "list"=none)(hr:mg "range"=none)(ha:AX K X (e::es) da)(hg:∀ j,Gl (X j) "list":=by intro _;rfl)(hg2:∀ j,Gl (X j) "range":=by intro _;rfl)
  (he:∀ j,AW (e::es) (X j).env=(false,eval e (X j).env)::AW es (X j).env:=by intro _;rfl) (hpl:∀ j,(CV pos2 (AW es (X j).env)).any (·.1)=false:=by intro _;rfl) :
  EX K X (.Call (.Name "list" p) [.Call (.Name "range" p2) (e::es) [] pos2] [] pos) (dListRng da):=
 let ⟨_,q,u⟩:=ha;⟨_,λj=>NN (Vw (M.calm j)) (hg j) (by rw[M.mg];exact hl) FT (QR (NN Rz (hg2 j) (by rw[M.mg];exact hr) FN (q j) ∅ ∅ (he j) (hpl j)) Ot),cI u⟩
def jK(M:Fm K mg k X)(hl:mg "tuple"=none)(hr:mg "range"=none)(ha:AX K X (e::es) da)(hg:∀ j,Gl (X j) "tuple":=by intro _;rfl)(hg2:∀ j,Gl (X j) "range":=by intro _;rfl)
  (he:∀ j,AW (e::es) (X j).env=(false,eval e (X j).env)::AW es (X j).env:=by intro _;rfl) (hpl:∀ j,(CV pos2 (AW es (X j).env)).any (·.1)=false:=by intro _;rfl) :
  EX K X (.Call (.Name "tuple" p) [.Call (.Name "range" p2) (e::es) [] pos2] [] pos) (dTupRng da):=
 let ⟨_,q,u⟩:=ha;⟨_,λj=>NN (Zj (M.calm j)) (hg j) (by rw[M.mg];exact hl) J1 (QR (NN Rz (hg2 j) (by rw[M.mg];exact hr) FN (q j) ∅ ∅ (he j) (hpl j)) Ot),il u⟩
end
structure Fb{ι:Type}(P:Ai)(wd:A5)(base:Heap)(X:ι->Cx):Prop where
 P:∀ j,(X j).prog=P
 w:∀ j,(X j).w=wd
 b:∀ j,(X j).base=base
structure FD(P:Ai)(wd:A5)(K:Fg)(mg:Str->Option AM)(base:Heap)(k:Nat)(x:Str)(ip:Option Nat)(n:Nat)(F:DF):Prop where
 ex:∃ (f:Addr) (fd:Dg) (ps:List Str),FnOk P wd K mg base CX0 k f fd ps (spD K ip n F)/\mg x=some (.ref f)/\Bt K (.ref f)=true/\Binds K fd ps []
 len:∀ gs r,F gs=some r->gs.length=n
def Pn:∀ gs r,fnD ip np nN g gs=some r->gs.length=np:=λgs r e=>by
 unfold fnD at e;split at e
 ·assumption
 ·cases e
section
variable {ι:Type}{P:Ai}{wd:A5}{base:Heap}{K:Fg}{mg:Str->Option AM}{k k' n:Nat}{X:ι->Cx}{ip:Option Nat}{a b c e:Expr}{es:List Expr}{pos p:Pos}{fa fb fc:DE}{ta tb:DT}{da:DA}{F:DF}{x:Str}
def Yf(M:Fm K mg k X)(B:Fb P wd base X)(D0:FD P wd K mg base k' x ip n F)(ha:AX K X (e::es) da)(hk:k'<=k:=by first | exact AE _ | decide | lia)(hg:∀ j,Gl (X j) x:=by intro _;rfl)(hdb:(x == ("__debug__":Str))=false:=by decide)
  (he:∀ j,AW (e::es) (X j).env=(false,eval e (X j).env)::AW es (X j).env:=by intro _;rfl) (hpl:∀ j,(CV pos (AW es (X j).env)).any (·.1)=false:=by intro _;rfl) :
  EX K X (.Call (.Name x p) (e::es) [] pos) (dCall ip F [] da):=by
 obtain⟨f,fd,ps,h1,h2,h3,h4⟩:=D0.ex;obtain⟨t,q,u⟩:=ha;refine⟨tCall (spD K ip n F) [] E0 t,λj=>?_,PY D0.len u⟩;have hF:FnOk (X j).prog (X j).w (X j).K (X j).mg (X j).base CX0 k' f fd ps (spD K ip n F):=by rw[B.P,B.w,M.K,M.mg,B.b];exact h1
 exact RI hF ((M.room j).mono hk) (hg j) (by rw[M.mg];exact h2) (by rw[M.K];exact h3) (by rw[M.K];exact h4) .nil pass0 (q j) hdb (he j) (hpl j)
def cx(M:Fm K mg k X)(hl:EX K X l fa):IX K X tg l (dSeqI fa):=let ⟨t,p,s⟩:=hl;⟨iSeq K t,λj=>by have:=WS (tg:=tg) (p j);rw[M.K j]at this;exact this,dF s⟩
def jX(M:Fm K mg k X)(hm:mg "range"=none)(ha:AX K X [a] da)(hg:∀ j,Gl (X j) "range":=by intro _;rfl)(hs:∀ j,AW [a] (X j).env=[(false,eval a (X j).env)]:=by intro _;rfl):IX K X tg (.Call (.Name "range" p) [a] [] pos) (dRng1 da):=
 let ⟨_,q,u⟩:=ha;⟨_,λj=>Va (hg j) (by rw[M.mg];exact hm) (q j) (hs j),V1 u⟩
def dH(M:Fm K mg k X)(hm:mg "range"=none)(ha:AX K X [a,b] da)(hg:∀ j,Gl (X j) "range":=by intro _;rfl)(hs:∀ j,AW [a,b] (X j).env=[(false,eval a (X j).env),(false,eval b (X j).env)]:=by intro _;rfl)
  (hs2:∀ j,AW [b] (X j).env=[(false,eval b (X j).env)]:=by intro _;rfl):IX K X tg (.Call (.Name "range" p) [a,b] [] pos) (dRng2 da):=
 let ⟨_,q,u⟩:=ha;⟨_,λj=>YD (hg j) (by rw[M.mg];exact hm) (q j) (hs j) (hs2 j),Xr u⟩
def SV i (hi:ip≠some i:=by decide) (hN:∀ j,(X j).N.Nodup:=by intro _;show (EG _);decide +kernel) (hx':∀ j,(X j).N[i]?=some x:=by intro _;rfl) (hx:∀ j,Loc (X j).env.scope x:=by intro _;first | exact EV rfl | exact De rfl)
  (hf:∀ j,(X j).fn x=true\/(X j).env.scope.names.lookup x=some .local:=by intro _;first | exact .inl rfl | exact .inr rfl):GX K X ip (.Name x pos) (gdName i):=⟨_,λj=>Ql (hN j) (hx' j) (hx j) (hf j),d7 hi⟩
def Xi:GXs K X ip [] gdNil:=⟨_,λ_=>aR,gq⟩
def g8(h1:GX K X ip e f)(h2:GXs K X ip es g)(hst:∀ j,(B5 (e::es) (X j).env).map (·.2)=assign e (X j).env::(B5 es (X j).env).map (·.2):=by intro _;rfl):GXs K X ip (e::es) (gdCons f g):=
 let ⟨_,p,s⟩:=h1;let ⟨_,q,u⟩:=h2;⟨_,λj=>WD (p j) (q j) (hst j),aG s u⟩
def fz n (M:Fm K mg k X) (h:GXs K X ip es g) (hn:∀ j,(B5 es (X j).env).length=n:=by intro _;rfl) (hst:∀ j,(B5 es (X j).env).findIdx? (·.1)=none:=by intro _;rfl):GX K X ip (.Tuple es kk pos) (gdTup n g):=
 let ⟨_,p,s⟩:=h;⟨_,λj=>kH K (M.K j) (M.calm j) (p j) (hn j) (hst j),Vb s⟩
def QX (K:Fg) (X:ι->Cx) (ifs:List Expr) (f:DT):Prop:=∃ t,(∀ j,PTs (X j) ifs t)/\SimT K t f
noncomputable def dYes:DT:=λΓ=>some (true,Γ)
def Lz:QX K X [] dYes:=⟨_,λ_=>ZT,λC w Γ σ H b Γ' Q R e k=>by cases e;exact k H R .refl⟩
def bg(h:TX K X c ta):QX K X [c] ta:=let ⟨_,p,s⟩:=h;⟨_,λj=>YZ (p j),s⟩
noncomputable abbrev CI (ι:Type):=ι×Addr×List (Str×Addr)×AR×Hp×List Addr
noncomputable abbrev cxF {ι:Type} (X:ι->Cx) (N':List Str) (sc:Ea):CI ι->Cx:=λq=>cxC (X q.1) N' sc q.2.1 q.2.2.1 q.2.2.2.1 q.2.2.2.2.1 q.2.2.2.2.2
def Fm.comp(M:Fm K mg k X):Fm K mg k (cxF X N' sc):=⟨λj=>M.K j.1,λj=>M.mg j.1,λj=>M.calm j.1,λj=>M.room j.1⟩
def Fb.comp(B:Fb P wd base X):Fb P wd base (cxF X N' sc):=⟨λj=>B.P j.1,λj=>B.w j.1,λj=>B.b j.1⟩
def Lp mu (M:Fm K mg k X) (S:∀ j,CompOk (X j) N' ix sc) (hi:IX K X tg iter di)
  (hg:GX K (cxF X N' sc) (mu.map (·.1)) tg g) (ht:QX K (cxF X N' sc) ifs dc) (he:EX K (cxF X N' sc) elt de)
  (hmu:∀ j i,mu=some (j,i)->ix[j]?=some (some i):=by intro _ _ e;first | (cases e;rfl) | cases e) (hix:∀ (j j' i:Nat),mu.map (·.2)=some i->ix[j]?=some (some i)->ix[j']?=some (some i)->j=j')
  (hs:∀ j x,CM iter (X j).env x=pure x:=by intro _ _;rfl):EX K X (.ListComp elt [⟨tg,iter,ifs,0⟩] sc pos) (dComp mu ix di g dc de):=
 let ⟨_,p1,s1⟩:=hi;let ⟨_,p2,s2⟩:=hg;let ⟨_,p3,s3⟩:=ht;let ⟨_,p4,s4⟩:=he
 ⟨_,λj=>Y9 (S j) (M.calm j) (p1 j) (λC cs s H ex=>p2 (j,C,cs,s,H,ex)) (λC cs s H ex=>p3 (j,C,cs,s,H,ex)) (λC cs s H ex=>p4 (j,C,cs,s,H,ex)) (hs j),RW s1 s2 s3 s4 hmu hix⟩
def hix0{ix:List (Option Nat)}:∀ (j j' i:Nat),(none:Option (Nat×Nat)).map (·.2)=some i->ix[j]?=some (some i)->ix[j']?=some (some i)->j=j':=↥1
noncomputable def onceIx (ix:List (Option Nat)) (j i:Nat):Bool:=(AI ix.length).all λm=>decide (ix[m]?=some (some i)->m=j)
def hix1(h:onceIx ix j0 i0=true):∀ (j j' i:Nat),(some (j0,i0)).map (·.2)=some i->ix[j]?=some (some i)->ix[j']?=some (some i)->j=j':=by
 intro j j' i e h1 h2;cases e;have key:∀ m,ix[m]?=some (some i0)->m=j0:=λm hm=>by
  have:=AJ.mp h m (by simpa using ((AZ.mp hm).1));exact (of_decide_eq_true this) hm
 rw[key j h1,key j' h2]
def Pc{name apos cpos id r h y yp}(M:Fm K mg k X)(slot:Slot "list" name id)(hty:Gv (.builtin id)=pure (.type "method_descriptor"))(hm:∀ j,MtM (X j) id r)(hr:SimMut K r h)
  (ho:∀ j,PE (X j) (.Name y yp) (tVar i)) (ha:AX K X (e::es) da)
  (hbase:∀ j,Da (.Name y yp) name (X j).env (eval (.Name y yp) (X j).env)=eval (.Name y yp) (X j).env:=by intro _;rfl)
  (hfew:∀ j,((CV cpos (AW (e::es) (X j).env)).all (λx=>!x.1) && (II cpos (GQ [] (X j).env)).all (λx=>x.1.isSome) && decide ((e::es).length+([]:List FH).length+(if ([]:List FH).isEmpty then 0 else 1) < 30))=true:=by intro _;rfl)
  (hline:(apos.endLine == cpos.line)=true:=by rfl) (hs:∀ j,AW (e::es) (X j).env=(false,eval e (X j).env)::AW es (X j).env:=by intro _;rfl) (hplain:∀ j,(CV cpos (AW es (X j).env)).any (·.1)=false:=by intro _;rfl) :
  EX K X (.Call (.Attribute (.Name y yp) name apos) (e::es) [] cpos) (dMut i h da):=
 let ⟨t,q,u⟩:=ha;⟨tBM K "list" r (tVar i) t,λj=>by have:=az F6 slot hty (hm j) (ho j) (q j) (hbase j) (hfew j) hline (hs j) (hplain j);rw[M.K j]at this;exact this,TJ hr u⟩
def YT{name apos cpos id r h y yp}(M:Fm K mg k X)(slot:Slot "list" name id)(hty:Gv (.builtin id)=pure (.type "method_descriptor"))(hm:∀ j,MtM (X j) id r)(hr:SimMut K r h)
  (ho:∀ j,PE (X j) (.Name y yp) (tVar i)) (hbase:∀ j,Da (.Name y yp) name (X j).env (eval (.Name y yp) (X j).env)=eval (.Name y yp) (X j).env:=by intro _;rfl) (hline:(apos.endLine == cpos.line)=true:=by rfl) :
  EX K X (.Call (.Attribute (.Name y yp) name apos) [] [] cpos) (dMut i h qQ):=
 ⟨tBM0 K "list" r (tVar i),λj=>by have:=Yb F6 slot hty (hm j) (ho j) (hbase j) hline;rw[M.K j]at this;exact this,cj hr⟩
def fI(M:Fm K mg k X)(ho:EX K X o fa)(ha:AX K X (e::es) da)
  (hbase:∀ j,Da o "index" (X j).env (eval o (X j).env)=eval o (X j).env:=by intro _;rfl)
  (hfew:∀ j,((CV cpos (AW (e::es) (X j).env)).all (λx=>!x.1) && (II cpos (GQ [] (X j).env)).all (λx=>x.1.isSome) && decide ((e::es).length+([]:List FH).length+(if ([]:List FH).isEmpty then 0 else 1) < 30))=true:=by intro _;rfl)
  (hline:(apos.endLine == cpos.line)=true:=by rfl) (hs:∀ j,AW (e::es) (X j).env=(false,eval e (X j).env)::AW es (X j).env:=by intro _;rfl) (hplain:∀ j,(CV cpos (AW es (X j).env)).any (·.1)=false:=by intro _;rfl) :
  EX K X (.Call (.Attribute o "index" apos) (e::es) [] cpos) (dIndex fa da):=
 have hm:∀ j,MtM (X j) "tuple.index" (rTupIndex K):=λj=>by have:=Zc (X:=X j);rw[M.K j]at this;exact this
 let ⟨t0,q0,u0⟩:=ho;let ⟨t,q,u⟩:=ha;⟨tBMS K (rTupIndex K) t0 t,λj=>by have:=dq PySem.F.slot_tuple_index PySem.F.type_tuple_index (hm j) (q0 j) (q j) (hbase j) (hfew j) hline (hs j) (hplain j);rw[M.K j]at this;exact this,gJ u0 u⟩
def pv' i (hN:∀ j,(X j).N[i]?=some x:=by intro _;rfl) (hv:∀ j,Vis (X j).env.scope x:=by intro _;first | exact EV rfl | exact De (EV rfl) | exact De (De rfl)) (hd:(x == ("__debug__":Str))=false:=by decide)
  (hcd:(x == ("__classdict__":Str))=false:=by decide):∀ j,PE (X j) (.Name x pos) (tVar i):=λj=>Pk (hN j) (hv j) hd hcd
variable {st:Stmt}{sts sts':List Stmt}{f g:DS}
def PD:BX K X ip [] dNext:=⟨_,λ_=>Wm,ZH⟩
def Lr(h:SX K X ip st f):BX K X ip [st] f:=let ⟨_,p,s⟩:=h;⟨_,λj=>gu (p j),s⟩
def LJ(h:SX K X ip st f)(h2:BX K X ip sts g):BX K X ip (st::sts) (dSeq f g):=let ⟨_,p,s⟩:=h;let ⟨_,q,u⟩:=h2;⟨_,λj=>ji (p j) (q j),W6 s u⟩
def ZW:SX K X ip st dNever:=⟨_,λ_=>Wg,ZC (ts:=dNever)⟩
def WN(h:EX K X e fa)(hs:∀ j,DX e none pos.line (X j).env=pure false:=by intro _;rfl):SX K X ip (.Expr e pos) (dDrop fa):=let ⟨_,p,s⟩:=h;⟨_,λj=>Yt (p j) (hs j),jo s⟩
def L0(h:EX K X e fa):SX K X ip (.Return (some e) pos) (dRet fa):=let ⟨_,p,s⟩:=h;⟨_,λj=>eV (p j),gh s⟩
def QG(hc:TX K X c ta)(h1:BX K X ip sts f)(h2:BX K X ip sts' g):SX K X ip (.If c sts sts' pos) (dIf ta f g):=let ⟨_,p,s⟩:=hc;let ⟨_,q,u⟩:=h1;let ⟨_,q',u'⟩:=h2;⟨_,λj=>Vd (p j) (q j) (q' j),Yk s u u'⟩
def QS i (h:EX K X e fa) (hi:ip≠some i:=by decide) (hN:∀ j,(X j).N.Nodup:=by intro _;show (EG _);decide +kernel) (hx':∀ j,(X j).N[i]?=some x:=by intro _;rfl) (hx:∀ j,Loc (X j).env.scope x:=by intro _;first | exact EV rfl | exact De rfl)
  (hs:∀ j,DX e (some (.Name x pos')) pos.line (X j).env=pure false:=by intro _;rfl) (hf:∀ j,(X j).fn x=true\/(X j).env.scope.names.lookup x=some .local:=by intro _;first | exact .inl rfl | exact .inr rfl):SX K X ip (.Assign [.Name x pos'] e pos) (dSet i fa):=
 let ⟨_,p,s⟩:=h;⟨_,λj=>Tz (hN j) (hx' j) (hx j) (p j) (hs j) (hf j),SM s hi⟩
def PX i mu (M:Fm K mg k X) (S:∀ j,CompOk (X j) N' ix sc) (h1:IX K X tg iter di)
  (hg:GX K (cxF X N' sc) (mu.map (·.1)) tg gg) (ht:QX K (cxF X N' sc) ifs dc) (he:EX K (cxF X N' sc) elt de)
  (hix:∀ (j j' i:Nat),mu.map (·.2)=some i->ix[j]?=some (some i)->ix[j']?=some (some i)->j=j') (hi:ip≠some i:=by decide) (hmu:∀ j i,mu=some (j,i)->ix[j]?=some (some i):=by intro _ _ e;first | (cases e;rfl) | cases e)
  (hN:∀ j,(X j).N.Nodup:=by intro _;show (EG _);decide +kernel) (hx':∀ j,(X j).N[i]?=some x:=by intro _;rfl) (hx:∀ j,Loc (X j).env.scope x:=by intro _;first | exact EV rfl | exact De rfl)
  (hsw:∀ j,DX (.ListComp elt [⟨tg,iter,ifs,0⟩] sc pos) (some (.Name x pos')) spos.line (X j).env=pure true:=by intro _;rfl)
  (hf:∀ j,(X j).fn x=true\/(X j).env.scope.names.lookup x=some .local:=by intro _;first | exact .inl rfl | exact .inr rfl)
  (hs:∀ j x,CM iter (X j).env x=pure x:=by intro _ _;rfl):SX K X ip (.Assign [.Name x pos'] (.ListComp elt [⟨tg,iter,ifs,0⟩] sc pos) spos) (dSet i (dComp mu ix di gg dc de)):=
 let ⟨_,p1,s1⟩:=h1;let ⟨_,p2,s2⟩:=hg;let ⟨_,p3,s3⟩:=ht;let ⟨_,p4,s4⟩:=he
 ⟨_,λj=>Vm (hN j) (hx' j) (hx j) (S j) (M.calm j) (p1 j) (λC cs s H ex=>p2 (j,C,cs,s,H,ex)) (λC cs s H ex=>p3 (j,C,cs,s,H,ex)) (λC cs s H ex=>p4 (j,C,cs,s,H,ex)) (hsw j) (hf j) (hs j),SM (RW s1 s2 s3 s4 hmu hix) hi⟩
def cV i (he:EX K X e fa) (ho:∀ j,PE (X j) (.Name y yp) (tVar i)) (hb:EX K X b fb) (hs:∀ j,C2 [.Subscript (.Name y yp) b p2] e pos.line (X j).env=pure false:=by intro _;rfl) (hw:∀ j,C3 [.Subscript (.Name y yp) b p2] e (X j).env=pure none:=by intro _;rfl)
  (hA:∀ j v,assign (.Subscript (.Name y yp) b p2) (X j).env v=(do let ov ← holding [v] (eval (.Name y yp) (X j).env);let iv ← holding [v,ov] (eval b (X j).env);Iy p2;holding [v,ov,iv] (Iw ov iv v);release [v,ov,iv] []):=by intro _ _;rfl) (h1:∀ j,(B5 [.Subscript (.Name y yp) b p2] (X j).env).map (·.2)=[assign (.Subscript (.Name y yp) b p2) (X j).env]:=by intro _;rfl) :
  SX K X ip (.Assign [.Subscript (.Name y yp) b p2] e pos) (dSetIx i fa fb):=
 let ⟨_,p,s⟩:=he;let ⟨_,q,u⟩:=hb;⟨_,λj=>Sx (p j) (aS (ho j) (q j) du (hA j)) (hs j) (hw j) (h1 j),XU s u⟩
def ae(he:EX K X e fa)(hg:GX K X ip tg gg)(hs:∀ j,C2 [tg] e pos.line (X j).env=pure false:=by intro _;rfl)(hw:∀ j,C3 [tg] e (X j).env=pure none:=by intro _;rfl)(h1:∀ j,(B5 [tg] (X j).env).map (·.2)=[assign tg (X j).env]:=by intro _;rfl):SX K X ip (.Assign [tg] e pos) (dUnp gg fa):=
 let ⟨_,p,s⟩:=he;let ⟨_,q,u⟩:=hg;⟨_,λj=>Sx (p j) (q j) (hs j) (hw j) (h1 j),bE s u⟩
def YY i1 i2 {kt k2 pt2} (M:Fm K mg k X) (ha:AX K X [a,b] da) (h12:i1≠i2:=by decide) (hi1:ip≠some i1:=by decide) (hi2:ip≠some i2:=by decide) (hN:∀ j,(X j).N.Nodup:=by intro _;show (EG _);decide +kernel)
  (e1:∀ j,(X j).N[i1]?=some x1:=by intro _;rfl) (e2:∀ j,(X j).N[i2]?=some x2:=by intro _;rfl) (l1:∀ j,(X j).env.scope.names.lookup x1=some .local:=by intro _;rfl) (l2:∀ j,(X j).env.scope.names.lookup x2=some .local:=by intro _;rfl)
  (hw:∀ j,C3 [.Tuple [.Name x1 px,.Name x2 py] kt pt] (.Tuple [a,b] k2 pt2) (X j).env=pure (some [x1,x2]):=by intro _;rfl)
  (hs:∀ j,C2 [.Tuple [.Name x1 px,.Name x2 py] kt pt] (.Tuple [a,b] k2 pt2) pos.line (X j).env=pure false:=by intro _;rfl) :
  SX K X ip (.Assign [.Tuple [.Name x1 px,.Name x2 py] kt pt] (.Tuple [a,b] k2 pt2) pos) (dPar2 i1 i2 da):=
 let ⟨_,q,u⟩:=ha;⟨_,λj=>cB (M.calm j) (hN j) (e1 j) (e2 j) h12 (l1 j) (l2 j) (q j) (hw j) (hs j),aI u hi1 hi2⟩
def aD i1 i2 i3 {kt k2 pt2} (M:Fm K mg k X) (ha:AX K X [a,b,c] da) (h12:i1≠i2:=by decide) (h13:i1≠i3:=by decide) (h23:i2≠i3:=by decide) (hi1:ip≠some i1:=by decide) (hi2:ip≠some i2:=by decide) (hi3:ip≠some i3:=by decide) (hN:∀ j,(X j).N.Nodup:=by intro _;show (EG _);decide +kernel)
  (e1:∀ j,(X j).N[i1]?=some x1:=by intro _;rfl) (e2:∀ j,(X j).N[i2]?=some x2:=by intro _;rfl) (e3:∀ j,(X j).N[i3]?=some x3:=by intro _;rfl) (l1:∀ j,(X j).env.scope.names.lookup x1=some .local:=by intro _;rfl) (l2:∀ j,(X j).env.scope.names.lookup x2=some .local:=by intro _;rfl) (l3:∀ j,(X j).env.scope.names.lookup x3=some .local:=by intro _;rfl)
  (hw:∀ j,C3 [.Tuple [.Name x1 px,.Name x2 py,.Name x3 pz] kt pt] (.Tuple [a,b,c] k2 pt2) (X j).env=pure (some [x1,x2,x3]):=by intro _;rfl)
  (hs:∀ j,C2 [.Tuple [.Name x1 px,.Name x2 py,.Name x3 pz] kt pt] (.Tuple [a,b,c] k2 pt2) pos.line (X j).env=pure false:=by intro _;rfl) :
  SX K X ip (.Assign [.Tuple [.Name x1 px,.Name x2 py,.Name x3 pz] kt pt] (.Tuple [a,b,c] k2 pt2) pos) (dPar3 i1 i2 i3 da):=
 let ⟨_,q,u⟩:=ha;⟨_,λj=>Zz (M.calm j) (hN j) (e1 j) (e2 j) (e3 j) h12 h13 h23 (l1 j) (l2 j) (l3 j) (q j) (hw j) (hs j),aM u hi1 hi2 hi3⟩
def ZU nn (hp:∀ j,HM (model (X j).prog (X j).w) (X j).A (X j).env (X j).xe) (hc:TX K X c ta) (hb:BX K X ip sts f):SX K X ip (.While c sts [] pos) (dWhile ta f nn):=
 let ⟨_,p,s⟩:=hc;let ⟨_,q,u⟩:=hb;⟨_,λj=>jf (hp j) (p j) (q j),Wb nn s u⟩
def QL(M:Fm K mg k X)(hp:∀ j,HM (model (X j).prog (X j).w) (X j).A (X j).env (X j).xe)(hi:IX K X tg iter di)(hg:GX K X ip tg gg)(hb:BX K X ip sts f)
  (hs:∀ j x,CM iter (X j).env x=pure x:=by intro _ _;rfl):SX K X ip (.For tg iter sts [] pos) (dFor ip di gg f):=
 let ⟨_,p1,s1⟩:=hi;let ⟨_,p2,s2⟩:=hg;let ⟨_,p3,s3⟩:=hb;⟨_,λj=>ZA (hp j) (M.calm j) (p1 j) (p2 j) (p3 j) (hs j),ZD s1 s2 s3⟩
end
section
variable {P:Ai}{wd:A5}{base:Heap}{K:Fg}{mg:Str->Option AM}{k:Nat}
noncomputable abbrev cx1 (P:Ai) (wd:A5) (K:Fg) (mg:Str->Option AM) (base:Heap) (N:List Str) (qual:Str) (sc:Ea) (f:Addr) (cdv:AM) (A:BD) (outer:List Env) (s:AR) (H:Hp) (E:XK):Unit->Cx:=λ_=>(cxOf CX0 P wd K mg base N qual sc f cdv A outer s H E).nox
def WR(F:Fun K x x st f fd)(S:FnScope N ps (defScope st))(hm:mg x=some (.ref f))(hb:Binds K fd ps [])
  (body:∀ cdv A outer s H E,Fm K mg k (cx1 P wd K mg base N x (defScope st) f cdv A outer s H E)->Fb P wd base (cx1 P wd K mg base N x (defScope st) f cdv A outer s H E)->BX K (cx1 P wd K mg base N x (defScope st) f cdv A outer s H E) ip (defBody st) g) :
  FD P wd K mg base (k+1) x ip ps.length (fnD ip ps.length N.length g):=by
 refine⟨⟨f,fd,ps,F.ok S (λvs H Q E h=>h.1) λcdv A outer s H vs Q E hr h=>?_,hm,F.kp,hb⟩,Pn⟩;obtain⟨t,p,u⟩:=body cdv A outer s H E ⟨λ_=>rfl,λ_=>rfl,λ_=>rfl,λ_=>hr⟩ ⟨λ_=>rfl,λ_=>rfl,λ_=>rfl⟩;exact⟨t,p (),QW u h⟩
end
section
variable {P:Ai}{wd:A5}{base:Heap}{K:Fg}{mg:Str->Option AM}{k:Nat}
def Xq(F:Fun K x x st f fd)(S:FnScope N ps (defScope st))
  (body:∀ cdv A outer s H E,Fm K mg k (cx1 P wd K mg base N x (defScope st) f cdv A outer s H E)->Fb P wd base (cx1 P wd K mg base N x (defScope st) f cdv A outer s H E)->BX K (cx1 P wd K mg base N x (defScope st) f cdv A outer s H E) ip (defBody st) g) :
  FnOk P wd K mg base CX0 (k+1) f fd ps (spD K ip ps.length (fnD ip ps.length N.length g)):=by
 refine F.ok S (λvs H Q E h=>h.1) λcdv A outer s H vs Q E hr h=>?_
 obtain⟨t,p,u⟩:=body cdv A outer s H E ⟨λ_=>rfl,λ_=>rfl,λ_=>rfl,λ_=>hr⟩ ⟨λ_=>rfl,λ_=>rfl,λ_=>rfl⟩;exact⟨t,p (),QW u h⟩
def eW(F:Fun K x x st f fd)(hm:mg x=some (.ref f))(hb:Binds K fd ps [])(hn:ps.length=n):FD P wd K mg base k x ip n (λ_=>none):=by
 refine⟨⟨f,fd,ps,⟨λvs H Q E h=>h.1.trans hn.symm,λA outer s H args us vs Q E _ _ _ _ h=>?_⟩,hm,F.kp,hb⟩,λgs r e=>nomatch e⟩;obtain⟨_,w,gs,r,ys,e,_⟩:=h;cases e
def len1(h:us.length=1):∃ a,us=[a]:=List.length_eq_one_iff.mp h
theorem lenSc(h:us.length=n+1):∃ a r,us=a::r/\r.length=n:=by
 cases us with
 | nil=>cases h
 | cons a r=>exact⟨a,r,rfl,Nat.succ.inj h⟩
def len2(h:us.length=2):∃ a b,us=[a,b]:=by
 obtain⟨a,r,rfl,h'⟩:=lenSc h;obtain⟨b,rfl⟩:=len1 h';exact⟨a,b,rfl⟩
def len3(h:us.length=3):∃ a b c,us=[a,b,c]:=by
 obtain⟨a,r,rfl,h'⟩:=lenSc h;obtain⟨b,c,rfl⟩:=len2 h';exact⟨a,b,c,rfl⟩
def len4(h:us.length=4):∃ a b c d,us=[a,b,c,d]:=by
 obtain⟨a,r,rfl,h'⟩:=lenSc h;obtain⟨b,c,d,rfl⟩:=len3 h';exact⟨a,b,c,d,rfl⟩
noncomputable def intsT (ns:List Int):List T:=ns.map λi=>.a (.int i)
def aa(hO:Only H)(hS:SqL K H a (ns.map V.int))(h:F [.k (intsT ns)]=some (.v (.a (.bl true)),[])):spD K none 1 F [.ref a] H (λv _=>v=.bl true) λ_ _ _=>False:=by
 have hK:=KF.of hS λus e=>by
  rcases hO a with z | ⟨o,xs,z⟩
  ·rw[e]at z;cases z
  ·rw[e]at z;cases z
 refine⟨rfl,⟨[],λ_=>False⟩,_,_,_,h,⟨rfl,λi g e=>?_,λi j p ga gb ma mb e=>?_,λp hp=>(nomatch hp),λp hp=>(nomatch hp),λp hp=>hp.elim,λp hp=>hp.elim,λb o e _=>e,λq hq=>(nomatch hq)⟩,rfl,(λp hp=>nomatch hp),λv H' _ _ hr=>?_⟩
 ·match i,e with
  | 0,e =>
   cases e;refine⟨_,rfl,a,ns.map V.int,rfl,?_,hK⟩;have:intsT ns=(ns.map V.int).map T.a:=by simp[intsT]
   rw[this];exact Ims.atoms _
  | i+1,e=>simp at e
 ·match i,e with
  | 0,e=>cases e;cases ma
  | i+1,e=>simp at e
 ·exact (show Im K H' v (.a (.bl true)) from hr).inva
end
noncomputable def setM (i:Nat) (s:S) (Γ:En):Option En:=match s with
 | .v t=>some (Γ.set i (some (.v t)))
 | .l xs=>some (Γ.set i (some (.l xs)))
 | .d _=>none
 | .s j=>match Γ[j]? with
  | some (some (.r xs))=>some (Γ.set i (some (.r xs)))
  | some (some (.l xs))=>some ((Γ.set j none).set i (some (.l xs)))
  | _=>none
noncomputable def dMv (i j:Nat):DS:=λΓ=>(jV j Γ).bind λp=>(setM i p.1 p.2).map .nx
def Rep.forget(r:Rep K C w Γ σ H)(hn:∀ q∈C.pins,q.1≠j):Rep K C w (Γ.set j none) σ H where
 len:=by simpa using r.len
 val:=λi g h=>by
  by_cases e:i=j
  ·subst e;rw[Hi]at h;split at h
   ·split at h <;> simp at h
   ·exact absurd rfl ‹_›
  ·rw[AO (Ax e)]at h;exact r.val i g h
 apart:=λa b p ga gb ma mb h1 h2 h3 h4=>by
  have back:∀ m zs,(Γ.set j none)[m]?=some (some zs)->Γ[m]?=some (some zs):=λm zs h=>by
   by_cases e:m=j
   ·subst e;rw[Hi]at h;split at h
    ·split at h <;> simp at h
    ·exact absurd rfl ‹_›
   ·rw[AO (Ax e)]at h;exact h
  exact r.apart a b p ga gb ma mb (back _ _ h1) (back _ _ h2) h3 h4
 lst:=r.lst
 own:=r.own
 ra:=r.ra
 rl:=r.rl
 frame:=r.frame
 pin:=λq hq=>by
  obtain⟨a,xs,b⟩:=r.pin q hq;exact⟨a,xs,by rw[AO (Ax (hn q hq))];exact b⟩
def Rep.move(r:Rep K C w Γ σ H)(hj:Γ[j]?=some (some (.l xs)))(hv:σ[j]?=some (some v))(hni:∀ q∈C.pins,q.1≠i)(hnj:∀ q∈C.pins,q.1≠j) :
  Rep K C w ((Γ.set j none).set i (some (.l xs))) (σ.set i (some v)) H:=by
 have r':=r.forget hnj;obtain⟨v',e1,e2⟩:=r.val j _ hj;rw[hv]at e1;cases e1;obtain⟨p,vs,rfl,hp,h1,h2⟩:=e2;have hjl:=(AZ.mp hj).1;refine⟨by simpa using r.len,λm g h=>?_,λa b c ga gb ma mb g1 g2 g3 g4=>?_,r.lst,r.own,r.ra,r.rl,r.frame,λq hq=>?_⟩
 ·by_cases e:m=i
  ·subst e;have hml:m < (Γ.set j none).length:=by
    rcases Bl m (Γ.set j none).length with z | z
    ·exact z
    ·rw[Ca (by simpa using z)]at h;cases h
   rw[Aj hml]at h;cases h;exact⟨_,by rw[Aj (by rw[r'.len];exact hml)],p,vs,rfl,hp,h1,h2⟩
  ·rw[AO (Ax e)]at h;rw[AO (Ax e)];exact r'.val m g h
 ·have old:∀ m gc,isMut gc=true->m≠i->((Γ.set j none).set i (some (.l xs)))[m]?=some (some gc)->(σ.set i (some (.ref p)))[m]?=some (some (.ref c))->m≠j/\Γ[m]?=some (some gc)/\σ[m]?=some (some (.ref c))/\c≠p:=λm gc mc e h h'=>by
   rw[AO (Ax e)]at h;rw[AO (Ax e)]at h';have hmj:m≠j:=λz=>by subst z;rw[Aj hjl]at h;cases h
   rw[AO (Ax hmj)]at h;exact⟨hmj,h,h',λz=>hmj (r.apart m j c _ _ mc rfl h hj h' (z ▸ hv))⟩
  have at_i:∀ (h:(σ.set i (some (.ref p)))[i]?=some (some (V.ref c))),c=p:=λh=>by
   have hil:=(AZ.mp h).1;rw[Aj (by simpa using hil)]at h;cases h;rfl
  by_cases ea:a=i
  ·by_cases eb:b=i
   ·rw[ea,eb]
   ·exact absurd (at_i (ea ▸ g3)) (old b gb mb eb g2 g4).2.2.2
  ·by_cases eb:b=i
   ·exact absurd (at_i (eb ▸ g4)) (old a ga ma ea g1 g3).2.2.2
   ·exact r.apart a b c ga gb ma mb (old a ga ma ea g1 g3).2.1 (old b gb mb eb g2 g4).2.1 (old a ga ma ea g1 g3).2.2.1 (old b gb mb eb g2 g4).2.2.1
 ·obtain⟨a,ys,b⟩:=r'.pin q hq;exact⟨by rw[AO (Ax (hni q hq))];exact a,ys,by rw[AO (Ax (hni q hq))];exact b⟩
theorem cW(R:Rep K C w Γ σ H)(o:SOk K C w σ H v s)(e:setM i s Γ=some Γ')(hs:∀ m,s=.s m->m=j)(hn:∀ q∈C.pins,q.1≠i)(hm:∀ q∈C.pins,q.1≠j):∃ w',Rep K C w' Γ' (σ.set i (some v)) H:=by
 cases s with
 | v t=>cases e;exact⟨w,R.setv rfl o hn⟩
 | d _=>cases e
 | l xs =>
  cases e;obtain⟨p,vs,rfl,n1,n2,ow,h1,h2⟩:=o;exact⟨_,R.setl n1 n2 ow h1 h2 hn⟩
 | s m =>
  cases hs m rfl;unfold setM at e;dsimp only at e;have o':=o;split at e
  ·rename_i xs he;cases e;obtain⟨v',e1,e2⟩:=R.val j _ he;rw[o']at e1;cases e1;exact⟨w,R.setv rfl e2 hn⟩
  ·rename_i xs he;cases e;exact⟨w,R.move he o' hn hm⟩
  ·cases e
def W3(e:jV j Γ=some p):∀ m,p.1=.s m->m=j:=by
 intro m hm;unfold jV at e;split at e <;> first | cases e | (cases e;cases hm) | (cases e;cases hm;rfl)
 all_goals first | (cases hm;done) | (cases hm;rfl)
def bF(h:SimE K te (jV j))(hi:ip≠some i)(hj:ip≠some j):SimS K ip (tAsg te (gName i)) (dMv i j):=by
 intro C w Γ σ H D o hp R e k;obtain⟨p,e1,e⟩:=bind_some e;obtain⟨Γ1,e2,rfl⟩:=LF e;refine h C w Γ σ H p.1 p.2 _ R e1 λv H1 R1 _ o1 _=>?_
 obtain⟨w',R'⟩:=cW R1 o1 e2 (W3 e1) (L7 hp hi) (L7 hp hj);exact k w' _ H1 R'
section
variable {ι:Type}{K:Fg}{X:ι->Cx}{ip:Option Nat}{e:Expr}{x:Str}{pos:Pos}
def iZ i j (h:EX K X e (jV j)) (hi:ip≠some i:=by decide) (hj:ip≠some j:=by decide) (hN:∀ j,(X j).N.Nodup:=by intro _;show (EG _);decide +kernel) (hx':∀ j,(X j).N[i]?=some x:=by intro _;rfl) (hx:∀ j,Loc (X j).env.scope x:=by intro _;first | exact EV rfl | exact De rfl)
  (hs:∀ j,DX e (some (.Name x pos')) pos.line (X j).env=pure false:=by intro _;rfl) (hf:∀ j,(X j).fn x=true\/(X j).env.scope.names.lookup x=some .local:=by intro _;first | exact .inl rfl | exact .inr rfl):SX K X ip (.Assign [.Name x pos'] e pos) (dMv i j):=
 let ⟨_,p,s⟩:=h;⟨_,λj=>Tz (hN j) (hx' j) (hx j) (p j) (hs j) (hf j),bF s hi hj⟩
end
end D
namespace L2
open PySem PySem.Spec PyProof.Rows
section
variable {prog:Ai}{w:A5}{A:BD}{E:AM->AR->Prop}{s:AR}
variable {e it l:Addr}{S1:Nat->Heap->Prop}{xs:Array AM}{k:Nat}
def gU{x old}{Q:AM->AR->Prop}(hne:e≠it)(hle:l≠e)(D:Drawer prog w it l xs S1)(he:KU s.heap e it k old)(st:S1 k s.heap)(hx:xs[k]?=some x)
  (hQ:∀ h',IsEnumOut h' e it (k+1) x s.heap.objs.size->S1 (k+1) h'->C7 h' s.heap.objs.size (.int k s.toks) x ->
   (∀ c o,c≠e->c≠it->s.heap.get? c=some o->h'.get? c=some o)->Q (.ref s.heap.objs.size) { s with heap:=h',toks:=s.toks+1 }) :
  AQ (model prog w) A (Builtin.«enumerate.__next__» ⟨[.ref e],[]⟩) (λfin s'=>∃ v,fin=.done (.ret v)/\Q v s') E s:=by
 obtain⟨hp,g,d,tk,os⟩:=s;show AQ _ _ (field (.ref e) 2 >>= _) _ _ _;refine AA (Ao he rfl (x:=.ref it) rfl (AA (D.item _ k _ x _ _ st hx λh1 t1 b1=>?_)));have e1:=(b1.2 e hne).trans he;refine AA (Ao e1 rfl (x:=Di k) rfl (AA (Ao e1 rfl (x:=.none) rfl ?_)));refine AA (GU ?_);refine AA (A0 e1 ↥1 λh2 e2 b2=>AA (A0 e2 ↥1 λh3 e3 b3=>?_));show AQ _ _ (newTuple [.int k tk,x] >>= _) _ _ ⟨h3,g,d,tk+1,os⟩;refine AA (Dz ?_);have hsz:h3.objs.size=hp.objs.size:=by rw[b3.1,b2.1,b1.1]
 have e4:KU (h3.push { cls:=.type "tuple",data:=.seq #[.int k tk,x] }) e it (k+1) old:=AB _ e3;have p4:C7 (h3.push { cls:=.type "tuple",data:=.seq #[.int k tk,x] }) hp.objs.size (.int k tk) x:=by rw[← hsz];exact AK _ rfl
 have k4:∀ c o,c≠e->h1.get? c=some o->(h3.push { cls:=.type "tuple",data:=.seq #[.int k tk,x] }).get? c=some o:=λc o hc q=>AB _ (b3.extBut c o hc (b2.extBut c o hc q))
 rw[hsz];refine AA (AA (Ao e4 rfl (x:=.none) rfl (AF ?_)));refine AA (CP (AA (Ao e4 rfl (x:=old) rfl (AA (A0 e4 ↥1 λh5 e5 b5=>?_)))));replace e5:KU h5 e it (k+1) x:=e5;show AQ _ _ (CT (.ref e) (.ref hp.objs.size) >>= _) _ _ ⟨h5,g,d,tk+1,os⟩;refine AA ?_;refine AA (A0 e5 ↥1 λh6 e6 b6=>A0 e6 ↥1 λh7 e7 b7=>?_);have up:=λc o hc q=>b7.extBut c o hc (b6.extBut c o hc (b5.extBut c o hc q))
 exact AA (GT (AF ⟨_,rfl,hQ h7 e7 (D.keep _ _ _ t1 (λo q=>up _ o hne.symm (k4 _ o hne.symm q)) λo q=>up _ o hle (k4 _ o hle q)) (up _ _ (Bb (AL he)) p4) λc o c1 c2 q=>up c o c1 (k4 c o c1 (b1.extBut c o c2 q))⟩))
end
def Ite (b:Bool) (K:Ab) (a1:Addr):It:=
 ⟨λi H=>∃ xs x,Sq b K H a1 xs/\xs[i]?=some x,
  λi H v H'=>∃ T x,v=.ref T/\H T=none/\H'=upd H T (.tup [.int i,x])/\(∀ xs,Sq b K H a1 xs->xs[i]?=some x),
  λi H=>∃ xs,Sq b K H a1 xs/\xs.length<=i⟩
structure ETn(b:Bool)(e it a1:Addr)(k:Nat)(h:Heap):Prop where
 z:∃ old,KU h e it k old
 s1:SIt b it a1 k h
def Xf{K elts x1 tp} b {e it a1} (hne:e≠it) (hle:a1≠e) (hli:a1≠it) :
  Turn P w K (.Tuple elts x1 tp) (Ite b K a1) [e,it] e (ETn b e it a1) where
 mem:=by simp
 obj:=λi h st c hc=>by
  simp at hc;rcases hc with q | q
  ·have ⟨old,z⟩:=st.z;exact⟨_,q ▸ z,λv z=>by cases z⟩
  ·obtain⟨o,r,d⟩:=st.s1.live;exact⟨o,q ▸ r,d⟩
 keep:=λi h h' st k=>⟨(let ⟨old,z⟩:=st.z;⟨old,k e ↥1 _ z⟩),st.s1.keep λo q=>k it ↥1 o q⟩
 item:=by
  intro X hP hw hK hc i pins s σ H E I hf st hg;subst hP hw hK;obtain⟨xs,x,h1,hx⟩:=hg;obtain⟨its1,v1,o1,z1⟩:=I.sq h1;obtain⟨u1,e1,r1⟩:=v1.get hx;have ⟨old,hz⟩:=st.z;have hT:s.TypeIs (.ref e) "enumerate":=⟨_,hz,rfl⟩
  have nH:=λc hc=>(hf c hc).1
  refine AA (By (Ay hT DR (Az DR hT HI
   (gU hne hle (Rm b it a1 its1.toArray hli) hz ⟨st.s1,o1⟩ (by simpa using e1) λh' ho st' hp hk=>AF ?_) (G9 _))))
  refine⟨_,rfl,?_⟩;have fT:=I.hok.fresh (AE _);have hk':∀ c o,c∉[e,it]->s.heap.get? c=some o->h'.get? c=some o:=λc o hc q=>by
   simp at hc;exact hk c o hc.1 hc.2 q
  have trk:∀ c u,H c=some u->c∉[e,it]:=λc u q hc=>by rw[nH c hc]at q;cases q
  have nT:∀ c o,s.heap.get? c=some o->c≠s.heap.objs.size:=λc o q=>Ag (AL q)
  have hok1:HOk X.prog X.w H h':=λc u q=>(I.hok c u q).stay (λd v hd r=>hk' d v (by
   rcases hd with rfl | hd
   ·exact trk d u q
   ·exact trk d _ hd) r) (λ_ r=>r) λ_ _ r=>r
  have I1:Inv X pins σ (upd H s.heap.objs.size (.tup [.int i,x])) { s with heap:=h',toks:=s.toks+1 }:=by
   refine I.step (λc hc=>?_) (λc o _ _ hc q _=>hk' c o hc q) (λc o _ _ hc q _=>⟨o.slots,hk' c o hc q⟩)
    (λc o _ q n=>by rw[LG (nT c o q)];exact n) (λc o hc q=>⟨o,hk' c o hc q⟩) (λc xs q=>by rw[LG (Lc q fT)];exact q) (λc o u q=>by rw[LG (Lc q fT)];exact q)
    (λc ps q=>⟨#[],by rw[LG (Lc q fT),q];simp⟩) (λm hm=>?_) (hok1.adopt fT ⟨by show 2<=AD;decide,[.int i s.toks,u1],.cons ⟨_,rfl⟩ (.cons r1 .nil),_,hp,rfl,⟨0,rfl⟩,rfl⟩) I.bare
   ·obtain⟨_,f1,f2,f3,f4,f5⟩:=hf c hc;exact⟨f3,f1,f4,f5⟩
   ·obtain⟨o,es,ep,ho,r⟩:=hm;exact⟨o,es,ep,hk' _ o (λhc=>(hf _ hc).2.1 rfl) ho,r⟩
  refine wpAny_letOwnedTupleGo_enum ho λh9 hz2 hs2=>?_
  obtain⟨_,f1,f2,f3,f4,f5⟩:=hf e ↥1;have nz:upd H s.heap.objs.size (.tup [.int i,x]) e=none:=by rw[LG (nT e _ hz)];exact nH e ↥1
  have I2:=by
   have q:=I1.turned (t':=s.toks+1) (λc o hc q=>(hs2.2 c hc).trans q) nz f1 f3 f4 f5;exact q
  refine⟨.ref s.heap.objs.size,_,I2,rfl,⟨s.heap.objs.size,x,rfl,fT,rfl,λxs' q=>by rw[I.sq_inj q h1];exact hx⟩,?_,λc hc=>?_⟩
  ·have up:∀ c o,c≠e->h'.get? c=some o->h9.get? c=some o:=λc o hc q=>(hs2.2 c hc).trans q
   exact⟨⟨_,by simpa using hz2⟩,st'.1.keep λo q=>up _ o hne.symm q⟩
  ·obtain⟨o,q,_⟩:∃ o,s.heap.get? c=some o/\True:=by
    simp at hc;rcases hc with q | q
    ·exact⟨_,q ▸ hz,trivial⟩
    ·obtain⟨o,r,d⟩:=st.s1.live;exact⟨o,q ▸ r,trivial⟩
   rw[LG (nT c o q)];exact nH c hc
 done:=by
  intro X hP hw hK hc i pins s σ H E I hf st hg;subst hP hw hK;obtain⟨xs,h1,hl⟩:=hg;obtain⟨its1,v1,o1,z1⟩:=I.sq h1;have l1:=v1.length;have ⟨old,hz⟩:=st.z;have hT:s.TypeIs (.ref e) "enumerate":=⟨_,hz,rfl⟩
  refine AA (By (Ay hT DR (Az DR hT HI ?_ (G9 _))));show AQ _ _ (field (.ref e) 2 >>= _) _ _ _;refine AA (Ao hz rfl (x:=.ref it) rfl (AA ((Rm b it a1 its1.toArray hli).fini _ i _ _ _ (I.ok.hd hc) ⟨st.s1,o1⟩ ↥2 λh' x hk hx'=>?_)));obtain⟨o,ho,hcl⟩:=hx';refine AA (CD ⟨o,ho,hcl⟩ D4 (AF ⟨rfl,?_⟩));have hk':∀ c o,c∉[it]->s.heap.get? c=some o->h'.get? c=some o:=λc o hc q=>hk c o (λz=>hc (by simp[z])) q
  have sub:∀ c∈[it],c∈[e,it]:=λc hc=>by simp at hc ⊢;exact .inr hc
  have trk:∀ c u,H c=some u->c∉[it]:=λc u q hc=>by rw[(hf c (sub c hc)).1]at q;cases q
  refine I.step (λc hc=>?_) (λc o _ _ hc q _=>hk' c o hc q) (λc o _ _ hc q _=>⟨o.slots,hk' c o hc q⟩)
   (λc o _ q n=>n) (λc o hc q=>⟨o,hk' c o hc q⟩) (λc xs q=>q) (λc o u q=>q) (λc ps q=>⟨#[],by rw[q];simp⟩) (λm hm=>?_) (λc u q=>(I.hok c u q).stay (λd v hd r=>hk' d v (by
    rcases hd with rfl | hd
    ·exact trk d u q
    ·exact trk d _ hd) r) (λ_ r=>r) λ_ _ r=>r) I.bare
  ·obtain⟨_,f1,f2,f3,f4,f5⟩:=hf c (sub c hc);exact⟨f3,f1,f4,f5⟩
  ·obtain⟨o,es,ep,ho,r⟩:=hm;exact⟨o,es,ep,hk' _ o (λhc=>(hf _ (sub _ hc)).2.1 rfl) ho,r⟩
 self:=λ_ _ _ _ _ st h=>let ⟨_,z⟩:=st.z;JF z h
section
variable {prog:Ai}{w:A5}{A:BD}{E:AM->AR->Prop}{s:AR}
def fU l xs :
  IH (Builtin.«enumerate.__new__» ⟨[.type "enumerate",.ref l],[]⟩) (λ_ R s=>s.heap.IsTuple l xs /\
   R (.ok (.ret (.ref (s.heap.push { cls:=.type "tuple_iterator",data:=.fields #[.ref l,.int 0 0] }).objs.size)))
    { s with heap:=(s.heap.push { cls:=.type "tuple_iterator",data:=.fields #[.ref l,.int 0 0] }).push { cls:=.type "enumerate",data:=.fields #[.none,.bool false,.ref s.heap.objs.size,Di 0,.none,.none] } }):=
 .of_wp λprog w A R s h=>by
  obtain⟨hp,g,d,tk,os⟩:=s;obtain⟨hl,h⟩:=h;have hsub:=sub_enumerate;have T1:=hl
  wp_walk
  refine wpAny_stack_any λst=>AF ?_
  split
  ·rename_i c _ _ _ _ _;cases (c == Cw "enumerate")
   ·wp_walk using CF T1
    exact⟨_,rfl,h⟩
   ·wp_walk using CF T1
    exact⟨_,rfl,h⟩
  ·wp_walk using CF T1
   exact⟨_,rfl,h⟩
def d5(hl:s.heap.IsTuple l xs)
  (h:∀ h',ETn true (s.heap.objs.size+1) s.heap.objs.size l 0 h'->(∀ c o,s.heap.get? c=some o->h'.get? c=some o)->Q (.ref (s.heap.objs.size+1)) { s with heap:=h' }) :
  AQ (model prog w) A (call (.type "enumerate") [.ref l]) Q E s:=by
 refine Ft F.called_enumerate ∅ (F.typeCall_enumerate_1 _) (F.newCall_enumerate_1 _) (λobj=>Ey obj _) F.entry_enumerate_new (fU l xs) ⟨hl,?_⟩;have z1:(s.heap.push { cls:=.type "tuple_iterator",data:=.fields #[.ref l,.int 0 0] }).objs.size=s.heap.objs.size+1:=BQ ..;have g2:=AK (s.heap.push { cls:=.type "tuple_iterator",data:=.fields #[.ref l,.int 0 0] }) (o:={ cls:=.type "enumerate",data:=.fields #[.none,.bool false,.ref s.heap.objs.size,Di 0,.none,.none] }) rfl;rw[z1]at g2;rw[z1];exact⟨⟨_,g2,rfl⟩,h _ ⟨⟨.none,g2⟩,⟨_,AB _ (AK _ rfl),rfl,rfl⟩⟩ λc o x=>AB _ (AB _ x)⟩
end
section
variable {X:Cx}{elts:List Expr}{x1:Nat}{tp:Pos}
def iEnumU (K:Ab) (ta:TA):TI:=λσ H R=>ta σ H λvs H1=>∃ (b:Bool) (a1:Addr),vs=[.ref a1]/\(∃ xs,Sq b K H1 a1 xs)/\R (Ite b K a1) H1
theorem Wt(hg:Gl X "enumerate")(hm:X.mg "enumerate"=none)(ha:PA X [e1] ta)(hs:AW [e1] X.env=[(false,eval e1 X.env)]:=by rfl) :
  PI X (.Tuple elts x1 tp) (.Call (.Name "enumerate" p) [e1] [] pos) (iEnumU X.K ta):=by
 intro pins s σ H R I h;refine HN (L3 I hg hm boot_enumerate (A6 (thn (ha pos pins s σ H _ I h) λus s1 ⟨vs,H1,I1,r1,q1⟩=>?_) ‹_› (by rfl)));obtain⟨b,a1,rfl,⟨xs,h1⟩,q⟩:=q1;obtain⟨u1,rfl,rfl⟩:=r1.one;obtain⟨its1,v1,o1,z1⟩:=I1.sq h1;have lt1:a1 < s1.heap.objs.size:=by cases b with
  | false=>obtain⟨o,e,_⟩:=o1;exact AL e
  | true=>obtain⟨o,e,_⟩:=o1;exact AL e
 have fin:∀ h',ETn b (s1.heap.objs.size+1) s1.heap.objs.size a1 0 h'->(∀ c o,s1.heap.get? c=some o->h'.get? c=some o) ->
   AQ (model X.prog X.w) X.A (GB (.ref (s1.heap.objs.size+1))) (PIE X pins σ (.Tuple elts x1 tp) R) X.xe { s1 with heap:=h' }:=λh' st hk=>by
  obtain⟨old,z⟩:=st.z;refine JF z ⟨_,_,_,_,H1,rfl,I1.kept hk,Xf b (Bb (CQ _)) (Ag (AU lt1 (Bg _ 1))) (Ag lt1),st,λc hc=>?_,q⟩;have hc':s1.heap.objs.size<=c:=by
   simp at hc;rcases hc with e | e <;> (rw[e]) <;> first | exact AE _ | exact Bg _ _
  exact I1.fpOk hc' (I1.hok.fresh hc')
 cases b with
 | false=>exact call_enumerate_list o1 λh' hz hit _ hk=>fin h' ⟨⟨_,hz⟩,hit⟩ hk
 | true=>exact d5 o1 fin
end
end L2
namespace D
open PySem L2
noncomputable def enumT (xs:List T):List T:=xs.zipIdx.map λp=>.t [.a (.int (p.2:Int)),p.1]
noncomputable def dEnum (fa:DA):DI:=λΓ=>(fa Γ).bind λp=>match p.1 with
 | [.v (.t xs)]=>gd xs.length ((enumT xs,[]),p.2)
 | [a]=>(sqlOf p.2 a).bind λxs=>gd xs.length ((enumT xs,srcS p.2 a),p.2)
 | _=>none
section
variable {K:Fg}
def TB(h1:Sq b K H2 a1 vs)(i1:Ims K H2 vs xs) :
  (∀ i t,(enumT xs)[i]?=some t->(Ite b K a1).go i H2/\∀ x H3,(Ite b K a1).yld i H2 x H3->(∀ b o,H2 b=some o->H3 b=some o)/\Im K H3 x t)/\(Ite b K a1).stop (enumT xs).length H2:=by
 refine⟨λi t e=>?_,⟨vs,h1,?_⟩⟩
 ·unfold enumT at e;rw[Am]at e;obtain⟨⟨t1,j⟩,e1,rfl⟩:=LF e;have e1':xs[i]?=some t1/\j=i:=by
   rw[List.getElem?_zipIdx]at e1;obtain⟨y,q,e1⟩:=LF e1;cases e1;exact⟨q,by simp⟩
  obtain⟨g1,rfl⟩:=e1';obtain⟨v,e3,hv⟩:=i1.get g1;refine⟨⟨vs,v,h1,e3⟩,λx H3 y=>?_⟩;obtain⟨T',x',rfl,hT,rfl,k1⟩:=y;have q1:=k1 vs h1;rw[e3]at q1;cases q1;have ev:Evo [] H2 (upd H2 T' (.tup [.int j,v])):=Evo.new hT;have hL:LL [] H2:=λq hq=>nomatch hq
  refine⟨λb o e=>ev b o e nofun,Im.tup Ld (.cons Im.atom (.one (hv.evo ev hL)))⟩
 ·have l1:=i1.len;simp[enumT];lia
def Y3(ha:SimA K ta fa):SimI K (iEnumU K ta) (dEnum fa):=by
 intro C w Γ σ H its src Γ' R Rp e k;obtain⟨⟨as,G1⟩,e1,e⟩:=bind_some e;dsimp only at e;have zl:∀ xs,(enumT xs).length<=xs.length:=λxs=>by simp[enumT]
 split at e
 ·obtain⟨hz,e⟩:=L5 e;cases e;refine ha C w Γ σ H _ _ _ Rp e1 λvs H1 R1 ev1 o1 n1=>?_
  obtain⟨v,rfl,o2⟩:=soks1 o1;obtain⟨p,vs,rfl,h1,i1⟩:=o2.invt;refine⟨true,p,rfl,⟨vs,h1.sq⟩,k _ H1 R1 ev1 ⟨Ak (zl _) hz,λL' hs av H2 ev=>?_⟩⟩;have hL:LL L' H1:=λq hq=>R1.lst q (hs q hq)
  exact TB (Po ev hL h1).sq (i1.evo ev hL)
 ·obtain⟨xs,e2,e⟩:=bind_some e;obtain⟨hz,e⟩:=L5 e;cases e;refine ha C w Γ σ H _ _ _ Rp e1 λvs H1 R1 ev1 o1 n1=>?_
  obtain⟨v,rfl,o2⟩:=soks1 o1;obtain⟨p,vs,rfl,h1,i1,st1⟩:=PL R1 o2 e2;refine⟨false,p,rfl,⟨vs,h1⟩,k _ H1 R1 ev1 ⟨Ak (zl _) hz,λL' hs av H2 ev=>?_⟩⟩;have hL:LL L' H1:=λq hq=>R1.lst q (hs q hq)
  exact TB (st1 L' hs av H2 ev) (i1.evo ev hL)
 ·cases e
end
section
variable {ι:Type}{K:Fg}{X:ι->Cx}{mg:Str->Option AM}{k:Nat}{a:Expr}{da:DA}{p pos:Pos}
def WO(M:Fm K mg k X)(hm:mg "enumerate"=none)(ha:AX K X [a] da)(hg:∀ j,Gl (X j) "enumerate":=by intro _;rfl)(hs:∀ j,AW [a] (X j).env=[(false,eval a (X j).env)]:=by intro _;rfl) :
  IX K X (.Tuple elts x1 tp) (.Call (.Name "enumerate" p) [a] [] pos) (dEnum da):=
 let ⟨t,q,u⟩:=ha;⟨iEnumU K t,λj=>by have:=Wt (elts:=elts) (x1:=x1) (tp:=tp) (p:=p) (pos:=pos) (hg j) (by rw[M.mg];exact hm) (q j) (hs j);rw[M.K j]at this;exact this,Y3 u⟩
end
end D
namespace L2
open PySem PySem.Spec PyProof.Rows
def YJ:Slot "reversed" "__init__" "object.__init__" :=
 .of (owner:="object") (n:="__init__") rfl ↥4 ↥4 ↥4
  (by first | exact .inl ↥4 | exact .inr rfl) rfl
def Yv:TypeCalled "reversed" "reversed.__new__" "object.__init__" :=
 ⟨by decide +kernel,by decide +kernel,⟨_,_,F.mro_reversed⟩,F.made_reversed,by decide +kernel,by rw[KY];kernel_rfl,YJ⟩
def O7:Manifest.owners.lookup (String.ofList ['d','e','s','r','e','v','e','r'].reverse)=some Manifest.sig_reversed:=by kernel_rfl
def Nb:Slot "reversed" "__next__" "reversed.__next__" :=
 .of (owner:="reversed") (n:="__next__") rfl rfl rfl rfl
  (by first | exact .inl rfl | exact .inr rfl) rfl
def Tt:Gz table "reversed.__next__"=some Builtin.«reversed.__next__»:=GI rfl
def T4:Slot "reversed" "__iter__" "reversed.__iter__" :=
 .of (owner:="reversed") (n:="__iter__") rfl rfl rfl rfl
  (by first | exact .inl rfl | exact .inr rfl) rfl
def WH:FW (.type "tuple") "__reversed__"=pure none:=by rw[Er];kernel_rfl
def XC:isSubtype (.type "tuple") (.type "dict")=pure false:=by rw[KY];kernel_rfl
def Rx a:Hj "reversed.__next__" ⟨[a],[]⟩:=by
 unfold Hj;rw[HJ (n:=['_','_','t','x','e','n','_','_']) rfl O7];kernel_rfl
def iX a:Hj "reversed.__iter__" ⟨[a],[]⟩:=by
 unfold Hj;rw[HJ (n:=['_','_','r','e','t','i','_','_']) rfl O7];kernel_rfl
def WG:Gz table "reversed.__iter__"=some Builtin.«dict_keyiterator.__iter__» :=
 KZ (id':="dict_keyiterator.__iter__") rfl rfl ↥4 rfl
abbrev IsRv (h:Heap) (e l:Addr) (i:Int):Prop:=h.get? e=some { cls:=.type "reversed",dict:=none,data:=.fields #[.ref l,Di i],slots:=#[] }
section
variable {prog:Ai}{w:A5}{A:BD}{E:AM->AR->Prop}{s:AR}
theorem f7(hl:s.heap.IsTuple l xs)(hQ:Q true s):AQ (model prog w) A (do
  if ← isInstance (.ref l) (.type "dict") then return false
  match ← specialOf (.ref l) "__getitem__" with
  | none=>return false
  | some (.builtin id) =>
   if ["tuple.__getitem__","str.__getitem__","bytes.__getitem__","bytearray.__getitem__","memoryview.__getitem__","numpy.ndarray.__getitem__","sqlite3.Row.__getitem__"].contains id then return true
   if id == "sqlite3.Blob.__getitem__" then return false
   unsupported "reversed.__new__:is-it-a-sequence"
  | some _=>return true) Q E s:=AA (CD hl.typeIs XC (AA (CL hl.typeIs Hk.lookup (AF hQ))))
def eB l xs (hz:xs.size<=AD) :
  IH (Builtin.«reversed.__new__» ⟨[.type "reversed",.ref l],[]⟩) (λ_ R s=>s.heap.IsTuple l xs /\
   R (.ok (.ret (.ref s.heap.objs.size))) { s with heap:=s.heap.push { cls:=.type "reversed",data:=.fields #[.ref l,Di ((xs.size:Int) - 1)] },toks:=s.toks+1+1 }):=
 .of_wp λprog w A R s h=>by
  obtain⟨hl,h⟩:=h;refine AA (CB (newClass_reversed _) ?_);refine AA (CB rfl (AA (CB rfl (AA (CL hl.typeIs WH (AA (f7 hl ?_)))))));refine AA (JX hl (by have:=hz;rw[BK]at this;lia) (AA (m:=EH _ _) ?_));unfold EH;exact A8 (AF ⟨_,rfl,h⟩) (by size_fits)
def Q7(he:IsRv s.heap e l i)(h:Q (.ref e) s):AQ (model prog w) A (GB (.ref e)) Q E s:=by
 have hT:s.TypeIs (.ref e) "reversed":=⟨_,he,rfl⟩
 exact JG hT T4 (Az T4 hT WG (AF ⟨_,rfl,"reversed",_,hT,Nb.lookup,h⟩) (iX _))
def WT{i:Nat}{xs x Q}(he:IsRv s.heap e l i)(hl:s.heap.IsTuple l xs)(hz:xs.size<=AD)(hx:xs[i]?=some x)
  (hQ:∀ h' tk,IsRv h' e l (i - 1)->Cm e s.heap h'->Q (some x) { s with heap:=h',toks:=tk }):AQ (model prog w) A (Ek (.ref e)) Q E s:=by
 have hT:s.TypeIs (.ref e) "reversed":=⟨_,he,rfl⟩
 have hi:=(Array.getElem?_eq_some_iff.mp hx).1;rw[BK]at hz;refine AA (By (Ay hT Nb (Az Nb hT Tt ?_ (Rx _))));refine AA (CB rfl (AA (Ao he rfl (x:=.ref l) rfl ?_)));refine AA (Ao he rfl rfl (AA (CL hl.typeIs Hk.lookup ?_)));exact AA (GU (AA (By (J2 (j:=i) hl ⋯ ⋯ (by rw[GP ⋯ ⋯,Ce]) hx (AA (Ao he rfl rfl (AA (A0 he ↥1 λh1 e1 b1=>AF ⟨x,rfl,AF (hQ h1 _ e1 b1)⟩))))))))
def XF(hh:A.handled=none)(he:IsRv s.heap e l (-1))(hQ:∀ h',Ef e s.heap h'->Q none { s with heap:=h' }):AQ (model prog w) A (Ek (.ref e)) Q E s:=by
 have hT:s.TypeIs (.ref e) "reversed":=⟨_,he,rfl⟩
 obtain⟨hp,g,d,tk,os⟩:=s;refine AA (By (Ay hT Nb (Az Nb hT Tt ?_ (Rx _))));refine AA (CB rfl (AA (Ao he rfl (x:=.ref l) rfl (AA (Ao he rfl (x:=Di (-1)) rfl ?_)))));refine AA (CP (AA (AA (A0 he ↥1 λh1 e1 b1=>A0 e1 ↥1 λh2 e2 b2=>?_))));have x2:Ef e hp h2:=λc o hc q=>b2.extBut c o hc (b1.extBut c o hc q)
 refine AA (AA (AA (m:=firstArgMember _ _) (CB (a:=CU) rfl ?_)));refine A8 (AA (HH ?_)) (by size_fits)
 first | rw[show A.in1.handled=none from hh] | rw[hh]
 refine AA (AF (IJ ?_));refine AA (CD ⟨_,AK _ rfl,rfl⟩ D4 ?_);exact AF (hQ _ ((x2.push _).push _))
end
end L2
namespace D
open PySem L2
noncomputable def insI (x:Int):List Int->List Int
 | []=>[x]
 | y::r=>if x<=y then x::y::r else y::insI x r
noncomputable def sortI:List Int->List Int
 | []=>[]
 | x::r=>insI x (sortI r)
theorem Pz x:∀ l,(insI x l).Perm (x::l)
 | []=>.refl _
 | y::r=>by
  unfold insI;split
  ·exact .refl _
  ·exact ((Pz x r).cons y).trans (K6 x y r)
theorem Rj:∀ l,(sortI l).Perm l
 | []=>.refl _
 | x::r=>(Pz x _).trans ((Rj r).cons x)
theorem S9 x:∀ l,l.Pairwise (·<=·)->(insI x l).Pairwise (·<=·)
 | [],_=>by simp[insI]
 | y::r,h=>by
  unfold insI;have h':=Br.mp h;split
  ·exact Br.mpr ⟨λz hz=>by
    rcases AN.mp hz with e | e
    ·lia
    ·have:=h'.1 z e;lia,h⟩
  ·exact Br.mpr ⟨λz hz=>by
    have:=(Pz x r).subset hz;rcases AN.mp this with e | e
    ·lia
    ·exact h'.1 z e,S9 x r h'.2⟩
theorem RL:∀ l,(sortI l).Pairwise (·<=·)
 | []=>.nil
 | x::r=>S9 x _ (RL r)
theorem Sf:∀ {a b:List Int},a.Perm b->a.Pairwise (·<=·)->b.Pairwise (·<=·)->a=b
 | [],b,p,_,_=>(List.nil_perm.mp p).symm
 | x::r,[],p,_,_=>by have:=p.length_eq;simp at this
 | x::r,y::s,p,ha,hb=>by
  have ha':=Br.mp ha;have hb':=Br.mp hb;have e:x=y:=by
   rcases AN.mp (p.subset AG) with e | e
   ·exact e
   ·rcases AN.mp (p.symm.subset AG) with f | f
    ·exact f.symm
    ·have:=ha'.1 y f;have:=hb'.1 x e;lia
  subst e;rw[Sf ((List.perm_cons x).mp p) ha'.2 hb'.2]
noncomputable def intsOf:List T->Option (List Int)
 | []=>some []
 | .a (.int n)::r=>(intsOf r).map λns=>n::ns
 | _::_=>none
theorem Oi:∀ {xs ns},intsOf xs=some ns->xs=(ns.map V.int).map T.a
 | [],ns,e=>by cases e;rfl
 | x::r,ns,e=>by
  unfold intsOf at e;split at e
  ·rename_i h;cases h
  ·rename_i n r' h;cases h;obtain⟨ms,e1,rfl⟩:=LF e;rw[Oi e1];rfl
  ·cases e
noncomputable def sortedS:En->List S->Option S:=λΓ as=>match as with
 | [a]=>(seqS Γ a).bind λxs=>(intsOf xs).bind λns=>if ns.length < 64 then some (.l ((sortI ns).map λn=>.a (.int n))) else none
 | _=>none
def c9:SimRs K (λxs H Q=>∃ (p:Addr) (ns:List Int),xs=[.ref p]/\(SqL K H p (ns.map V.int)\/SqT K H p (ns.map V.int))/\ns.length < 64/\∀ l (ns':List Int),H l=none->ns'.Perm ns->ns'.Pairwise (·<=·)->Q (.ref l) (upd H l (.lst (ns'.map V.int)))) sortedS:=by
 intro C w Γ σ H vs as s Q R o e k;unfold sortedS at e;split at e
 ·obtain⟨xs,e1,e⟩:=bind_some e;obtain⟨ns,e2,e⟩:=bind_some e;split at e
  ·rename_i hl;cases e;obtain⟨v,rfl,o1⟩:=soks1 o;obtain⟨p,us,rfl,h1,i1⟩:=N2 R o1 e1;have hu:=by rw[Oi e2]at i1;exact i1.of_atoms
   subst hu;refine⟨p,ns,rfl,h1,hl,λl ns' hl' hp hs=>?_⟩;have:=Sf (hp.trans (Rj ns).symm) hs (RL ns);subst this;have hi:=by
    have:=Ims.atoms (K:=K) (H:=H) ((sortI ns).map V.int);rwa [FJ]at this
   exact k _ _ (R.new hl') (Evo.new hl') (R.newl hl' hi) ⟨l,rfl,hl'⟩
  ·cases e
 ·cases e
section
variable {ι:Type}{K:Fg}{X:ι->Cx}{mg:Str->Option AM}{k:Nat}
def jC(M:Fm K mg k X):CalR K X (.builtin "sorted") sortedS:=⟨_,λj=>by have:=cH (X:=X j);rw[M.K j]at this;exact this,c9⟩
end
end D
namespace D
open PySem L2
noncomputable def ixL {α:Type} (l:List α) (i:Nat):Option α:=l[i]?
@[simp,simp ↓] theorem mV{α:Type}{x:α}{r:List α}:ixL (x::r) 0=some x:=rfl
@[simp,simp ↓] theorem lA{α:Type}{x:α}{r:List α}:ixL (x::r) (n+1)=ixL r n:=rfl
@[simp high,simp ↓ high] theorem gd_0{α:Type}{x:α}:gd 0 x=some x:=rfl
@[simp high,simp ↓ high] theorem gd_1{α:Type}{x:α}:gd 1 x=some x:=rfl
@[simp high,simp ↓ high] theorem gd_2{α:Type}{x:α}:gd 2 x=some x:=rfl
@[simp high,simp ↓ high] theorem gd_3{α:Type}{x:α}:gd 3 x=some x:=rfl
@[simp high,simp ↓ high] theorem gd_4{α:Type}{x:α}:gd 4 x=some x:=rfl
class Kf (α β:Type) where
 k:α->Option β
class Kg (α β:Type) where
 k:α->β
noncomputable def bnd {α β:Type} (x:Option α) [f:Kf α β]:Option β:=x.bind f.k
@[simp,simp ↓] theorem l6{α β:Type}{a:α}{f:α->Option β}:bnd (some a) (f:=⟨f⟩)=f a:=rfl
noncomputable def omp {α β:Type} (x:Option α) [f:Kg α β]:Option β:=x.map f.k
@[simp,simp ↓] theorem oM{α β:Type}{a:α}{f:α->β}:omp (some a) (f:=⟨f⟩)=some (f a):=rfl
class Ka (α:Type) where
 v:α
noncomputable def ifB {α:Type} (b:Bool) [x:Ka α] [y:Ka α]:α:=if b=true then x.v else y.v
@[simp high,simp ↓ high] theorem kf{α:Type}{x:α}{y:Ka α}:ifB true (x:=⟨x⟩) (y:=y)=x:=rfl
@[simp high,simp ↓ high] theorem mn{α:Type}{x:Ka α}{y:α}:ifB false (x:=x) (y:=⟨y⟩)=y:=rfl
noncomputable def ifO {α:Type} (p:Option Nat) (k:Nat) (x y:α):α:=if p=some k then x else y
@[simp high,simp ↓ high] theorem mz{α:Type}{x y:α}:ifO none k x y=y:=rfl
noncomputable def ifN {α:Type} (m n:Nat) (x y:α):α:=if m=n then x else y
noncomputable def ifM {α:Type} (i:Nat) (l:List Nat) (x y:α):α:=if i∈l then x else y
@[simp high,simp ↓ high] theorem mO{α:Type}{x y:α}:ifM i [] x y=y:=rfl
noncomputable def apE {α:Type} (l:List α):List α:=l++[]
@[simp,simp ↓] theorem nZ{α:Type}:apE ([]:List α)=[]:=rfl
@[simp,simp ↓] theorem k8{α:Type}{x:α}{r:List α}:apE (x::r)=x::apE r:=rfl
@[simp high,simp ↓ high] theorem nX{α:Type}{x y:α}:ifO (some 0) 0 x y=x:=rfl
@[simp high,simp ↓ high] theorem oq{α:Type}{x y:α}:ifN 2 2 x y=x:=rfl
@[simp high,simp ↓ high] theorem lD{α:Type}{x y:α}:ifN 3 3 x y=x:=rfl
section
variable {f g:DS}{fa fb fc fi:DE}{da fr:DA}{ta tb:DT}{Γ:En}{i j k:Nat}{h h':En->S->S->Option S}
@[simp,simp ↓] theorem mU:dSeq f g Γ=bnd (f Γ) (f:=⟨λo=>match o with | .nx Γ'=>g Γ' | o=>some o⟩):=rfl
@[simp,simp ↓] theorem nP:dNext Γ=some (.nx Γ):=rfl
@[simp,simp ↓] theorem nL:dRet fa Γ=omp (fa Γ) (f:=⟨λp=>.rt p.1 p.2⟩):=rfl
@[simp,simp ↓] theorem lB:dDrop fa Γ=omp (fa Γ) (f:=⟨λp=>.nx p.2⟩):=rfl
@[simp,simp ↓] theorem oX:dIf ta f g Γ=bnd (ta Γ) (f:=⟨λp=>ifB p.1 (x:=⟨(f p.2)⟩) (y:=⟨(g p.2)⟩)⟩):=rfl
@[simp,simp ↓] theorem lR:dSet i fa Γ=bnd (fa Γ) (f:=⟨λp=>omp (setS i p.1 p.2) (f:=⟨.nx⟩)⟩):=rfl
@[simp,simp ↓] theorem n8:setS i (.v t) Γ=some (Γ.set i (~~~t)):=rfl
@[simp,simp ↓] theorem lO:setS i (.l t) Γ=some (Γ.set i (some (.l t))):=rfl
@[simp,simp ↓] theorem nM:jV i Γ=match ixL Γ i with
 | some (some (.v t))=>some (.v t,Γ)
 | some (some (.l _))=>some (.s i,Γ)
 | some (some (.r _))=>some (.s i,Γ)
 | some (some (.k _))=>some (.s i,Γ)
 | some (some (.d _))=>some (.s i,Γ)
 | some (some (.e _))=>some (.s i,Γ)
 | _=>none:=rfl
@[simp,simp ↓] theorem oj:dC v Γ=some (.v (.a v),Γ):=rfl
@[simp,simp ↓] theorem mP:dOp h fa fb Γ=bnd (fa Γ) (f:=⟨λp=>bnd (fb p.2) (f:=⟨λq=>omp (h q.2 p.1 q.1) (f:=⟨λs=>(s,q.2)⟩)⟩)⟩):=rfl
@[simp,simp ↓] theorem oH{h:En->S->Option S}:dUn h fa Γ=bnd (fa Γ) (f:=⟨λp=>omp (h p.2 p.1) (f:=⟨λs=>(s,p.2)⟩)⟩):=rfl
@[simp,simp ↓] theorem kj{h:En->List S->Option S}:dCB h da Γ=bnd (da Γ) (f:=⟨λp=>omp (h p.2 p.1) (f:=⟨λs=>(s,p.2)⟩)⟩):=rfl
@[simp,simp ↓] theorem pD:qQ Γ=some ([],Γ):=rfl
@[simp,simp ↓] theorem oV:jW fa fr Γ=bnd (fa Γ) (f:=⟨λp=>bnd (fr p.2) (f:=⟨λq=>some (p.1::q.1,q.2)⟩)⟩):=rfl
@[simp,simp ↓] theorem oZ:S.tree (.v t)=some t:=rfl
@[simp,simp ↓] theorem ou:trees []=some []:=rfl
@[simp,simp ↓] theorem lE:trees (.v t::r)=omp (trees r) (f:=⟨λts=>t::ts⟩):=rfl
@[simp,simp ↓] theorem kl:dTup da Γ=bnd (da Γ) (f:=⟨λp=>bnd (trees p.1) (f:=⟨λts=>gd ts.length (.v (.t ts),p.2)⟩)⟩):=rfl
@[simp,simp ↓] theorem lX:dLst da Γ=bnd (da Γ) (f:=⟨λp=>bnd (trees p.1) (f:=⟨λts=>gd ts.length (.l ts,p.2)⟩)⟩):=rfl
@[simp,simp ↓] theorem lK:dTest fa Γ=bnd (fa Γ) (f:=⟨λp=>match p.1 with | .v (.a (.bl b))=>some (b,p.2) | _=>none⟩):=rfl
@[simp,simp ↓] theorem mj:dAnd ta tb Γ=bnd (ta Γ) (f:=⟨λp=>ifB p.1 (x:=⟨(tb p.2)⟩) (y:=⟨(some (false,p.2))⟩)⟩):=rfl
@[simp,simp ↓] theorem nO:dOr ta tb Γ=bnd (ta Γ) (f:=⟨λp=>ifB p.1 (x:=⟨(some (true,p.2))⟩) (y:=⟨(tb p.2)⟩)⟩):=rfl
@[simp,simp ↓] theorem mM:dNot ta Γ=bnd (ta Γ) (f:=⟨λp=>some (!p.1,p.2)⟩):=rfl
@[simp,simp ↓] theorem oF:dIfE ta fa fb Γ=bnd (ta Γ) (f:=⟨λp=>ifB p.1 (x:=⟨(fa p.2)⟩) (y:=⟨(fb p.2)⟩)⟩):=rfl
@[simp,simp ↓] theorem oN{h:En->List T->List S->Option (T×List T)}:dMut i h da Γ=ifB (isLs Γ i) (x:=⟨(bnd (da Γ) (f:=⟨λp=>match ixL p.2 i with
 | some (some (.l xs))=>bnd (gd xs.length ()) (f:=⟨λ_=>omp (h p.2 xs p.1) (f:=⟨λq=>(.v q.1,p.2.set i (some (.l q.2)))⟩)⟩)
 | _=>none⟩))⟩) (y:=⟨none⟩):=rfl
@[simp,simp ↓] theorem lF:isLs Γ i=match ixL Γ i with | some (some (.l _))=>true | _=>false:=rfl
@[simp,simp ↓] theorem nG:dSetIx i fa fi Γ=bnd (fa Γ) (f:=⟨λp=>bnd p.1.tree (f:=⟨λt=>ifB (isLs p.2 i) (x:=⟨(bnd (fi p.2) (f:=⟨λq=>bnd (iS q.1) (f:=⟨λk=>match ixL q.2 i with
  | some (some (.l xs))=>omp (ixN xs.length k) (f:=⟨λj=>.nx (q.2.set i (some (.l (xs.set j t))))⟩)
  | _=>none⟩)⟩))⟩) (y:=⟨none⟩)⟩)⟩):=rfl
@[simp,simp ↓] theorem eT:iS (.v (⇑n))=some n:=rfl
@[simp] theorem Zq{c:Int->Int->Prop} [∀ i j,Decidable (c i j)] {g:Int->Int->V} {xs:List T} {b:S}:opIIc c g Γ (.l xs) b=none:=(rfl)
@[simp,simp ↓] theorem ke:addS Γ (.v (⇑m)) (.v (⇑n))= ~~~(⇑(m+n)):=rfl
@[simp] theorem m7:addS Γ (.v (.t xs)) (.v (.t ys))=gd (xs.length+ys.length) (.v (.t (xs++ys))):=by
 show ((none:Option S).or ((addTup Γ (.v (.t xs)) (.v (.t ys))).or ((none:Option S).or none)))=_;simp[addTup]
@[simp] theorem kg:addS Γ (.s m) b=addLst Γ (.s m) b:=by
 show ((none:Option S).or ((none:Option S).or ((addLst Γ (.s m) b).or none)))=_;simp
@[simp] theorem mG:addS Γ (.l xs) b=addLst Γ (.l xs) b:=by
 show ((none:Option S).or ((none:Option S).or ((addLst Γ (.l xs) b).or none)))=_;simp
@[simp,simp ↓] theorem pB:addLst Γ a b=bnd (lsOf Γ a) (f:=⟨λxs=>bnd (lsOf Γ b) (f:=⟨λys=>gd (xs.length+ys.length) (.l (xs++ys))⟩)⟩):=rfl
@[simp,simp ↓] theorem mh:subS Γ (.v (⇑m)) (.v (⇑n))= ~~~(⇑(m - n)):=rfl
@[simp] theorem mD:mulS Γ (.v (⇑m)) (.v (⇑n))=if CMul m n then some (.v (⇑(m * n))) else none:=by
 show ((if CMul m n then some _ else none).or (none:Option S))=_;simp
def eX{l n:Nat}(h:l * n<=100000)(h2:n<=100000):fitM l n=true:=by
 unfold fitM;rw[M4 ⋯];exact Ed (Ak h ∅)
def iA xs (n:Nat) (h:xs.length * n<=100000) (h2:n<=100000):mulS Γ (.l xs) (.v (⇑n))=some (.l (Ae n xs).flatten):=by
 have e:mulS Γ (.l xs) (.v (.a (.int n)))=mulLst Γ (.l xs) (.v (.a (.int n))):=by unfold mulS;rw[Zq,Option.none_or]
 rw[e];unfold mulLst;have e1:lsOf Γ (.l xs)=some xs:=rfl;rw[e1,An,eT,An,if_pos (eX h h2),Ce]
@[simp] theorem m5:modS Γ (.v (⇑m)) (.v (⇑n))=if 0 < n then some (.v (⇑(m % n))) else none:=(rfl)
@[simp] theorem lQ:fdivS Γ (.v (⇑m)) (.v (⇑n))=if CDiv m n then some (.v (⇑(m / n))) else none:=(rfl)
@[simp] theorem mT:powS Γ (.v (⇑m)) (.v (⇑n))=if CPow m n then some (.v (⇑(m ^ n.toNat))) else none:=(rfl)
@[simp,simp ↓] theorem nC:ltS Γ (.v (⇑m)) (.v (⇑n))= ~~~(.a (.bl (decide (m < n)))):=rfl
@[simp,simp ↓] theorem mX:gtS Γ (.v (⇑m)) (.v (⇑n))= ~~~(.a (.bl (decide (n < m)))):=rfl
@[simp,simp ↓] theorem oh:geS Γ (.v (⇑m)) (.v (⇑n))= ~~~(.a (.bl (decide (n<=m)))):=rfl
@[simp,simp ↓] theorem oB:negS Γ (.v (⇑m))= ~~~(⇑(-m)):=rfl
@[simp,simp ↓] theorem kr:ixS Γ (.v (.t xs)) (.v (⇑n))=omp (atI xs n) (f:=⟨.v⟩):=rfl
@[simp,simp ↓] theorem mE:ixS Γ (.l xs) (.v (⇑n))=omp (atI xs n) (f:=⟨.v⟩):=rfl
@[simp,simp ↓] theorem oI:ixS Γ (.s m) (.v (⇑n))=bnd (sqlOf Γ (.s m)) (f:=⟨λxs=>omp (atI xs n) (f:=⟨.v⟩)⟩):=rfl
@[simp,simp ↓] theorem m4:sqlOf Γ (.s m)=match ixL Γ m with
  | some (some (.l xs))=>some xs
  | some (some (.r xs))=>some xs
  | some (some (.k xs))=>some xs
  | _=>none:=rfl
@[simp,simp ↓] theorem j6:sqlOf Γ (.l xs)=some xs:=rfl
@[simp,simp ↓] theorem l7:lsOf Γ (.l xs)=some xs:=rfl
@[simp,simp ↓] theorem mW:lsOf Γ (.s m)=match ixL Γ m with
  | some (some (.l xs))=>some xs
  | some (some (.r xs))=>some xs
  | _=>none:=rfl
@[simp,simp ↓] theorem mK:lenS Γ [.v (.t xs)]= ~~~(⇑xs.length):=rfl
@[simp,simp ↓] theorem mQ:lenS Γ [.l xs]= ~~~(⇑xs.length):=rfl
@[simp,simp ↓] theorem lS:lenS Γ [.s m]=omp (sqlOf Γ (.s m)) (f:=⟨λxs=>.v (⇑xs.length)⟩):=rfl
@[simp,simp ↓] theorem m9:tupleS Γ [.l xs]= ~~~(.t xs):=rfl
@[simp,simp ↓] theorem nB:tupleS Γ [.s m]=omp (sqlOf Γ (.s m)) (f:=⟨λxs=>.v (.t xs)⟩):=rfl
@[simp,simp ↓] theorem mv:dNoPart Γ=some (none,Γ):=rfl
@[simp,simp ↓] theorem ni:dPart fa Γ=bnd (fa Γ) (f:=⟨λp=>omp (iS p.1) (f:=⟨λi=>(some i,p.2)⟩)⟩):=rfl
@[simp,simp ↓] theorem pC:dSl fa lo hi Γ=bnd (fa Γ) (f:=⟨λp=>bnd (lo p.2) (f:=⟨λl=>bnd (hi l.2) (f:=⟨λh=>omp (slS h.2 l.1 h.1 p.1) (f:=⟨λs=>(s,h.2)⟩)⟩)⟩)⟩):=rfl
@[simp,simp ↓] theorem my:slS Γ lo hi (.v (.t xs))= ~~~(.t (cutT xs lo hi)):=rfl
@[simp,simp ↓] theorem lp:hAppend Γ xs [.v t]=if xs.length < AD then some (.a .non,xs++[t]) else none:=rfl
@[simp,simp ↓] theorem nI:hPop Γ xs []=omp (xs[xs.length - 1]?) (f:=⟨λt=>(t,xs.dropLast)⟩):=rfl
@[simp] theorem ml:hPopAt Γ xs [.v (⇑n)]=if inR 9223372036854775807 n=true then bnd (FG n xs.length) (f:=⟨λk=>omp (xs[k]?) (f:=⟨λt=>(t,xs.eraseIdx k)⟩)⟩) else none:=rfl
@[simp,simp ↓] theorem lu:intS Γ [.v (.a (.bl b))]= ~~~(⇑(if b then 1 else 0)):=rfl
@[simp,simp ↓] theorem mC:max2S Γ [.v (⇑m),.v (⇑n)]= ~~~(⇑(if n > m then n else m)):=rfl
@[simp] theorem oJ:dIndex fo da Γ=bnd (fo Γ) (f:=⟨λp=>bnd (da p.2) (f:=⟨λq=>match p.1,q.1 with
 | .v (.t xs),[.v (.a y)]=>bnd (atomsOf xs) (f:=⟨λvs=>if flatV y=true/\vs.all flatV=true then omp (vs.findIdx? λz=>eqV z y) (f:=⟨λj=>(mkI (j:Nat),q.2)⟩) else none⟩)
 | .v (.w xs),[.v (.a y)]=>bnd (atomsOf xs) (f:=⟨λvs=>if flatV y=true/\vs.all flatV=true then omp (vs.findIdx? λz=>eqV z y) (f:=⟨λj=>(mkI (j:Nat),q.2)⟩) else none⟩)
 | _,_=>none⟩)⟩):=rfl
@[simp,simp ↓] theorem lI:mkI n=.v (⇑n):=rfl
@[simp,simp ↓] theorem lj:mkB b=.v (.a (.bl b)):=rfl
@[simp] theorem oO:dListRng da Γ=bnd (da Γ) (f:=⟨λp=>omp (rngS p.1) (f:=⟨λxs=>(.l xs,p.2)⟩)⟩):=rfl
@[simp] theorem mF:dTupRng da Γ=bnd (da Γ) (f:=⟨λp=>omp (rngS p.1) (f:=⟨λxs=>(.v (.t xs),p.2)⟩)⟩):=rfl
def L6(n:Nat)(h:n<=100000):rngS [.v (⇑n)]=some (rngT 0 n):=by
 unfold rngS;dsimp only;rw[M4 ⋯,Ce,GW,Ed (Ak h ∅),if_pos rfl]
def V3(m n:Nat)(h1:m<=100000)(h:n<=100000):rngS [.v (⇑m),.v (⇑n)]=some (rngT m (n - m)):=by
 unfold rngS;dsimp only;have e:(n - (m:Int)).toNat=n - m:=by lia
 rw[M4 ⋯,M4 ⋯,e,GW,GW,Ed (Ak (show n - m<=100000 by lia) ∅),if_pos rfl]
@[simp] theorem mI:dRng1 da Γ=(da Γ).bind λp=>if p.1.length=1 then (rngS p.1).map λxs=>((xs,[]),p.2) else none:=by
 unfold dRng1;congr 1;funext p;obtain⟨as,G⟩:=p
 match as with
 | []=>rfl
 | [a] =>
  match a with
  | .v (.a (.int j))=>simp only[rngS,Gx,if_true];split <;> rfl
  | .v (.a .non)=>rfl
  | .v (.a (.bl _))=>rfl
  | .v (.a (.str _))=>rfl
  | .v (.a (.byt _))=>rfl
  | .v (.a (.flt _))=>rfl
  | .v (.a (.ref _))=>rfl
  | .v (.a (.ty _))=>rfl
  | .v (.t _)=>rfl
  | .v (.l _)=>rfl
  | .v (.f _)=>rfl
  | .v (.x _ _)=>rfl
  | .v (.w _)=>rfl
  | .l _=>rfl
  | .s _=>rfl
  | .d _=>rfl
 | a::b::r =>
  have:¬ (a::b::r).length=1:=by simp
  rw[if_neg this];dsimp only;split
  ·rename_i h;simp at h
  ·rfl
@[simp,simp ↓] theorem lU:dSeqI fa Γ=bnd (fa Γ) (f:=⟨λp=>bnd (seqS p.2 p.1) (f:=⟨λxs=>gd xs.length ((xs,srcS p.2 p.1),p.2)⟩)⟩):=rfl
@[simp,simp ↓] theorem mR:seqS Γ (.v (.t xs))=some xs:=rfl
@[simp,simp ↓] theorem nS:seqS Γ (.l xs)=some xs:=rfl
@[simp,simp ↓] theorem mZ:seqS Γ (.s m)=sqlOf Γ (.s m):=rfl
@[simp,simp ↓] theorem lH:srcS Γ (.v t)=[]:=rfl
@[simp,simp ↓] theorem mL:srcS Γ (.l t)=[]:=rfl
@[simp,simp ↓] theorem nv:srcS Γ (.s m)=match ixL Γ m with | some (some (.l _))=>[m] | _=>[]:=rfl
@[simp,simp ↓] theorem j7:dYes Γ=some (true,Γ):=rfl
@[simp,simp ↓] theorem nA:dTru fa Γ=bnd (fa Γ) (f:=⟨λp=>omp (truS p.2 p.1) (f:=⟨λb=>(b,p.2)⟩)⟩):=rfl
@[simp,simp ↓] theorem l9:truS Γ (.v (.a (.bl b)))=some b:=rfl
@[simp,simp ↓] theorem oz:truS Γ (.s m)=omp (sqlOf Γ (.s m)) (f:=⟨λxs=>!xs.isEmpty⟩):=rfl
@[simp] theorem ku:dPar2 i j da Γ=bnd (da Γ) (f:=⟨λp=>match p.1 with
  | [.v a,.v b]=>some (.nx ((p.2.set i (some (.v a))).set j (some (.v b))))
  | _=>none⟩):=rfl
@[simp] theorem mf:dPar3 i j k da Γ=bnd (da Γ) (f:=⟨λp=>match p.1 with
  | [.v a,.v b,.v c]=>some (.nx (((p.2.set i (some (.v a))).set j (some (.v b))).set k (some (.v c))))
  | _=>none⟩):=rfl
@[simp,simp ↓] theorem nU:dUnp tg fa Γ=bnd (fa Γ) (f:=⟨λp=>bnd p.1.tree (f:=⟨λt=>omp (tg p.2 t) (f:=⟨.nx⟩)⟩)⟩):=rfl
@[simp,simp ↓] theorem W7:gdName i Γ t=some (Γ.set i (~~~t)):=rfl
@[simp,simp ↓] theorem nu:gdNil Γ []=some Γ:=rfl
@[simp,simp ↓] theorem oW:gdCons p q Γ (t::r)=bnd (p Γ t) (f:=⟨λΓ1=>q Γ1 r⟩):=rfl
@[simp,simp ↓] theorem nV:gdTup i q Γ (.t ts)=ifN ts.length i (q Γ ts) none:=rfl
@[simp,simp ↓] theorem nR:dCall ip F [] da Γ=bnd (da Γ) (f:=⟨λp=>ifB (onceS ip p.1) (x:=⟨(bnd (argsG ip p.2 0 (apE p.1)) (f:=⟨λgs=>omp (F gs) (f:=⟨λq=>(toS q.1,backS ip p.2 p.1 q.2)⟩)⟩))⟩) (y:=⟨none⟩)⟩):=rfl
@[simp,simp ↓] theorem lP:argsG ip Γ k []=some []:=rfl
@[simp high,simp ↓ high] theorem ki:argsG ip Γ 0 (s::r)=bnd (argG ip Γ 0 s) (f:=⟨λg=>omp (argsG ip Γ 1 r) (f:=⟨λgs=>g::gs⟩)⟩):=rfl
@[simp high,simp ↓ high] theorem mJ:argsG ip Γ 1 (s::r)=bnd (argG ip Γ 1 s) (f:=⟨λg=>omp (argsG ip Γ 2 r) (f:=⟨λgs=>g::gs⟩)⟩):=rfl
@[simp high,simp ↓ high] theorem oP:argsG ip Γ 2 (s::r)=bnd (argG ip Γ 2 s) (f:=⟨λg=>omp (argsG ip Γ 3 r) (f:=⟨λgs=>g::gs⟩)⟩):=rfl
@[simp high,simp ↓ high] theorem nh:argsG ip Γ 3 (s::r)=bnd (argG ip Γ 3 s) (f:=⟨λg=>omp (argsG ip Γ 4 r) (f:=⟨λgs=>g::gs⟩)⟩):=rfl
@[simp,simp ↓] theorem lN:argG ip Γ k (.v t)= ~~~t:=rfl
@[simp,simp ↓] theorem oY:argG ip Γ k (.l xs)=some (ifO ip k (.l xs) (.r xs)):=rfl
@[simp,simp ↓] theorem ng:argG ip Γ k (.s m)=match ixL Γ m with
  | some (some (.l xs))=>some (ifO ip k (.l xs) (.r xs))
  | some (some (.r xs))=>ifO ip k none (some (.r xs))
  | some (some (.k xs))=>ifO ip k none (some (.k xs))
  | some (some (.d xs))=>ifO ip k none (some (.e xs))
  | some (some (.e xs))=>ifO ip k none (some (.e xs))
  | _=>none:=rfl
@[simp,simp ↓] theorem oE:argG ip Γ k (.d xs)=if ip=some k then none else some (.e xs):=rfl
@[simp,simp ↓] theorem oQ:setS i (.d xs) Γ=some (Γ.set i (some (.d xs))):=rfl
@[simp,simp ↓] theorem mw:toS (.d xs)=.d xs:=rfl
@[simp,simp ↓] theorem nF:onceS none ss=true:=rfl
@[simp high,simp ↓ high] theorem lV:(Kw ([]:List S) λs=>!isSl i s)=true:=rfl
@[simp high,simp ↓ high] theorem nW:(Kw (.v t::r) λs=>!isSl i s)=r.all λs=>!isSl i s:=rfl
@[simp,simp ↓] theorem l8:onceS (some k) ss=match ixL ss k with
  | some (.s i)=>(ss.eraseIdx k).all λs=>!isSl i s
  | some (.l _)=>(ss.eraseIdx k).all λs=>!isTmp s
  | _=>false:=rfl
@[simp,simp ↓] theorem m6:backS none Γ ss ys=Γ:=rfl
@[simp,simp ↓] theorem k9:backS (some k) Γ ss ys=match ixL ss k with | some (.s i)=>Γ.set i (some (.l ys)) | _=>Γ:=rfl
@[simp,simp ↓] theorem kn:toS (.v t)=.v t:=rfl
@[simp,simp ↓] theorem oa:toS (.l t)=.l t:=rfl
@[simp,simp ↓] theorem lh:outl none Γ=[]:=rfl
@[simp,simp ↓] theorem oU:outl (some k) Γ=match ixL Γ k with | some (some (.l xs))=>xs | _=>[]:=rfl
@[simp,simp ↓] theorem kh:resG ip Γ (.v t)= ~~~t:=rfl
@[simp,simp ↓] theorem mH:resG ip Γ (.l t)=some (.l t):=rfl
@[simp,simp ↓] theorem ko:resG ip Γ (.s i)=if ip=some i then none else match ixL Γ i with | some (some (.l xs))=>some (.l xs) | some (some (.d xs))=>some (.d xs) | _=>none:=rfl
@[simp,simp ↓] theorem oS:allS Γ [.l xs]=omp (boolsOf xs) (f:=⟨λbs=>.v (.a (.bl (bs.all id)))⟩):=rfl
end
def Lu{n:Nat}:atI xs n=xs[n]?:=by
 unfold atI ixN;rw[if_pos (Int.natCast_nonneg n)];by_cases h:n < xs.length
 ·simp_all
 ·simp_all
@[simp] theorem mB{α:Type}{xs:List α}:atI xs 0=xs[0]?:=Lu (n:=0)
@[simp] theorem nK{α:Type}{xs:List α}:atI xs 1=xs[1]?:=Lu (n:=1)
@[simp] theorem nj{α:Type}{xs:List α}:atI xs 2=xs[2]?:=Lu (n:=2)
@[simp] theorem lG{α:Type}{xs:List α}:atI xs 3=xs[3]?:=Lu (n:=3)
def d9(h:xs≠[]):atI xs (-1)=xs[xs.length - 1]?:=by
 have:=Ct.mpr h;unfold atI ixN;rw[if_neg ⋯,if_pos ⋯];show xs[(-1+(xs.length:Int)).toNat]?=_;congr 1;lia
def Rf(h:j < n):ixN n j=some j:=by
 unfold ixN;rw[if_pos ⋯,if_pos ⋯];simp
def LI(h:n<=100000):n<=AD:=Ak h ∅
def MF(h:n<=100000):n < AD:=Hl h ∅
@[simp] noncomputable abbrev iT (n:Int):T:=.a (.int n)
@[simp] noncomputable abbrev bT (b:Bool):T:=.a (.bl b)
def T7 ns {i} (h0:0<=i) (h1:i < ns.length):∃ z,atI (intsT ns) i=some (iT z):=by
 obtain⟨j,rfl⟩:∃ j:Nat,i=j:=⟨i.toNat,by lia⟩
 exact⟨ns[j]'⋯,by rw[Lu,intsT,Am,AY ⋯];rfl⟩
theorem Lo:dWhile c b (n+1) Γ=(c Γ).bind λp=>if p.1=true then (b p.2).bind λo=>match o with
   | .nx Γ'=>dWhile c b n Γ'
   | .ct Γ'=>dWhile c b n Γ'
   | .bk Γ'=>some (.nx Γ')
   | .rt s Γ'=>some (.rt s Γ')
  else some (.nx p.2):=(rfl)
def MV:forD tg b [] Γ=some (.nx Γ):=(rfl)
theorem Oc:forD tg b (t::r) Γ=(tg Γ t).bind λΓ1=>(b Γ1).bind λo=>match o with
  | .nx Γ'=>forD tg b r Γ'
  | .ct Γ'=>forD tg b r Γ'
  | .bk Γ'=>some (.nx Γ')
  | .rt s Γ'=>some (.rt s Γ'):=(rfl)
def Lb:compD tg dc de [] Γ=some ([],Γ):=(rfl)
def LY:compD tg dc de (t::r) Γ=(tg Γ t).bind λΓ1=>(dc Γ1).bind λp=>if p.1=true then (de p.2).bind λq=>q.1.tree.bind λt'=>(compD tg dc de r q.2).map λz=>(t'::z.1,z.2) else compD tg dc de r p.2:=(rfl)
@[simp,simp ↓] theorem nE:dComp none ix di tg dc de Γ=bnd (di Γ) (f:=⟨λp=>omp (compD tg dc de p.1.1 (pick none ix p.2)) (f:=⟨λz=>(.l z.1,p.2)⟩)⟩):=rfl
@[simp,simp ↓] theorem om:dComp (some (j,i)) ix di tg dc de Γ=bnd (di Γ) (f:=⟨λp=>ifM i p.1.2 none (match ixL p.2 i with
  | some (some (.l _))=>omp (compD tg dc de p.1.1 (pick (some i) ix p.2)) (f:=⟨λz=>(.l z.1,cback (some (j,i)) p.2 z.2)⟩)
  | _=>none)⟩):=rfl
@[simp,simp ↓] theorem kx:dFor ip di tg b Γ=bnd (di Γ) (f:=⟨λp=>ifB (p.1.2.all λi=>decide (ip≠some i)) (x:=⟨(forD tg b p.1.1 (frz p.2 p.1.2))⟩) (y:=⟨none⟩)⟩):=rfl
@[simp,simp ↓] theorem lL:frz Γ []=Γ:=rfl
@[simp,simp ↓] theorem nq:frz Γ (i::r)=frz (frz1 Γ i) r:=rfl
@[simp,simp ↓] theorem nY:pick mu [] Γ=[]:=rfl
@[simp,simp ↓] theorem nJ:pick mu (none::ix) Γ=none::pick mu ix Γ:=rfl
@[simp,simp ↓] theorem oo:pick mu (some k::ix) Γ=pick1 mu k (ixL Γ k).join::pick mu ix Γ:=rfl
@[simp,simp ↓] theorem oA:pick1 mu k (~~~t)= ~~~t:=rfl
@[simp,simp ↓] theorem lT:pick1 mu k (some (.l t))=ifO mu k (some (.l t)) (some (.r t)):=rfl
@[simp,simp ↓] theorem lJ:cback (some (j,i)) Γ Γo=match ixL Γo j with | some (some (.l xs))=>Γ.set i (some (.l xs)) | _=>Γ:=rfl
theorem Nf{α:Type} f g:∀ (is:List α),(∀ i∈is,de (some (.v (f i))::R)=some (.v (g i),some (.v (f i))::R))->∀ o,∃ o',compD (gdName 0) dYes de (is.map f) (o::R)=some (is.map g,o'::R)
 | [],_,o=>⟨o,rfl⟩
 | i::r,h,o=>by
  obtain⟨o',e⟩:=Nf f g r (λj hj=>h j (AH _ hj)) (some (.v (f i)));refine⟨o',?_⟩;rw[Ad,LY];simp[h i AG,e]
@[simp] theorem lY:boolsOf (Ae n (.a (.bl b)))=some (Ae n b):=by
 induction n with
 | zero=>rfl
 | succ n ih=>rw[Cs,Cs];simp only[boolsOf];rw[ih];rfl
def QJ:(Ae n true).all id=true:=↥1
def Qd{n m:Nat}(h:n < m):FG n m=some n:=(O8 (Rf h)).1
def Of:B7 (.int n)=true:=rfl
@[simp] theorem ll:eqS Γ (.v (⇑m)) (.v (⇑n))= ~~~(.a (.bl (decide (m=n)))):=by
 show ((some (mkB (decide (V.int m=V.int n)))).or _)=_;simp
@[simp] theorem kz:eqS Γ (.v (.a (.str m))) (.v (.a (.str n)))= ~~~(.a (.bl (decide (m=n)))):=by
 show ((some (mkB (decide (V.str m=V.str n)))).or _)=_;simp
@[simp] theorem lM:neS Γ (.v (.a (.str m))) (.v (.a (.str n)))= ~~~(.a (.bl (!decide (m=n)))):=by
 show ((some (mkB (!decide (V.str m=V.str n)))).or _)=_;simp
@[simp] noncomputable abbrev tvT (t:List Nat):List T:=t.map λ(k:Nat)=>iT (k:Int)
@[simp] noncomputable abbrev tuT (t:List Nat):T:=.t (tvT t)
structure IsT(n:Nat)(t:List Nat):Prop where
 len:t.length=n
 lt:∀ k∈t,k < n
 nd:t.Nodup
def IsT.get(h:IsT n t)(hi:i < n):∃ k,t[i]?=some k/\k < n:=by
 have hl:=h.len;refine⟨t[i]'⋯,by simp,h.lt _ (D8 _)⟩
theorem Xk:∀ n (t:List Nat),t.length=n->(∀ k∈t,k < n)->t.Nodup->∀ i,i < n->i∈t:=by
 intro n;induction n with
 | zero=>intro t _ _ _ i hi;lia
 | succ n ih =>
  intro t hl hlt hnd i hi;by_cases hn:n∈t
  ·have h1:(t.erase n).length=n:=by rw[GY hn];lia
   have h2:∀ k∈t.erase n,k < n:=λk hk=>by
    have:=hlt k (G0 hk);have hne:k≠n:=λe=>by subst e;exact (Kx hnd) hk
    lia
   by_cases e:i=n
   ·subst e;exact hn
   ·exact G0 (ih (t.erase n) h1 h2 (hnd.erase n) i ⋯)
  ·exfalso;have h2:∀ k∈t,k < n:=λk hk=>by
    have:=hlt k hk;have hne:k≠n:=λe=>by subst e;exact hn hk
    lia
   cases t with
   | nil=>simp at hl
   | cons x r =>
    exact (BL.mp hnd).1 (ih r (by simpa using hl) (λk hk=>h2 k (AH _ hk)) (BL.mp hnd).2 x (h2 x AG))
def IsT.mem(h:IsT n t)(hi:i < n):i∈t:=Xk n t h.len h.lt h.nd i hi
theorem nodup_map_on{α β:Type}{f:α->β}{l:List α}(h:∀ x∈l,∀ y∈l,f x=f y->x=y)(nd:l.Nodup):(l.map f).Nodup:=by
 induction l with
 | nil=>exact F7
 | cons a r ih =>
  obtain⟨h1,h2⟩:=BL.mp nd;refine BL.mpr ⟨λhm=>?_,ih (λx hx y hy=>h x (AH _ hx) y (AH _ hy)) h2⟩;obtain⟨y,hy,e⟩:=Aq.mp hm;have:=h y (AH _ hy) a AG e;subst this;exact h1 hy
noncomputable def thenL (a b:List Nat):List Nat:=a.map λk=>b.getD k 0
noncomputable def backL (t:List Nat):List Nat:=(AI t.length).map λi=>t.idxOf i
def NF(h:IsT n t)(e:t[i]?=some k):t.idxOf k=i:=by
 obtain⟨hi,e'⟩:=AZ.mp e;rw[← e'];exact h.nd.idxOf_getElem i hi
def MS{i k m:Nat}(h1:a[i]?=some k)(h2:b[k]?=some m):(thenL a b)[i]?=some m:=by simp[thenL,h1,h2]
def OG(h:i < t.length):(backL t)[i]?=some (t.idxOf i):=by simp[backL,h]
def Lj(ha:IsT n a)(hb:IsT n b):IsT n (thenL a b):=by
 refine⟨by simp[thenL,ha.len],λk hk=>?_,?_⟩
 ·obtain⟨x,hx,rfl⟩:=Aq.mp hk;obtain⟨m,hm,hmn⟩:=hb.get (ha.lt x hx);simpa [hm] using hmn
 ·refine nodup_map_on ?_ ha.nd;intro x hx y hy e;obtain⟨m,hm,_⟩:=hb.get (ha.lt x hx);obtain⟨m',hm',_⟩:=hb.get (ha.lt y hy);simp[hm,hm']at e;subst e;exact (NF hb hm).symm.trans (NF hb hm')
def LX(h:IsT n t):IsT n (backL t):=by
 refine⟨by simp[backL,h.len],λk hk=>?_,?_⟩
 ·obtain⟨x,hx,rfl⟩:=Aq.mp hk;have hx':x < n:=by rw[← h.len];simpa using hx
  have:=CK.mpr (h.mem hx');rw[h.len]at this;exact this
 ·refine nodup_map_on ?_ D9;intro x hx y hy e;have hx':=h.mem (by rw[← h.len];simpa using hx);have hy':=h.mem (by rw[← h.len];simpa using hy);rw[← (HU (CK.mpr hx')),← (HU (CK.mpr hy'))];congr 1
def Ol(h:t.Perm (AI n)):IsT n t:=
 ⟨by rw[h.length_eq];simp,λk hk=>by simpa using h.mem_iff.mp hk,h.nodup_iff.mpr D9⟩
def MN n:IsT n (AI n):=⟨by simp,λk hk=>by simpa using hk,D9⟩
def OB n:rngT 0 n=tvT (AI n):=by simp[rngT]
def Q5(hk:ls[k]?=some z):((fs++[z])++ls.eraseIdx k).Perm (fs++ls):=by
 rw[BC];refine K7 fs ?_;obtain⟨hk1,hk2⟩:=AZ.mp hk;rw[DB];have e:ls=ls.take k++z::ls.drop (k+1):=by
  rw[← hk2,List.getElem_cons_drop,G4]
 conv=>rhs;rw[e]
 show (z::(ls.take k++ls.drop (k+1))).Perm _;exact List.perm_middle.symm
def VA{α β:Type}(f:α->β)(t:List α) k:(t.map f).eraseIdx k=(t.eraseIdx k).map f:=by
 rw[DB,DB];simp
theorem Pv:∀ t,atomsOf (tvT t)=some (t.map λ(k:Nat)=>V.int k)
 | []=>rfl
 | k::r=>by simp only[ Ad,atomsOf];rw[show atomsOf (r.map λ(k:Nat)=>iT k)=_ from Pv r];rfl
def RN(t:List Nat):(t.map λ(k:Nat)=>V.int k).all flatV=true:=by simp[flatV]
def Q2{t:List Nat}{i}(h:i∈t):((t.map λ(k:Nat)=>V.int k).findIdx? λz=>eqV z (V.int i))=some (t.idxOf i):=by
 have hlt:=CK.mpr h;refine E9.mpr ⟨by simpa using hlt,?_,λj hj=>?_⟩
 ·simp[eqV]
 ·have hne:t[j]'⋯≠i:=λe=>by
   have:=List.not_of_lt_findIdx hj;simp[e]at this
  simp[ eqV];simpa using λe=>hne (by exact_mod_cast e)
def bL xs (n:Nat):cutT xs (some n) none=xs.drop n:=by
 unfold cutT;rw[HT.sIx_none,HT.sIx_nat];by_cases h:n<=xs.length
 ·rw[Nat.min_eq_left h,Bk ↥1]
 ·rw[Nat.min_eq_right ⋯,Nat.sub_self,List.take_zero,List.drop_eq_nil_of_le ⋯]
def N6{i k:Nat}(h:t[i]?=some k):atI (tvT t) i=some (iT k):=by
 rw[Lu];simp[h]
abbrev Stp:=Nat×List Nat×List Nat
@[simp] noncomputable abbrev stT (s:Stp):T:=.t [iT (s.1:Int),tuT s.2.1,tuT s.2.2]
def StOk (n qs:Nat) (st:List Stp):Prop:=∀ s∈st,s.1 < qs/\IsT n s.2.1/\IsT n s.2.2
structure AnsOk(qs:Nat)(as:List Nat):Prop where
 len:as.length=qs
 lt:∀ x∈as,x < 2
noncomputable def pickT (as:List Nat) (s:Stp):List Nat:=if as.getD s.1 0=1 then s.2.1 else s.2.2
def V8(h:s.1 < qs/\IsT n s.2.1/\IsT n s.2.2):IsT n (pickT as s):=by
 unfold pickT;split
 ·exact h.2.1
 ·exact h.2.2
noncomputable def scanL (as:List Nat):List Nat->List Stp->List (List Nat)
 | _,[]=>[]
 | c,s::r=>thenL c (pickT as s)::scanL as (thenL c (pickT as s)) r
theorem Mr as:∀ c st,(scanL as c st).length=st.length
 | _,[]=>rfl
 | c,s::r=>by simp[scanL,Mr]
noncomputable def doneL (as:List Nat):List Nat->List Stp->List Nat
 | c,[]=>c
 | c,s::r=>doneL as (thenL c (pickT as s)) r
def c7(h:AnsOk qs as)(hq:q < qs):as[q]?=some (as.getD q 0):=by
 have:=h.len;simp_all
@[simp] noncomputable abbrev prT (p:T×T):T:=.t [p.1,p.2]
noncomputable def intsD (t:List Nat):List El:=t.map λ(k:Nat)=>Cf (k:Int)
theorem QM:∀ t,toDs (tvT t)=some (intsD t)
 | []=>by simp[toDs,intsD]
 | k::r=>by
  have:=QM r;simp at this ⊢;rw[toDs,this];simp[toD,toDa,intsD]
theorem Pr:∀ t,BP (intsD t)=0
 | []=>by simp[intsD,BP]
 | k::r=>by
  have:=Pr r;simp[intsD]at this ⊢;simp[BP,EA,this]
end D
namespace L2
open PySem PySem.Spec PyProof.Rows
section
variable {X:Cx}{pins:List (Addr×Obj)}{s:AR}{σ:St}{H:Hp}{p:Addr}{vs:List V}
def UB(hc:X.calm=true)(I:Inv X pins σ H s)(hq:SqL X.K H p vs\/SqT X.K H p vs)
  (h:∀ its o St,Vals vs its->Walks X.prog X.w X.A.in1 s.heap.objs.size [s.heap.objs.size,p] [s.heap.objs.size] its.length (λi v=>its[i]?=some v) St ->
   St 0 (s.heap.push o)->p < s.heap.objs.size->Q (.ref s.heap.objs.size) { s with heap:=s.heap.push o }):AQ (model X.prog X.w) X.A.in1 (GB (.ref p)) Q E s:=by
 rcases hq with hq | hq
 ·obtain⟨its,rv,pl,hz⟩:=I.list hq;have hl:=pl.isList;have hlt:p < s.heap.objs.size:=by obtain⟨_,e,_⟩:=hl;exact AL e
  refine Fu hl ?_;have W:=Jc (prog:=X.prog) (w:=X.w) (A:=X.A.in1) (I.ok.hd hc) s.heap.objs.size p (Ag hlt) its.toArray;have W':=by simpa using W
  exact h its _ _ rv W' ⟨⟨_,AK _ rfl,rfl,rfl⟩,hl.push _⟩ hlt
 ·obtain⟨its,rv,hl,hz⟩:=I.tuple hq;have hlt:p < s.heap.objs.size:=by obtain⟨_,e,_⟩:=hl;exact AL e
  have hl':s.heap.IsTuple p its.toArray:=by obtain⟨o,e,c,n,d⟩:=hl;exact⟨o,e,c,n,d⟩
  refine CF hl' ?_;have W:=Walks.tuple (prog:=X.prog) (w:=X.w) (A:=X.A.in1) (I.ok.hd hc) s.heap.objs.size p (Ag hlt) its.toArray;have W':=by simpa using W
  exact h its _ _ rv W' ⟨⟨_,AK _ rfl,rfl,rfl⟩,hl'.push _⟩ hlt
theorem O0{ns:List Int}:∀ {its},Vals (ns.map V.int) its->∀ (i:Nat) v,its[i]?=some v->∃ t,v=.int (ns.getD i 0) t:=by
 induction ns with
 | nil=>intro its h;cases h;intro i v e;simp at e
 | cons n r ih =>
  intro its h;cases h with
  | cons h1 h2 =>
   intro i v e;obtain⟨t,rfl⟩:=h1;cases i with
   | zero=>simp at e;exact⟨t,e.symm⟩
   | succ i=>simpa using ih h2 i v ‹_›
def Yd(hc:X.calm=true):CallR X (.builtin "sum") (λxs H Q=>∃ (p:Addr) (ns:List Int),xs=[.ref p]/\(SqL X.K H p (ns.map V.int)\/SqT X.K H p (ns.map V.int))/\Q (.int ns.sum) H):=by
 intro pins s σ H xs us Q I r h;obtain⟨p,ns,rfl,hq,q⟩:=h;obtain⟨u,rfl,rfl⟩:=vals1 r;refine call_sum_walkG (UB hc I hq λits o St rv W st0 hlt=>⟨_,_,_,_,_,_,λi=>ns.getD i 0,rfl,W,st0,λb hb=>?_,O0 rv,λh' tk t' hk=>?_⟩)
 ·rw[BQ];simp at hb;rcases hb with rfl | rfl
  ·exact CQ _
  ·exact C6 hlt
 ·rw[preSum_getD,Bk (by rw[← rv.length];simp)];exact⟨.int ns.sum,H,I.kept (Gj hk),⟨_,rfl⟩,q⟩
def minI:List Int->Int
 | []=>0
 | x::r=>r.foldl (λa b=>if b < a then b else a) x
theorem Ri:∀ r (x:Int),(r.foldl (λa b=>if b < a then b else a) x∈x::r)/\∀ y∈x::r,r.foldl (λa b=>if b < a then b else a) x<=y
 | [],x=>by simp
 | z::r,x=>by
  obtain⟨h1,h2⟩:=Ri r (if z < x then z else x);rw[EL];refine⟨?_,λy hy=>?_⟩
  ·rcases AN.mp h1 with e | e
   ·rw[e];split <;> simp
   ·simp[e]
  ·have h0:=h2 _ AG;rcases AN.mp hy with e | e
   ·lia
   ·rcases AN.mp e with e | e
    ·lia
    ·exact h2 y (AH _ e)
theorem SK(val:Nat->Int):∀ k,JH (λi j=>decide (val i < val j)) k<=k/\∀ j,j<=k->val (JH (λi j=>decide (val i < val j)) k)<=val j
 | 0=>⟨AE _,λj hj=>by rw[Nat.le_zero.mp hj];exact J3 _⟩
 | k+1=>by
  obtain⟨h1,h2⟩:=SK val k;unfold JH;split
  ·rename_i h;simp at h;refine⟨AE _,λj hj=>?_⟩;by_cases e:j=k+1
   ·rw[e];exact J3 _
   ·have:=h2 j ⋯;lia
  ·rename_i h;simp at h;refine⟨by lia,λj hj=>?_⟩;by_cases e:j=k+1
   ·rw[e];exact h
   ·exact h2 j ⋯
def cE{ns:List Int}{i}(h:i < ns.length):ns.getD i 0∈ns:=by simp_all
def Vr{ns:List Int}{a}(h:a∈ns):∃ i,i < ns.length/\ns.getD i 0=a:=by
 obtain⟨i,hi,e⟩:=CN h;exact⟨i,hi,by rw[BF,AY hi,e];rfl⟩
def aT(hc:X.calm=true):CallR X (.builtin "min") (λxs H Q=>∃ (p:Addr) (ns:List Int),xs=[.ref p]/\(SqL X.K H p (ns.map V.int)\/SqT X.K H p (ns.map V.int))/\0 < ns.length/\Q (.int (minI ns)) H):=by
 intro pins s σ H xs us Q I r h;obtain⟨p,ns,rfl,hq,h0,q⟩:=h;obtain⟨u,rfl,rfl⟩:=vals1 r;refine call_min_walk (UB hc I hq λits o St rv W st0 hlt=>?_);have hl:=rv.length;rw[Af]at hl;refine⟨_,_,_,_,_,_,_,rfl,W,st0,λb hb=>?_,by lia,CmpOf.ints_lt (λi=>ns.getD i 0) (O0 rv),λv h' tk hv hk=>?_⟩
 ·rw[BQ];simp at hb;rcases hb with rfl | rfl
  ·exact CQ _
  ·exact C6 hlt
 ·obtain⟨t,rfl⟩:=O0 rv _ _ hv;obtain⟨b1,b2⟩:=SK (λi=>ns.getD i 0) (its.length - 1);refine⟨.int (minI ns),H,I.kept (Gj hk),?_,q⟩;have e:ns.getD (JH (λi j=>decide (ns.getD i 0 < ns.getD j 0)) (its.length - 1)) 0=minI ns:=by
   cases ns with
   | nil=>simp at h0
   | cons x r =>
    obtain⟨m1,m2⟩:=Ri r x;obtain⟨j,hj,ej⟩:=Vr m1;have a2:=b2 j ⋯;rw[ej]at a2;exact Int.le_antisymm a2 (m2 _ (cE ⋯))
  exact⟨t,by rw[e]⟩
end
end L2
namespace D
open PySem L2
noncomputable def sumS:En->List S->Option S:=λΓ as=>match as with
 | [a]=>(seqS Γ a).bind λxs=>(intsOf xs).map λns=>.v (.a (.int ns.sum))
 | _=>none
noncomputable def min1S:En->List S->Option S:=λΓ as=>match as with
 | [a]=>(seqS Γ a).bind λxs=>(intsOf xs).bind λns=>if 0 < ns.length then some (.v (.a (.int (minI ns)))) else none
 | _=>none
def Tx(R:Rep K C w Γ σ H)(o:SOk K C w σ H x s)(e:seqS Γ s=some xs)(e2:intsOf xs=some ns) :
  ∃ p,x=.ref p/\(SqL K H p (ns.map V.int)\/SqT K H p (ns.map V.int)):=by
 obtain⟨p,us,rfl,h1,i1⟩:=N2 R o e;have hu:=by rw[Oi e2]at i1;exact i1.of_atoms
 simp_all
def dB:SimRs K (λxs H Q=>∃ (p:Addr) (ns:List Int),xs=[.ref p]/\(SqL K H p (ns.map V.int)\/SqT K H p (ns.map V.int))/\Q (.int ns.sum) H) sumS:=by
 intro C w Γ σ H vs as s Q R o e k;unfold sumS at e;split at e
 ·obtain⟨xs,e1,e⟩:=bind_some e;obtain⟨ns,e2,rfl⟩:=LF e;obtain⟨v,rfl,o1⟩:=soks1 o;obtain⟨p,rfl,h⟩:=Tx R o1 e1 e2;exact⟨p,ns,rfl,h,k _ H R .refl SOk.atom trivial⟩
 ·cases e
def jG:SimRs K (λxs H Q=>∃ (p:Addr) (ns:List Int),xs=[.ref p]/\(SqL K H p (ns.map V.int)\/SqT K H p (ns.map V.int))/\0 < ns.length/\Q (.int (minI ns)) H) min1S:=by
 intro C w Γ σ H vs as s Q R o e k;unfold min1S at e;split at e
 ·obtain⟨xs,e1,e⟩:=bind_some e;obtain⟨ns,e2,e⟩:=bind_some e;split at e
  ·cases e;obtain⟨v,rfl,o1⟩:=soks1 o;obtain⟨p,rfl,h⟩:=Tx R o1 e1 e2;exact⟨p,ns,rfl,h,by assumption,k _ H R .refl SOk.atom trivial⟩
  ·cases e
 ·cases e
section
variable {ι:Type}{K:Fg}{X:ι->Cx}{mg:Str->Option AM}{k:Nat}
def bR(M:Fm K mg k X):CalR K X (.builtin "sum") sumS:=⟨_,λj=>by have:=Yd (M.calm j);rw[M.K j]at this;exact this,dB⟩
def Z0(M:Fm K mg k X):CalR K X (.builtin "min") min1S:=⟨_,λj=>by have:=aT (M.calm j);rw[M.K j]at this;exact this,jG⟩
end
noncomputable def dK (t:T):DE:=λΓ=>some (.v t,Γ)
def KV (K:Fg) (mg:Str->Option AM) (x:Str) (t:T):Prop:=∃ v u,mg x=some u/\RelV v u/\∀ H,Im K H v t
section
variable {ι:Type}{K:Fg}{X:ι->Cx}{mg:Str->Option AM}{k:Nat}{pos:Pos}{x:Str}{t:T}
def Yx(h:∀ H,Im K H v t):SimE K (tC v) (dK t):=by
 intro C w Γ σ H s Γ' Q R e k;cases e;exact k v H R .refl (h H) trivial
def ex_k t (M:Fm K mg k X) (c:KV K mg x t) (hg:∀ j,Gl (X j) x:=by intro _;rfl) (hd:(x == ("__debug__":Str))=false:=by decide):EX K X (.Name x pos) (dK t):=
 let ⟨v,u,h1,h2,h3⟩:=c
 ⟨tC v,λj=>SG (hg j) (by rw[M.mg];exact h1) h2 hd,Yx h3⟩
end
def Sv(ns:List Int)(h1:mg x=some (.ref p))(h2:K.lookup p=some ⟨.type "tuple",none,.seq its.toArray n,sl⟩)(h3:Vals (ns.map V.int) its)(h4:its.length<=AD):KV K mg x (.w ((ns.map V.int).map T.a)):=
 ⟨.ref p,.ref p,h1,rfl,λH=>by unfold Im;exact⟨p,ns.map V.int,rfl,⟨_,its.toArray,n,h2,rfl,rfl,rfl,by simpa using h4,by simpa using h3⟩,Ims.atoms _⟩⟩
end D
namespace D
open PySem L2
open PySem.SeqAt
theorem gj:∀ {vs ds as},KS h vs ds as->∀ (i:Nat) v,vs[i]?=some v->∃ d as',ds[i]?=some d/\IL h v d as':=by
 intro vs ds as r;induction ds generalizing vs as with
 | nil =>
  intro i v e;cases r;simp at e
 | cons d ds ih =>
  intro i v e;cases r with
  | cons r1 r2 =>
   cases i with
   | zero=>simp at e;subst e;exact⟨d,_,rfl,r1⟩
   | succ i=>simpa using ih r2 i v ‹_›
theorem R6:∀ {ds},Al ds=true->∀ (i:Nat) d,ds[i]?=some d->d.canLay0=true
 | [],_,i,d,e=>by simp at e
 | x::r,h,i,d,e=>by
  simp[Al]at h;cases i with
  | zero=>simp at e;subst e;exact h.1
  | succ i=>exact R6 h.2 i d ‹_›
noncomputable def eqOf (h:Heap) (dx:El) (y:AM):Bool:=@decide (∃ d as,IL h y d as/\d.canLay0=true/\BG d dx=true) (Dm _)
theorem UY(r:IL h y d as)(c:d.canLay0=true):eqOf h dx y=BG d dx:=by
 cases e:BG d dx with
 | true=>exact @decide_eq_true _ (Dm _) ⟨d,as,r,c,e⟩
 | false =>
  refine @decide_eq_false _ (Dm _) ?_;rintro ⟨d',as',r',c',e'⟩;have:=Reads.unique d d' y as as' c r r';subst this;rw[e]at e';cases e'
section
variable {X:Cx}{k:Nat}
def ZF(hr:Room k X.A)(I:Inv X pins σ H s)(rv:Vals us its)(hi:Ims X.K H us ts)(e1:toDs ts=some ds)(ry:RelV y v)(hy:Im X.K H y t)(e2:toD t=some d)(c1:Al ds=true)(c2:d.canLay0=true)(dp:d.depth<=100) :
  (∀ u,u∈its.toArray->EqAt X.A.in1 s u v (eqOf s.heap d u))/\∀ (i:Nat) u,its[i]?=some u->∃ z,ds[i]?=some z/\eqOf s.heap d u=BG z d:=by
 obtain⟨as1,ra⟩:=M0 I hi rv e1;obtain⟨as2,rx⟩:=P8 I hy ry e2;have each:∀ i u,its[i]?=some u->∃ z as,ds[i]?=some z/\IL s.heap u z as/\z.canLay0=true:=λi u e=>by
  obtain⟨z,as,e3,r3⟩:=gj ra i u e;exact⟨z,as,e3,r3,R6 c1 i z e3⟩
 refine⟨λu hu=>?_,λi u e=>?_⟩
 ·obtain⟨i,hi',rfl⟩:=CN (List.mem_toArray.mp hu);obtain⟨z,as,e3,r3,c3⟩:=each i its[i] ↥1;rw[UY r3 c3];exact eqAt_reads z d X.A.in1 s _ v as as2 r3 rx c3 c2 (by have:=hr.un;show X.A.units+1+min z.depth d.depth < DV;lia)
 ·obtain⟨z,as,e3,r3,c3⟩:=each i u e;exact⟨z,e3,UY r3 c3⟩
end
end D
namespace L2
open PySem PySem.Spec PyProof.Rows
section
variable {κ:Type} [DecidableEq κ]
def valV (kvs:List (κ×V)) (k:κ):Option V:=(kvs.find? λkv=>decide (kv.1=k)).map (·.2)
def putK (kvs:List (κ×V)) (k:κ) (v:V):List (κ×V):=
 if (kvs.any λkv=>decide (kv.1=k))=true then kvs.map (λkv=>if kv.1=k then (kv.1,v) else kv) else kvs++[(k,v)]
def Od{r}{k:κ}(e:p.1=k):valV (p::r) k=some p.2:=by simp[valV,e]
def N0{r}{k:κ}(e:¬ p.1=k):valV (p::r) k=valV r k:=by simp[valV,e]
theorem TK(k:κ):∀ kvs,(kvs.any λkv=>decide (kv.1=k))=(valV kvs k).isSome
 | []=>rfl
 | p::r=>by
  rw[B6];by_cases e:p.1=k
  ·simp[Od e,decide_eq_true e]
  ·rw[N0 e,decide_eq_false e];exact TK k r
def PP kvs (k:κ) v:(putK kvs k v).length<=kvs.length+1:=by
 unfold putK;split
 ·rw[Af];lia
 ·simp_all
theorem RelO.isSome_eq(r:RelO o u):o.isSome=u.isSome:=by
 cases o with
 | none=>cases u with
  | none=>rfl
  | some _=>exact r.elim
 | some _=>cases u with
  | none=>exact r.elim
  | some _=>rfl
theorem KV.val{vs}(r:KV kvs vs)(k:κ):RelO (valV kvs k) (Gp vs k):=by
 induction r with
 | nil=>exact Cz
 | @cons p q ps qs h t ih =>
  obtain⟨h1,h2⟩:=h;by_cases e:p.1=k
  ·have e':=h1.symm.trans e;have b:Gp (q::qs) k=some q.2:=by simp[Gp,e']
   rw[Od e,b];exact h2
  ·have e':¬ q.1=k:=λz=>e (h1.trans z)
   have b:Gp (q::qs) k=Gp qs k:=by simp[Gp,e']
   rw[N0 e,b];exact ih
theorem KV.any{vs}(r:KV kvs vs)(k:κ):(kvs.any λkv=>decide (kv.1=k))=vs.any λkv=>decide (kv.1=k):=by
 induction r with
 | nil=>rfl
 | cons h t ih=>rw[B6,B6,ih,h.1]
theorem KV.repl{kvs vs}(r:KV kvs vs)(k:κ)(ry:RelV y u) :
  KV (kvs.map λkv=>if kv.1=k then (kv.1,y) else kv) (vs.map λkv=>if kv.1=k then (kv.1,u) else kv):=by
 induction r with
 | nil=>exact .nil
 | @cons p q ps qs h t ih =>
  rw[Ad,Ad];refine .cons ?_ ih;obtain⟨h1,h2⟩:=h;by_cases e:p.1=k
  ·rw[if_pos e,if_pos (h1.symm.trans e)];exact⟨h1,ry⟩
  ·rw[if_neg e,if_neg (λz=>e (h1.trans z))];exact⟨h1,h2⟩
def KV.put{kvs vs}(r:KV kvs vs)(k:κ)(ry:RelV y u):KV (putK kvs k y) (stored vs k u):=by
 unfold putK stored;rw[r.any k];by_cases e:(vs.any λkv=>decide (kv.1=k))=true
 ·rw[if_pos e,if_pos e];exact r.repl k ry
 ·rw[if_neg e,if_neg e];exact Ik r ⟨rfl,ry⟩
theorem KV.length{vs:List (κ×AM)}(r:KV kvs vs):kvs.length=vs.length:=Dn r
end
theorem Ng(r:RelV (kV k) u):(mixKind P w).is k u=true:=by
 cases k with
 | inl i=>obtain⟨t,e⟩:=r;subst e;exact j4 P w i t
 | inr x=>obtain⟨t,e⟩:=r;subst e;exact WY P w x t
theorem U0:∀ {ks us},Vals (ks.map kV) us->ItemsAre (mixKind P w) ks us
 | [],_,r=>by rw[CH]at r;cases r;exact .nil
 | k::ks,_,r=>by
  cases r with
  | cons h t=>exact .cons (Ng h) (U0 t)
abbrev KT (H:Hp):List (List Key×V)->List (List Key×Addr×AM)->Prop:=EI λp q=>p.1=q.1/\H q.2.1=some (.tup (p.1.map kV))/\RelV p.2 q.2.2
theorem KT.val(r:KT H kvs xs) k:RelO (valV kvs k) ((HV xs k).map (·.2)):=by
 induction r with
 | nil=>exact Cz
 | @cons p q ps qs h t ih =>
  obtain⟨h1,_,h2⟩:=h;by_cases e:p.1=k
  ·have e':=h1.symm.trans e;have b:HV (q::qs) k=some q.2:=by simp[HV,e']
   rw[Od e,b];exact h2
  ·have e':¬ q.1=k:=λz=>e (h1.trans z)
   have b:HV (q::qs) k=HV qs k:=by simp[HV,e']
   rw[N0 e,b];exact ih
theorem KT.repl(r:KT H kvs xs) k (ry:RelV y u) :
  KT H (kvs.map λkv=>if kv.1=k then (kv.1,y) else kv) (xs.map (putAt k u)):=by
 induction r with
 | nil=>exact .nil
 | @cons p q ps qs h t ih =>
  rw[Ad];refine .cons ?_ ih;obtain⟨h1,h2,h3⟩:=h;unfold putAt;by_cases e:p.1=k
  ·rw[if_pos e,if_pos (h1.symm.trans e)];exact⟨h1,h2,ry⟩
  ·rw[if_neg e,if_neg (λz=>e (h1.trans z))];exact⟨h1,h2,h3⟩
def KT.put(r:KT H kvs xs) k (hb:H b=some (.tup (k.map kV))) (ry:RelV y u) :
  KT H (putK kvs k y) (storedH xs k b u):=by
 have e:(kvs.any λkv=>decide (kv.1=k))=(HV xs k).isSome:=by
  rw[TK,(r.val k).isSome_eq,HK]
 unfold putK storedH;rw[e];by_cases q:(HV xs k).isSome=true
 ·rw[if_pos q,if_pos q];exact r.repl k ry
 ·rw[if_neg q,if_neg q];exact Ik r ⟨rfl,hb,ry⟩
def KT.keeps(r:KT H kvs xs)(ht:∀ b ys,H b=some (.tup ys)->H' b=some (.tup ys)):KT H' kvs xs:=
 Paired.mapP r λ_ _ z=>⟨z.1,ht _ _ z.2.1,z.2.2⟩
section
variable {P:Ai}{w:A5}{H:Hp}{h:Heap}{a:Addr}
def Tj(ok:HOk P w H h)(e:Rd H a u):ObjOk P w H h a u:=e.ok ok
def OM(ok:HOk P w H h)(e:Rd H a (.dK kvs)):kvs.length<=AD/\(a == B4)=false/\∃ vs,KV kvs vs/\h.DictOf (mixKind P w) a vs:=
 show ObjOk P w H h a (.dK kvs) from Tj ok e
def dD(ok:HOk P w H h)(e:H a=some (.dK kvs)):kvs.length<=AD/\(a == B4)=false/\∃ vs,KV kvs vs/\h.DictOf (mixKind P w) a vs:=OM ok (.inl e)
def ND(ok:HOk P w H h)(e:H a=some (.tup (ks.map kV))):(FE (mixKind P w)).is h ks a:=by
 obtain⟨_,its,r,o,h1,h2,⟨n,h3⟩,_⟩:=(ok a _ e)
 exact⟨o,its.toArray,n,h1,h2,h3,by simpa using U0 r⟩
def Mg(ok:HOk P w H h)(e:Rd H a (.dT kvs)):kvs.length<=AD/\(a == B4)=false /\
  ∃ xs,KT H kvs xs/\h.DictOfH (FE (mixKind P w)) a xs:=by
 obtain⟨z,y,xs,r,o,es,ep,h1,h2,h3,h4,h5⟩:=(Tj ok e)
 refine⟨z,y,xs,r,o,es,ep,h1,h2,h3,h4,λx hx=>?_,h5⟩;have all:∀ {l:List (List Key×V)} {m:List (List Key×Addr×AM)},KT H l m->∀ x∈m,(FE (mixKind P w)).is h x.1 x.2.1:=by
  intro l m q;induction q with
  | nil=>intro x hx;exact nomatch hx
  | @cons p q ps qs hq t ih =>
   intro x hx;rcases AN.mp hx with e | hx
   ·exact ND ok (by simp_all)
   ·exact ih x hx
 exact all r x hx
def VH(ok:HOk P w H h)(e:H a=some (.dT kvs)):kvs.length<=AD/\(a == B4)=false /\
  ∃ xs,KT H kvs xs/\h.DictOfH (FE (mixKind P w)) a xs:=Mg ok (.inl e)
end
def DGet (H:Hp) (a:Addr) (y:V) (r:Option V):Prop:=
 (∃ kvs k,Rd H a (.dK kvs)/\y=kV k/\r=valV kvs k)\/∃ kvs k b,Rd H a (.dT kvs)/\y=.ref b/\H b=some (.tup (k.map kV))/\r=valV kvs k
def DPut (H:Hp) (a:Addr) (y v:V) (H':Hp):Prop:=
 (∃ kvs k,H a=some (.dK kvs)/\y=kV k/\kvs.length < AD/\H'=upd H a (.dK (putK kvs k v))) \/
 ∃ kvs k b,H a=some (.dT kvs)/\y=.ref b/\H b=some (.tup (k.map kV))/\kvs.length < AD/\H'=upd H a (.dT (putK kvs k v))
theorem DGet.k{a kvs k}(e:H a=some (.dK kvs)):DGet H a (kV k) (valV kvs k):=.inl ⟨kvs,k,.inl e,rfl,rfl⟩
def DGet.t{a b kvs k}(e:H a=some (.dT kvs))(eb:H b=some (.tup (k.map kV))):DGet H a (.ref b) (valV kvs k):=.inr ⟨kvs,k,b,.inl e,rfl,eb,rfl⟩
theorem DPut.k{a kvs k v}(e:H a=some (.dK kvs))(hl:kvs.length < AD):DPut H a (kV k) v (upd H a (.dK (putK kvs k v))):=.inl ⟨kvs,k,e,rfl,hl,rfl⟩
def DPut.t{a b kvs k v}(e:H a=some (.dT kvs))(eb:H b=some (.tup (k.map kV)))(hl:kvs.length < AD) :
  DPut H a (.ref b) v (upd H a (.dT (putK kvs k v))):=.inr ⟨kvs,k,b,e,rfl,eb,hl,rfl⟩
section
variable {X:Cx}{pins:List (Addr×Obj)}{σ:St}{H:Hp}{s:AR}{a:Addr}{y v:V}{u r:AM}{o:Option V}{A:BD}{E:AM->AR->Prop}
def Inv.big(I:Inv X pins σ H s):B4 < s.heap.objs.size:=Ja ∅ ((I.mod.glob.keeps I.bk).lt)
def Xm(hu:A.units+1 < DV)(I:Inv X pins σ H s)(g:DGet H a y (some v))(ry:RelV y u)(h:∀ w' s',Inv X pins σ H s'->RelV v w'->Q w' s') :
  AQ (model X.prog X.w) A (EF (.ref a) u) Q E s:=by
 rcases g with ⟨kvs,k,e,ey,l⟩ | ⟨kvs,k,b,e,ey,eb,l⟩
 ·subst ey;obtain⟨z,hd,vs,rel,dd⟩:=OM I.hok e;obtain⟨w',hw,rw'⟩:=RelO.some_of (by rw[l];exact rel.val k);exact wpAny_getItem_of (Ng ry) dd.mapOf hw (h w' _ (I.tok _) rw')
 ·subst ey;cases ry;obtain⟨z,hd,xs,rel,dd⟩:=Mg I.hok e;obtain⟨w',hw,rw'⟩:=RelO.some_of (by rw[l];exact rel.val k);obtain⟨p,hp,hp2⟩:=Option.map_eq_some_iff.mp hw;refine wpAny_getItem_heap (FX hu) (ND I.hok eb) dd hp ?_;rw[hp2];exact h w' _ (I.tok _) rw'
def Xv(hu:A.units+1 < DV)(I:Inv X pins σ H s)(g:DGet H a y o)(ry:RelV y u)(h:∀ s',Inv X pins σ H s'->Q (.bool (!o.isSome)) s') :
  AQ (model X.prog X.w) A (Bi .NotIn u (.ref a)) Q E s:=by
 rcases g with ⟨kvs,k,e,ey,l⟩ | ⟨kvs,k,b,e,ey,eb,l⟩
 ·subst ey;obtain⟨z,hd,vs,rel,dd⟩:=OM I.hok e;refine wpAny_notIn_of (Ng ry) hd dd.mapOf ?_;rw[← (rel.val k).isSome_eq,← l];exact h _ (I.tok _)
 ·subst ey;cases ry;obtain⟨z,hd,xs,rel,dd⟩:=Mg I.hok e;refine wpAny_notIn_heap (FX hu) (ND I.hok eb) hd dd ?_;have q:=(rel.val k).isSome_eq;rw[HK]at q;rw[← q,← l];exact h _ (I.tok _)
def PF(I:Inv X pins σ H s)(mu:Mut (H a))(hs:Cm a s.heap h')(he:∃ q,h'.get? a=some q)(new:ObjOk X.prog X.w (upd H a ob) h' a ob) :
  Inv X pins σ (upd H a ob) { s with heap:=h',toks:=t' }:=
 I.write mu (.inl rfl) (λb q hb z=>(hs.2 b hb).trans z) he new
def UT(z:kvs.length<=AD)(hd:(a == B4)=false)(rel:KV kvs vs)(dd:h'.DictOf (mixKind P w) a vs) :
  ObjOk P w H' h' a (.dK kvs):=⟨z,hd,vs,rel,dd⟩
def We(hu:A.units+1 < DV)(I:Inv X pins σ H s)(g:DPut H a y v H')(ry:RelV y u)(rv:RelV v r)(h:∀ s',Inv X pins σ H' s'->Q () s') :
  AQ (model X.prog X.w) A (Iw (.ref a) u r) Q E s:=by
 rcases g with ⟨kvs,k,e,ey,l,eH⟩ | ⟨kvs,k,b,e,ey,eb,l,eH⟩
 ·subst ey eH;obtain⟨z,hd,vs,rel,dd⟩:=dD I.hok e;have hz:vs.length<=AD:=by rw[← rel.length];exact z
  have hl:(putK kvs k v).length<=AD:=by have:=PP kvs k v;lia
  refine wpAny_setItem_pairs (Ng ry) dd λh' dd' hs=>h _ ?_
  have he:∃ q,h'.get? a=some q:=let ⟨q,_,_,hq,_⟩:=dd';⟨q,hq⟩;exact PF I (by rw[e];exact Cz) hs he (UT hl hd (rel.put k rv) dd')
 ·subst ey eH;cases ry;obtain⟨z,hd,xs,rel,dd⟩:=VH I.hok e;have hz:xs.length<=AD:=by rw[← Dn rel];exact z
  have hl:(putK kvs k v).length<=AD:=by have:=PP kvs k v;lia
  refine wpAny_setItem_heap (hsz:=hz) (FX hu) (ND I.hok eb) dd λh' dd' hs=>h _ ?_
  obtain⟨q,es,ep,hq,h2,h3,h4,_,h5⟩:=dd';refine PF I (by rw[e];exact Cz) hs ⟨q,hq⟩ ⟨hl,hd,_,(rel.put k eb rv).keeps λc ys ec=>?_,q,es,ep,hq,h2,h3,h4,h5⟩;rw[LG (Ta ec e (λz=>nomatch z))];exact ec
end
def NoSl (i:Expr):Prop:=∀ ov iv,subscripted i false ov iv=operate [ov,iv] (EF ov iv)
def hU{A E s env value slice pos T id Q}
  (hl:FW (.type T) "__getitem__"=pure (some (.builtin id))) (hs:NoSl slice)
  (h:AQ (model prog w) A (eval value env) (λo s₁=>AQ (model prog w) A (eval slice env) (λi s₂=>s₂.TypeIs o T/\AQ (model prog w) A (EF o i) Q E s₂) E s₁) E s) :
  AQ (model prog w) A (eval (.Subscript value slice pos) env) Q E s:=by
 refine Ih (BE h (λo s₁ h₁=>BE h₁ (λi s₂ h₂=>?_) λ_ _ x=>x) λ_ _ x=>x);obtain⟨hT,h₂⟩:=h₂;refine AA (AA (CL hT hl ?_));have fin:AQ (model prog w) A (subscripted slice false o i) (λr s₃=>AQ (model prog w) A (letTemporaryGo value o r >>= λ_=>pure r) Q E s₃) E s₂:=by
  rw[hs o i];exact wpAny_operating (BE h₂ (λr s₃ h₃=>AA (wpAny_letTemporaryGo (AF h₃))) λ_ _ x=>x)
 first
  | exact AF (AA fin)
  | exact AA (AF (AA fin))
  | exact AA fin
def Yo(I:Inv X pins σ H s)(g:DGet H a y o):s.TypeIs (.ref a) "dict":=by
 rcases g with ⟨kvs,k,e,_,_⟩ | ⟨kvs,k,b,e,_,_,_⟩
 ·obtain⟨_,_,vs,_,dd⟩:=OM I.hok e;exact dd.typeIs
 ·obtain⟨_,_,xs,_,dd⟩:=Mg I.hok e;exact dd.typeIs
def tDGet (td ty:TE):TE:=λσ H Q=>td σ H λx H1=>ty σ H1 λy H2=>∃ a v,x=.ref a/\DGet H2 a y (some v)/\Q v H2
def tDNotIn (ty td:TE):TE:=λσ H Q=>ty σ H λy H1=>td σ H1 λx H2=>∃ a o,x=.ref a/\DGet H2 a y o/\Q (.bl (!o.isSome)) H2
def sDPut (td ty tv:TE):TS:=λD σ H=>tv σ H λv H1=>td σ H1 λx H2=>ty σ H2 λy H3=>∃ a H4,x=.ref a/\DPut H3 a y v H4/\D.nx σ H4
section
variable {X:Cx}{o i e value:Expr}{pos pos' tpos:Pos}{td ty tv:TE}
def RB(hu:X.A.units+1 < DV)(ho:PE X o td)(hi:PE X i ty)(hs:NoSl i):PE X (.Subscript o i pos) (tDGet td ty):=by
 intro pins s σ H Q I h;refine hU PySem.F.slot_dict_getitem.lookup hs (thn (ho pins s σ H _ I h) λu s1 ⟨x,H1,I1,rx,q1⟩=>thn (hi pins s1 σ H1 _ I1 q1) λiv s2 ⟨y,H2,I2,ry,a,v,ex,g,q2⟩=>?_);subst ex;obtain rfl:u=B3 a:=rx;exact⟨Yo I2 g,Xm hu I2 g ry λw' s3 I3 rw'=>⟨v,H2,I3,rw',q2⟩⟩
def bP(hu:X.A.units+1 < DV)(hi:PE X i ty)(ho:PE X o td):PC X .NotIn i o (tDNotIn ty td):=by
 intro pins s σ H Q I h;refine thn (hi pins s σ H _ I h) λiv s1 ⟨y,H1,I1,ry,q1⟩=>thn (ho pins s1 σ H1 _ I1 q1) λu s2 ⟨x,H2,I2,rx,a,ov,ex,g,q2⟩=>?_
 subst ex;obtain rfl:u=B3 a:=rx;exact Xv hu I2 g ry λs3 I3=>⟨.bl (!ov.isSome),H2,I3,rfl,q2⟩
def dR(hu:X.A.units+1 < DV)(ho:PE X o td)(hi:PE X i ty)(hv:PE X value tv)(hs:DX value (some (.Subscript o i pos')) pos.line X.env=pure false) :
  PS X (.Assign [.Subscript o i pos'] value pos) (sDPut td ty tv):=by
 intro pins s σ H D I h;refine wpAny_Assign_Subscript (thn (hv pins s σ H _ I h) λr s1 ⟨v,H1,I1,rv,q1⟩=>thn (ho pins s1 σ H1 _ I1 q1) λu s2 ⟨x,H2,I2,rx,q2⟩=>thn (hi pins s2 σ H2 _ I2 q2) λiv s3 ⟨y,H3,I3,ry,a,H4,ex,g,q3⟩=>?_) hs;subst ex;obtain rfl:u=B3 a:=rx;exact We hu I3 g ry rv λs4 I4=>⟨σ,H4,I4,q3⟩
end
def T3(h:Heap)(hb:B4 < h.objs.size):ObjOk P w H (h.push { cls:=.type "dict",data:=.dict #[] }) h.objs.size (.dT []):=
 ⟨Au _,beq_eq_false_iff_ne.mpr (Ax (Ag hb)),[],.nil,_,#[],0,AK _ rfl,⟨rfl,rfl,rfl⟩,rfl,rfl,F7⟩
def tDNewT:TE:=λ_ H Q=>∀ p,H p=none->Q (.ref p) (upd H p (.dT []))
section
variable {X:Cx}{pos:Pos}
def fj:PE X (.Dict [] [] pos) tDNewT:=λpins s σ H Q I h =>
 wpAny_Dict_empty ⟨.ref s.heap.objs.size,_,I.laid (λ_ _ q=>AB _ q) (AE _) (T3 s.heap I.big),rfl,h _ (I.hok.fresh (AE _))⟩
end
def tPairs:List (TE×TE)->St->Hp->(List (V×V)->Hp->Prop)->Prop
 | [],_,H,Q=>Q [] H
 | (tk,tv)::r,σ,H,Q=>tk σ H λx H1=>tv σ H1 λy H2=>tPairs r σ H2 λps H3=>Q ((x,y)::ps) H3
abbrev VV:List (V×V)->List (AM×AM)->Prop:=EI λp q=>RelV p.1 q.1/\RelV p.2 q.2
def PPs (X:Cx) (pos:Pos) (keys:List (Option Expr)) (values:List Expr) (trs:List (TE×TE)):Prop:=
 ∀ pins s (σ:St) H Q,Inv X pins σ H s->tPairs trs σ H Q ->
  AQ (model X.prog X.w) X.A (evalPairs (pairTrees keys values X.env pos)) (λvs s'=>∃ ps H',Inv X pins σ H' s'/\VV ps vs/\Q ps H') X.xe s
def VS:PPs X pos [] [] []:=λpins s σ H Q I h=>pairTrees_nil_walk ⟨[],H,I,.nil,h⟩
def kF(hk:PE X k tk)(hv:PE X v tv)(hr:PPs X pos ks vs trs) :
  PPs X pos (some k::ks) (v::vs) ((tk,tv)::trs):=λpins s σ H Q I h =>
 pairTrees_cons_walk (thn (hk pins s σ H _ I h) λu s1 ⟨x,H1,I1,rx,q1⟩=>thn (hv pins s1 σ H1 _ I1 q1) λw2 s2 ⟨y,H2,I2,ry,q2⟩ =>
  thn (hr pins s2 σ H2 _ I2 q2) λws s3 ⟨ps,H3,I3,rel,q3⟩=>⟨(x,y)::ps,H3,I3,.cons ⟨rx,ry⟩ rel,q3⟩)
def mergeK (kvs more:List (Key×V)):List (Key×V):=more.foldl (λacc kv=>putK acc kv.1 kv.2) kvs
theorem KV.merge:∀ {more rs kvs vs},KV more rs->KV kvs vs->KV (mergeK kvs more) (merged vs rs):=by
 intro more rs kvs vs r;induction r generalizing kvs vs with
 | nil=>intro q;exact q
 | @cons p q ps qs h t ih =>
  intro r0;have e:KV (putK kvs p.1 p.2) (stored vs q.1 q.2):=by
   have:=r0.put p.1 h.2;rw[← h.1];exact this
  exact ih e
theorem So:∀ more kvs,(mergeK kvs more).length<=kvs.length+more.length
 | [],kvs=>by show kvs.length<=kvs.length+0;lia
 | p::r,kvs=>by
  have h1:=So r (putK kvs p.1 p.2);have h2:=PP kvs p.1 p.2;show (mergeK (putK kvs p.1 p.2) r).length<=_
  grind
end L2
namespace D
open PySem L2
noncomputable def keyT:T->Option Key
 | .a (.int n)=>some (.inl n)
 | .a (.str x)=>some (.inr x)
 | _=>none
noncomputable def keyTs:List T->Option (List Key)
 | []=>some []
 | t::r=>(keyT t).bind λk=>(keyTs r).map λks=>k::ks
def OP(h:Im K H y t)(e:keyT t=some k):y=kV k:=by
 unfold keyT at e;split at e
 ·cases e;exact h.inva
 ·cases e;exact h.inva
 ·cases e
theorem QH:∀ {vs ts ks},Ims K H vs ts->keyTs ts=some ks->vs=ks.map kV
 | _,[],_,h,e=>by cases e;exact h.inv0
 | _,t::r,_,h,e=>by
  obtain⟨v,vs,rfl,h1,h2⟩:=h.inv;obtain⟨k,e1,e⟩:=bind_some e;obtain⟨ks,e2,rfl⟩:=LF e;rw[OP h1 e1,QH h2 e2];rfl
def KC (K:Fg) (cs:List (List Key)):Prop:=∀ p ks,KT K p (ks.map kV)->ks∈cs
section
variable {κ:Type} [DecidableEq κ]
noncomputable def valT (kvs:List (κ×T)) (k:κ):Option T:=(kvs.find? λkv=>decide (kv.1=k)).map (·.2)
noncomputable def putT (kvs:List (κ×T)) (k:κ) (t:T):List (κ×T):=
 if (kvs.any λkv=>decide (kv.1=k))=true then kvs.map (λkv=>if kv.1=k then (kv.1,t) else kv) else kvs++[(k,t)]
def PR (K:Fg) (H:Hp) (l:List (κ×V)) (kvs:List (κ×T)):Prop:=EI (λa b=>a.1=b.1/\Im K H a.2 b.2) l kvs
variable {K:Fg}{H:Hp}
theorem PR.val{kvs}(h:PR K H l kvs)(k:κ):(valV l k=none/\valT kvs k=none)\/∃ v t,valV l k=some v/\valT kvs k=some t/\Im K H v t:=by
 induction h with
 | nil=>exact .inl ⟨rfl,rfl⟩
 | @cons a b l kvs hab _ ih =>
  by_cases e:a.1=k
  ·refine .inr ⟨a.2,b.2,Od e,?_,hab.2⟩;simp[valT,← hab.1,e]
  ·rw[N0 e];have:valT (b::kvs) k=valT kvs k:=by simp[valT,← hab.1,e]
   rw[this];exact ih
theorem PR.any{kvs}(h:PR K H l kvs)(k:κ):(l.any λkv=>decide (kv.1=k))=kvs.any λkv=>decide (kv.1=k):=by
 induction h with
 | nil=>rfl
 | @cons a b l kvs hab _ ih=>rw[B6,B6,ih,hab.1]
theorem PR.app{kvs mvs:List (κ×T)}(h:PR K H l kvs)(h':PR K H m mvs):PR K H (l++m) (kvs++mvs):=by
 induction h with
 | nil=>exact h'
 | @cons a b l kvs hab _ ih=>exact .cons hab ih
def PR.put{l kvs}(h:PR K H l kvs)(k:κ)(hv:Im K H v t):PR K H (putK l k v) (putT kvs k t):=by
 unfold putK putT;rw[h.any k];split
 ·rename_i hx;clear hx;induction h with
  | nil=>exact .nil
  | @cons a b l kvs hab _ ih =>
   rw[Ad,Ad];refine .cons ?_ ih;by_cases e:a.1=k
   ·rw[if_pos e,if_pos (hab.1 ▸ e)];exact⟨hab.1,hv⟩
   ·rw[if_neg e,if_neg (hab.1 ▸ e)];exact hab
 ·exact h.app (.cons ⟨rfl,hv⟩ .nil)
def PR.len{kvs:List (κ×T)}(h:PR K H l kvs):l.length=kvs.length:=Dn h
end
noncomputable def dictOf (Γ:En):S->Option Dk
 | .d d=>some d
 | .s i=>match Γ[i]? with
  | some (some (.d d))=>some d
  | some (some (.e d))=>some d
  | _=>none
 | _=>none
noncomputable def getX (cs:List (List Key)) (d:Dk) (t:T):Option (Option T):=match d,t with
 | .inl kvs,t=>(keyT t).map λk=>valT kvs k
 | .inr kvs,.t ts=>(keyTs ts).bind λks=>if (cs.any λc=>decide (c=ks))=true then none else some (valT kvs ks)
 | _,_=>none
noncomputable def putX (cs:List (List Key)) (d:Dk) (t v:T):Option Dk:=match d,t with
 | .inl kvs,t=>(keyT t).bind λk=>if kvs.length < AD then some (.inl (putT kvs k v)) else none
 | .inr kvs,.t ts=>(keyTs ts).bind λks=>if (cs.any λc=>decide (c=ks))=true then none else if kvs.length < AD then some (.inr (putT kvs ks v)) else none
 | _,_=>none
section
variable {K:Fg}{C:Fr}{w:W}{Γ:En}{σ:St}{H:Hp}{cs:List (List Key)}
theorem Nh(R:Rep K C w Γ σ H)(o:SOk K C w σ H x s)(e:dictOf Γ s=some d):∃ p ob,x=.ref p/\H p=some ob/\DOk K H ob d:=by
 cases s with
 | v t=>cases e
 | l _=>cases e
 | d d' =>
  cases e;obtain⟨p,ob,rfl,_,_,_,h1,h2⟩:=o;exact⟨p,ob,rfl,h1,h2⟩
 | s i =>
  unfold dictOf at e;have o':=o;dsimp only at e;split at e
  ·rename_i d' hi;cases e;obtain⟨v,e1,p,ob,rfl,_,h1,h2⟩:=R.val i _ hi;rw[o']at e1;cases e1;exact⟨p,ob,rfl,h1,h2⟩
  ·rename_i d' hi;cases e;obtain⟨v,e1,p,ob,rfl,h2,h1,_⟩:=R.val i _ hi;rw[o']at e1;cases e1;exact⟨p,ob,rfl,h1,h2⟩
  ·cases e
theorem DOk.invK(h:DOk K H ob (.inl kvs)):∃ l,ob=.dK l/\PR K H l kvs:=by
 cases ob with
 | dK l=>exact⟨l,rfl,h⟩
 | _=>exact h.elim
theorem DOk.invT(h:DOk K H ob (.inr kvs)):∃ l,ob=.dT l/\PR K H l kvs:=by
 cases ob with
 | dT l=>exact⟨l,rfl,h⟩
 | _=>exact h.elim
def QF(hc:KC K cs)(h:Im K H y (.t ts))(e:keyTs ts=some ks)(n:¬ (cs.any λc=>decide (c=ks))=true):∃ b,y=.ref b/\H b=some (.tup (ks.map kV)):=by
 obtain⟨b,vs,rfl,h1,h2⟩:=h.inv;have:=QH h2 e;subst this;rcases h1 with h1 | h1
 ·exact⟨b,rfl,h1⟩
 ·exact absurd (B8.mpr ⟨ks,hc b ks h1,decide_eq_true rfl⟩) n
def UG(hc:KC K cs)(hp:H p=some ob)(hd:DOk K H ob d)(hy:Im K H y t)(e:getX cs d t=some r) :
  ∃ r',DGet H p y r'/\((r=none/\r'=none)\/∃ t' v',r=some t'/\r'=some v'/\Im K H v' t'):=by
 unfold getX at e;split at e
 ·obtain⟨l,rfl,h1⟩:=hd.invK;obtain⟨k,e1,rfl⟩:=LF e;rw[OP hy e1];refine⟨_,DGet.k hp,?_⟩;rcases h1.val k with ⟨a,b⟩ | ⟨v,t',a,b,c⟩
  ·exact .inl ⟨b,a⟩
  ·exact .inr ⟨t',v,b,a,c⟩
 ·obtain⟨l,rfl,h1⟩:=hd.invT;obtain⟨ks,e1,e⟩:=bind_some e;split at e
  ·cases e
  ·rename_i n;cases e;obtain⟨b,rfl,h2⟩:=QF hc hy e1 n;refine⟨_,DGet.t hp h2,?_⟩;rcases h1.val ks with ⟨a,b⟩ | ⟨v,t',a,b,c⟩
   ·exact .inl ⟨b,a⟩
   ·exact .inr ⟨t',v,b,a,c⟩
 ·cases e
def V9(hc:KC K cs)(hp:H p=some ob)(hd:DOk K H ob d)(hy:Im K H y t)(hv:Im K H v tv)(e:putX cs d t tv=some d') :
  ∃ ob',DPut H p y v (upd H p ob')/\DOk K H ob' d':=by
 unfold putX at e;split at e
 ·obtain⟨l,rfl,h1⟩:=hd.invK;obtain⟨k,e1,e⟩:=bind_some e;split at e
  ·rename_i hl;cases e;rw[OP hy e1];exact⟨_,DPut.k hp (by rw[h1.len];exact hl),h1.put k hv⟩
  ·cases e
 ·obtain⟨l,rfl,h1⟩:=hd.invT;obtain⟨ks,e1,e⟩:=bind_some e;split at e
  ·cases e
  ·rename_i n;split at e
   ·rename_i hl;cases e;obtain⟨b,rfl,h2⟩:=QF hc hy e1 n;exact⟨_,DPut.t hp h2 (by rw[h1.len];exact hl),h1.put ks hv⟩
   ·cases e
 ·cases e
end
noncomputable def getS (cs:List (List Key)):En->S->S->Option S:=λΓ a b=>(dictOf Γ a).bind λd=>match b with
 | .v t=>(getX cs d t).bind λr=>r.map .v
 | _=>none
noncomputable def dinS (cs:List (List Key)) (neg:Bool):En->S->S->Option S:=λΓ a b=>(dictOf Γ b).bind λd=>match a with
 | .v t=>(getX cs d t).map λr=>.v (.a (.bl (if neg then !r.isSome else r.isSome)))
 | _=>none
noncomputable def rDGet:R2:=λx y H Q=>∃ a v,x=.ref a/\DGet H a y (some v)/\Q v H
noncomputable def rDNotIn:R2:=λy x H Q=>∃ a o,x=.ref a/\DGet H a y o/\Q (.bl (!o.isSome)) H
section
variable {K:Fg}{cs:List (List Key)}
def iH(hc:KC K cs):SimR2 K rDGet (getS cs):=by
 intro C w Γ σ H x y a b s Q R ox oy e k;obtain⟨d,e1,e⟩:=bind_some e;split at e
 ·obtain⟨r,e2,e⟩:=bind_some e;obtain⟨p,ob,rfl,hp,hd⟩:=Nh R ox e1;obtain⟨r',g,z⟩:=UG hc hp hd oy e2;rcases z with ⟨z,_⟩ | ⟨t2,v2,z1,z2,z3⟩
  ·subst z;cases e
  ·subst z1 z2;cases e;exact⟨p,v2,rfl,g,k _ H R .refl z3 trivial⟩
 ·cases e
def ZO(hc:KC K cs):SimR2 K rDNotIn (dinS cs true):=by
 intro C w Γ σ H x y a b s Q R ox oy e k;obtain⟨d,e1,e⟩:=bind_some e;split at e
 ·obtain⟨r,e2,rfl⟩:=LF e;obtain⟨p,ob,rfl,hp,hd⟩:=Nh R oy e1;obtain⟨r',g,z⟩:=UG hc hp hd ox e2;have hr:r'.isSome=r.isSome:=by rcases z with ⟨z1,z2⟩ | ⟨t2,v2,z1,z2,_⟩ <;> rw[z1,z2] <;> rfl
  exact⟨p,r',rfl,g,by rw[hr];exact k _ H R .refl SOk.atom trivial⟩
 ·cases e
noncomputable def dDNew (b:Bool):DE:=λΓ=>some (.d (if b then .inr [] else .inl []),Γ)
def W4:SimE K tDNewT (dDNew true):=by
 intro C w Γ σ H s Γ' Q R e k;cases e;exact λp hp=>k _ _ (R.new hp) (Evo.new hp) (R.newd hp .nil) ⟨p,rfl,hp⟩
noncomputable def isDs (Γ:En) (i:Nat):Bool:=match Γ[i]? with
 | some (some (.d _))=>true
 | _=>false
noncomputable def dDPut (cs:List (List Key)) (i:Nat) (fk fv:DE):DS:=λΓ=>(fv Γ).bind λp=>match p.1 with
 | .v tv=>if isDs p.2 i=true then (fk p.2).bind λq=>match q.1,q.2[i]? with
  | .v tk,some (some (.d d))=>(putX cs d tk tv).map λd'=>.nx (q.2.set i (some (.d d')))
  | _,_=>none
  else none
 | _=>none
theorem Y7(hc:KC K cs)(hk:SimE K ty fk)(hv:SimE K tv fv):SimS K ip (sDPut (tVar i) ty tv) (dDPut cs i fk fv):=by
 intro C w Γ σ H D o hpin R e k;obtain⟨⟨a,G1⟩,e1,e⟩:=bind_some e;dsimp only at e;cases a with
 | l _=>cases e
 | s _=>cases e
 | d _=>cases e
 | v t1 =>
  dsimp only at e;by_cases hl:isDs G1 i=true
  ·rw[if_pos hl]at e;obtain⟨⟨b,G2⟩,e2,e⟩:=bind_some e;dsimp only at e;split at e
   rotate_left
   ·cases e
   rename_i tk d hi;obtain⟨d',e3,rfl⟩:=LF e;refine hv C w Γ σ H _ G1 _ R e1 λv H1 R1 ev1 o1 n1=>?_
   obtain⟨d0,hd0⟩:∃ d0,G1[i]?=some (some (.d d0)):=by
    unfold isDs at hl;split at hl
    ·rename_i d0 h0;exact⟨d0,h0⟩
    ·cases hl
   obtain⟨v0,s1,p,ob,rfl,m0,h0,q0⟩:=R1.val i _ hd0;refine⟨.ref p,s1,hk C w G1 σ H1 _ G2 _ R1 e2 λy H2 R2 ev2 o2 n2=>?_⟩;obtain⟨v3,s3,p3,ob3,rfl,m3,h3,q3⟩:=R2.val i _ hi;rw[s1]at s3;cases s3;obtain⟨ob',g,z⟩:=V9 hc h3 q3 o2 (Im.evo ev2 R1.lst o1) e3;exact⟨p,_,rfl,g,k w σ _ (R2.putD hi s1 z).1⟩
  ·rw[if_neg hl]at e;cases e
end
section
variable {ι:Type}{K:Fg}{mg:Str->Option AM}{k:Nat}{X:ι->Cx}{cs:List (List Key)}{o i e f:Expr}{fo fk fx:DE}{pos apos cpos:Pos}{ip:Option Nat}
def M8(M:Fm K mg k X) j:(X j).A.units+1 < DV:=by have:=(M.room j).un;lia
def VZ(M:Fm K mg k X)(hc:KC K cs)(ho:EX K X o fo)(hk:EX K X i fk)(hs:NoSl i:=by intro _ _;rfl):EX K X (.Subscript o i pos) (dOp (getS cs) fo fk):=
 let ⟨_,p,s⟩:=ho;let ⟨_,q,u⟩:=hk;⟨_,λj=>RB (M8 M j) (p j) (q j) hs,Mb (iH hc) s u⟩
def cD(M:Fm K mg k X)(hc:KC K cs)(hk:EX K X i fk)(ho:EX K X o fo)(hm:Bo .NotIn o=false:=by rfl):TX K X (.Compare i [.NotIn] [o] pos) (dTest (dOp (dinS cs true) fk fo)):=
 let ⟨_,p,s⟩:=ho;let ⟨_,q,u⟩:=hk;⟨_,λj=>gR (bP (M8 M j) (q j) (p j)) hm,O3 (Mb (ZO hc) u s)⟩
def ik:EX K X (.Dict [] [] pos) (dDNew true):=⟨_,λ_=>fj,W4⟩
def Yl n (M:Fm K mg k X) (hc:KC K cs) (ho:∀ j,PE (X j) (.Name y yp) (tVar n)) (hk:EX K X i fk) (hv:EX K X e fx) (hs:∀ j,DX e (some (.Subscript (.Name y yp) i p2)) pos.line (X j).env=pure false:=by intro _;rfl) :
  SX K X ip (.Assign [.Subscript (.Name y yp) i p2] e pos) (dDPut cs n fk fx):=
 let ⟨_,q,u⟩:=hk;let ⟨_,r,v⟩:=hv;⟨_,λj=>dR (M8 M j) (ho j) (q j) (r j) (hs j),Y7 hc u v⟩
end
section
variable {Γ:En}{cs:List (List Key)}{fo fk fx:DE}{i:Nat}
@[simp] theorem oK:dictOf Γ (.d d)=some d:=(rfl)
@[simp] theorem mS:dictOf Γ (.s i)=match Γ[i]? with
  | some (some (.d d))=>some d
  | some (some (.e d))=>some d
  | _=>none:=(rfl)
@[simp] theorem km:getS cs Γ a (.v t)=(dictOf Γ a).bind λd=>(getX cs d t).bind λr=>r.map .v:=(rfl)
@[simp] theorem nQ:dinS cs neg Γ (.v t) b=(dictOf Γ b).bind λd=>(getX cs d t).map λr=>.v (.a (.bl (if neg then !r.isSome else r.isSome))):=(rfl)
@[simp] theorem l4:dDNew b Γ=some (.d (if b then .inr [] else .inl []),Γ):=(rfl)
@[simp] theorem md:isDs Γ i=match Γ[i]? with
 | some (some (.d _))=>true
 | _=>false:=(rfl)
@[simp] theorem mq:dDPut cs i fk fv Γ=(fv Γ).bind λp=>match p.1 with
 | .v tv=>if isDs p.2 i=true then (fk p.2).bind λq=>match q.1,q.2[i]? with
  | .v tk,some (some (.d d))=>(putX cs d tk tv).map λd'=>.nx (q.2.set i (some (.d d')))
  | _,_=>none
  else none
 | _=>none:=(rfl)
end
end D
namespace L2
open PySem PySem.Spec PyProof.Rows
def tDisp1 (tk tv:TE):TE:=λσ H Q=>∀ p,H p=none->tk σ (upd H p (.dT [])) λx H1=>tv σ H1 λy H2=>H2 p=some (.dT [])/\∃ b ks,x=.ref b/\H2 b=some (.tup (ks.map kV))/\Q (.ref p) (upd H2 p (.dT [(ks,y)]))
theorem bV(hu:X.A.units+1 < DV)(hk:PE X e tk)(hv:PE X f tv):PE X (.Dict [some e] [f] pos) (tDisp1 tk tv):=by
 intro pins s σ H Q I q;have hn:=I.hok.fresh (AE s.heap.objs.size);refine wpAny_Dict_any rfl rfl ↥1 (by show 1<=15;decide) (thn ((kF hk hv VS) pins _ σ _ (λps H2=>match ps with
  | [(x,y)]=>H2 s.heap.objs.size=some (.dT [])/\∃ b ks,x=.ref b/\H2 b=some (.tup (ks.map kV))/\Q (.ref s.heap.objs.size) (upd H2 s.heap.objs.size (.dT [(ks,y)]))
  | _=>False) (I.laid (λ_ _ q=>AB _ q) (AE _) (T3 s.heap I.big)) (q _ hn)) λws s2 ⟨ps,H2,I2,rel,q2⟩=>?_)
 cases rel with
 | nil=>exact q2.elim
 | @cons p1 p2 _ _ hp t =>
  cases t with
  | cons _ _=>exact q2.elim
  | nil =>
   obtain⟨x,y⟩:=p1;obtain⟨w1,w2⟩:=p2;obtain⟨r1,r2⟩:=hp;obtain⟨e,b,ks,rfl,eb,q2⟩:=q2;cases r1;obtain⟨z,hd,xs,rl,dd⟩:=VH I2.hok e;have rl':=rl;cases rl;unfold storeAll;rw[EM];refine AA (AA (wpAny_dictSet_heap (Nat.lt_of_succ_lt hu) (ND I2.hok eb) dd λh' dd' hs=>AF (AF ⟨.ref s.heap.objs.size,_,?_,rfl,q2⟩)));obtain⟨q,es,ep,hq,h2,h3,h4,_,h5⟩:=dd';refine PF I2 (by rw[e];exact Cz) hs ⟨q,hq⟩ ⟨by show 1<=AD;decide,hd,_,(rl'.put ks eb r2).keeps λc ys ec=>?_,q,es,ep,hq,h2,h3,h4,h5⟩;rw[LG (Ta ec e (λz=>nomatch z))];exact ec
end L2
namespace D
open PySem L2
section
variable {K:Fg}{C:Fr}{w:W}{Γ:En}{σ:St}{H:Hp}
def Rep.tmp(r:Rep K C w Γ σ H)(n1:p∉w.L)(n2:¬ w.R p)(ow:Ow C p)(hp:H p=some ob)(m:Mu ob):Rep K C w Γ σ (upd H p ob'):=by
 have ev:Evo (p::w.L) H (upd H p ob'):=λc o e n=>by rw[LG (λz=>n (by rw[z];exact AG))];exact e
 have hL:LL (p::w.L) H:=λq hq=>by
  rcases AN.mp hq with z | z
  ·subst z;exact⟨ob,hp,m⟩
  ·exact r.lst q z
 have nl:∀ {q:Addr},q∈w.L->q≠p:=λhq z=>n1 (z ▸ hq)
 have nr:∀ {q:Addr},w.R q->q≠p:=λhq z=>n2 (z ▸ hq)
 refine⟨r.len,λi g h=>?_,r.apart,λq hq=>?_,r.own,λq hq=>?_,r.rl,λb o hb n=>?_,r.pin⟩
 ·obtain⟨v,e1,e2⟩:=r.val i g h;refine⟨v,e1,?_⟩;cases g with
  | v t=>exact Im.evo ev hL e2
  | l xs=>obtain⟨q,vs,rfl,hq,hv,hi⟩:=e2;exact⟨q,vs,rfl,hq,by rw[LG (nl hq)];exact hv,hi.evo ev hL⟩
  | r xs=>obtain⟨q,vs,rfl,hi,hv,a,b⟩:=e2;exact⟨q,vs,rfl,hi.evo ev hL,by rw[LG (nr b)];exact hv,a,b⟩
  | k xs=>obtain⟨q,vs,rfl,hi,hk⟩:=e2;exact⟨q,vs,rfl,hi.evo ev hL,hk.evo ev hL⟩
  | d xs=>obtain⟨q,o,rfl,hq,hv,hi⟩:=e2;exact⟨q,o,rfl,hq,by rw[LG (nl hq)];exact hv,hi.evo ev hL⟩
  | e xs=>obtain⟨q,o,rfl,hi,hv,a,b⟩:=e2;exact⟨q,o,rfl,hi.evo ev hL,by rw[LG (nr b)];exact hv,a,b⟩
 ·obtain⟨o,e,m⟩:=r.lst q hq;exact⟨o,by rw[LG (nl hq)];exact e,m⟩
 ·obtain⟨o,e⟩:=r.ra q hq;exact⟨o,by rw[LG (nr hq)];exact e⟩
 ·have:b≠p:=λz=>by
   subst z;rcases ow with ow | ow
   ·exact n ow
   ·rw[ow]at hb;cases hb
  rw[LG this];exact (r.frame b o hb n)
end
noncomputable def dDisp1 (cs:List (List Key)) (fk fv:DE):DE:=λΓ=>(fk Γ).bind λp=>(fv p.2).bind λq=>match p.1,q.1 with
 | .v (.t ts),.v t=>(keyTs ts).bind λks=>if (cs.any λc=>decide (c=ks))=true then none else some (.d (.inr [(ks,t)]),q.2)
 | _,_=>none
def Wf(hc:KC K cs)(hk:SimE K tk fk)(hv:SimE K tv fv):SimE K (tDisp1 tk tv) (dDisp1 cs fk fv):=by
 intro C w Γ σ H s Γ' Q R e k;obtain⟨⟨a,G1⟩,e1,e⟩:=bind_some e;obtain⟨⟨b,G2⟩,e2,e⟩:=bind_some e;dsimp only at e;obtain⟨ts,t,rfl,rfl⟩:∃ ts t,a=.v (.t ts)/\b=.v t:=by
  split at e
  ·exact⟨_,_,rfl,rfl⟩
  ·cases e
 obtain⟨ks,e3,e⟩:=bind_some e;split at e
 ·cases e
 rename_i n;cases e;intro p hp;obtain⟨n1,n2,ow⟩:=R.fresh hp;refine hk C w Γ σ _ _ G1 _ (R.new hp) e1 λx H1 R1 ev1 o1 _=>hv C w G1 σ H1 _ _ _ R1 e2 λy H2 R2 ev2 o2 _=>?_
 have hp2:=ev2 p _ (ev1 p _ Ld n1) n1;obtain⟨b,rfl,hb⟩:=QF hc (Im.evo ev2 R1.lst o1) e3 n;refine⟨hp2,b,ks,rfl,hb,k _ _ (R2.tmp n1 n2 ow hp2 trivial) (λc o hcc nn=>?_) ⟨p,_,rfl,n1,n2,ow,Ld,?_⟩ ⟨p,rfl,hp⟩⟩
 ·have ne:=Lc hcc hp;rw[LG ne];exact (ev1.trans ev2) c o (by rw[LG ne];exact hcc) nn
 ·have ev3:Evo (p::w.L) H2 (upd H2 p (.dT [(ks,y)])):=λc o e n=>by rw[LG (λz=>n (by rw[z];exact AG))];exact e
  have hL3:LL (p::w.L) H2:=λq hq=>by
   rcases AN.mp hq with z | z
   ·subst z;exact⟨_,hp2,trivial⟩
   ·exact R2.lst q z
  exact (.cons ⟨rfl,Im.evo ev3 hL3 o2⟩ .nil)
section
variable {ι:Type}{K:Fg}{mg:Str->Option AM}{k:Nat}{X:ι->Cx}{cs:List (List Key)}{e f:Expr}{fk fx:DE}{pos:Pos}{Γ:En}
def bA(M:Fm K mg k X)(hc:KC K cs)(hk:EX K X e fk)(hx:EX K X f fx):EX K X (.Dict [some e] [f] pos) (dDisp1 cs fk fx):=
 let ⟨_,p,s⟩:=hk;let ⟨_,q,u⟩:=hx;⟨_,λj=>bV (M8 M j) (p j) (q j),Wf hc s u⟩
@[simp] theorem lr:dDisp1 cs fk fx Γ=(fk Γ).bind λp=>(fx p.2).bind λq=>match p.1,q.1 with
 | .v (.t ts),.v t=>(keyTs ts).bind λks=>if (cs.any λc=>decide (c=ks))=true then none else some (.d (.inr [(ks,t)]),q.2)
 | _,_=>none:=(rfl)
end
end D
namespace L2
open PySem PySem.Spec PyProof.Rows
def eI:FW (.type "zip") "__getattr__"=pure none:=by rw[Er];kernel_rfl
def XO:FW (.type "zip") "keys"=pure none:=by rw[Er];kernel_rfl
def W5:Gz table "zip.__getattribute__"=some Builtin.«object.__getattribute__» :=
 KZ (id':="object.__getattribute__") rfl rfl ↥4 rfl
def XX(a:Addr) fs sl (u:Tok) :
  IH (Builtin.«object.__getattribute__» ⟨[.ref a,.str "keys" u],[]⟩) (λA R s=>s.heap.get? a=some { cls:=.type "zip",dict:=none,data:=.fields fs,slots:=sl }/\raisesAttr (.ref a) "keys" A R s):=
 Meets.of_wp λprog w A R s hs=>by
  obtain⟨hp,g,d,tk,os⟩:=s;obtain⟨hx,hs⟩:=hs;have hT:(⟨hp,g,d,tk,os⟩:AR).TypeIs (.ref a) "zip":=⟨_,hx,rfl⟩
  have hmiss:=XO
  repeat (any_goals (first | assumption | wp_step))
  exact wpAny_raiseAttrError hs.1 hs.2 (attrMsg_fits ↥4 ↥4)
def getAttr?_miss_zip
  (hx:s.heap.get? a=some { cls:=.type "zip",data:=.fields fs }) (hA:A.handled=none)
  (h:∀ h' tk e,Heap.NewExcOf s.heap h' e "AttributeError"->Q none { s with heap:=h',toks:=tk }) :
  AQ (model prog w) A (getAttr? (.ref a) "keys") Q E s:=by
 obtain⟨hp,g,d,tk,os⟩:=s;have hT:∀ tk',(⟨hp,g,d,tk',os⟩:AR).TypeIs (.ref a) "zip":=λ_=>⟨_,hx,rfl⟩
 have f1:=sub_AttributeError;have f3:=EO.lookup;have f4:=EO.bind (.ref a);have f5:=eI
 repeat (any_goals (first | assumption | exact hT _ | ((with_reducible show AQ _ _ (call (Value.builtin "zip.__getattribute__") _ _) _ _ _);refine Cu EO (hT _) W5 (F.args_zip_getattribute_2 _ _) (XX a fs #[] _) ⟨hx,hA,λh' tk' e hx'=>?_⟩) | wp_step))
 obtain⟨t',u',he⟩:=hx'.there;unfold getattributeRaised
 repeat (any_goals (first | assumption | wp_step))
 exact h _ _ _ hx'.of
abbrev IsZO (h:Heap) (z TI TO T:Addr) (f:Bool):Prop:=
 h.get? z=some { cls:=.type "zip",dict:=none,data:=.fields #[Di T,.bool f,.bool false,.ref TI,.ref TO],slots:=#[] }
section
variable {prog:Ai}{w:A5}{A:BD}{E:AM->AR->Prop}{s:AR}
def WU(ho:s.heap.get? a=some o)(h:Q (some o) s):AQ (model prog w) A (loadIfAlive a) Q E s:=PySem.W.kdx_alive ho h
variable {z TI TO i1 i2 l1 l2 T:Addr}{S1 S2:Nat->Heap->Prop}{xs ys:Array AM}{k:Nat}{f:Bool}{oT:Obj}
theorem Tg(hz:IsZO s.heap z TI TO T f)(hT:s.heap.get? T=some oT)
  (h:∀ h1,IsZO h1 z TI TO T true->Cm z s.heap h1->Q false { s with heap:=h1 }):AQ (model prog w) A (BO (.ref z)) Q E s:=by
 refine AA (Ao hz rfl (x:=Di T) rfl (AA (WU hT (AA (Ao hz rfl (x:=.bool f) rfl ?_)))));cases f with
 | true=>exact AF (h _ hz (J4 _ _))
 | false =>
  exact AA (A0 hz ↥1 λh1 z1 b1=>AF (h h1 z1 b1))
def fg{Q:AM->AR->Prop}(D:ZAp z TI TO i1 i2 l1 l2)(D1:Drawer prog w i1 l1 xs S1)(D2:Drawer prog w i2 l2 ys S2)(hz:IsZO s.heap z TI TO T f)(hT:s.heap.get? T=some oT)(hTI:C7 s.heap TI (.ref i1) (.ref i2))(st1:S1 k s.heap)(st2:S2 k s.heap)(hx:xs[k]?=some x)(hy:ys[k]?=some y)
  (hQ:∀ h',IsZO h' z TI TO T true->S1 (k+1) h'->S2 (k+1) h'->C7 h' s.heap.objs.size x y ->
   (∀ c o,c≠z->c≠i1->c≠i2->s.heap.get? c=some o->h'.get? c=some o)->Q (.ref s.heap.objs.size) { s with heap:=h' }) :
  AQ (model prog w) A (Builtin.«zip.__next__» ⟨[.ref z],[]⟩) (λfin s'=>∃ v,fin=.done (.ret v)/\Q v s') E s:=by
 obtain⟨⟨TIz,TOz,i1z,i2z,TITO,TIi1,TIi2,TOi1,TOi2,i12,l1z,l1TO,l1i1,l1i2,l2z,l2TO,l2i1,l2i2⟩,_,_⟩:=D;show AQ _ _ (field (.ref z) 2 >>= _) _ _ _;refine AA (Ao hz rfl (x:=.bool false) rfl ?_);show AQ _ _ (field (.ref z) 3 >>= _) _ _ _;refine AA (Ao hz rfl (x:=.ref TI) rfl (AA (Bd hTI rfl ?_)));refine AA (Tg hz hT λh1 z1 b1=>AA ?_);refine AA (AA (BN ?_));show AQ _ _ (Ap (.ref i1) >>= _) _ _ _;refine AA (D1.item _ k _ x _ _ (D1.keep _ _ _ st1 (λo e=>b1.extBut _ _ i1z e) λo e=>b1.extBut _ _ l1z e) hx λh2 t1 b2=>AF ?_);refine AF (AA (AA (BN ?_)));show AQ _ _ (Ap (.ref i2) >>= _) _ _ _;refine AA (D2.item _ k _ y _ _ (D2.keep _ _ _ st2 (λo e=>b2.extBut _ _ i12.symm (b1.extBut _ _ i2z e)) λo e=>b2.extBut _ _ l2i1 (b1.extBut _ _ l2z e)) hy λh4 t2 b4=>AF (AF (AF (AA (Dz ?_ (by show 2<=AD;decide))))));have hsz:h4.objs.size=s.heap.objs.size:=by rw[b4.1,b2.1,b1.1]
 have k4:∀ c o,c≠z->c≠i1->c≠i2->s.heap.get? c=some o->h4.get? c=some o:=λc o c1 c3 c4 e=>b4.extBut _ _ c4 (b2.extBut _ _ c3 (b1.extBut _ _ c1 e))
 refine AF ⟨_,rfl,?_⟩;rw[hsz];have up:∀ c o,h4.get? c=some o->(h4.push { cls:=.type "tuple",data:=.seq #[x,y] }).get? c=some o:=λc o e=>AB _ e
 refine hQ _ (up _ _ (b4.extBut _ _ i2z.symm (b2.extBut _ _ i1z.symm z1))) (D1.keep _ _ _ (D1.keep _ _ _ t1 (λo e=>b4.extBut _ _ i12 e) λo e=>b4.extBut _ _ l1i2 e) (λo e=>up _ o e) λo e=>up _ o e) (D2.keep _ _ _ t2 (λo e=>up _ o e) λo e=>up _ o e) ?_ λc o c1 c2 c3 e=>up _ _ (k4 c o c1 c2 c3 e)
 rw[← hsz];exact AK _ rfl
def dY(hh:A.handled=none)(D:ZAp z TI TO i1 i2 l1 l2)(D1:Drawer prog w i1 l1 xs S1)(hz:IsZO s.heap z TI TO T f)(hT:s.heap.get? T=some oT)(hTI:C7 s.heap TI (.ref i1) (.ref i2))(st1:S1 k s.heap)(hx:xs[k]?=none)
  (hE:∀ h' e,(∀ c o,c≠z->c≠i1->s.heap.get? c=some o->h'.get? c=some o)->(∃ o,h'.get? e=some o/\o.cls=.type "StopIteration")->E (.ref e) { s with heap:=h' }) :
  AQ (model prog w) A (Builtin.«zip.__next__» ⟨[.ref z],[]⟩) Q E s:=by
 obtain⟨⟨TIz,TOz,i1z,i2z,TITO,TIi1,TIi2,TOi1,TOi2,i12,l1z,l1TO,l1i1,l1i2,l2z,l2TO,l2i1,l2i2⟩,_,_⟩:=D;show AQ _ _ (field (.ref z) 2 >>= _) _ _ _;refine AA (Ao hz rfl (x:=.bool false) rfl ?_);show AQ _ _ (field (.ref z) 3 >>= _) _ _ _;refine AA (Ao hz rfl (x:=.ref TI) rfl (AA (Bd hTI rfl ?_)));refine AA (Tg hz hT λh1 z1 b1=>AA ?_);refine AA (AA (BN ?_));show AQ _ _ (Ap (.ref i1) >>= _) _ _ _;exact AA (D1.fini _ k _ _ _ hh (D1.keep _ _ _ st1 (λo e=>b1.extBut _ _ i1z e) λo e=>b1.extBut _ _ l1z e) hx λh2 e b2 he=>hE h2 e (λc o c1 c2 q=>b2 _ _ c2 (b1.extBut _ _ c1 q)) he)
end
def RO:Gz table "dict.update.loop"=some Builtin.«dict.update.loop»:=GI rfl
def TN:plainId "dict.update.loop"=true:=↥4
structure ZL(z TI TO i1 i2 a1 a2 d:Addr)(xs ys:Array AM)(k:Nat)(h:Heap):Prop where
 zz:(HS h z TI TO .none/\∃ a b,C7 h TO a b)\/∃ T oT f,IsZO h z TI TO T f/\h.get? T=some oT/\T≠z/\T≠i1/\T≠i2/\T≠d
 ti:C7 h TI (.ref i1) (.ref i2)
 s1:h.IsTupleIter i1 a1 k/\h.IsTuple a1 xs
 s2:h.IsTupleIter i2 a2 k/\h.IsTuple a2 ys
section
variable {prog:Ai}{w:A5}{A:BD}{E:AM->AR->Prop}{s:AR}{z TI TO i1 i2 a1 a2 d:Addr}{xs ys:Array AM}{k:Nat}
theorem ZL.type(st:ZL z TI TO i1 i2 a1 a2 d xs ys k h):∃ o,h.get? z=some o/\o.cls=.type "zip":=by
 rcases st.zz with ⟨q,_⟩ | ⟨T,oT,f,q,_⟩
 ·exact⟨_,q,rfl⟩
 ·exact⟨_,q,rfl⟩
def ZL.keep(st:ZL z TI TO i1 i2 a1 a2 d xs ys k h)(n1:z≠d)(n2:TI≠d)(n3:TO≠d)(n4:i1≠d)(n5:i2≠d)(n6:a1≠d)(n7:a2≠d)(kp:∀ c o,c≠d->h.get? c=some o->h'.get? c=some o):ZL z TI TO i1 i2 a1 a2 d xs ys k h' where
 zz:=by
  rcases st.zz with ⟨q,a,b,q2⟩ | ⟨T,oT,f,q,q2,q3,q4,q5,q6⟩
  ·exact .inl ⟨kp _ _ n1 q,a,b,kp _ _ n3 q2⟩
  ·exact .inr ⟨T,oT,f,kp _ _ n1 q,kp _ _ q6 q2,q3,q4,q5,q6⟩
 ti:=kp _ _ n2 st.ti
 s1:=⟨(let ⟨o,e,r⟩:=st.s1.1;⟨o,kp _ _ n4 e,r⟩),(let ⟨o,e,r⟩:=st.s1.2;⟨o,kp _ _ n6 e,r⟩)⟩
 s2:=⟨(let ⟨o,e,r⟩:=st.s2.1;⟨o,kp _ _ n5 e,r⟩),(let ⟨o,e,r⟩:=st.s2.2;⟨o,kp _ _ n7 e,r⟩)⟩
def WV(D:ZAp z TI TO i1 i2 a1 a2)(hd:d < s.heap.objs.size)(st:ZL z TI TO i1 i2 a1 a2 d xs ys k s.heap)(hx:xs[k]?=some x)(hy:ys[k]?=some y)
  (hQ:∀ h',ZL z TI TO i1 i2 a1 a2 d xs ys (k+1) h'->C7 h' s.heap.objs.size x y->(∀ c o,c≠z->c≠TO->c≠i1->c≠i2->s.heap.get? c=some o->h'.get? c=some o)->Q (some (.ref s.heap.objs.size)) { s with heap:=h' }) :
  AQ (model prog w) A (Ek (.ref z)) Q E s:=by
 have hT:=st.type;have lz:z < s.heap.objs.size:=by obtain⟨o,e,_⟩:=st.type;exact AL e
 have l1:i1 < s.heap.objs.size:=by obtain⟨o,e,_⟩:=st.s1.1;exact AL e
 have l2:i2 < s.heap.objs.size:=by obtain⟨o,e,_⟩:=st.s2.1;exact AL e
 refine AA (By (Ay hT Eg (Az Eg hT Il ?_ (IZ _))));rcases st.zz with ⟨q,a,b,q2⟩ | ⟨T,oT,f,q,q2,q3,q4,q5,q6⟩
 ·exact Wq D (MO i1 a1 xs D.a.l1i1) (MO i2 a2 ys D.a.l2i2) ⟨q,st.ti,⟨a,b,q2⟩,st.s1,st.s2⟩ hx hy λh' st' hp hk=>AF (hQ h' ⟨.inr ⟨_,_,false,st'.z,hp,Bb lz,Bb l1,Bb l2,Bb hd⟩,st'.ti,st'.s1,st'.s2⟩ hp hk)
 ·exact fg D (MO i1 a1 xs D.a.l1i1) (MO i2 a2 ys D.a.l2i2) q q2 st.ti st.s1 st.s2 hx hy λh' z' t1 t2 hp hk=>AF (hQ h' ⟨.inr ⟨T,oT,true,z',hk _ _ q3 q4 q5 q2,q3,q4,q5,q6⟩,hk _ _ D.a.TIz D.a.TIi1 D.a.TIi2 st.ti,t1,t2⟩ hp λc o c1 _ c3 c4 e=>hk c o c1 c3 c4 e)
def d3(hh:A.handled=none)(D:ZAp z TI TO i1 i2 a1 a2)(st:ZL z TI TO i1 i2 a1 a2 d xs ys k s.heap)(hx:xs[k]?=none)
  (hQ:∀ h',(∀ c o,c≠z->c≠TO->c≠i1->c≠i2->s.heap.get? c=some o->h'.get? c=some o)->Q none { s with heap:=h' }) :
  AQ (model prog w) A (Ek (.ref z)) Q E s:=by
 have hT:=st.type;refine AA (By (Ay hT Eg (Az Eg hT Il ?_ (IZ _))));rcases st.zz with ⟨q,a,b,q2⟩ | ⟨T,oT,f,q,q2,q3,q4,q5,q6⟩
 ·refine fK hh D (MO i1 a1 xs D.a.l1i1) (MO i2 a2 ys D.a.l2i2) ⟨q,st.ti,⟨a,b,q2⟩,st.s1,st.s2⟩ (.inl hx) λh' e hk he=>?_
  obtain⟨o,ho,hcl⟩:=he;exact AA (CD ⟨o,ho,hcl⟩ D4 (AF (hQ h' hk)))
 ·refine dY hh D (MO i1 a1 xs D.a.l1i1) q q2 st.ti st.s1 hx λh' e hk he=>?_
  obtain⟨o,ho,hcl⟩:=he;exact AA (CD ⟨o,ho,hcl⟩ D4 (AF (hQ h' λc o c1 _ c3 _ e=>hk c o c1 c3 e)))
theorem Ww{knd:F9 prog w Key}{R}(hh:A.handled=none)(D:ZAp z TI TO i1 i2 a1 a2)(n1:z≠d)(n2:TI≠d)(n3:TO≠d)(n4:i1≠d)(n5:i2≠d)(n6:a1≠d)(n7:a2≠d)
  rs (hx:∀ (j:Nat) p,rs[j]?=some p->∃ key,xs[j]?=some key/\knd.is p.1 key=true/\ys[j]?=some p.2) (hxe:xs[rs.length]?=none) (hsz:rs.length<=100000) {s0:AR}
  (hR:∀ h' tk,h'.DictOf knd d (merged [] rs)->(∀ c o,c≠z->c≠TO->c≠i1->c≠i2->c≠d->s0.heap.get? c=some o->h'.get? c=some o)->R (.ok (.ret .none)) { s0 with heap:=h',toks:=tk }) :
  ∀ m k h tk t,rs.length - k=m->k<=rs.length->ZL z TI TO i1 i2 a1 a2 d xs ys k h->h.DictOf knd d (merged [] (rs.take k))->(∀ c o,c≠z->c≠TO->c≠i1->c≠i2->c≠d->s0.heap.get? c=some o->h.get? c=some o) ->
   Dp (model prog w) A (.builtin "dict.update.loop" ⟨[.ref d,.ref z,.int k t,.none],[]⟩) R { s0 with heap:=h,toks:=tk }:=by
 intro m;induction m with
 | zero =>
  intro k h tk t hm hk st hD hkp;have hkn:k=rs.length:=by lia
  subst hkn;refine Dl RO ?_;refine AA (d3 hh D st hxe λh' hk'=>AA (AF (AF ?_)));rw[List.take_length]at hD;refine hR h' tk (hD.at λo e=>hk' d o n1.symm n3.symm n4.symm n5.symm e) λc o c1 c2 c3 c4 c5 e=>hk' c o c1 c2 c3 c4 (hkp c o c1 c2 c3 c4 c5 e)
 | succ m ih =>
  intro k h tk t hm hk st hD hkp;have hlt:k < rs.length:=by lia
  obtain⟨key,e1,e2,e3⟩:=hx k rs[k] ↥1;refine Dl RO ?_;have hdl:d < h.objs.size:=by obtain⟨o,_,_,e,_⟩:=hD;exact AL e
  refine AA (WV D hdl st e1 e3 λh' st' hp hk'=>AA (BN (AA (wpAny_tryCatch ?_))));refine AA (Cy (⟨_,hp,rfl⟩) (AA (Bd hp rfl (AF ?_))));have hlm:(merged [] (rs.take k)).length<=AD:=by
   have:=merged_length_le ([]) (rs.take k);have e:(rs.take k).length<=100000:=by rw[DH];lia
   rw[DW]at this;exact Ak ⋯ (show 100000<=AD by decide)
  refine BN (wpAny_dictSet_pairs e2 (hD.at λo e=>hk' d o n1.symm n3.symm n4.symm n5.symm e) λh2 hD2 hs=>?_);rw[← merged_take_succ [] rs k rs[k] ↥1]at hD2;exact AF ⟨Dd TN _,ih (k+1) h2 (tk+1) 0 ⋯ ⋯ (st'.keep n1 n2 n3 n4 n5 n6 n7 λc o hc e=>(hs.2 c hc).trans e) hD2 λc o c1 c2 c3 c4 c5 e=>(hs.2 c c5).trans (hk' c o c1 c2 c3 c4 (hkp c o c1 c2 c3 c4 c5 e))⟩
end
section
variable {prog:Ai}{w:A5}{A:BD}{E:AM->AR->Prop}{s:AR}{z TI TO i1 i2 a1 a2:Addr}{xs ys:Array AM}
def Wo{knd:F9 prog w Key}{Q}(hh:A.handled=none)(D:ZAp z TI TO i1 i2 a1 a2)(hz:HS s.heap z TI TO .none)(hTO:∃ a b,C7 s.heap TO a b)(hTI:C7 s.heap TI (.ref i1) (.ref i2))
  (h1:s.heap.IsTupleIter i1 a1 0/\s.heap.IsTuple a1 xs) (h2:s.heap.IsTupleIter i2 a2 0/\s.heap.IsTuple a2 ys)
  rs (hx:∀ (j:Nat) p,rs[j]?=some p->∃ key,xs[j]?=some key/\knd.is p.1 key=true/\ys[j]?=some p.2) (hxe:xs[rs.length]?=none) (hsz:rs.length<=100000)
  (h:∀ h' tk,h'.DictOf knd s.heap.objs.size (merged [] rs)->(∀ c o,c≠z->c≠TO->c≠i1->c≠i2->s.heap.get? c=some o->h'.get? c=some o)->Q (.ref s.heap.objs.size) { s with heap:=h',toks:=tk }) :
  AQ (model prog w) A (call (.type "dict") [.ref z]) Q E s:=by
 refine G5 (Q₁:=λobj s₁=>obj=.ref s.heap.objs.size/\s₁={ s with heap:=s.heap.push { cls:=.type "dict",data:=.dict #[] } }) PySem.F.kt_called_dict (PySem.F.kt_typeCall_dict_1 _) PySem.F.entry_dict_init (kt_code_dict_new _ ⟨rfl,rfl⟩) ?_;rintro obj s₁ ⟨rfl,rfl⟩;have hnew:(s.heap.push { cls:=.type "dict",data:=.dict #[] }).DictOf knd s.heap.objs.size []:=Kb s.heap;have up:∀ c o,s.heap.get? c=some o->(s.heap.push { cls:=.type "dict",data:=.dict #[] }).get? c=some o:=λc o e=>AB _ e
 have hz':=up _ _ hz;refine⟨hnew.typeIs,PySem.F.args_dict_init_2 _ _,AA (AA (IB hnew.typeIs (AF ?_)))⟩;show AQ _ _ (J5 "dict.__init__" s.heap.objs.size (.ref z) [] .none) _ _ _;refine AA (Cy ⟨_,hz',rfl⟩ (AA (getAttr?_miss_zip hz' hh λh3 tk3 e3 x3=>?_)));refine AA (CP (AA ?_));have up3:=λc o e=>x3.1 c o (up c o e)
 refine wpAny_pyIter_zip (up3 _ _ hz) ?_;have ne:∀ {c:Addr} {o:Obj},s.heap.get? c=some o->c≠s.heap.objs.size:=λe=>Ag (AL e)
 obtain⟨pa,pb,hTO⟩:=hTO;obtain⟨⟨o1,q1,r1⟩,⟨o2,q2,r2⟩⟩:=h1;obtain⟨⟨o3,q3,r3⟩,⟨o4,q4,r4⟩⟩:=h2;exact AF ⟨Dd TN _,Ww (A:=A.in1) (s0:={ s with heap:=h3,toks:=tk3 }) hh D (ne hz) (ne hTI) (ne hTO) (ne q1) (ne q3) (ne q2) (ne q4) rs hx hxe hsz (λh' tk hd hk=>⟨rfl,h h' tk hd λc o c1 c2 c3 c4 e=>hk c o c1 c2 c3 c4 (ne e) (up3 c o e)⟩) rs.length 0 h3 tk3 0 ⋯ (Au _) ⟨.inl ⟨up3 _ _ hz,pa,pb,up3 _ _ hTO⟩,up3 _ _ hTI,⟨⟨o1,up3 _ _ q1,r1⟩,⟨o2,up3 _ _ q2,r2⟩⟩,⟨⟨o3,up3 _ _ q3,r3⟩,⟨o4,up3 _ _ q4,r4⟩⟩⟩ (hnew.at λo e=>x3.1 _ o e) λc o _ _ _ _ _ e=>e⟩
end
def tDZip (K:Ab) (ta:TA):TE:=λσ H Q=>ta σ H λvs H1=>∃ (a1 a2:Addr) (ks:List Key) (us:List V),vs=[.ref a1,.ref a2]/\SqT K H1 a1 (ks.map kV)/\SqT K H1 a2 us/\us.length=ks.length/\ks.length<=100000/\∀ p,H1 p=none->Q (.ref p) (upd H1 p (.dK (mergeK [] (ks.zip us))))
def ZQ{e1 e2 ta p p0 pos pos0}(hr:X.A.handled=none)(hg:Gl X "zip")(hm:X.mg "zip"=none)(hg0:Gl X "dict")(hm0:X.mg "dict"=none)(ha:PA X [e1,e2] ta)(hs:AW [e1,e2] X.env=[(false,eval e1 X.env),(false,eval e2 X.env)]:=by rfl)(hs2:AW [e2] X.env=[(false,eval e2 X.env)]:=by rfl)
  (hs3:AW [.Call (.Name "zip" p) [e1,e2] [] pos] X.env=[(false,eval (.Call (.Name "zip" p) [e1,e2] [] pos) X.env)]:=by rfl) :
  PE X (.Call (.Name "dict" p0) [.Call (.Name "zip" p) [e1,e2] [] pos] [] pos0) (tDZip X.K ta):=by
 intro pins s σ H Q I h;refine HN (L3 I hg0 hm0 J6 (A6 (Ew (HN (L3 I hg hm boot_zip (A6 (thn (ha pos pins s σ H _ I h) λus s1 ⟨vs,H1,I1,r1,q1⟩=>?_) (by rw[hs,hs2]) (by rw[hs2];rfl))))) hs3 rfl));obtain⟨a1,a2,ks,ws,rfl,h1,h2,hlen,hsz,q⟩:=q1;obtain⟨u1,u2,rfl,r,r'⟩:=vals2 r1;cases r;cases r';obtain⟨its1,v1,o1,z1⟩:=I1.tuple h1;obtain⟨its2,v2,o2,z2⟩:=I1.tuple h2;have lt1:a1 < s1.heap.objs.size:=by obtain⟨o,e,_⟩:=o1;exact AL e
 have lt2:a2 < s1.heap.objs.size:=by obtain⟨o,e,_⟩:=o2;exact AL e
 have D:ZAp (s1.heap.objs.size+4) (s1.heap.objs.size+2) (s1.heap.objs.size+3) s1.heap.objs.size (s1.heap.objs.size+1) a1 a2:=
  ⟨zipApart_new lt1 lt2,Ag (AU lt1 (Bg _ 2)),Ag (AU lt2 (Bg _ 2))⟩
 refine fA o1 o2 λh' st hk=>Do ?_
 have hl1:=v1.length;have hl2:=v2.length;have lrs:(ks.zip its2).length=ks.length:=by rw[IM];lia
 obtain⟨t1o,t1e,t1r⟩:=o1;obtain⟨t2o,t2e,t2r⟩:=o2;refine Wo (knd:=mixKind X.prog X.w) hr D st.z st.to st.ti ⟨st.s1,⟨t1o,hk _ _ t1e,t1r⟩⟩ ⟨st.s2,⟨t2o,hk _ _ t2e,t2r⟩⟩ (ks.zip its2) (λj pr hj=>?_) (by simp_all) (by rw[lrs];exact hsz) λh4 tk hd hk4=>?_
 ·obtain⟨g1,g2⟩:=GF.mp hj;obtain⟨key,e1,r1⟩:=v1.get (i:=j) (x:=kV pr.1) (by simp_all);exact⟨key,by simpa using e1,Ng r1,by simpa using g2⟩
 ·have old:∀ c o,s1.heap.get? c=some o->h4.get? c=some o:=λc o e=>by
   have hc:=AL e;exact hk4 c o (Ag (AU hc (Bg _ 4))) (Ag (AU hc (Bg _ 3))) (Ag hc) (Ag (AU hc (Bg _ 1))) (hk c o e)
  have hb:=CJ (Hl (Bg _ 4) (AL st.z));have rel:=by
   have gen:∀ (ks:List Key) ws its2,Vals ws its2->ws.length=ks.length->KV (ks.zip ws) (ks.zip its2):=by
    intro ks;induction ks with
    | nil=>intro ws its2 v2 hlen;simp;exact .nil
    | cons k r ih =>
     intro ws its2 v2 hlen;cases v2 with
     | nil=>cases hlen
     | cons a b=>exact .cons ⟨rfl,a⟩ (ih _ _ b (by simpa using hlen))
   exact gen ks ws its2 v2 hlen
  refine⟨.ref h'.objs.size,_,I1.laid old hb (UT ?_ ?_ (rel.merge .nil) hd),rfl,q _ (I1.hok.fresh hb)⟩
  ·have e1:=So (ks.zip ws) [];have e2:(ks.zip ws).length<=ks.length:=by rw[IM];lia
   rw[DW]at e1;exact Ak ⋯ (show 100000<=AD by decide)
  ·exact beq_eq_false_iff_ne.mpr (Bb (AU I1.big hb))
end L2
namespace D
open PySem L2
noncomputable def dDZip (fa:DA):DE:=λΓ=>(fa Γ).bind λp=>match p.1 with
 | [.v (.t xs),.v (.t ys)]=>(keyTs xs).bind λks=>if ys.length=ks.length/\ks.length<=100000 then some (.d (.inl ((ks.zip ys).foldl (λacc kv=>putT acc kv.1 kv.2) [])),p.2) else none
 | _=>none
theorem RZ:∀ (ks:List Key) {us ys},Ims K H us ys->PR K H (ks.zip us) (ks.zip ys)
 | [],_,_,_=>by simp;exact .nil
 | k::r,us,[],h=>by rw[h.inv0];exact .nil
 | k::r,us,y::ys,h=>by obtain⟨v,vs,rfl,h1,h2⟩:=h.inv;exact .cons ⟨rfl,h1⟩ (RZ r h2)
theorem jc{H more mt}(h:PR K H more mt):∀ {l kvs},PR K H l kvs->PR K H (mergeK l more) (mt.foldl (λacc kv=>putT acc kv.1 kv.2) kvs):=by
 induction h with
 | nil=>intro l kvs q;exact q
 | @cons a b more mt hab _ ih =>
  intro l kvs q;have:=q.put a.1 hab.2;rw[hab.1]at this;show PR K H (mergeK (putK l a.1 a.2) more) _;rw[hab.1];exact ih this
def bH(ha:SimA K ta fa):SimE K (tDZip K ta) (dDZip fa):=by
 intro C w Γ σ H s Γ' Q R e k;obtain⟨⟨as,G1⟩,e1,e⟩:=bind_some e;dsimp only at e;split at e
 ·obtain⟨ks,e2,e⟩:=bind_some e;split at e
  ·rename_i hl;cases e;refine ha C w Γ σ H _ _ _ R e1 λvs H1 R1 ev1 o1 n1=>?_
   obtain⟨v,u,rfl,o2,o3⟩:=soks2 o1;obtain⟨p,vs,rfl,h1,i1⟩:=o2.invt;obtain⟨q,us,rfl,h2,i2⟩:=o3.invt;have hv:=QH i1 e2;subst hv;exact⟨p,q,ks,us,rfl,h1.sq,h2.sq,by rw[i2.len];exact hl.1,hl.2,λc hc=>k _ _ (R1.new hc) (ev1.trans (Evo.new hc)) (R1.newd hc (jc (RZ ks i2) .nil)) ⟨c,rfl,by
    cases hz:H c with
    | none=>rfl
    | some o =>
     by_cases hL:c∈w.L
     ·exact absurd hL (R1.fresh hc).1
     ·rw[ev1 c o hz hL]at hc;cases hc⟩⟩
  ·cases e
 ·cases e
noncomputable def getKS:En->S->S->Option S:=λΓ a b=>(dictOf Γ a).bind λd=>match d,b with
 | .inl kvs,.v t=>(keyT t).bind λk=>(valT kvs k).map .v
 | _,_=>none
def Wu:SimR2 K rDGet getKS:=by
 intro C w Γ σ H x y a b s Q R ox oy e k;obtain⟨d,e1,e⟩:=bind_some e;split at e
 ·obtain⟨ky,e2,e⟩:=bind_some e;obtain⟨p,ob,rfl,hp,hd⟩:=Nh R ox e1;obtain⟨l,rfl,h1⟩:=hd.invK;rcases h1.val ky with ⟨_,q⟩ | ⟨v,t',q1,q2,q3⟩
  ·rw[q]at e;cases e
  ·rw[q2]at e;cases e;have hy:=OP oy e2;subst hy;exact⟨p,v,rfl,by rw[← q1];exact DGet.k hp,k _ H R .refl q3 trivial⟩
 ·cases e
section
variable {ι:Type}{K:Fg}{mg:Str->Option AM}{k:Nat}{X:ι->Cx}{o i:Expr}{fo fk:DE}{pos:Pos}{Γ:En}
def XY(M:Fm K mg k X)(ho:EX K X o fo)(hk:EX K X i fk)(hs:NoSl i:=by intro _ _;rfl):EX K X (.Subscript o i pos) (dOp getKS fo fk):=
 let ⟨_,p,s⟩:=ho;let ⟨_,q,u⟩:=hk;⟨_,λj=>RB (M8 M j) (p j) (q j) hs,Mb Wu s u⟩
end
section
variable {ι:Type}{K:Fg}{mg:Str->Option AM}{k:Nat}{X:ι->Cx}{a b:Expr}{da:DA}{p p0 pos pos0:Pos}{Γ:En}
def fw(M:Fm K mg k X)(hm:mg "zip"=none)(hm0:mg "dict"=none)(ha:AX K X [a,b] da)(hg:∀ j,Gl (X j) "zip":=by intro _;rfl)(hg0:∀ j,Gl (X j) "dict":=by intro _;rfl)(hs:∀ j,AW [a,b] (X j).env=[(false,eval a (X j).env),(false,eval b (X j).env)]:=by intro _;rfl)
  (hs2:∀ j,AW [b] (X j).env=[(false,eval b (X j).env)]:=by intro _;rfl) (hs3:∀ j,AW [.Call (.Name "zip" p) [a,b] [] pos] (X j).env=[(false,eval (.Call (.Name "zip" p) [a,b] [] pos) (X j).env)]:=by intro _;rfl):EX K X (.Call (.Name "dict" p0) [.Call (.Name "zip" p) [a,b] [] pos] [] pos0) (dDZip da):=
 let ⟨t,q,u⟩:=ha;⟨tDZip K t,λj=>by have:=ZQ (p0:=p0) (pos0:=pos0) (M.room j).hd (hg j) (by rw[M.mg];exact hm) (hg0 j) (by rw[M.mg];exact hm0) (q j) (hs j) (hs2 j) (hs3 j);rw[M.K j]at this;exact this,bH u⟩
end
end D
namespace L2
open PySem PySem.W PyProof.Rows
def runT {α:Type} (lt:Nat->Nat->Bool):KasT α->α
 | .ret a=>a
 | .ask i j k=>runT lt (k (lt i j))
def OkT (P:Nat->Prop) (R:α->Prop):KasT α->Prop
 | .ret a=>R a
 | .ask i j k=>P i/\P j/\∀ b,OkT P R (k b)
theorem OkT.bind{P}{R:α->Prop}{R':β->Prop}{f}:∀ {t},OkT P R t->(∀ a,R a->OkT P R' (f a))->OkT P R' (t.bind f)
 | .ret a,h,hf=>hf a h
 | .ask i j k,h,hf=>⟨h.1,h.2.1,λb=>(h.2.2 b).bind hf⟩
theorem OkT.run{P R} lt:∀ {t:KasT α},OkT P R t->R (runT lt t)
 | .ret a,h=>h
 | .ask i j k,h=>(h.2.2 (lt i j)).run lt
theorem OkT.wp{P R cmp Q lt}{I:AR->Prop}
  (hc:∀ i j C s,P i->P j->I s->(∀ s',I s'->C (lt i j) s')->cmp i j C s):∀ {t:KasT α},OkT P R t->∀ s,I s->(∀ s',I s'->Q (runT lt t) s')->t.kasWp cmp Q s
 | .ret a,_,s,hi,hq=>hq s hi
 | .ask i j k,h,s,hi,hq=>hc i j _ s h.1 h.2.1 hi λs' hi'=>(h.2.2 (lt i j)).wp hc s' hi' hq
def Arr (n:Nat) (p:Array Nat):Prop:=p.toList.Perm (AI n)
def Arr.lt(h:Arr n p)(h0:0 < n) i:p.getD i 0 < n:=by
 by_cases hi:i < p.size
 ·have e:p.getD i 0=p[i]:=by simp[HL,hi]
  rw[e];exact Bv.mp (h.subset ↥1)
 ·have e:p.getD i 0=0:=by simp[HL,hi]
  rw[e];exact h0
def Arr.rev(h:Arr n p) i j:Arr n (kas_rev p i j):=((mirror_perm p i j _).toList).trans h
def Arr.bub(h:Arr n p) i j:Arr n (bubble p i j):=((bubble_perm p i j).toList).trans h
section
variable {n:Nat}(h0:0 < n)
include h0
theorem Oy(h:Arr n p):∀ f m,OkT (· < n) (λ_=>True) (kas_asc p f m)
 | 0,m=>trivial
 | f+1,m=>⟨h.lt h0 _,h.lt h0 _,λb=>by
   cases b with
   | true=>exact trivial
   | false=>exact Oy h f (m+1)⟩
theorem N3:∀ f {p},Arr n p->∀ m q,OkT (· < n) (λr=>Arr n r.1) (kas_desc f p m q)
 | 0,p,h,m,q=>h
 | f+1,p,h,m,q=>⟨h.lt h0 _,h.lt h0 _,λb=>by
   cases b with
   | true =>
    show OkT _ _ (if q > 0 then _ else _);split
    ·exact N3 f (h.rev _ _) _ _
    ·exact N3 f h _ _
   | false =>
    exact⟨h.lt h0 _,h.lt h0 _,λd=>by
     cases d with
     | true=>exact h
     | false=>exact N3 f h _ _⟩⟩
def U7 m r (h:Arr n p):OkT (· < n) (λr=>Arr n r.2) (kas_tail3 m r p):=
 (Oy h0 (h.rev 0 m) _ _).bind λ_ _=>h.rev 0 m
def Sj m r (h:Arr n p):OkT (· < n) (λr=>Arr n r.2) (kas_descPart m r p):=
 (N3 h0 _ h _ _).bind λa ha=>by
  split
  ·exact U7 h0 _ _ (ha.rev _ _)
  ·exact U7 h0 _ _ ha
def cF r (h:Arr n p):OkT (· < n) (λr=>Arr n r.2) (kas_count r p):=
 (Oy h0 h _ _).bind λm _=>by
  split
  ·exact h
  ·split
   ·exact⟨h.lt h0 _,h.lt h0 _,λb=>by
     cases b with
     | true=>exact h
     | false=>exact Sj h0 _ _ (h.rev _ _)⟩
   ·exact Sj h0 _ _ h
theorem PU(h:Arr n p) k:∀ f l r,OkT (· < n) (λ_=>True) (kas_place p k f l r)
 | 0,l,r=>trivial
 | f+1,l,r=>by
  unfold kas_place;split
  ·exact trivial
  ·exact⟨h.lt h0 _,h.lt h0 _,λb=>by
    cases b with
    | true=>exact PU h k f _ _
    | false=>exact PU h k f _ _⟩
theorem SU:∀ f {p},Arr n p->∀ k,OkT (· < n) (Arr n) (kas_bin f p k)
 | 0,p,h,k=>h
 | f+1,p,h,k=>(PU h0 h k _ _ _).bind λl _=>SU f (h.bub _ _) _
def MW:OkT (· < n) (Arr n) (kas_sort n):=
 (cF h0 n (by show (Df (AI n)).toList.Perm _;simp)).bind λr hr=>by
  split
  ·exact SU h0 _ hr _
  ·exact hr
end
open PySem PySem.W PyProof.Rows PySem.Calls
def outL (lt:Nat->Nat->Bool) (vs:List AM):List AM:=(runT lt (kas_sort vs.length)).toList.map λi=>vs.getD i CU
def Cn (n:Nat) (lt:Nat->Nat->Bool):Prop:=n < 1024/\(2<=n->∀ prog w A E s κ vs,vs.length=n ->
 (∀ i j,i < n->j < n->∀ C tk,(∀ tk',C (lt i j) { s with toks:=tk' })->kas_ask prog w A κ vs i j C { s with toks:=tk }) ->
 AQ (model prog w) A ((sortRuns').run (HA κ (vs.toArray.zip vs.toArray) #[] 7 none)) (λr s'=>∃ p,p.size=n/\GZ r.2=p.map (kas_item (vs.toArray.zip vs.toArray))/\D5 r.2=none/\p=runT lt (kas_sort n)/\∃ tk,s'={ s with toks:=tk }) E s)
def Qy(h:n < 64):Cn n lt:=⟨by lia,λh2 prog w A E s κ vs hl hlt=>by
 subst hl;exact kat_run (Q:=λst' s'=>∃ p:Array Nat,p.size=vs.length/\GZ st'=p.map (kas_item (vs.toArray.zip vs.toArray))/\D5 st'=none/\p=runT lt (kas_sort vs.length)/\∃ tk,s'={ s with toks:=tk })
  rfl h2 h (λp' st' s' a1 a2 a3 a4=>⟨p',a1,a2,a3,a4⟩) ((MW ⋯).wp (λi j C s' hi hj hI hC=>by
   obtain⟨tk,rfl⟩:=hI;exact hlt i j hi hj C tk λtk'=>hC _ ⟨tk',rfl⟩) _ ⟨s.toks,rfl⟩ λs' hI=>⟨rfl,hI⟩)⟩
section
variable {prog:Ai}{w:A5}{A:BD}{E:AM->AR->Prop}{s:AR}{a:Addr}{vs:List AM}{κ:Ci}{lt:Nat->Nat->Bool}
def Yh(ho:s.heap.get? a=some (Bx "list" vs.toArray n))(h2:2<=vs.length)(hcn:Cn vs.length lt)
  (hk:∀ h',(∀ b o,b≠a->s.heap.get? b=some o->h'.get? b=some o)->∀ C,C κ { s with heap:=h' }->AQ (model prog w) A (IP vs.toArray) C (λ_ _=>False) { s with heap:=h' })
  (hlt:∀ h',(∀ b o,b≠a->s.heap.get? b=some o->h'.get? b=some o)->∀ i j,i < vs.length->j < vs.length->∀ C tk,(∀ tk',C (lt i j) { s with heap:=h',toks:=tk' })->kas_ask prog w A κ vs i j C { s with heap:=h',toks:=tk })
  (hP:∀ h'' tk c2,(∀ b o,b≠a->s.heap.get? b=some o->h''.get? b=some o)->h''.get? a=some (Bx "list" (outL lt vs).toArray c2)->P (.done (.ret .none)) { s with heap:=h'',toks:=tk }) :
  AQ (model prog w) A (Builtin.«list.sort» ⟨[.ref a],[]⟩) P E s:=by
 have h64:=hcn.1;obtain⟨e1,ho1⟩:∃ e1,(s.heap.update a (BJ λ_=>(#[]))).get? a=some (Bx "list" #[] e1):=⟨_,Es ho λ_=>#[]⟩
 have keep:∀ b o,b≠a->s.heap.get? b=some o->(((s.heap.update a (BJ λ_=>(#[]))).push (Bx "tuple" vs.toArray 0)).push (Bx "list" #[] 0)).get? b=some o:=λb o hb e =>
  AB _ (AB _ (((Be s.heap a (BJ λ_=>(#[]))).2 b hb).trans e))
 rw[J7];refine AA (Hm ho rfl (AA (FU ho rfl (AA (Ga ho1 rfl (AA (Dz (AA (FR (BN ?_) (Au _))) (by show vs.length<=_;rw[BK];lia))))) (by rw[Aa,BK];lia) (Au _))));have hn2:¬ vs.toArray.size < 2:=by rw[Aa];lia
 rw[if_neg hn2,if_neg hn2];have ho3:=AB (o:=Bx "list" #[] 0) (AB (o:=Bx "tuple" vs.toArray 0) ho1);generalize hh3:((s.heap.update a (BJ λ_=>(#[]))).push (Bx "tuple" vs.toArray 0)).push (Bx "list" #[] 0)=h3 at keep ho3 ⊢;refine AA (BE (hk h3 keep (λκ' s'=>κ'=κ/\s'={ s with heap:=h3 }) ⟨rfl,rfl⟩) (λκ' s0 hq=>?_) λ_ _ x=>x.elim);obtain⟨rfl,rfl⟩:=hq;refine AA (BE (hcn.2 h2 prog w A _ { s with heap:=h3 } κ' vs rfl λi j hi hj C tk hC=>hlt h3 keep i j hi hj C tk hC) ?_ λ_ _ e=>e);rintro ⟨⟨⟩,st'⟩ s' ⟨p,hp,har,hf,rfl,tk,rfl⟩;dsimp only;have hsz:(outL lt vs).toArray.size=vs.length:=by rw[Aa];unfold outL;rw[Af,As,hp]
 have hout':(GZ st').map (·.2)=(outL lt vs).toArray:=(kat_snds rfl har)
 rw[hout'];obtain⟨c2,hc2⟩:∃ c2,(h3.update a (BJ λ_=>(outL lt vs).toArray)).get? a=some (Bx "list" (outL lt vs).toArray c2):=⟨_,Es ho3 λ_=>(outL lt vs).toArray⟩
 refine AA (Ga ho3 rfl (AA (FU ho3 rfl ?_ (Au _) (Ak (JZ hsz) (by rw[BK];lia)))));rw[hf];simp;exact AF (hP _ tk c2 (λb o hb e=>((Be h3 a (BJ λ_=>(outL lt vs).toArray)).2 b hb).trans (keep b o hb e)) hc2)
end
section
variable {prog:Ai}{w:A5}{A:BD}{E:AM->AR->Prop}{s:AR}
def Sd(p1:s.heap.IsTuple a xs)(p2:s.heap.IsTuple b ys)(i1:Bp xs.toList ns)(i2:Bp ys.toList ms)(hu:A.units < DV)(h:Q (HT.lexLt ns ms) s) :
  AQ (model prog w) A (oneLt' false (.ref a) (.ref b)) Q E s:=AA (HT.lt_tupInts p1 p2 i1 i2 hu (Bz h))
end
open PySem PySem.W PyProof.Rows PySem.Calls PySem.SeqAt
def ltP (a b:List Int×Int):Bool:=if a.1=b.1 then decide (a.2 < b.2) else HT.lexLt a.1 b.1
section
variable {prog:Ai}{w:A5}{A:BD}{E:AM->AR->Prop}{s:AR}
def Xu(hx:s.heap.get? x=some ox)(dx:ox.data=.seq #[.ref p,.int m t] nx)(hy:s.heap.get? y=some oy)(dy:oy.data=.seq #[.ref q,.int m' t'] ny)
  (p1:s.heap.IsTuple p xs) (p2:s.heap.IsTuple q ys) (i1:Bp xs.toList ns) (i2:Bp ys.toList ms) (he:EqAt A s (.ref p) (.ref q) (decide (ns=ms))) (hu:A.units < DV) (h:Q (ltP (ns,m) (ms,m')) s) :
  AQ (model prog w) A (Io (tuples' false) (.ref x) (.ref y)) Q E s:=by
 refine kat_lt hx dx hy dy (kat_cons (he _ _ _ _ ?_));unfold ltP at h;by_cases hn:ns=ms
 ·rw[decide_eq_true hn];rw[if_pos hn]at h;refine kat_yes (kat_cons (GA ?_));by_cases hm:m=m'
  ·subst hm;have e:(m == m)=true:=by simp
   rw[e];have e2:decide (m < m)=false:=decide_eq_false ⋯;rw[e2]at h;exact h
  ·have e:(m == m')=false:=by simpa using hm
   rw[e];exact kat_one _ _ (lt_int h)
 ·rw[decide_eq_false hn];rw[if_neg hn]at h;exact kat_no (Sd p1 p2 i1 i2 hu h)
end
section
variable {prog:Ai}{w:A5}{A:BD}{E:AM->AR->Prop}{s:AR}{vs:List AM}{κ:Ci}{lt:Nat->Nat->Bool}
def bK(ho:s.heap.get? a=some (Bx "list" vs.toArray n))(h2:vs.length < 2)
  (hP:∀ h'' tk c2,(∀ b o,b≠a->s.heap.get? b=some o->h''.get? b=some o)->h''.get? a=some (Bx "list" vs.toArray c2)->P (.done (.ret .none)) { s with heap:=h'',toks:=tk }) :
  AQ (model prog w) A (Builtin.«list.sort» ⟨[.ref a],[]⟩) P E s:=by
 obtain⟨e1,ho1⟩:∃ e1,(s.heap.update a (BJ λ_=>(#[]))).get? a=some (Bx "list" #[] e1):=⟨_,Es ho λ_=>#[]⟩
 have keep:∀ b o,b≠a->s.heap.get? b=some o->(((s.heap.update a (BJ λ_=>(#[]))).push (Bx "tuple" vs.toArray 0)).push (Bx "list" #[] 0)).get? b=some o:=λb o hb e =>
  AB _ (AB _ (((Be s.heap a (BJ λ_=>(#[]))).2 b hb).trans e))
 rw[J7];refine AA (Hm ho rfl (AA (FU ho rfl ?_ (by rw[Aa,BK];lia) (Au _))));refine AA (Ga ho1 rfl (AA (Dz (AA (FR (BN ?_) (Au _))) (by show vs.length<=_;rw[BK];lia))));have hn2:vs.toArray.size < 2:=by rw[Aa];lia
 rw[if_pos hn2,if_pos hn2];have ho3:=AB (o:=Bx "list" #[] 0) (AB (o:=Bx "tuple" vs.toArray 0) ho1);generalize hh3:((s.heap.update a (BJ λ_=>(#[]))).push (Bx "tuple" vs.toArray 0)).push (Bx "list" #[] 0)=h3 at keep ho3 ⊢;refine AA (AF (AA (AF ?_)));dsimp only;have hout':(GZ (HA general' (vs.toArray.zip vs.toArray) #[] 7 none)).map (·.2)=vs.toArray:=by
  apply D6.mp;rw[Hn,Array.toList_zip];exact List.map_snd_zip (AE _)
 rw[hout'];obtain⟨c2,hc2⟩:∃ c2,(h3.update a (BJ λ_=>vs.toArray)).get? a=some (Bx "list" vs.toArray c2):=⟨_,Es ho3 λ_=>vs.toArray⟩
 refine AA (Ga ho3 rfl (AA (FU ho3 rfl ?_ (Au _) (by rw[ BK];lia))));simp;exact AF (hP _ _ c2 (λb o hb e=>((Be h3 a (BJ λ_=>vs.toArray)).2 b hb).trans (keep b o hb e)) hc2)
def outS (lt:Nat->Nat->Bool) (vs:List AM):List AM:=if vs.length < 2 then vs else outL lt vs
def Ur(h64:Cn vs.length lt)
  (hcol:∀ C F,(∀ h1 tk,(∀ b o,s.heap.get? b=some o->h1.get? b=some o)->C vs { s with heap:=h1,toks:=tk })->AQ (model prog w) A.in1 (collect it) C F s)
  (hk:2<=vs.length->∀ h' tk,(∀ b o,s.heap.get? b=some o->h'.get? b=some o)->∀ C,C κ { s with heap:=h',toks:=tk }->AQ (model prog w) A.in1.in1 (IP vs.toArray) C (λ_ _=>False) { s with heap:=h',toks:=tk })
  (hlt:∀ h',(∀ b o,s.heap.get? b=some o->h'.get? b=some o)->∀ i j,i < vs.length->j < vs.length->∀ C tk,(∀ tk',C (lt i j) { s with heap:=h',toks:=tk' })->kas_ask prog w A.in1.in1 κ vs i j C { s with heap:=h',toks:=tk })
  (hQ:∀ (h1 h'':Heap) tk c2,(∀ b o,s.heap.get? b=some o->h1.get? b=some o)->(∀ b o,h1.get? b=some o->h''.get? b=some o)->h''.get? h1.objs.size=some (Bx "list" (outS lt vs).toArray c2)->Q (.ref h1.objs.size) { s with heap:=h'',toks:=tk }) :
  AQ (model prog w) A (call (.builtin "sorted") [it]) Q E s:=by
 have h128:=h64.1;refine F5 kind_sorted K3 K4 (K5 _) ?_;unfold Builtin.«sorted»;refine AA (AF ?_);refine AA (hcol _ _ λh1 tk k1=>AA (FR ?_ (by rw[BK];lia)));have hoL:(h1.push (Bx "list" vs.toArray 0)).get? h1.objs.size=some (Bx "list" vs.toArray 0):=AK _ rfl;have k2:∀ b o,h1.get? b=some o->(h1.push (Bx "list" vs.toArray 0)).get? b=some o:=λb o q=>AB _ q
 have nb:∀ b o,h1.get? b=some o->b≠h1.objs.size:=λb o q=>Ag (AL q)
 generalize hh2:h1.push (Bx "list" vs.toArray 0)=h2 at hoL k2;refine AA (BN (Az KQ ⟨_,hoL,rfl⟩ J0 ?body (KR _)))
 case body =>
  by_cases hn:vs.length < 2
  ·refine bK (s:={ s with heap:=h2,toks:=tk }) hoL hn λh'' tk' c2 hkp hc=>⟨_,rfl,AF ⟨_,rfl,hQ h1 h'' tk' c2 k1 (λb o q=>hkp b o (nb b o q) (k2 b o q)) ?_⟩⟩
   unfold outS;rw[if_pos hn];exact hc
  ·refine Yh (s:={ s with heap:=h2,toks:=tk }) hoL ⋯ h64 (λh' hkp=>hk ⋯ h' tk λb o q=>hkp b o (nb _ _ (k1 b o q)) (k2 _ _ (k1 b o q))) (λh' hkp=>hlt h' λb o q=>hkp b o (nb _ _ (k1 b o q)) (k2 _ _ (k1 b o q))) λh'' tk' c2 hkp hc=>⟨_,rfl,AF ⟨_,rfl,hQ h1 h'' tk' c2 k1 (λb o q=>hkp b o (nb b o q) (k2 b o q)) ?_⟩⟩
   unfold outS;rw[if_neg hn];exact hc
end
def TuI (h:Heap) (u:AM) (ns:List Int):Prop:=∃ a xs,u=.ref a/\Em h a xs/\Bp xs.toList ns
def TuQ (h:Heap) (u:AM) (p:List Int×Int):Prop:=∃ a q t,u=.ref a/\Em h a #[q,.int p.2 t]/\TuI h q p.1
def Rq(k:∀ b o,h.get? b=some o->h'.get? b=some o)(x:Em h a xs):Em h' a xs:=by
 obtain⟨o,e,c,d⟩:=x;exact⟨o,k _ _ e,c,d⟩
def TuI.keeps(k:∀ b o,h.get? b=some o->h'.get? b=some o)(x:TuI h u ns):TuI h' u ns:=by
 obtain⟨a,xs,e,i,j⟩:=x;exact⟨a,xs,e,Rq k i,j⟩
theorem TuQ.keeps(k:∀ b o,h.get? b=some o->h'.get? b=some o)(x:TuQ h u p):TuQ h' u p:=by
 obtain⟨a,q,t,e,i,j⟩:=x;exact⟨a,q,t,e,Rq k i,j.keeps k⟩
theorem U6:∀ {vs ns},Bp vs ns->KS h vs (ns.map Cf) []
 | _,_,.nil=>.nil
 | _,_,.cons n t r=>Hh (.int n t) (U6 r)
def TuI.reads(x:TuI h u ns):IL h u (.tuple (ns.map Cf)) []:=by
 obtain⟨a,xs,rfl,⟨o,e,c,n,d⟩,j⟩:=x;exact .tuple e c d (U6 j)
theorem Of:∀ ns:List Int,Al (ns.map Cf)=true
 | []=>by simp[Al]
 | n::r=>by have:=Of r;simp[Al,B7,this]
theorem VB:∀ ns:List Int,BP (ns.map Cf)=0
 | []=>by simp[BP]
 | n::r=>by have:=VB r;simp[BP,EA,this]
theorem T8:∀ ns ms:List Int,Bs (ns.map Cf) (ms.map Cf)=decide (ns=ms)
 | [],[]=>by simp[Bs]
 | [],_::_=>by simp[Bs]
 | _::_,[]=>by simp[Bs]
 | n::r,m::s=>by
  have:=T8 r s;simp[ Bs,BG,this];by_cases h:n=m
  ·subst h;simp
  ·simp[h]
def eqv_tup(ns ms:List Int):BG (.tuple (ns.map Cf)) (.tuple (ms.map Cf))=decide (ns=ms):=by
 simp[BG,T8]
def TuI.eqAt(x:TuI s.heap u ns)(y:TuI s.heap v ms)(hu:A.units+1 < DV):EqAt A s u v (decide (ns=ms)):=by
 have:=eqAt_reads _ _ A s u v [] [] x.reads y.reads (by simp[B7,Of]) (by simp[B7,Of]) (by simp[EA,VB];lia);rw[eqv_tup]at this;exact this
section
variable {prog:Ai}{w:A5}{A:BD}{E:AM->AR->Prop}{s:AR}
def Z5(p1:Em s.heap a xs)(p2:Em s.heap b ys)(i1:Bp xs.toList ns)(i2:Bp ys.toList ms)(hu:A.units < DV)(h:Q (HT.lexLt ns ms) s) :
  AQ (model prog w) A (oneLt' true (.ref a) (.ref b)) Q E s:=by
 refine AA (wpAny_cRoomFor hu ?_);obtain⟨⟨cls,dd,data,sl⟩,ho,hc,n,hd⟩:=id p1;obtain⟨⟨cls2,dd2,data2,sl2⟩,ho2,hc2,n2,hd2⟩:=id p2;simp only at hc hd hc2 hd2;subst hc hd hc2 hd2;refine AA (wpAny_callSpecialIfBound?_slot ⟨_,ho,rfl⟩ EC (Cu EC ⟨_,ho,rfl⟩ GC (Fz _ _) (HT.tuple_lt_ints a b xs ys n n2 dd dd2 sl sl2 ns ms i1 i2) ⟨ho,ho2,?_⟩));exact Bz h
def Xe(p1:TuI s.heap x ns)(p2:TuI s.heap y ms)(hu:A.units < DV)(h:Q (HT.lexLt ns ms) s):AQ (model prog w) A (Io general' x y) Q E s:=by
 obtain⟨a,xs,rfl,q1,i1⟩:=p1;obtain⟨b,ys,rfl,q2,i2⟩:=p2;exact Sd q1 q2 i1 i2 hu h
def br(p1:TuI s.heap x ns)(p2:TuI s.heap y ms)(hu:A.units < DV)(h:Q (HT.lexLt ns ms) s):AQ (model prog w) A (Io oneType' x y) Q E s:=by
 obtain⟨a,xs,rfl,q1,i1⟩:=p1;obtain⟨b,ys,rfl,q2,i2⟩:=p2;exact Z5 q1 q2 i1 i2 hu h
theorem Qi:∀ {vs ws ns ms} i,Bp vs ns->Bp ws ms->(∀ ns' ms',(ns'=[]\/ms'=[])->ns'.length+ms.length=ms'.length+ns.length->HT.lexLt ns' ms'=fin)->Q (HT.lexLt ns ms) s->KatLex prog w A true fin Q (vs.zip ws) i s
 | _,_,[],ms,i,.nil,iw,hf,h=>by
  refine kat_nil ?_;rw[← hf [] ms (.inl rfl) ↥1];exact h
 | _,_,ns,[],i,iv,.nil,hf,h=>by
  rw[HQ];rw[← hf ns [] (.inr rfl) ↥1];exact h
 | _,_,n::ns,m::ms,i,.cons _ t iv,.cons _ t' iw,hf,h=>by
  refine kat_cons (GA ?_);rw[HT.lexLt_cons]at h;by_cases e:n=m
  ·subst e;rw[if_pos rfl]at h;rw[show (n == n)=true from by simp];exact kat_yes (Qi (i+1) iv iw (λns' ms' c l=>hf ns' ms' c ↥2) h)
  ·rw[if_neg e]at h;rw[show (n == m)=false from by simpa using e];refine kat_no ?_;by_cases hi:i=0
   ·subst hi;exact oneLt_int h
   ·rw[show (true && i == 0)=false from by simpa using hi];exact kat_one _ _ (lt_int h)
def bZ(p1:TuI s.heap x ns)(p2:TuI s.heap y ms)(h:Q (HT.lexLt ns ms) s):AQ (model prog w) A (Io (tuples' true) x y) Q E s:=by
 obtain⟨a,xs,rfl,⟨o,e,c,n,d⟩,i1⟩:=p1;obtain⟨b,ys,rfl,⟨o2,e2,c2,n2,d2⟩,i2⟩:=p2;refine kat_lt e d e2 d2 (Qi 0 i1 i2 (λns' ms' c l=>?_) h);have z1:xs.size=ns.length:=by rw[← i1.length];simp
 have z2:ys.size=ms.length:=by rw[← i2.length];simp
 rcases c with rfl | rfl
 ·cases ms' with
  | nil=>rw[HT.lexLt_nil_nil];exact (decide_eq_false (by simp at l;lia)).symm
  | cons y r=>rw[HT.lexLt_nil_cons];exact (decide_eq_true (by simp_all)).symm
 ·cases ns' with
  | nil=>rw[HT.lexLt_nil_nil];exact (decide_eq_false (by simp at l;lia)).symm
  | cons y r=>rw[HT.lexLt_cons_nil];exact (decide_eq_false (by simp at l;lia)).symm
def Xj(p1:TuQ s.heap x p)(p2:TuQ s.heap y q)(hu:A.units+1 < DV)(h:Q (ltP p q) s):AQ (model prog w) A (Io (tuples' false) x y) Q E s:=by
 obtain⟨a,u,t,rfl,⟨o,e,c,n,d⟩,i1⟩:=p1;obtain⟨b,v,t',rfl,⟨o2,e2,c2,n2,d2⟩,i2⟩:=p2;have he:=i1.eqAt i2 hu;obtain⟨a',xs,rfl,q1,j1⟩:=i1;obtain⟨b',ys,rfl,q2,j2⟩:=i2;exact Xu e d e2 d2 q1 q2 j1 j2 he ⋯ h
end
inductive TuIs (h:Heap):List AM->List (List Int)->Prop
 | nil:TuIs h [] []
 | cons {v:AM} {ns:List Int} {vs:List AM} {nss:List (List Int)}:TuI h v ns->TuIs h vs nss->TuIs h (v::vs) (ns::nss)
inductive TuQs (h:Heap):List AM->List (List Int×Int)->Prop
 | nil:TuQs h [] []
 | cons {v:AM} {p:List Int×Int} {vs:List AM} {ps:List (List Int×Int)}:TuQ h v p->TuQs h vs ps->TuQs h (v::vs) (p::ps)
theorem TuIs.keeps(k:∀ b o,h.get? b=some o->h'.get? b=some o):∀ {vs nss},TuIs h vs nss->TuIs h' vs nss
 | _,_,.nil=>.nil
 | _,_,.cons a r=>.cons (a.keeps k) (r.keeps k)
theorem TuQs.keeps(k:∀ b o,h.get? b=some o->h'.get? b=some o):∀ {vs nss},TuQs h vs nss->TuQs h' vs nss
 | _,_,.nil=>.nil
 | _,_,.cons a r=>.cons (a.keeps k) (r.keeps k)
theorem TuIs.at:∀ {vs nss},TuIs h vs nss->∀ i,i < vs.length->TuI h (vs.getD i CU) (nss.getD i [])
 | _,_,.nil,i,hi=>absurd hi (Fv _)
 | _,_,.cons a r,0,_=>a
 | _,_,.cons a r,i+1,hi=>by simpa using r.at i (by simp_all)
theorem TuQs.at:∀ {vs nss},TuQs h vs nss->∀ i,i < vs.length->TuQ h (vs.getD i CU) (nss.getD i ([],0))
 | _,_,.nil,i,hi=>absurd hi (Fv _)
 | _,_,.cons a r,0,_=>a
 | _,_,.cons a r,i+1,hi=>by simpa using r.at i (by simp_all)
theorem TuIs.tups:∀ {vs nss},TuIs h vs nss->(∀ ns∈nss,ns≠[])->∃ fs,KatTups h vs fs/\fs.length=vs.length/\∀ v∈fs,∃ n t,v=B0 n t
 | _,_,.nil,_=>⟨[],trivial,rfl,λ_ hv=>nomatch hv⟩
 | _,_,.cons hq r,hn=>by
  obtain⟨a,xs,rfl,⟨o,e,c,n,d⟩,j⟩:=hq;obtain⟨fs,k,l,f⟩:=r.tups λx hx=>hn x (AH _ hx)
  obtain⟨xs⟩:=xs;cases j with
  | nil=>exact absurd rfl (hn [] AG)
  | cons m t j'=>exact⟨.int m t::fs,⟨⟨a,o,_,n,rfl,e,c,d,by simp_all⟩,k⟩,by simp[l],λv hv=>by
    rcases AN.mp hv with z | z
    ·exact⟨m,t,z⟩
    ·exact f v z⟩
theorem TuQs.tups:∀ {vs nss},TuQs h vs nss->∃ fs,KatTups h vs fs/\fs.length=vs.length/\∀ v∈fs,∃ a o,v=B3 a/\h.get? a=some o/\o.cls=.type "tuple"
 | _,_,.nil=>⟨[],trivial,rfl,λ_ hv=>nomatch hv⟩
 | _,_,.cons hq r=>by
  obtain⟨a,q,t,rfl,⟨o,e,c,n,d⟩,a',xs,rfl,⟨o',e',c',_⟩,_⟩:=hq;obtain⟨fs,k,l,f⟩:=r.tups;exact⟨.ref a'::fs,⟨⟨a,o,_,n,rfl,e,c,d,by simp⟩,k⟩,by simp[l],λv hv=>by
   rcases AN.mp hv with z | z
   ·exact⟨a',o',z,e',c'⟩
   ·exact f v z⟩
def kindI (nss:List (List Int)):Ci:=if (nss.all λns=>!ns.isEmpty)=true then tuples' true else if (nss.headD []).isEmpty=true then oneType' else general'
section
variable {M:Model}{A:BD}{E:AM->AR->Prop}{s:AR}
def Ox(e:s.heap.get? a=some o)(c:o.cls=.type "tuple"):Looks M s.heap (Gv (.ref a)) (.type "tuple"):=by
 rw[← c];exact (Looks.ld e).andThen .now
def jT(t:TuQs s.heap vs ps)(h2:2<=vs.length)(h:Q (tuples' false) s):AQ M A (IP vs.toArray) Q E s:=by
 obtain⟨fs,k,l,f⟩:=t.tups;refine kat_kind (T:=.type "tuple") k ⋯ (λv hv=>?_) rfl h;obtain⟨a,o,rfl,e,c⟩:=f v hv;exact Ox e c
def Fst:List (Option AM)->List (List Int)->Prop
 | [],[]=>True
 | f::fs,ns::nss=>(f.isSome=!ns.isEmpty)/\Fst fs nss
 | _,_=>False
theorem Ra:∀ {vs nss},TuIs s.heap vs nss->∃ fs,Fst fs nss/\∀ Q,Q fs s->AQ M A (vs.mapM firstOfTuple') Q E s
 | _,_,.nil=>⟨[],trivial,λQ h=>by rw[List.mapM_nil];exact AF h⟩
 | _,_,.cons hq r=>by
  obtain⟨a,xs,rfl,⟨o,e,c,n,d⟩,j⟩:=hq;obtain⟨fs,k,f⟩:=Ra r;refine⟨xs[0]?::fs,⟨?_,k⟩,λQ h=>?_⟩
  ·obtain⟨xs⟩:=xs;cases j with
   | nil=>simp_all
   | cons m t j'=>simp_all
  ·rw[List.mapM_cons];exact AA (AA ((Ox e c).here (AA (Hm e d (AF (AA (f _ (AF h))))))))
theorem RX:∀ {fs nss},Fst fs nss->(fs.all λx=>x.isSome)=nss.all λns=>!ns.isEmpty
 | [],[],_=>rfl
 | _::_,_::_,h=>by rw[Dt,Dt,h.1,RX h.2]
 | [],_::_,h=>h.elim
 | _::_,[],h=>h.elim
def Yn(t:TuIs s.heap vs nss)(h2:2<=vs.length)(h:Q (kindI nss) s):AQ M A (IP vs.toArray) Q E s:=by
 unfold kindI at h;split at h
 ·rename_i hall;obtain⟨fs,k,l,f⟩:=t.tups λns hn e=>by have:=AJ.mp hall ns hn;rw[e]at this;cases this
  refine kat_kind (T:=.type "int") k ⋯ (λv hv=>?_) rfl h;obtain⟨n,t,rfl⟩:=f v hv;exact Looks.of_pure rfl
 ·rename_i hall;rw[kat_kind_eq,Ho];obtain⟨fs,k,f⟩:=Ra t;refine AA (AA (f _ (AF ?_)));have e1:¬ ((fs.toArray.all λx=>x.isSome)=true):=by rw[IC,RX k];exact hall
  rw[if_neg e1];cases t with
  | nil=>exact absurd h2 ∅
  | @cons v1 n1 vs1 nss1 t1 t2 =>
   cases fs with
   | nil=>exact k.elim
   | cons f0 fs =>
    have hf:=k.1;rw[List.headD_cons]at h;split at h
    ·rename_i he;rw[he]at hf;have e2:¬ (((f0::fs).toArray[0]?.bind id).isSome=true):=by simp;simpa using hf
     rw[if_neg e2];have each:∀ v∈v1::vs1,Looks M s.heap (Gv v) (.type "tuple"):=λv hv=>by
      obtain⟨i,hi,rfl⟩:=CN hv;obtain⟨a,xs,e,⟨o,e',c,_⟩,_⟩:=(TuIs.cons t1 t2).at i hi;rw[BF,AY hi,Option.getD_some]at e;rw[e];exact Ox e' c
     rw[oneTypeOnly'_eq,Ho];refine AA (AA (AA (kas_mapM _ (λv hv Q' hq=>(each v hv).here hq) (AF ?_))));simp only[Ad,List.getElem?_toArray,List.getElem?_cons_zero];refine AF (AF ?_);have e3:((Cw "tuple"::Bw (λ_=>Cw "tuple") vs1).toArray.all λx=>x == Cw "tuple")=true:=by
      simp only[IC,Dt,List.all_map,Ar,AJ];exact⟨rfl,λ_ _=>rfl⟩
     rw[e3];exact h
    ·rename_i he;have e2:((f0::fs).toArray[0]?.bind id).isSome=true:=by simp;rw[hf];simpa using he
     rw[if_pos e2];exact AF h
end
end L2
namespace D
open PySem L2 PyProof.Rows
noncomputable def tI (ns:List Int):T:=.t ((ns.map V.int).map T.a)
noncomputable def tQ (p:List Int×Int):T:=.t [tI p.1,.a (.int p.2)]
noncomputable def ltI (nss:List (List Int)) (i j:Nat):Bool:=HT.lexLt (nss.getD i []) (nss.getD j [])
noncomputable def ltQ (ps:List (List Int×Int)) (i j:Nat):Bool:=ltP (ps.getD i ([],0)) (ps.getD j ([],0))
noncomputable def sortBy {α:Type} (lt:Nat->Nat->Bool) (d:α) (xs:List α):List α:=if xs.length < 2 then xs else (runT lt (C8 xs.length)).toList.map λi=>xs.getD i d
def gF lt vs:outS lt vs=sortBy lt CU vs:=rfl
def Wz lt (d:α) xs:(sortBy lt d xs).length=xs.length:=by
 unfold sortBy;split
 ·rfl
 ·have:=(MW (n:=xs.length) ⋯).run lt;rw[Af,Gb this,Hq]
def Zp lt (d:α) xs:∃ is:List Nat,is.Perm (AI xs.length)/\sortBy lt d xs=is.map λi=>xs.getD i d:=by
 unfold sortBy;split
 ·refine⟨AI xs.length,.refl _,DJ ↥1 λi h1 h2=>?_⟩;simp[ h1]
 ·exact⟨_,(MW ⋯).run lt,rfl⟩
def fC{α:Type}(d:α) xs:((AI xs.length).map λi=>xs.getD i d)=xs:=by
 refine DJ ↥1 λi h1 h2=>?_
 simp[ h2]
def XJ lt (d:α) xs:(sortBy lt d xs).Perm xs:=by
 obtain⟨is,p,e⟩:=Zp lt d xs;rw[e];have:=p.map λi=>xs.getD i d
 rw[fC]at this;exact this
section
variable {X:Cx}{pins:List (Addr×Obj)}{σ:L2.St}{H:Hp}{s:AR}
def Re(I:Inv X pins σ H s)(h:Im X.K H v (tI ns))(r:RelV v u):TuI s.heap u ns:=by
 obtain⟨p,vs,rfl,h1,h2⟩:=h.inv;cases r;have:=h2.of_atoms;subst this;obtain⟨its,rv,pl,_⟩:=I.tuple h1.sq;exact⟨p,its.toArray,rfl,pl,TL rv⟩
theorem Qe(I:Inv X pins σ H s):∀ {vs us} nss,Ims X.K H vs (nss.map tI)->Vals vs us->TuIs s.heap us nss
 | vs,us,[],h,r=>by have:=h.inv0;subst this;cases r;exact .nil
 | vs,us,ns::nss,h,r=>by
  obtain⟨v,r',rfl,h1,h2⟩:=h.inv;cases r with
  | cons r1 r2=>exact .cons (Re I h1 r1) (Qe I nss h2 r2)
def Vt(I:Inv X pins σ H s)(h:Im X.K H v (tQ p))(r:RelV v u):TuQ s.heap u p:=by
 obtain⟨a,vs,rfl,h1,h2⟩:=h.inv;cases r;obtain⟨v1,r1,rfl,i1,h3⟩:=h2.inv;obtain⟨v2,r2,rfl,i2,h4⟩:=h3.inv;have:=h4.inv0;subst this;have:=i2.inva;subst this;obtain⟨its,rv,pl,_⟩:=I.tuple h1.sq;obtain⟨w1,w2,rfl,q1,q2⟩:=vals2 rv;obtain⟨t,rfl⟩:=q2;exact⟨a,w1,t,rfl,pl,Re I i1 q1⟩
theorem Q4(I:Inv X pins σ H s):∀ {vs us} ps,Ims X.K H vs (ps.map tQ)->Vals vs us->TuQs s.heap us ps
 | vs,us,[],h,r=>by have:=h.inv0;subst this;cases r;exact .nil
 | vs,us,p::ps,h,r=>by
  obtain⟨v,r',rfl,h1,h2⟩:=h.inv;cases r with
  | cons r1 r2=>exact .cons (Vt I h1 r1) (Q4 I ps h2 r2)
theorem Qr(r:Vals vs us):∀ (is:List Nat),(∀ i∈is,i < vs.length)->Vals (is.map λi=>vs.getD i .non) (is.map λi=>us.getD i CU)
 | [],_=>.nil
 | i::is,h=>by
  have hi:=h i AG;obtain⟨u,e,q⟩:=r.get (i:=i) (x:=vs[i]) ↥1;refine .cons ?_ (Qr r is λj hj=>h j (AH _ hj));simp_all
def Xo(r:Vals vs us) lt:Vals (sortBy lt .non vs) (sortBy lt CU us):=by
 unfold sortBy;rw[← r.length];split
 ·exact r
 ·refine Qr r _ λi hi=>?_
  have:=((MW ⋯).run lt).subset hi;simp_all
theorem SZ{K H vs ts}(r:Ims K H vs ts):∀ (is:List Nat),(∀ i∈is,i < vs.length)->Ims K H (is.map λi=>vs.getD i .non) (is.map λi=>ts.getD i (.a .non))
 | [],_=>.nil
 | i::is,h=>by
  have hi':i < ts.length:=by rw[← r.len];exact (h i AG)
  obtain⟨u,e,q⟩:=r.get (i:=i) (t:=ts[i]) ↥1;refine .cons ?_ (SZ r is λj hj=>h j (AH _ hj));show Im K H (vs.getD i .non) (ts.getD i (.a .non));rw[BF,e,BF,AY hi'];exact q
def XH{K H vs ts}(r:Ims K H vs ts) lt:Ims K H (sortBy lt .non vs) (sortBy lt (.a .non) ts):=by
 unfold sortBy;rw[← r.len];split
 ·exact r
 ·refine SZ r _ λi hi=>?_
  have:=((MW ⋯).run lt).subset hi;simp_all
end
def Srt (ts:List T) (lt:Nat->Nat->Bool):Prop:=(∃ nss,ts=nss.map tI/\lt=ltI nss)\/∃ ps,ts=ps.map tQ/\lt=ltQ ps
def jU(hr:Room k X.A)(I:Inv X pins σ H s)(rv:Vals ws its)(hi:Ims X.K H ws ts)(hs:Srt ts lt)(hl:Cn ts.length lt)
  (hcol:∀ C F,(∀ h1 tk,(∀ b o,s.heap.get? b=some o->h1.get? b=some o)->C its { s with heap:=h1,toks:=tk })->AQ (model X.prog X.w) X.A.in1 (collect it) C F s)
  (q:∀ l,H l=none->Q (.ref l) (upd H l (.lst (sortBy lt .non ws)))):AQ (model X.prog X.w) X.A (call (.builtin "sorted") [it]) (EP X pins σ Q) X.xe s:=by
 have l2:=hi.len;have un:=hr.un;have hlc:=hl.1;rw[← l2,rv.length]at hl;have fin:∀ (h1 h'':Heap) tk c2,(∀ b o,s.heap.get? b=some o->h1.get? b=some o)->(∀ b o,h1.get? b=some o->h''.get? b=some o)->h''.get? h1.objs.size=some (Bx "list" (outS lt its).toArray c2)->EP X pins σ Q (.ref h1.objs.size) { s with heap:=h'',toks:=tk }:=λh1 h'' tk c2 k1 k2 e=>by
  have I1:=I.kept (t':=s.toks) k1;exact⟨.ref h1.objs.size,_,I1.laid k2 (AE _) (show ObjOk X.prog X.w _ h'' _ (.lst (sortBy lt .non ws)) from ⟨by rw[Wz,BK];lia,sortBy lt CU its,c2,Xo rv lt,by rw[gF]at e;simpa using e⟩),rfl,q _ (I1.hok.fresh (AE _))⟩
 rcases hs with ⟨nss,rfl,rfl⟩ | ⟨ps,rfl,rfl⟩
 ·have t:=Qe I nss hi rv;refine Ur hl hcol (λh2 h' tk kp C hC=>Yn (t.keeps kp) h2 hC) (λh' kp i j hi hj C tk hC=>?_) fin;have a:=(t.keeps kp).at i hi;have b:=(t.keeps kp).at j hj;have hu:=by show X.A.units+1+1 < DV;lia
  unfold PySem.W.kas_ask kindI;split
  ·exact bZ a b (hC tk)
  ·split
   ·exact br a b hu (hC tk)
   ·exact Xe a b hu (hC tk)
 ·have t:=Q4 I ps hi rv;refine Ur hl hcol (λh2 h' tk kp C hC=>jT (t.keeps kp) h2 hC) (λh' kp i j hi hj C tk hC=>?_) fin;exact Xj ((t.keeps kp).at i hi) ((t.keeps kp).at j hj) (by show X.A.units+1+1+1 < DV;lia) (hC tk)
noncomputable def asTI:T->Option (List Int)
 | .t xs=>intsOf xs
 | _=>none
noncomputable def asTIs:List T->Option (List (List Int))
 | []=>some []
 | t::r=>(asTI t).bind λns=>(asTIs r).map λnss=>ns::nss
theorem dX(h:asTI t=some ns):t=tI ns:=by
 cases t with
 | a v=>cases h
 | l v=>cases h
 | f v=>cases h
 | x u v=>cases h
 | w v=>cases h
 | t xs=>exact congrArg T.t (Oi h)
theorem Se:∀ {ts nss},asTIs ts=some nss->ts=nss.map tI
 | [],_,h=>by cases h;rfl
 | t::r,_,h=>by
  obtain⟨ns,e1,h⟩:=bind_some h;obtain⟨nss,e2,rfl⟩:=LF h;rw[dX e1,Se e2];rfl
end D
namespace L2
open PySem PySem.Spec PyProof.Rows
section
variable {prog:Ai}{w:A5}{A:BD}{E:AM->AR->Prop}
def bN{h:Heap}{g:Array GenState}{dr:Drawn}{tk:Nat}{os:OsState}{it d:Addr}{i ep:Nat}{es:Array Eb}{od:Obj}{Q}
  (hit:h.get? it=some { cls:=.type "dict_keyiterator",data:=.fields #[.ref d,.int i 0,.int es.size 0,.int ep 0] }) (hod:h.get? d=some od) (hdd:od.data=.dict es ep) (hi:i < es.size)
  (hQ:∀ h',h'.get? it=some { cls:=.type "dict_keyiterator",data:=.fields #[.ref d,.int ((i+1:Nat):Int) 0,.int es.size 0,.int ep 0] }->Cm it h h'->Q (some es[i].key) ⟨h',g,dr,tk,os⟩) :
  AQ (model prog w) A (Ek (.ref it)) Q E ⟨h,g,dr,tk,os⟩:=by
 obtain⟨oc,odct,odat,osl⟩:=od;subst hdd;have hT:(⟨h,g,dr,tk,os⟩:AR).TypeIs (.ref it) "dict_keyiterator":=⟨_,hit,rfl⟩
 unfold Ek;refine AA (By (Ay hT BY (Az BY hT Eh ?_ (Ee _))))
 repeat (any_goals (first | assumption | wp_step))
 have e0:(if (i:Int) < 0 then none else es[(i:Int).toNat]?)=some es[i]:=by rw[if_neg ⋯,Ce,Ah hi]
 rw[e0]
 repeat (any_goals (first | assumption | wp_step))
 refine⟨_,rfl,AF (hQ _ ((CA _ hit rfl).trans (by kernel_rfl)) (Be ..))⟩
def X9{h:Heap}{g:Array GenState}{dr:Drawn}{tk:Nat}{os:OsState}{it d:Addr}{ep:Nat}{es:Array Eb}{od:Obj}{Q}(hh:A.handled=none)
  (hit:h.get? it=some { cls:=.type "dict_keyiterator",data:=.fields #[.ref d,.int es.size 0,.int es.size 0,.int ep 0] }) (hod:h.get? d=some od) (hdd:od.data=.dict es ep)
  (hQ:∀ h',Ef it h h'->Q none ⟨h',g,dr,tk,os⟩) :
  AQ (model prog w) A (Ek (.ref it)) Q E ⟨h,g,dr,tk,os⟩:=by
 obtain⟨oc,odct,odat,osl⟩:=od;simp only at hdd;subst hdd;have hT:(⟨h,g,dr,tk,os⟩:AR).TypeIs (.ref it) "dict_keyiterator":=⟨_,hit,rfl⟩
 unfold Ek;refine AA (By (Ay hT BY (Az BY hT Eh ?_ (Ee _))))
 repeat (any_goals (first | assumption | wp_step))
 have e0:(if (es.size:Int) < 0 then none else es[(es.size:Int).toNat]?)=none:=by rw[if_neg ⋯,Ce];simp
 rw[e0]
 repeat (any_goals (first | assumption | wp_step))
 unfold raiseNew;refine AA (HH ?_);rw[show A.in1.handled=none from hh];refine AA (AF (IJ ?_));refine AA (CD (T:="StopIteration") (b:=true) ⟨_,AK _ rfl,rfl⟩ D4 (AF ?_));exact hQ _ (((Be ..).extBut.push _).push _)
end
open PySem PySem.Spec PyProof.Rows PySem.W
def RawD (h:Heap) (d:Addr) (es:Array Eb) (ep:Nat):Prop:=∃ o,h.get? d=some o/\o.ExactDict/\o.data=.dict es ep
def RawD.lt(x:RawD h d es ep):d < h.objs.size:=let ⟨_,e,_⟩:=x;AL e
def RawD.typeIs{s:AR}{d es ep}(x:RawD s.heap d es ep):s.TypeIs (.ref d) "dict":=let ⟨o,e,c,_⟩:=x;⟨o,e,c.1⟩
def RawD.keep(x:RawD h d es ep)(k:∀ o,h.get? d=some o->h'.get? d=some o):RawD h' d es ep:=let ⟨o,e,c⟩:=x;⟨o,k o e,c⟩
abbrev keyIt (d:Addr) (i n ep:Nat):Obj:={ cls:=.type "dict_keyiterator",data:=.fields #[.ref d,.int i 0,.int n 0,.int ep 0] }
section
variable {prog:Ai}{w:A5}{A:BD}{E:AM->AR->Prop}{s:AR}{d:Addr}{es:Array Eb}{ep:Nat}
def VQ(hd:(d == B4)=false)(hm:RawD s.heap d es ep)(hQ:Q (.ref s.heap.objs.size) { s with heap:=s.heap.push (keyIt d 0 es.size ep) }):AQ (model prog w) A (GB (.ref d)) Q E s:=by
 have hT:=hm.typeIs;have ⟨o,ho,hc,hdat⟩:=hm;refine JG hT GJ (Az GJ hT PySem.F.entry_dict_iter ?_ (PySem.F.args_dict_iter_1 _));unfold Builtin.«dict.__iter__»;refine AA ?_;unfold J8;refine AA (IB hT ?_);refine AF ?_;show AQ _ _ (FY d >>= _) _ _ s;unfold FY;rw[if_neg (by rw[hd];exact AV)];refine AA (AF ?_);refine AA (wpAny_dictEntries ho hdat (AA (wpAny_dictEpoch ho hdat ?_)));refine AA (A8 (AF ⟨_,rfl,"dict_keyiterator",_,⟨_,AK _ rfl,rfl⟩,BY.lookup,?_⟩));exact hQ
def XB(hh:A.handled=none) it (hne:d≠it):Walks prog w A it [it,d] [it] es.size (λi v=>∃ e,es[i]?=some e/\v=e.key) (λi h=>h.get? it=some (keyIt d i es.size ep)/\RawD h d es ep) where
 sub:=λb hb=>AN.mpr (.inl (AC.mp hb))
 frame:=λi h h' st k=>⟨k it AG _ st.1,st.2.keep λo e=>k d (AH _ AG) o e⟩
 item:=λi s Q E hi st hQ=>by
  obtain⟨h,g,dr,tk,os⟩:=s;obtain⟨o,ho,hc,hdat⟩:=st.2;exact bN st.1 ho hdat hi λh' e1 e2=>hQ _ h' tk ⟨es[i],by simp,rfl⟩ ⟨e1,⟨o,(e2.2 d hne).trans ho,hc,hdat⟩⟩ λb o' hb e=>(e2.2 b (λz=>hb (AC.mpr z))).trans e
 done:=λs Q E st hQ=>by
  obtain⟨h,g,dr,tk,os⟩:=s;obtain⟨o,ho,hc,hdat⟩:=st.2;exact X9 hh st.1 ho hdat λh' e=>hQ h' tk λb o' hb e'=>e b o' (λz=>hb (AC.mpr z)) e'
 self:=λi s Q E st hQ=>wpAny_pyIter_keyiter ⟨_,st.1,rfl,rfl⟩ hQ
def P5(lo:(d == B4)=false):KdlSrc prog w "dict" d d es.size (λi v=>∃ e,es[i]?=some e/\v=e.key) (λh=>RawD h d es ep) where
 type:=λ_ hm=>hm.typeIs
 there:=λ_ hm=>⟨hm.lt,hm.lt⟩
 keep:=λ_ _ hm hk=>hm.keep λo e=>hk d (.inl rfl) o e
 notList:=by decide
 notTuple:=by decide
 hint:=λ_ _ _ _ hm hq=>kdl_hint_dict hm.typeIs hq
 iter:=λA s hh hm=>⟨_,_,(λ_ _ hq=>VQ lo hm hq),XB hh _ (Ag hm.lt),⟨AK _ rfl,hm.keep λo e=>AB _ e⟩⟩
end
theorem OH{R}:∀ {xs:List α} {ys:List β},EI R xs ys->xs.length=ys.length
 | _,_,.nil=>rfl
 | _,_,.cons _ t=>by simp[OH t]
end L2
namespace D
open PySem L2
noncomputable def keyTup (k:List Key):T:=.t ((k.map kV).map T.a)
def RH(h:H b=some (.tup (k.map kV))):Im K H (.ref b) (keyTup k):=Im.tup h (Ims.atoms _)
noncomputable def keysT (kvs:List (List Key×T)):List T:=kvs.map λkv=>keyTup kv.1
noncomputable def rSortD (K:Fg):List V->Hp->VK->Prop:=λxs H Q=>∃ p kvs lt,xs=[.ref p]/\Rd H p (.dT kvs)/\Srt (kvs.map λkv=>keyTup kv.1) lt/\Cn kvs.length lt/\∀ l us,H l=none->Ims K H us (kvs.map λkv=>keyTup kv.1)->Q (.ref l) (upd H l (.lst (sortBy lt .non us)))
def VJ(hr:Room k X.A):CallR X (.builtin "sorted") (rSortD X.K):=by
 intro pins s σ H xs us Q I r h;obtain⟨p,kvs,lt,rfl,hq,hs,hl,q⟩:=h;obtain⟨u,rfl,rfl⟩:=vals1 r;obtain⟨hz,hsm,xs,hk,o',es,ep,e1,e2,e3,e4,_,_⟩:=Mg I.hok hq;have hm:RawD s.heap p es ep:=⟨o',e1,e2,e3⟩
 have rv:∀ xs:List (List Key×Addr×AM),Vals (xs.map λx=>V.ref x.2.1) (xs.map λx=>B3 x.2.1):=λxs=>by
  induction xs with
  | nil=>exact .nil
  | cons a r ih=>exact .cons rfl ih
 have hi:∀ {kvs:List (List Key×V)} {xs:List (List Key×Addr×AM)},L2.KT H kvs xs->Ims X.K H (xs.map λx=>V.ref x.2.1) (kvs.map λkv=>keyTup kv.1):=by
  intro kvs xs h;induction h with
  | nil=>exact .nil
  | @cons a b l m h t ih=>exact .cons (RH h.2.1) ih
 have hn:es.size=xs.length:=by rw[← As,e4,Af]
 have hx:=(OH hk).symm;refine jU hr I (rv xs) (hi hk) hs (by simp_all) (λC F hC=>PySem.W.kdu_collect (P5 hsm) (hr.hd) hm ⋯ λh' tk acc kp ha=>?_) λl hl'=>q l _ hl' (hi hk)
 have:acc.toList=xs.map λx=>B3 x.2.1:=by
  refine DJ (by rw[As,ha.1,hn,Af]) λj h1 h2=>?_
  obtain⟨e,he,hv⟩:=ha.2 j acc[j] ↥1;rw[← ER,e4,Am]at he;have hjx:=by simpa using h2
  rw[AY hjx]at he;cases he;simp;exact hv
 rw[this];exact hC h' tk kp
theorem Th(h:EI (λ(a:List Key×V) b=>a.1=b.1/\Im K H a.2 b.2) l kvs):(l.map λkv=>keyTup kv.1)=keysT kvs:=by
 induction h with
 | nil=>rfl
 | @cons a b l m h t ih=>simp only[Ad,keysT]at ih ⊢;rw[h.1,ih]
end D
namespace L2
open PySem PySem.W PyProof.Rows
def atA (p:Array Nat) (i:Nat):Nat:=p.getD i 0
def LM p i:atA p i=(p[i]?).getD 0:=by unfold atA;rw[Fe]
theorem Ms lt {f:α->KasT β}:∀ t,runT lt (t.bind f)=runT lt (f (runT lt t))
 | .ret a=>rfl
 | .ask i j k=>Ms lt (k (lt i j))
structure Tot(n:Nat)(lt:Nat->Nat->Bool):Prop where
 tot:∀ i j,i < n->j < n->i≠j->lt i j=false->lt j i=true
 asy:∀ i j,i < n->j < n->lt i j=true->lt j i=false
 tr:∀ i j k,i < n->j < n->k < n->lt i j=true->lt j k=true->lt i k=true
theorem Arr.size(h:Arr n p):p.size=n:=by
 have:=Gb h;simpa using this
def Arr.inj(h:Arr n p)(hi:i < n)(hj:j < n)(e:atA p i=atA p j):i=j:=by
 have hs:=h.size;rw[LM,LM,Ah ⋯,Ah ⋯]at e;have pw:=BI.mp ((K8 h).mpr D9);have hi':i < p.toList.length:=by rw[As];lia
 have hj':j < p.toList.length:=by rw[As];lia
 have e':=e;rcases Nat.lt_trichotomy i j with z | z | z
 ·exact absurd e' (pw i j hi' hj' z)
 ·exact z
 ·exact absurd e'.symm (pw j i hj' hi' z)
def Arr.atlt(h:Arr n p)(h0:0 < n) i:atA p i < n:=h.lt h0 i
def Na(hk:k < p.size)(hl:l<=k) i:atA (bubble p k (k - l)) i=if i=l then atA p k else if l < i/\i<=k then atA p (i - 1) else atA p i:=by
 have e:=getElem?_bubble hk (k - l) ⋯ i;rw[show k - (k - l)=l from by lia]at e;rw[LM,e];split
 ·rw[LM]
 ·split
  ·rw[LM]
  ·rw[LM]
def UA(hm:m<=p.size) i:atA (kas_rev p 0 m) i=if i < m then atA p (m - 1 - i) else atA p i:=by
 unfold kas_rev;rw[LM,(Ia hm i)];by_cases h:i < m
 ·rw[if_pos ⟨Au _,h⟩,if_pos h,Bc,LM]
 ·rw[if_neg (λz=>h z.2),if_neg h,LM]
section
variable {n:Nat}{lt:Nat->Nat->Bool}
def Asc (lt:Nat->Nat->Bool) (p:Array Nat) (k:Nat):Prop:=∀ i j,i < j->j < k->lt (atA p i) (atA p j)=true
def Dsc (lt:Nat->Nat->Bool) (p:Array Nat) (k:Nat):Prop:=∀ i j,i < j->j < k->lt (atA p j) (atA p i)=true
def Asc.more(T:Tot n lt)(h:Arr n p)(a:Asc lt p m)(hm:1<=m)(hmn:m < n)(hc:lt (atA p (m - 1)) (atA p m)=true):Asc lt p (m+1):=λi j hij hj=>by
 by_cases e:j=m
 ·subst e;by_cases e2:i=j - 1
  ·subst e2;exact hc
  ·exact T.tr _ _ _ (h.atlt ⋯ _) (h.atlt ⋯ _) (h.atlt ⋯ _) (a i (j - 1) ⋯ ⋯) hc
 ·exact a i j hij ⋯
def Dsc.more(T:Tot n lt)(h:Arr n p)(a:Dsc lt p m)(hm:1<=m)(hmn:m < n)(hc:lt (atA p m) (atA p (m - 1))=true):Dsc lt p (m+1):=λi j hij hj=>by
 by_cases e:j=m
 ·subst e;by_cases e2:i=j - 1
  ·subst e2;exact hc
  ·exact T.tr _ _ _ (h.atlt ⋯ _) (h.atlt ⋯ _) (h.atlt ⋯ _) hc (a i (j - 1) ⋯ ⋯)
 ·exact a i j hij ⋯
theorem Pg(T:Tot n lt)(h:Arr n p):∀ f m,1<=m->m+f<=n->Asc lt p m->m<=runT lt (kas_asc p f m)/\runT lt (kas_asc p f m)<=m+f/\Asc lt p (runT lt (kas_asc p f m))/\(runT lt (kas_asc p f m) < m+f->lt (atA p (runT lt (kas_asc p f m))) (atA p (runT lt (kas_asc p f m) - 1))=true)
 | 0,m,_,_,a=>⟨AE _,AE _,a,λz=>absurd z (BA _)⟩
 | f+1,m,h1,h2,a=>by
  have e:runT lt (kas_asc p (f+1) m)=runT lt (if lt (atA p m) (atA p (m - 1))=true then .ret m else kas_asc p f (m+1)):=rfl;rw[e];by_cases hc:lt (atA p m) (atA p (m - 1))=true
  ·rw[if_pos hc];exact⟨AE _,Bg _ _,a,λ_=>hc⟩
  ·rw[if_neg hc];have hne:atA p m≠atA p (m - 1):=λz=>by have:=h.inj ⋯ ⋯ z;lia
   have:=T.tot _ _ (h.atlt ⋯ _) (h.atlt ⋯ _) hne (by simpa using hc);obtain⟨b1,b2,b3,b4⟩:=Pg T h f (m+1) ⋯ ⋯ (a.more T h h1 ⋯ this);exact⟨by lia,by lia,b3,λz=>b4 ⋯⟩
theorem RG(T:Tot n lt)(h:Arr n p):∀ f m,1<=m->m+f<=n->Dsc lt p m->∃ m',m<=m'/\m'<=m+f/\Dsc lt p m'/\runT lt (kas_desc f p m 0)=(p,m',0)
 | 0,m,_,_,a=>⟨m,AE _,AE _,a,rfl⟩
 | f+1,m,h1,h2,a=>by
  have e:runT lt (kas_desc (f+1) p m 0)=runT lt (if lt (atA p m) (atA p (m - 1))=true then (if 0 > 0 then kas_desc f (kas_rev p (m - (0+1)) m) (m+1) 0 else kas_desc f p (m+1) 0) else .ask (atA p (m - 1)) (atA p m) λd=>if d=true then .ret (p,m,0) else kas_desc f p (m+1) (0+1)):=rfl;rw[e];by_cases hc:lt (atA p m) (atA p (m - 1))=true
  ·rw[if_pos hc,if_neg (BA _)];obtain⟨m',b1,b2,b3,b4⟩:=RG T h f (m+1) ⋯ ⋯ (a.more T h h1 ⋯ hc);exact⟨m',by lia,by lia,b3,b4⟩
  ·rw[if_neg hc];have hne:atA p m≠atA p (m - 1):=λz=>by have:=h.inj ⋯ ⋯ z;lia
   have:=T.tot _ _ (h.atlt ⋯ _) (h.atlt ⋯ _) hne (by simpa using hc);refine⟨m,AE _,Bg _ _,a,?_⟩;show runT lt (if lt (atA p (m - 1)) (atA p m)=true then _ else _)=_;rw[if_pos this];rfl
def bI(T:Tot n lt){p}(h:Arr n p){m}(h1:1<=m)(h2:m<=n)(a:Dsc lt p m):∃ m' p',runT lt (kas_tail3 m n p)=(m',p')/\1<=m'/\m'<=n/\Asc lt p' m'/\Arr n p':=by
 have hs:=h.size;have ha:Asc lt (kas_rev p 0 m) m:=λi j hij hj=>by
  rw[UA ⋯,UA ⋯,if_pos ⋯,if_pos hj];exact a _ _ ⋯ ⋯
 obtain⟨b1,b2,b3,_⟩:=Pg T (h.rev 0 m) (n - m) m h1 ⋯ ha;refine⟨_,kas_rev p 0 m,?_,by lia,by lia,b3,h.rev 0 m⟩;unfold kas_tail3;rw[Ms];rfl
def kW(T:Tot n lt){p}(h:Arr n p)(hn:1<=n):∃ m' p',runT lt (kas_count n p)=(m',p')/\1<=m'/\m'<=n/\Asc lt p' m'/\Arr n p':=by
 obtain⟨b1,b2,b3,b4⟩:=Pg T h (n - 1) 1 (AE _) ⋯ (λi j hij hj=>by lia);unfold kas_count;rw[Ms];generalize runT lt (kas_asc p (n - 1) 1)=m at *;by_cases e:m=n
 ·rw[if_pos (by simpa using e)];exact⟨m,p,rfl,b1,by lia,b3,h⟩
 ·rw[if_neg (by simpa using e)];by_cases e1:m > 1
  ·rw[if_pos e1];have:=b3 0 (m - 1) ⋯ ⋯;refine⟨m,p,?_,b1,by lia,b3,h⟩;show runT lt (if lt (atA p 0) (atA p (m - 1))=true then _ else _)=_;rw[if_pos this];rfl
  ·rw[if_neg e1];have em:m=1:=by lia
   subst em;have hc:=b4 ⋯;unfold kas_descPart;rw[Ms];obtain⟨m',c1,c2,c3,c4⟩:=RG T h (n - 2) 2 ⋯ ⋯ (λi j hij hj=>by
    have:i=0/\j=1:=by lia
    rw[this.1,this.2];exact hc)
   rw[ c4];dsimp only;exact bI T h ⋯ ⋯ c3
theorem P2(T:Tot n lt)(h:Arr n p)(hk:k < n)(a:Asc lt p k):∀ f l r,r<=k->l<=r->r - l<=f->(∀ i,i < l->lt (atA p i) (atA p k)=true)->(∀ i,r<=i->i < k->lt (atA p k) (atA p i)=true) ->
  runT lt (kas_place p k f l r)<=k/\(∀ i,i < runT lt (kas_place p k f l r)->lt (atA p i) (atA p k)=true)/\∀ i,runT lt (kas_place p k f l r)<=i->i < k->lt (atA p k) (atA p i)=true
 | 0,l,r,h1,h2,h3,h4,h5=>⟨by show l<=k;lia,h4,λi hi hik=>h5 i (by have:l<=i:=hi;lia) hik⟩
 | f+1,l,r,h1,h2,h3,h4,h5=>by
  unfold kas_place;by_cases hlr:l ≥ r
  ·rw[if_pos hlr];exact⟨by show l<=k;lia,h4,λi hi hik=>h5 i (by have:l<=i:=hi;lia) hik⟩
  ·rw[if_neg hlr];have e:runT lt (.ask (p.getD k 0) (p.getD ((l+r) / 2) 0) λc=>if c=true then kas_place p k f l ((l+r) / 2) else kas_place p k f ((l+r) / 2+1) r)=runT lt (if lt (atA p k) (atA p ((l+r) / 2))=true then kas_place p k f l ((l+r) / 2) else kas_place p k f ((l+r) / 2+1) r):=rfl;rw[e];have lts:=λi=>h.atlt (show 0 < n by lia) i
   by_cases hc:lt (atA p k) (atA p ((l+r) / 2))=true
   ·rw[if_pos hc];refine P2 T h hk a f l ((l+r) / 2) ⋯ ⋯ ⋯ h4 λi hi hik=>?_
    by_cases ei:i=(l+r) / 2
    ·subst ei;exact hc
    ·exact T.tr _ _ _ (lts _) (lts _) (lts _) hc (a _ _ ⋯ hik)
   ·rw[if_neg hc];have hne:atA p k≠atA p ((l+r) / 2):=λz=>by have:=h.inj hk ⋯ z;lia
    have hc':=T.tot _ _ (lts _) (lts _) hne (by simpa using hc);refine P2 T h hk a f ((l+r) / 2+1) r h1 ⋯ ⋯ (λi hi=>?_) h5;by_cases ei:i=(l+r) / 2
    ·subst ei;exact hc'
    ·exact T.tr _ _ _ (lts _) (lts _) (lts _) (a _ _ ⋯ ⋯) hc'
theorem VC(T:Tot n lt):∀ f k {p},Arr n p->Asc lt p k->k+f=n->Asc lt (runT lt (kas_bin f p k)) n
 | 0,k,p,h,a,e=>by
  rw[Nat.add_zero]at e;subst e;exact a
 | f+1,k,p,h,a,e=>by
  unfold kas_bin;rw[Ms];have hk:k < n:=by lia
  obtain⟨c1,c2,c3⟩:=P2 T h hk a k 0 k (AE _) (Au _) ⋯ (λi hi=>absurd hi (Fv _)) (λi hi hik=>absurd hik (He.mpr hi));generalize runT lt (kas_place p k k 0 k)=l at *;refine VC T f (k+1) (h.bub k (k - l)) (λi j hij hj=>?_) ⋯;have hs:=h.size;rw[Na ⋯ c1,Na ⋯ c1];by_cases ei:i=l
  ·grind
  ·rw[if_neg ei];by_cases ej:j=l
   ·rw[if_pos ej,if_neg ⋯];exact c2 _ ⋯
   ·rw[if_neg ej];by_cases hi2:l < i/\i<=k
    ·rw[if_pos hi2,if_pos ⋯];exact a _ _ ⋯ ⋯
    ·rw[if_neg hi2];by_cases hj2:l < j/\j<=k
     ·rw[if_pos hj2];exact a _ _ ⋯ ⋯
     ·rw[if_neg hj2];exact a _ _ hij ⋯
def TQ(T:Tot n lt)(hn:1<=n):Asc lt (runT lt (kas_sort n)) n:=by
 have h0:Arr n (Df (AI n)):=by show (Df (AI n)).toList.Perm _;simp
 obtain⟨m,p,e,h1,h2,a,h⟩:=kW T h0 hn;unfold kas_sort;rw[Ms,e];dsimp only;split
 ·rw[show max m 1=m from by lia];exact VC T _ _ h a ⋯
 ·have:m=n:=by lia
  subst this;exact a
end
end L2
namespace D
open PySem L2
def i8{lt}{d:α}{xs}(T:Tot xs.length lt) R (hR:∀ i j,i < xs.length->j < xs.length->lt i j=true->R (xs.getD i d) (xs.getD j d)):(sortBy lt d xs).Pairwise R:=by
 unfold sortBy;split
 ·rename_i h
  match xs,h with
  | [],_=>exact .nil
  | [a],_=>exact Gk _ _
  | _::_::_,h=>simp at h;lia
 ·have hp:=(MW (n:=xs.length) ⋯).run lt;have hs:=hp.size;refine List.pairwise_map.mpr (BI.mpr λi j hi hj hij=>?_);have hi':=by rw[As,hs]at hi;exact hi
  have hj':=by rw[As,hs]at hj;exact hj
  have ei:(runT lt (C8 xs.length)).toList[i]=atA (runT lt (C8 xs.length)) i:=by
   rw[LM,Ah ⋯];simp
  have ej:(runT lt (C8 xs.length)).toList[j]=atA (runT lt (C8 xs.length)) j:=by
   rw[LM,Ah ⋯];simp
  rw[ei,ej];exact hR _ _ (hp.atlt ⋯ _) (hp.atlt ⋯ _) ((TQ T ⋯) i j hij hj')
noncomputable def keyI:List AM->Option (List Key)
 | []=>some []
 | .int i _::r=>(keyI r).map λks=>.inl i::ks
 | _=>none
theorem RK:∀ {ks us},Vals (ks.map kV) us->∀ {js},keyI us=some js->js=ks
 | [],_,.nil,js,e=>by cases e;rfl
 | .inl m::r,_,.cons r1 r2,js,e=>by
  obtain⟨t,rfl⟩:=r1;obtain⟨js',e1,rfl⟩:=LF e;rw[RK r2 e1]
 | .inr x::r,_,.cons r1 r2,js,e=>by
  obtain⟨t,rfl⟩:=r1;cases e
theorem SO:∀ {us js},keyI us=some js->∀ k∈js,∃ i,k=Fy i
 | [],_,e=>by cases e;exact λk z=>nomatch z
 | .int i _::r,_,e=>by
  obtain⟨js,e1,rfl⟩:=LF e;intro k z;rcases AN.mp z with q | q
  ·exact⟨i,q⟩
  ·exact SO e1 k q
noncomputable def kcC (cs:List (List Key)) (o:Obj):Bool:=match o.cls with
 | .type n=>if n="tuple" then (match o.data with
  | .seq its _=>match its.toList with
   | .int i t::r=>match keyI (.int i t::r) with
    | some ks=>decide (ks.length=5) || decide (ks.length=1) || cs.any λc=>decide (c=ks)
    | none=>false
   | [.str x _]=>!(decide (x="yes") || decide (x="no")) || cs.any λc=>decide (c=[.inr x])
   | _=>true
  | _=>true) else true
 | _=>true
theorem jP(h:(K.all λq=>kcC cs q.2)=true):KC K cs:=by
 intro p ks hk;obtain⟨o,its,n,h1,h2,h3,h4,h5,h6,h7⟩:=hk;have hm:∀ {l:Fg},l.lookup p=some o->(p,o)∈l:=by
  intro l;induction l with
  | nil=>intro e;cases e
  | cons x r ih =>
   intro e;obtain⟨a,b⟩:=x;rw[Cq]at e;split at e
   ·rename_i hb;cases e;rw[eq_of_beq hb];exact AG
   ·exact AH _ (ih e)
 have hz:=AJ.mp h _ (hm h1);simp only[kcC,h2,h4,if_true]at hz;cases ks with
 | nil=>cases h7
 | cons k r =>
  cases k with
  | inr x =>
   cases r with
   | cons _ _=>cases h7
   | nil =>
    generalize its.toList=L at h6 hz;cases h6 with
    | cons r1 r2 =>
     obtain⟨t,rfl⟩:=r1;cases r2;have h8:(decide (x="yes") || decide (x="no"))=true:=h7;dsimp only at hz;rw[h8]at hz;obtain⟨c,hc,e2⟩:=B8.mp hz;rw[← of_decide_eq_true e2];exact hc
  | inl m =>
   generalize its.toList=L at h6 hz;cases h6 with
   | cons r1 r2 =>
    obtain⟨t,rfl⟩:=r1;dsimp only at hz;split at hz
    ·rename_i ks' e;have ei:=SO e;have:=RK (ks:=.inl m::r) (.cons ⟨t,rfl⟩ r2) e;subst this;rw[CZ,CZ]at hz;rcases hz with (hz | hz) | hz
     ·have hl:=by simpa using hz
      match r,hl with
      | [k1,k2,k3,k4],_ =>
       obtain⟨i1,rfl⟩:=ei k1 ↥1;obtain⟨i2,rfl⟩:=ei k2 ↥1;obtain⟨i3,rfl⟩:=ei k3 ↥1;obtain⟨i4,rfl⟩:=ei k4 ↥1;cases h7
     ·have hl:=by simpa using hz
      subst hl;cases h7
     ·obtain⟨c,hc,e2⟩:=B8.mp hz;rw[← of_decide_eq_true e2];exact hc
    ·cases hz
end D
namespace D
open PySem L2
example (P:Ai) (w:A5):(mixKind P w).hash (.inl 1)=1/\(mixKind P w).hash (.inl 2)=2:=⟨by rfl,by rfl⟩
end D
namespace L2
open PySem PySem.Spec PyProof.Rows PySem.W
structure Kds(prog:Ai)(w:A5)(T:String)(r d:Addr)(n:Nat)(P:Nat->AM->Prop)(St:Nat->Heap->Prop):Prop where
 type:∀ s:AR,St 0 s.heap->s.TypeIs (.ref r) T
 there:∀ h:Heap,St 0 h->r < h.objs.size/\d < h.objs.size
 notList:(Cw T == Cw "list")=false
 notTuple:(Cw T == Cw "tuple")=false
 hint:∀ (A:BD) (E:AM->AR->Prop) (s:AR) (Q:Bool->AR->Prop),St 0 s.heap->(∀ b tk,Q b { s with toks:=tk })->AQ (model prog w) A (DC (.ref r)) Q E s
 iter:∀ (A:BD) (E:AM->AR->Prop) (s:AR) (Q:AM->AR->Prop),St 0 s.heap->Q (.ref r) s->AQ (model prog w) A (GB (.ref r)) Q E s
 walks:∀ (A:BD),A.handled=none->Walks prog w A r [r,d] [r] n P St
section
variable {prog:Ai}{w:A5}{A:BD}{E:AM->AR->Prop}{s:AR}{T:String}{r d:Addr}{n:Nat}{P:Nat->AM->Prop}{St:Nat->Heap->Prop}
def YQ(K:Kds prog w T r d n P St)(hh:A.handled=none)(hok:St 0 s.heap) S (hSr:S≠r) (hSd:S≠d) res c₀ (hS:s.heap.get? S=some { cls:=.type "list",data:=.seq #[] c₀ })
  (hR:∀ h' tk acc' c',(∀ b o,b≠S->b≠r->s.heap.get? b=some o->h'.get? b=some o)->h'.get? S=some { cls:=.type "list",dict:=none,data:=.seq acc' c',slots:=#[] }->Dc P acc' n->R (.ok (.ret res)) { s with heap:=h',toks:=tk }) (hn:n<=AD) :
  AQ (model prog w) A.in1 (J9 (.ref S) (.ref r) res)
   (λfin s'=>match fin with | .done f=>R (.ok f) s' | .again c'=>c'.quiet=true/\Dp (model prog w) A c' R s') (λe s'=>R (.error e) s') s:=by
 have hSf:S∉[r,d]:=by simp;exact⟨hSr,hSd⟩
 have W:=K.walks A.in1 hh;have key:∀ h c₁ tk,St 0 h->(∀ b o,b≠S->b≠r->s.heap.get? b=some o->h.get? b=some o) ->
   h.get? S=some { cls:=.type "list",data:=.seq #[] c₁ }->Dp (model prog w) A (.builtin "list.extend.loop" ⟨[.ref S,.ref r,res],[]⟩) R { s with heap:=h,toks:=tk }:=by
  intro h c₁ tk hst hk hS₁;refine codeAny_extend_loopS W.toS hn S hSf res n 0 _ #[] c₁ rfl (Au _) hst hS₁ (ItemsOf.nil _) λs' acc' c' hm hS' hacc=>?_
  rw[Moved.eq_with hm];refine hR s'.heap s'.toks acc' c' (λb o hb hb2 e=>hm.heap b o (λhmem=>?_) (hk b o hb hb2 e)) hS' hacc;rcases AN.mp hmem with e' | hmem
  ·exact hb e'
  ·exact hb2 (AC.mp hmem)
 refine AA (Cy (K.type s hok) ?_);have h1:FK (.ref S) (.ref r)=false:=by simp[FK,hSr]
 simp[h1,K.notList,K.notTuple];refine AA (K.iter _ _ _ _ hok ?_);refine AA (BN (K.hint _ _ _ _ hok λb tk=>Gm (λ_=>AA (CP (AA ?_))) (λ_=>AF ⟨Dd Ff _,key _ c₀ _ hok (λb o _ _ e=>e) hS⟩)));refine AA (Gn hS rfl ?_);have hS₂:=CA (BJ (·.push CU)) hS rfl;refine Gn hS₂ rfl (AF ⟨Dd Ff _,key _ _ _ ?_ (λb o hb _ e=>?_) (CA (BJ (·.pop)) hS₂ rfl)⟩)
 ·refine W.frame 0 _ _ hok λb hb o e=>?_
  have hbS:b≠S:=λh=>hSf (h ▸ hb)
  exact (Bj _ _ (Ax hbS)).trans ((Bj _ _ (Ax hbS)).trans e)
 ·exact (Bj _ _ (Ax hb)).trans ((Bj _ _ (Ax hb)).trans e)
def jm(K:Kds prog w T r d n P St)(hh:A.handled=none)(hok:St 0 s.heap) S (hSr:S≠r) (hSd:S≠d) (hS:s.heap.get? S=some { cls:=.type "list",data:=.seq #[] })
  (hR:∀ h' tk acc' c',(∀ b o,b≠S->b≠r->s.heap.get? b=some o->h'.get? b=some o)->h'.get? S=some { cls:=.type "list",dict:=none,data:=.seq acc' c',slots:=#[] }->Dc P acc' n->R (.ok (.ret .none)) { s with heap:=h',toks:=tk }) (hn:n<=AD) :
  AQ (model prog w) A.in1 (Builtin.«list.__init__» ⟨[.ref S,.ref r],[]⟩)
   (λfin s'=>match fin with | .done f=>R (.ok f) s' | .again c'=>c'.quiet=true/\Dp (model prog w) A c' R s') (λe s'=>R (.error e) s') s:=by
 refine AA (AA (Bd hS rfl (AF (AA (Gn hS rfl ?_)))));have oth:∀ b o,b≠S->s.heap.get? b=some o->(s.heap.update S (BJ (λ_=>(#[])))).get? b=some o:=
  λb o hb e=>(Bj _ _ (Ax hb)).trans e
 refine YQ K hh ((K.walks A hh).frame 0 _ _ hok λb hb o e=>oth b o (λz=>by
  subst z;simp at hb;rcases hb with q | q
  ·exact hSr q
  ·exact hSd q) e) S hSr hSd .none _ (CA (BJ (λ_=>(#[]))) hS rfl) (λh' tk acc' c' hk hS' hacc=>?_) hn
 exact hR h' tk acc' c' (λb o hb hb2 e=>hk b o hb hb2 (oth b o hb e)) hS' hacc
def UN(K:Kds prog w T r d n P St)(hh:A.handled=none)(hok:St 0 s.heap)(hn:n<=AD)
  (hQ:∀ h' tk acc' c',(∀ b o,b≠r->s.heap.get? b=some o->h'.get? b=some o)->h'.get? s.heap.objs.size=some { cls:=.type "list",dict:=none,data:=.seq acc' c',slots:=#[] }->Dc P acc' n->Q (.ref s.heap.objs.size) { s with heap:=h',toks:=tk }) :
  AQ (model prog w) A (call (.type "list") [.ref r]) Q E s:=by
 refine G5 (Q₁:=λobj s₁=>obj=.ref s.heap.objs.size/\s₁={ s with heap:=s.heap.push { cls:=.type "list",data:=.seq #[] } }) PySem.F.called_list (PySem.F.typeCall_list_1 _) PySem.F.entry_list_init
  (code_list_new _ ⟨rfl,rfl⟩) λobj s₁ h₁=>?_
 obtain⟨rfl,rfl⟩:=h₁;have hS:(s.heap.push { cls:=.type "list",data:=.seq #[] }).get? s.heap.objs.size=some { cls:=.type "list",data:=.seq #[] }:=AK _ rfl;have hlt:=K.there _ hok;refine⟨⟨_,hS,rfl⟩,PySem.F.args_list_init_2 _ _,jm (A:=A.in1) K hh ((K.walks A hh).frame 0 _ _ hok λb _ o e=>AB _ e) _ (Bb hlt.1) (Bb hlt.2) hS (λh' tk acc' c' hk hS' hacc=>?_) hn⟩;exact⟨rfl,hQ h' tk acc' c' (λb o hb e=>hk b o (Ag (AL e)) hb (AB _ e)) hS' hacc⟩
end
section
variable {prog:Ai}{w:A5}{A:BD}{E:AM->AR->Prop}{s:AR}
def YK(hT:s.TypeIs (.ref r) "list_reverseiterator")(h:Q false s):AQ (model prog w) A (DC (.ref r)) Q E s:=by
 refine AA (CL (r:=none) hT (by rw[Er];kernel_rfl) ?_)
 wp_delta
 refine AA (CL (r:=some (.builtin "list_reverseiterator.__length_hint__")) hT rfl ?_);generalize hid:("list_reverseiterator.__length_hint__")=id0
 wp_delta
 rw[show splitId id0=some ("list_reverseiterator","__length_hint__") from by subst hid;decide +kernel];subst hid;refine AA (CD (b:=true) hT rfl ?_);refine Gm (λhab=>absurd hab ∅) (λ_=>?_);exact AF h
def Sb:Slot "reversed" "__length_hint__" "reversed.__length_hint__" :=
 .of (owner:="reversed") (n:="__length_hint__") rfl rfl rfl rfl
  (by first | exact .inl rfl | exact .inr rfl) rfl
def eY:Gz table "reversed.__length_hint__"=some Builtin.«reversed.__length_hint__»:=GI rfl
def iY a:Hj "reversed.__length_hint__" ⟨[a],[]⟩:=by
 unfold Hj;rw[HJ (n:=['_','_','t','n','i','h','_','h','t','g','n','e','l','_','_']) rfl O7];kernel_rfl
def aE{r l:Addr}{i:Nat}{xs:Array AM}{Q}(he:IsRv s.heap r l ((i:Int) - 1))(hl:s.heap.IsTuple l xs)(hz:xs.size<=AD)(hi:i<=xs.size)(h:∀ b tk,Q b { s with toks:=tk }):AQ (model prog w) A (DC (.ref r)) Q E s:=by
 have hT:s.TypeIs (.ref r) "reversed":=⟨_,he,rfl⟩
 refine AA (CL (r:=none) hT rfl ?_)
 wp_delta
 refine AA (CL hT rfl ?_);generalize hid:("reversed.__length_hint__":String)=id0
 wp_delta
 subst hid;refine AA (CD (b:=true) hT rfl ?_);refine AA (CP ?_);refine AA (CB (Sb.bind _) ?_);refine AA (By (Az Sb hT eY ?_ (iY _)));refine AA (CB rfl ?_);refine AA (Ao he rfl (x:=.ref l) rfl ?_);have h62:(AD:Int) < 2 ^ 62:=by decide
 refine AA (JX hl (by have:=hz;rw[BK]at this;lia) ?_);refine AA (CB rfl ?_);refine AA (Ao he rfl rfl ?_);refine Gm (λhab=>?_) (λ_=>?_)
 ·exact absurd hab ⋯
 ·refine AA (GU ?_);refine AF ⟨_,rfl,?_⟩;refine AA (CB rfl ?_)
  try dsimp only
  have e1:(i:Int) - 1+1=i:=by lia
  rw[e1];have e2:E5 (i:Int)=true:=by
   unfold E5;rw[Ar];exact⟨decide_eq_true ⋯,decide_eq_true ⋯⟩
  have e3:Cd (i:Int).toNat=false:=by
   exact decide_eq_false (by rw[Ce];lia)
  rw[if_neg (by rw[e2];decide),if_neg ⋯,if_neg (by rw[e3];decide)];exact AF (h _ _)
end
section
variable {prog:Ai}{w:A5}{r l:Addr}
def jw(hne:l≠r) items:Kds prog w "list_reverseiterator" r l items.size (λi v=>items[items.size - 1 - i]?=some v) (λi h=>i<=items.size/\h.IsRevIter r l ((items.size:Int) - 1 - i)/\h.IsList l items) where
 type:=λs st=>st.2.1.typeIs
 there:=λh st=>by
  obtain⟨_,⟨o,e,_⟩,⟨o2,e2,_⟩⟩:=st;exact⟨AL e,AL e2⟩
 notList:=by decide
 notTuple:=by decide
 hint:=λA E s Q st h=>YK st.2.1.typeIs (h false s.toks)
 iter:=λA E s Q st h=>FB st.2.1 h
 walks:=λA hh=>Walks.listRev hh r l hne items
def fG(hne:l≠r) items (hz:items.size<=AD):Kds prog w "reversed" r l items.size (λi v=>items[items.size - 1 - i]?=some v) (λi h=>i<=items.size/\IsRv h r l ((items.size:Int) - 1 - i)/\h.IsTuple l items) where
 type:=λs st=>⟨_,st.2.1,rfl⟩
 there:=λh st=>by
  obtain⟨_,e,⟨o2,e2,_⟩⟩:=st;exact⟨AL e,AL e2⟩
 notList:=by decide
 notTuple:=by decide
 hint:=λA E s Q st h=>by
  have:=st.2.1;simp at this;exact aE this st.2.2 hz (AE _) h
 iter:=λA E s Q st h=>Q7 st.2.1 h
 walks:=λA hh=>{
  sub:=λb hb=>by simp at hb;simp[hb]
  frame:=λi h h' x hk=>⟨x.1,hk r ↥1 _ x.2.1,by
   obtain⟨o,e,q⟩:=x.2.2;exact⟨o,hk l ↥1 _ e,q⟩⟩
  item:=λi s Q E hi x hQ=>by
   have e:(items.size) - 1 - i=((items.size - 1 - i:Nat):Int):=by lia
   have hit:=x.2.1;rw[e]at hit;have hx:items[items.size - 1 - i]?=some (items[items.size - 1 - i]'⋯):=Ah ⋯;refine WT hit x.2.2 hz hx λh' tk hit' hs'=>?_
   have e2:(items.size - 1 - i:Nat) - 1=(items.size) - 1 - ((i+1):Int):=by lia
   rw[e2]at hit';refine hQ _ h' tk hx ⟨hi,hit',?_⟩ λb o hb eo=>hs'.extBut b o (λh=>hb (by simp[h])) eo
   obtain⟨o,eo,q⟩:=x.2.2;exact⟨o,(hs'.2 l hne).trans eo,q⟩
  done:=λs Q E x hQ=>by
   have e:(items.size:Int) - 1 - (items.size)=-1:=by lia
   have hit:=x.2.1;rw[e]at hit;exact XF hh hit λh' he'=>hQ h' s.toks λb o hb eo=>he' b o (λh=>hb (by simp[h])) eo
  self:=λ_ _ _ _ x hQ=>Q7 x.2.1 hQ }
end
def Qk{items:List AM}{acc}(h:Dc (λi v=>items.toArray[items.toArray.size - 1 - i]?=some v) acc items.toArray.size):acc.toList=items.reverse:=by
 have h1:=by have:=h.1;simpa using this
 refine Hr λi=>?_
 rcases Bl i items.length with hi | hi
 ·have hi':i < acc.size:=by lia
  have:=h.2 i acc[i] ↥1;rw[EW hi];simp at this;rw[this];simp
 ·simp_all
theorem Vals.rev:∀ {xs us},Vals xs us->Vals xs.reverse us.reverse
 | _,_,.nil=>.nil
 | _,_,.cons r t=>by
  simp;exact (Vals.rev t).append (.cons r .nil)
section
variable {X:Cx}
def tLRev (K:Ab) (ta:TA):TE:=λσ H Q=>ta σ H λvs H1=>∃ (a:Addr) (xs:List V),vs=[.ref a]/\(SqL K H1 a xs\/SqT K H1 a xs)/\∀ l,H1 l=none->Q (.ref l) (upd H1 l (.lst xs.reverse))
def dW(hr:X.A.handled=none)(hg0:Gl X "list")(hm0:X.mg "list"=none)(hg1:Gl X "reversed")(hm1:X.mg "reversed"=none)(ha:PA X [e1] ta)
  (hs:AW [e1] X.env=[(false,eval e1 X.env)]:=by rfl)
  (hs3:AW [.Call (.Name "reversed" p1) [e1] [] pos1] X.env=[(false,eval (.Call (.Name "reversed" p1) [e1] [] pos1) X.env)]:=by rfl) :
  PE X (.Call (.Name "list" p0) [.Call (.Name "reversed" p1) [e1] [] pos1] [] pos0) (tLRev X.K ta):=by
 intro pins s σ H Q I h;refine HN (L3 I hg0 hm0 FT (A6 ?_ hs3 rfl));refine Ew (HN (L3 I hg1 hm1 Ky (A6 (thn (ha pos1 pins s σ H _ I h) λus s1 ⟨vs,H1,I1,r1,q1⟩=>?_) (by rw[hs];rfl) (by rfl))));obtain⟨a,xs,rfl,hq,q⟩:=q1;obtain⟨u1,rfl,r⟩:=r1.one;cases r;have fin:∀ (s2:AR) its h' tk acc c,s2.heap.objs.size=s1.heap.objs.size+1->s2={ s1 with heap:=s2.heap,toks:=s2.toks }->(∀ b o,s1.heap.get? b=some o->s2.heap.get? b=some o)->Vals xs its->xs.length<=AD ->
   (∀ b o,b≠s1.heap.objs.size->s2.heap.get? b=some o->h'.get? b=some o)->h'.get? s2.heap.objs.size=some { cls:=.type "list",dict:=none,data:=.seq acc c,slots:=#[] }->acc.toList=its.reverse ->
   EP X pins σ Q (.ref s2.heap.objs.size) { s2 with heap:=h',toks:=tk }:=λs2 its h' tk acc c hz he k12 rv hl kp hS ea=>by
  have kk:=λb o e=>kp b o (Ag (AL e)) (k12 b o e)
  have hf:H1 s2.heap.objs.size=none:=I1.hok.fresh ⋯;refine⟨.ref s2.heap.objs.size,upd H1 s2.heap.objs.size (.lst xs.reverse),?_,rfl,q _ hf⟩;rw[he];refine I1.laid kk (by show s1.heap.objs.size<=s2.heap.objs.size;lia) ⟨by simpa using hl,its.reverse,c,rv.rev,?_⟩;rw[← ea];exact hS
 rcases hq with h1 | h1
 ·obtain⟨its,rv,pl,z⟩:=I1.list h1;have l1:=rv.length;have hlist:=pl.isList;have lt1:a < s1.heap.objs.size:=by obtain⟨o,e,_⟩:=hlist;exact AL e
  refine Ip hlist (Do ?_);refine UN (jw (Ag lt1) its.toArray) hr ⟨Au _,⟨_,AK _ rfl,rfl,by simp[revObj]⟩,hlist.at λo e=>AB _ e⟩ (by rw[Aa];lia) λh' tk acc c kp hS hacc=>?_
  exact fin { s1 with heap:=s1.heap.push (revObj a ((its.toArray.size) - 1)) } its h' tk acc c (BQ _ _) rfl (λb o e=>AB _ e) rv ⋯ kp hS (Qk hacc)
 ·obtain⟨its,rv,pl,z⟩:=I1.tuple h1;have l1:=rv.length;have htup:=pl;have lt1:a < s1.heap.objs.size:=by obtain⟨o,e,_⟩:=htup;exact AL e
  refine Ft Yv ∅ (F.typeCall_reversed_1 _) (F.newCall_reversed_1 _) (λobj=>Ey obj _) F.entry_reversed_new (eB a its.toArray (by rw[Aa];lia)) ⟨htup,?_⟩;have g:=AK s1.heap (o:={ cls:=.type "reversed",data:=.fields #[.ref a,Di ((its.toArray.size) - 1)] }) rfl;refine⟨⟨_,g,rfl⟩,Do (UN (fG (Ag lt1) its.toArray (by rw[Aa];lia)) hr ⟨Au _,by simpa using g,by
   obtain⟨o,e,q⟩:=htup;exact⟨o,AB _ e,q⟩⟩ (by rw[Aa];lia) λh' tk acc c kp hS hacc=>?_)⟩
  exact fin _ its h' tk acc c (BQ _ _) rfl (λb o e=>AB _ e) rv ⋯ kp hS (Qk hacc)
end
end L2
namespace D
open PySem L2
noncomputable def dLRev (fa:DA):DE:=λΓ=>(fa Γ).bind λp=>match p.1 with
 | [a]=>(seqS p.2 a).map λxs=>(.l xs.reverse,p.2)
 | _=>none
def V5(ha:SimA K ta fa):SimE K (tLRev K ta) (dLRev fa):=by
 intro C w Γ σ H s Γ' Q R e k;obtain⟨⟨as,G1⟩,e1,e⟩:=bind_some e;dsimp only at e;split at e
 ·obtain⟨xs,e2,e⟩:=LF e;cases e;refine ha C w Γ σ H _ _ _ R e1 λvs H1 R1 ev1 o1 n1=>?_
  obtain⟨v,rfl,o2⟩:=soks1 o1;obtain⟨p,us,rfl,h1,i1⟩:=N2 R1 o2 e2;exact⟨p,us,rfl,h1,λl hl=>k _ _ (R1.new hl) (ev1.trans (Evo.new hl)) (R1.newl hl i1.rev) ⟨l,rfl,MD ev1 R1.lst hl⟩⟩
 ·cases e
section
variable {ι:Type}{K:Fg}{X:ι->Cx}{mg:Str->Option AM}{k:Nat}{a:Expr}{da:DA}{Γ:En}
def VX(M:Fm K mg k X)(hm0:mg "list"=none)(hm1:mg "reversed"=none)(ha:AX K X [a] da)(hg0:∀ j,Gl (X j) "list":=by intro _;rfl)(hg1:∀ j,Gl (X j) "reversed":=by intro _;rfl)
  (hs:∀ j,AW [a] (X j).env=[(false,eval a (X j).env)]:=by intro _;rfl)
  (hs3:∀ j,AW [.Call (.Name "reversed" p1) [a] [] pos1] (X j).env=[(false,eval (.Call (.Name "reversed" p1) [a] [] pos1) (X j).env)]:=by intro _;rfl) :
  EX K X (.Call (.Name "list" p0) [.Call (.Name "reversed" p1) [a] [] pos1] [] pos0) (dLRev da):=
 let ⟨t,q,u⟩:=ha;⟨tLRev K t,λj=>by have:=dW (p0:=p0) (pos0:=pos0) (M.room j).hd (hg0 j) (by rw[M.mg];exact hm0) (hg1 j) (by rw[M.mg];exact hm1) (q j) (hs j) (hs3 j);rw[M.K j]at this;exact this,V5 u⟩
@[simp] theorem l5:dLRev da Γ=(da Γ).bind λp=>match p.1 with
 | [a]=>(seqS p.2 a).map λxs=>(.l xs.reverse,p.2)
 | _=>none:=(rfl)
end
end D
namespace L2
open PySem PySem.Spec PyProof.Rows
def Itw (K:Ab) (a1:Addr) (n:Nat):It:=
 ⟨λi H=>∃ xs x,SqL K H a1 xs/\xs.length=n/\i < n/\xs[n - 1 - i]?=some x,
  λi H v H'=>H'=H/\∀ xs,SqL K H a1 xs->xs[n - 1 - i]?=some v,
  λi H=>i=n⟩
def X7{K tg e a1} n (hle:a1≠e) :
  Turn P w K tg (Itw K a1 n) [e] e (λi h=>h.IsRevIter e a1 (n - 1 - i)) where
 mem:=by simp
 obj:=λi h st b hb=>by
  have q:=by simpa using hb
  subst q;obtain⟨o,e,c,d⟩:=st;exact⟨o,e,λv z=>by rw[d]at z;cases z⟩
 keep:=λi h h' st k=>st.at λo q=>k e ↥1 o q
 item:=by
  intro X hP hw hK hc i pins s σ H E I hf st hg;subst hP hw hK;obtain⟨xs,x,h1,hn,hi,hx⟩:=hg;obtain⟨its1,v1,o1,z1⟩:=I.list h1;obtain⟨u1,e1,r1⟩:=v1.get hx;have ei:n - 1 - i=((n - 1 - i:Nat):Int):=by lia
  have st':s.heap.IsRevIter e a1 (n - 1 - i:Nat):=by rw[← ei];exact st
  obtain⟨f0,f1,f2,f3,f4,f5⟩:=hf e ↥1;refine wpAny_pyNext_rev_item st' o1.isList (by simpa using e1) λh' he sb=>?_
  have he':h'.IsRevIter e a1 (n - 1 - (i+1:Nat)):=by
   have:n - 1 - (i+1:Nat)=((n - 1 - i:Nat):Int) - 1:=by lia
   rw[this];exact he
  obtain⟨o,q1,q2,q3⟩:=id he';exact⟨u1,rfl,Nz q1 q2 q3 ∅ ⟨x,H,(I.turned (λb o hb q=>(sb.2 b hb).trans q) f0 f1 f3 f4 f5),r1,⟨rfl,λys hy=>by rw[I.list_inj hy h1];exact hx⟩,he',λb hb=>(hf b hb).1⟩⟩
 done:=by
  intro X hP hw hK hc i pins s σ H E I hf st hg;subst hg;obtain⟨f0,f1,f2,f3,f4,f5⟩:=hf e ↥1;have st':s.heap.IsRevIter e a1 (-1):=by
   have:i - 1 - (i:Int)=-1:=by lia
   rw[← this];exact st
  exact wpAny_pyNext_rev_end (I.ok.hd hc) st' λh' eb=>⟨rfl,I.turned (eb) f0 f1 f3 f4 f5⟩
 self:=λ_ _ _ _ _ st h=>FB st h
section
variable {X:Cx}{tg:Expr}
def iRevL (K:Ab) (ta:TA):TI:=λσ H R=>ta σ H λvs H1=>∃ (a1:Addr) (xs:List V),vs=[.ref a1]/\SqL K H1 a1 xs/\R (Itw K a1 xs.length) H1
def kQ{p pos}(hg:Gl X "reversed")(hm:X.mg "reversed"=none)(ha:PA X [e1] ta)(hs:AW [e1] X.env=[(false,eval e1 X.env)]:=by rfl) :
  PI X tg (.Call (.Name "reversed" p) [e1] [] pos) (iRevL X.K ta):=by
 intro pins s σ H R I h;refine HN (L3 I hg hm Ky (A6 (thn (ha pos pins s σ H _ I h) λus s1 ⟨vs,H1,I1,r1,q1⟩=>?_) ‹_› (by rfl)));obtain⟨a1,xs,rfl,h1,q⟩:=q1;obtain⟨u1,rfl,rfl⟩:=r1.one;obtain⟨its1,v1,o1,z1⟩:=I1.list h1;have l1:=v1.length;have hlist:=o1.isList;have lt1:a1 < s1.heap.objs.size:=by obtain⟨o,e,_⟩:=hlist;exact AL e
 refine Ip hlist ?_;have st':(s1.heap.push (revObj a1 ((its1.toArray.size) - 1))).IsRevIter s1.heap.objs.size a1 ((xs.length) - 1 - (0:Nat)):=by
  have:((xs.length) - 1 - (0:Nat))=(its1.toArray.size:Int) - 1:=by rw[Aa];lia
  rw[this];exact⟨_,AK _ rfl,rfl,rfl⟩
 refine FB st' ⟨_,_,_,_,H1,rfl,I1.kept λb o e=>AB _ e,X7 xs.length (Ag lt1),st',λc hc=>?_,q⟩;have e:=by simpa using hc
 subst e;exact I1.fpOk (AE _) (I1.hok.fresh (AE _))
end
end L2
namespace D
open PySem L2
noncomputable def dRevL (fa:DA):DI:=λΓ=>(fa Γ).bind λp=>match p.1 with
 | [a]=>(sqlOf p.2 a).bind λxs=>gd xs.length ((xs.reverse,srcS p.2 a),p.2)
 | _=>none
section
variable {K:Fg}
def eF(ha:SimA K ta fa):SimI K (iRevL K ta) (dRevL fa):=by
 intro C w Γ σ H its src Γ' R Rp e k;obtain⟨⟨as,G1⟩,e1,e⟩:=bind_some e;dsimp only at e;split at e
 ·obtain⟨xs,e2,e⟩:=bind_some e;obtain⟨hz,e⟩:=L5 e;cases e;refine ha C w Γ σ H _ _ _ Rp e1 λvs H1 R1 ev1 o1 n1=>?_
  obtain⟨v,rfl,o2⟩:=soks1 o1;obtain⟨p,us,rfl,h1,i1,st⟩:=PL R1 o2 e2;refine⟨p,us,rfl,h1,k _ H1 R1 ev1 ⟨by simpa using hz,λL' hs av H2 ev=>?_⟩⟩;have hL:LL L' H1:=λq hq=>R1.lst q (hs q hq)
  have h2:=st L' hs av H2 ev;have i2:=i1.evo ev hL;have l2:=i2.len;refine⟨λi t e=>?_,by show _=_;simp[l2]⟩;have hi:=by simpa using (AZ.mp e).1
  rw[EW hi]at e;obtain⟨v,e3,hv⟩:=i2.get e;refine⟨⟨us,v,h2,rfl,by lia,by rw[l2];exact e3⟩,λx H3 y=>?_⟩;obtain⟨rfl,k1⟩:=y;have q1:=k1 us h2;rw[l2,e3]at q1;cases q1;exact⟨λb o e=>e,hv⟩
 ·cases e
end
section
variable {ι:Type}{K:Fg}{X:ι->Cx}{mg:Str->Option AM}{k:Nat}{a:Expr}{da:DA}{p pos:Pos}{Γ:En}
def Vl(M:Fm K mg k X)(hm:mg "reversed"=none)(ha:AX K X [a] da)(hg:∀ j,Gl (X j) "reversed":=by intro _;rfl)(hs:∀ j,AW [a] (X j).env=[(false,eval a (X j).env)]:=by intro _;rfl) :
  IX K X tg (.Call (.Name "reversed" p) [a] [] pos) (dRevL da):=
 let ⟨t,q,u⟩:=ha;⟨iRevL K t,λj=>by have:=kQ (tg:=tg) (p:=p) (pos:=pos) (hg j) (by rw[M.mg];exact hm) (q j) (hs j);rw[M.K j]at this;exact this,eF u⟩
@[simp] theorem mN:dRevL da Γ=(da Γ).bind λp=>match p.1 with
 | [a]=>(sqlOf p.2 a).bind λxs=>gd xs.length ((xs.reverse,srcS p.2 a),p.2)
 | _=>none:=(rfl)
end
@[simp high,simp ↓ high] theorem mY{α:Type}{x y:α}:ifO (some 3) 3 x y=x:=rfl
end D
namespace L2
open PySem PySem.Spec PyProof.Rows
section
variable {X:Cx}{x:Str}{p pos:Pos}{e:Expr}{es:List Expr}{t:TA}{k:Nat}
def tCallV (i:Nat) (C:Addr->Sp->Prop) (t:TA):TE:=λσ H Q=>∃ f sp,σ[i]?=some (some (.ref f))/\C f sp/\t σ H λvs H1=>sp (vs++[]) H1 Q E0
def gw(hC:Mod X.K X.mg X.base->∀ f sp,C f sp->∃ fd ps,FnOk X.prog X.w X.K X.mg X.base CX0 k f fd ps sp/\Bt X.K (.ref f)=true/\Binds X.K fd ps [])
  (hr:Room k X.A) (hN:X.N[i]?=some x) (hv:Vis X.env.scope x) (ha:PA X (e::es) t) (hd:(x == ("__debug__":Str))=false:=by decide) (hcd:(x == ("__classdict__":Str))=false:=by decide)
  (he:AW (e::es) X.env=(false,eval e X.env)::AW es X.env:=by rfl) (hpl:(CV pos (AW es X.env)).any (·.1)=false:=by rfl) :
  PE X (.Call (.Name x p) (e::es) [] pos) (tCallV i C t):=by
 intro pins s σ H Q I h;obtain⟨f,sp,e1,c,h⟩:=h;obtain⟨fd,ps,F,hk,hb⟩:=hC I.mod f sp c;refine Dx (thn (Pk hN hv hd hcd pins s σ H (λv H'=>v=.ref f/\H'=H) I ⟨.ref f,e1,rfl,rfl⟩) λu s1 ⟨v,H1,I1,r1,q1⟩=>?_);obtain⟨rfl,rfl⟩:=q1;obtain rfl:u=B3 f:=r1;exact Gu I1.ok.mod.kin hk (thn (ha pos pins s1 σ _ _ I1 h) λus s2 ⟨vs,H2,I2,r,q⟩=>⟨I2.kIn,UD F hr hb .nil pass0 I2 r q⟩) he hpl
end
end L2
namespace D
open PySem L2
abbrev Tb:=List (Str×Nat×DF)
def TbOk (P:Ai) (wd:A5) (K:Fg) (mg:Str->Option AM) (base:Heap) (k:Nat) (tb:Tb):Prop:=∀ q∈tb,FD P wd K mg base k q.1 none q.2.1 q.2.2
section
variable {P:Ai}{wd:A5}{K:Fg}{mg:Str->Option AM}{base:Heap}{k:Nat}
theorem FD.mono(D0:FD P wd K mg base k' x ip n F)(h:k'<=k):FD P wd K mg base k x ip n F:=by
 obtain⟨f,fd,ps,h1,h2⟩:=D0.ex;exact⟨⟨f,fd,ps,h1.mono h,h2⟩,D0.len⟩
def RC:TbOk P wd K mg base k []:=λ_ h=>nomatch h
def NB(D0:FD P wd K mg base k' x none n F)(r:TbOk P wd K mg base k tb)(h:k'<=k:=by first | exact AE _ | decide | lia):TbOk P wd K mg base k ((x,n,F)::tb):=λq hq=>by
 rcases AN.mp hq with rfl | hq
 ·exact D0.mono h
 ·exact r q hq
end
noncomputable def dFn (n:Str):DE:=λΓ=>some (.v (.f n),Γ)
noncomputable def dCallV (i:Nat) (tb:Tb) (fa:DA):DE:=λΓ=>match Γ[i]? with
 | some (some (.v (.f n)))=>match tb.find? λq=>decide (q.1=n) with
  | some q=>dCall none q.2.2 [] fa Γ
  | none=>none
 | _=>none
def NK (K:Fg) (mg:Str->Option AM) (n:Str):Prop:=∃ f,CS K A4 n=some (some (.ref f))/\mg n=some (.ref f)
def bY(h:CS K A4 n=some (some (.ref f))):SimE K (tC (.ref f)) (dFn n):=by
 intro C w Γ σ H s Γ' Q R e k;cases e;exact k _ H R .refl (show Im K H _ (.f n) from Im.fn ⟨f,rfl,h⟩) trivial
def CallC (K:Fg) (tb:Tb) (f:Addr) (sp:Sp):Prop:=∃ q∈tb,CS K A4 q.1=some (some (.ref f))/\sp=spD K none q.2.1 q.2.2
def dS(hl:∀ q∈tb,∀ gs r,q.2.2 gs=some r->gs.length=q.2.1)(ha:SimA K t fa):SimE K (tCallV i (CallC K tb) t) (dCallV i tb fa):=by
 intro C w Γ σ H s Γ' Q R e k;unfold dCallV at e;split at e
 ·rename_i n hn;split at e
  ·rename_i q hq;obtain⟨v,e1,hv⟩:=R.val i _ hn;obtain⟨f,rfl,hf⟩:=(show Im K H v (.f n) from hv).invf;have hm:=GK hq;have hqn:=by simpa using IQ hq
   exact⟨f,spD K none q.2.1 q.2.2,e1,⟨q,hm,by rw[hqn];exact hf,rfl⟩,PY (hl q hm) ha C w Γ σ H s Γ' Q R e k⟩
  ·cases e
 ·cases e
section
variable {ι:Type}{P:Ai}{wd:A5}{base:Heap}{K:Fg}{mg:Str->Option AM}{k k' n:Nat}{X:ι->Cx}{e:Expr}{es:List Expr}{pos p:Pos}{da:DA}{x:Str}{tb:Tb}{Γ:En}
def fh(M:Fm K mg k X)(h:NK K mg x)(hg:∀ j,Gl (X j) x:=by intro _;rfl)(hd:(x == ("__debug__":Str))=false:=by decide):EX K X (.Name x pos) (dFn x):=by
 obtain⟨f,h1,h2⟩:=h;exact⟨_,λj=>SG (v:=.ref f) (hg j) (by rw[M.mg];exact h2) rfl hd,bY h1⟩
def RS i (M:Fm K mg k X) (B:Fb P wd base X) (T0:TbOk P wd K mg base k' tb) (ha:AX K X (e::es) da) (hk:k'<=k:=by first | exact AE _ | decide | lia)
  (hN:∀ j,(X j).N[i]?=some x:=by intro _;rfl) (hv:∀ j,Vis (X j).env.scope x:=by intro _;first | exact EV rfl | exact De (EV rfl) | exact De (De rfl)) (hd:(x == ("__debug__":Str))=false:=by decide) (hcd:(x == ("__classdict__":Str))=false:=by decide)
  (he:∀ j,AW (e::es) (X j).env=(false,eval e (X j).env)::AW es (X j).env:=by intro _;rfl) (hpl:∀ j,(CV pos (AW es (X j).env)).any (·.1)=false:=by intro _;rfl) :
  EX K X (.Call (.Name x p) (e::es) [] pos) (dCallV i tb da):=by
 obtain⟨t,q,u⟩:=ha;refine⟨tCallV i (CallC K tb) t,λj=>gw (λhm f sp hc=>?_) ((M.room j).mono hk) (hN j) (hv j) (q j) hd hcd (he j) (hpl j),dS (λq hq=>(T0 q hq).len) u⟩;obtain⟨q,hq,h1,rfl⟩:=hc;obtain⟨f',fd,ps,g1,g2,g3,g4⟩:=(T0 q hq).ex;have hm':Mod K mg base:=by rw[← M.K j,← M.mg j,← B.b j];exact hm
 have e:=ID hm'.kin hm'.glob h1;rw[g2]at e;cases e;exact⟨fd,ps,by rw[B.P,B.w,M.K,M.mg,B.b];exact g1,by rw[M.K];exact g3,by rw[M.K];exact g4⟩
@[simp,simp ↓] theorem n9{n:Str}:dFn n Γ=some (.v (.f n),Γ):=rfl
end
noncomputable def fuelX:Nat:=100000
def MB:fuelX=100000:=rfl
inductive Rs where
 | mk (e v:T) (ks:List Rs)
noncomputable def Rs.e:Rs->T | .mk e _ _=>e
noncomputable def Rs.v:Rs->T | .mk _ v _=>v
mutual
noncomputable def Rs.pre:Rs->List Rs
 | .mk e v ks=>.mk e v ks::pres ks
noncomputable def pres:List Rs->List Rs
 | []=>[]
 | r::rs=>r.pre++pres rs
end
def LW:pres []=[]:=by unfold pres;rfl
def La r rs:pres (r::rs)=r.pre++pres rs:=by rw[pres]
def LP e v ks:(Rs.mk e v ks).pre=.mk e v ks::pres ks:=by rw[Rs.pre]
theorem Pb:∀ a b,pres (a++b)=pres a++pres b
 | [],b=>by rw[LW];rfl
 | r::a,b=>by rw[List.cons_append,La,La,Pb a b,BC]
mutual
noncomputable def Rs.In (ins:DF):Rs->Prop
 | .mk e _ ks=>(ins [.v e]=some (.v (.t (ks.map Rs.e)),[])\/ins [.v e]=some (.l (ks.map Rs.e),[]))/\Ins ins ks
noncomputable def Ins (ins:DF):List Rs->Prop
 | []=>True
 | r::rs=>r.In ins/\Ins ins rs
end
mutual
noncomputable def Rs.Put (put:DF):Rs->Prop
 | .mk e v ks=>put [.v e,.r (ks.map Rs.v)]=some (.v v,[])/\Puts put ks
noncomputable def Puts (put:DF):List Rs->Prop
 | []=>True
 | r::rs=>r.Put put/\Puts put rs
end
def LN:Ins ins (r::rs) ↔ r.In ins/\Ins ins rs:=by rw[Ins]
def Lk:(Rs.mk e v ks).In ins ↔ (ins [.v e]=some (.v (.t (ks.map Rs.e)),[])\/ins [.v e]=some (.l (ks.map Rs.e),[]))/\Ins ins ks:=by rw[Rs.In]
def Lf:Puts put (r::rs) ↔ r.Put put/\Puts put rs:=by rw[Puts]
def Ll:(Rs.mk e v ks).Put put ↔ put [.v e,.r (ks.map Rs.v)]=some (.v v,[])/\Puts put ks:=by rw[Rs.Put]
def Lm:Ins ins []:=by unfold Ins;trivial
def Ls:Puts put []:=by unfold Puts;trivial
theorem Uy:∀ {a b},Ins ins a->Ins ins b->Ins ins (a++b)
 | [],_,_,h=>h
 | _::_,_,h,h'=>LN.mpr ⟨(LN.mp h).1,Uy (LN.mp h).2 h'⟩
def QK(h:Γ[i]?=some (~~~(.f n)))(hf:tb.find? (λq=>decide (q.1=n))=some (n,a,F)):dCallV i tb fa Γ=dCall none F [] fa Γ:=by
 unfold dCallV;rw[h];dsimp only;rw[hf]
noncomputable def awC:DT:=dTru (jV 3)
noncomputable def awB (tb:Tb):DS:=dSeq (dSet 4 (dMut 3 hPop qQ)) (dSeq (dDrop (dMut 2 hAppend (jW (jV 4) qQ))) (dDrop (dMut 3 hExtend (jW (dLRev (jW (dCallV 1 tb (jW (jV 4) qQ)) qQ)) qQ))))
noncomputable def awD (tb:Tb):DS:=dSeq (dSet 2 (dLst qQ)) (dSeq (dSet 3 (dLst (jW (jV 0) qQ))) (dSeq (dWhile awC (awB tb) fuelX) (dRet (jV 2))))
@[simp] theorem eN(h:xs.length+ys.length<=AD):hExtend Γ xs [.l ys]=some (.a .non,xs++ys):=by
 unfold hExtend;dsimp only;simp[j6,gd,h]
section
variable {tb:Tb}{n:Str}{ka:Nat}{ins:DF}
theorem Yw(hf:tb.find? (λq=>decide (q.1=n))=some (n,ka,ins)):∀ m st acc w p4 fuel,(pres st).length=m->m < fuel->acc.length+m<=90000->st.length<=90000->Ins ins st ->
  ∃ p4',dWhile awC (awB tb) fuel [some (.v w),some (.v (.f n)),some (.l acc),some (.l (st.reverse.map Rs.e)),p4]=some (.nx [some (.v w),some (.v (.f n)),some (.l (acc++(pres st).map Rs.e)),some (.l []),p4']):=by
 intro m;induction m with
 | zero =>
  intro st acc w p4 fuel hm hfu hb hs hi;cases st with
  | nil =>
   obtain⟨f,rfl⟩:∃ f,fuel=f+1:=⟨fuel - 1,by lia⟩
   exact⟨p4,by rw[Lo];simp[awC,LW]⟩
  | cons r rs =>
   cases r with
   | mk e v ks=>rw[La,LP]at hm;simp at hm
 | succ m ih =>
  intro st acc w p4 fuel hm hfu hb hs hi;obtain⟨f,rfl⟩:∃ f,fuel=f+1:=⟨fuel - 1,by lia⟩
  cases st with
  | nil=>rw[LW]at hm;cases hm
  | cons r rs =>
   cases r with
   | mk e v ks =>
    obtain⟨h1,h2⟩:=LN.mp hi;obtain⟨h3,h4⟩:=Lk.mp h1;rw[La,LP]at hm;have hlen:∀ l,l.length<=(pres l).length:=λl=>by
     induction l with
     | nil=>simp
     | cons x l ih =>
      cases x with
      | mk a b c=>rw[La,LP];simp;lia
    have hk:=hlen ks;have hr:=hlen rs;simp at hm;obtain⟨p4',e4⟩:=ih (ks++rs) (acc++[e]) w (some (.v e)) f (by rw[Pb,A7];lia) ⋯ ↥2 ↥2 (Uy h4 h2);refine⟨p4',?_⟩;have hl1:acc.length < AD:=AU (show acc.length < 100000 by lia) ∅;have hl2:rs.length+ks.length<=AD:=Ak (show rs.length+ks.length<=100000 by lia) ∅;have e0:(Bw Rs.e (Rs.mk e v ks::rs).reverse)=Bw Rs.e rs.reverse++[e]:=by simp[Rs.e]
    have pop:(awB tb) [some (.v w),some (.v (.f n)),some (.l acc),some (.l (Bw Rs.e rs.reverse++[e])),p4]=some (.nx [some (.v w),some (.v (.f n)),some (.l (acc++[e])),some (.l (Bw Rs.e rs.reverse++(ks.map Rs.e).reverse)),some (.v e)]):=by
     have cv:dCallV 1 tb (jW (jV 4) qQ) [some (.v w),some (.v (.f n)),some (.l (acc++[e])),some (.l (Bw Rs.e rs.reverse)),some (.v e)]=dCall none ins [] (jW (jV 4) qQ) [some (.v w),some (.v (.f n)),some (.l (acc++[e])),some (.l (Bw Rs.e rs.reverse)),some (.v e)]:=QK rfl hf;have ex:∀ Γ,hExtend Γ (Bw Rs.e rs.reverse) [.l (ks.map Rs.e).reverse]=some (.a .non,Bw Rs.e rs.reverse++(ks.map Rs.e).reverse):=λΓ=>eN (by simp_all)
     have hs':rs.length+1<=AD:=Ak (show rs.length+1<=100000 by simp at hs;lia) ∅;have hq:(Bw Rs.e rs.reverse).length+1<=AD:=by simpa using hs'
     have hl0:=CJ hl1;generalize Bw Rs.e rs.reverse=RR at cv ex hq ⊢;have hq':RR.length<=AD:=by lia
     rcases h3 with h3 | h3
     ·simp[awB,cv,h3,hl1,ex,gd,hq,hq',hl0]
     ·simp[awB,cv,h3,hl1,ex,gd,hq,hq',hl0]
    rw[Lo,e0];have tr:awC [some (.v w),some (.v (.f n)),some (.l acc),some (.l (Bw Rs.e rs.reverse++[e])),p4]=some (true,[some (.v w),some (.v (.f n)),some (.l acc),some (.l (Bw Rs.e rs.reverse++[e])),p4]):=by
     simp[awC]
    rw[tr,An,if_pos rfl,pop,An];dsimp only;have e5:Bw Rs.e rs.reverse++(ks.map Rs.e).reverse=Bw Rs.e (ks++rs).reverse:=by simp
    rw[e5,e4,Pb];rw[La,LP];simp[Rs.e]
def Zf(hf:tb.find? (λq=>decide (q.1=n))=some (n,ka,ins))(r:Rs)(h:r.In ins)(hb:r.pre.length<=80000):fnD none 2 5 (awD tb) [.v r.e,.v (.f n)]=some (.l (r.pre.map Rs.e),[]):=by
 have hp:pres [r]=r.pre:=by rw[La,LW,Bn]
 obtain⟨p4',e⟩:=Yw hf r.pre.length [r] [] r.e none fuelX (by rw[hp]) (by rw[MB];lia) ↥2 ↥1 (LN.mpr ⟨h,Lm⟩);rw[hp]at e;simp at e;simp[fnD,awD,e]
end
noncomputable def fwE:DE:=dMut 1 hPop qQ
noncomputable def fwB (tb1 tb2:Tb):DS:=dSeq (dSet 5 (dComp (some (1,3)) [none,some 3] (dSeqI (dCallV 1 tb1 (jW (jV 4) qQ))) (gdName 0) dYes fwE))
 (dDrop (dMut 3 hAppend (jW (dCallV 2 tb2 (jW (jV 4) (jW (jV 5) qQ))) qQ)))
noncomputable def fwD (FA:DF) (tb1 tb2:Tb):DS:=dSeq (dSet 3 (dLst qQ))
 (dSeq (dFor none (dRevL (jW (dCall none FA [] (jW (jV 0) (jW (jV 1) qQ))) qQ)) (gdName 4) (fwB tb1 tb2))
 (dRet (dOp ixS (jV 3) (dC (.int 0)))))
theorem Qv:∀ es vs t0 o,es.length=vs.length->t0.length+vs.length<=100000->∃ o',compD (gdName 0) dYes fwE es [o,some (.l (t0++vs.reverse))]=some (vs,[o',some (.l t0)])
 | [],[],t0,o,_,_=>⟨o,by simp[Lb]⟩
 | [],_::_,_,_,h,_=>by cases h
 | _::_,[],_,_,h,_=>by cases h
 | e::es,v::vs,t0,o,h,hb=>by
  obtain⟨o',h2⟩:=Qv es vs t0 (some (.v e)) (by simpa using h) (by simp at hb;lia);refine⟨o',?_⟩;have e1:t0++(v::vs).reverse=(t0++vs.reverse)++[v]:=by simp
  have hq:(t0++vs.reverse).length+1<=AD:=Ak (show _<=100001 by simp at hb ⊢;lia) ∅;rw[e1,LY];generalize t0++vs.reverse=RR at h2 hq ⊢;unfold fwE at h2 ⊢;simp[gd,hq,h2]
section
variable {tb1 tb2:Tb}{n m:Str}{ka kb:Nat}{ins put:DF}
def jF(hf:tb1.find? (λq=>decide (q.1=n))=some (n,ka,ins))(hg:tb2.find? (λq=>decide (q.1=m))=some (m,kb,put)){e v}{ks:List Rs}{t0 w p5}(h1:ins [.v e]=some (.v (.t (ks.map Rs.e)),[])\/ins [.v e]=some (.l (ks.map Rs.e),[]))
  (h2:put [.v e,.r (ks.map Rs.v)]=some (.v v,[])) (hb:t0.length+ks.length<=90000) :
  fwB tb1 tb2 [some (.v w),some (.v (.f n)),some (.v (.f m)),some (.l (t0++(ks.map Rs.v).reverse)),some (.v e),p5]=some (.nx [some (.v w),some (.v (.f n)),some (.v (.f m)),some (.l (t0++[v])),some (.v e),some (.l (ks.map Rs.v))]):=by
 obtain⟨o',hc⟩:=Qv (ks.map Rs.e) (ks.map Rs.v) t0 none ↥1 ↥2;have cv:dCallV 1 tb1 (jW (jV 4) qQ) [some (.v w),some (.v (.f n)),some (.v (.f m)),some (.l (t0++(ks.map Rs.v).reverse)),some (.v e),p5]=dCall none ins [] (jW (jV 4) qQ) [some (.v w),some (.v (.f n)),some (.v (.f m)),some (.l (t0++(ks.map Rs.v).reverse)),some (.v e),p5]:=QK rfl hf;have cw:dCallV 2 tb2 (jW (jV 4) (jW (jV 5) qQ)) [some (.v w),some (.v (.f n)),some (.v (.f m)),some (.l t0),some (.v e),some (.l (ks.map Rs.v))]=dCall none put [] (jW (jV 4) (jW (jV 5) qQ)) [some (.v w),some (.v (.f n)),some (.v (.f m)),some (.l t0),some (.v e),some (.l (ks.map Rs.v))]:=QK rfl hg;have hz:(ks.map Rs.e).length<=AD:=Ak (show (ks.map Rs.e).length<=100000 by simp;lia) ∅;have ht:t0.length < AD:=AU (show t0.length < 100000 by lia) ∅;have ht':=CJ ht;generalize ks.map Rs.e=EE at h1 hc hz ⊢;rcases h1 with h1 | h1
 ·simp[fwB,cv,h1,hc,cw,h2,gd,hz,ht,ht']
 ·simp[fwB,cv,h1,hc,cw,h2,gd,hz,ht,ht']
mutual
theorem Si(hf:tb1.find? (λq=>decide (q.1=n))=some (n,ka,ins))(hg:tb2.find? (λq=>decide (q.1=m))=some (m,kb,put)) w:∀ (r:Rs) t0 more p4 p5,r.In ins->r.Put put->t0.length+r.pre.length<=90000 ->
  ∃ p4' p5',forD (gdName 4) (fwB tb1 tb2) (r.pre.reverse.map Rs.e++more) [some (.v w),some (.v (.f n)),some (.v (.f m)),some (.l t0),p4,p5]=forD (gdName 4) (fwB tb1 tb2) more [some (.v w),some (.v (.f n)),some (.v (.f m)),some (.l (t0++[r.v])),p4',p5']
 | .mk e v ks,t0,more,p4,p5,hi,hp,hb=>by
  obtain⟨h1,h2⟩:=Lk.mp hi;obtain⟨h3,h4⟩:=Ll.mp hp;rw[LP]at hb ⊢;simp at hb;have hlen:∀ l,l.length<=(pres l).length:=λl=>by
   induction l with
   | nil=>simp
   | cons x l ih =>
    cases x with
    | mk a b c=>rw[La,LP];simp;lia
  have hk:=hlen ks;obtain⟨q4,q5,e1⟩:=Um hf hg w ks t0 (e::more) p4 p5 h2 h4 ⋯;refine⟨some (.v e),some (.l (ks.map Rs.v)),?_⟩;rw[List.reverse_cons,Ba,BC];show forD _ _ (Bw Rs.e (pres ks).reverse++(e::more)) _=_;rw[e1,Oc];simp only[W7];rw[show (List.set [some (G.v w),some (.v (.f n)),some (.v (.f m)),some (.l (t0++(ks.map Rs.v).reverse)),q4,q5] 4 (some (.v e)))=[some (.v w),some (.v (.f n)),some (.v (.f m)),some (.l (t0++(ks.map Rs.v).reverse)),some (.v e),q5] from rfl];rw[An,jF hf hg h1 h3 ⋯];rfl
theorem Um(hf:tb1.find? (λq=>decide (q.1=n))=some (n,ka,ins))(hg:tb2.find? (λq=>decide (q.1=m))=some (m,kb,put)) w:∀ ks t0 more p4 p5,Ins ins ks->Puts put ks->t0.length+(pres ks).length<=90000 ->
  ∃ p4' p5',forD (gdName 4) (fwB tb1 tb2) ((pres ks).reverse.map Rs.e++more) [some (.v w),some (.v (.f n)),some (.v (.f m)),some (.l t0),p4,p5]=forD (gdName 4) (fwB tb1 tb2) more [some (.v w),some (.v (.f n)),some (.v (.f m)),some (.l (t0++(ks.map Rs.v).reverse)),p4',p5']
 | [],t0,more,p4,p5,_,_,_=>⟨p4,p5,by simp[LW]⟩
 | r::rs,t0,more,p4,p5,hi,hp,hb=>by
  obtain⟨h1,h2⟩:=LN.mp hi;obtain⟨h3,h4⟩:=Lf.mp hp;rw[La]at hb ⊢;simp at hb;have hlen:∀ l,l.length<=(pres l).length:=λl=>by
   induction l with
   | nil=>simp
   | cons x l ih =>
    cases x with
    | mk a b c=>rw[La,LP];simp;lia
  have hk:=hlen rs;obtain⟨q4,q5,e1⟩:=Um hf hg w rs t0 (r.pre.reverse.map Rs.e++more) p4 p5 h2 h4 ⋯;obtain⟨q6,q7,e2⟩:=Si hf hg w r (t0++(rs.map Rs.v).reverse) more q4 q5 h1 h3 ↥2;refine⟨q6,q7,?_⟩;rw[CO,Ba,BC,e1,e2];simp
end
def Ph(hf:tb1.find? (λq=>decide (q.1=n))=some (n,ka,ins))(hg:tb2.find? (λq=>decide (q.1=m))=some (m,kb,put))(r:Rs)(h1:r.In ins)(h2:r.Put put)(hb:r.pre.length<=80000) :
  fnD none 3 6 (fwD (fnD none 2 5 (awD tb1)) tb1 tb2) [.v r.e,.v (.f n),.v (.f m)]=some (.v r.v,[]):=by
 have ha:=Zf hf r h1 hb;obtain⟨q4,q5,e⟩:=Si hf hg r.e r [] [] none none h1 h2 ↥2;rw[Bn,MV]at e;have hz:(r.pre.map Rs.e).length<=AD:=Ak (show (r.pre.map Rs.e).length<=100000 by simp;lia) ∅;have e2:(Bw Rs.e r.pre).reverse=Bw Rs.e r.pre.reverse:=by simp
 generalize fnD none 2 5 (awD tb1)=FA at ha ⊢;generalize r.pre.map Rs.e=EE at ha hz e2;rw[← e2]at e;simp[fnD,fwD,ha,gd,hz,e]
end
end D
namespace L2
open PySem PySem.Spec PyProof.Rows
structure FunD(K:Ab)(x qual:Str)(st:Stmt)(T f:Addr)(fd:Dg):Prop where
 ex:∃ (oc:AM) (od:Option Addr) (kV doc pm:AM) (an:Option Addr) (cdv ct:AM) (osl:Array (Option AM)),
  fd=BW x qual (defArgs st) (defBody st) (defScope st) (.ref T) kV doc pm an cdv ct/\K.lookup f=some ⟨oc,od,.func fd,osl⟩/\Cc K cdv qual=true
 kp:Bt K (.ref f)=true
section
variable {P:Ai}{w:A5}{K:Ab}{mg:Str->Option AM}{base:Heap}
def FunD.ok{st T f fd N ps k sp}(F:FunD K x qual st T f fd)(S:FnScope N ps (defScope st))(len:∀ vs H Q E,sp vs H Q E->vs.length=ps.length)
  (hbody:∀ cdv A outer s H vs Q E,Room k (A.deeper (E6 qual (defScope st) s.heap.objs.size f cdv))->sp vs H Q E ->
   ∃ t,PSs (cxOf CX0 P w K mg base N qual (defScope st) f cdv A outer s H E).nox (defBody st) t/\t { nx:=λ_ H'=>Q .non H',rt:=Q } (start N vs) H):FnOk P w K mg base CX0 (k+1) f fd ps sp:=by
 obtain⟨oc,od,kV,doc,pm,an,cdv,ct,osl,rfl,lk,hcd⟩:=F.ex;refine SD lk hcd S len λA outer s H vs Q E hr hsp=>?_
 obtain⟨t,h,q⟩:=hbody cdv A outer s H vs Q E hr hsp;exact⟨t,h.nox,q⟩
def FunD.binds{st T f fd ps ds o items n}(F:FunD K x qual st T f fd)(hT:K.lookup T=some o)(hs:o.data=.seq items n)
  (h:∀ kV doc pm an cdv ct us,(us++ds).length=ps.length->∃ k,Fl (BW x qual (defArgs st) (defBody st) (defScope st) (.ref T) kV doc pm an cdv ct) ⟨us,[]⟩=Jb (.ref T) >>= k/\k (some items)=pure (ps.zip (us++ds))):Binds K fd ps ds:=by
 obtain⟨oc,od,kV,doc,pm,an,cdv,ct,osl,rfl,lk,hcd⟩:=F.ex;intro s us hK hl;obtain⟨k,h1,h2⟩:=h kV doc pm an cdv ct us hl;exact BindsTo.of_defaults rfl (hK T o hT) hs h1 h2
def X8{st T f oc od an osl kV doc pm cdv ct}(l:K.lookup f=some ⟨oc,od,.func (BW x qual (defArgs st) (defBody st) (defScope st) (.ref T) kV doc pm an cdv ct),osl⟩)
  (c:Cc K cdv qual=true) (k:Bt K (.ref f)=true):FunD K x qual st T f (BW x qual (defArgs st) (defBody st) (defScope st) (.ref T) kV doc pm an cdv ct):=⟨⟨oc,od,kV,doc,pm,an,cdv,ct,osl,rfl,l,c⟩,k⟩
end
end L2
namespace D
open PySem L2
structure FDd(P:Ai)(wd:A5)(K:Fg)(mg:Str->Option AM)(base:Heap)(k:Nat)(x:Str)(ip:Option Nat)(n:Nat)(F:DF)(dvs:List V):Prop where
 ex:∃ (f:Addr) (fd:Dg) (ps:List Str) (ds:List AM),FnOk P wd K mg base CX0 k f fd ps (spD K ip n F)/\mg x=some (.ref f)/\Bt K (.ref f)=true/\Binds K fd ps ds/\Vals dvs ds
 len:∀ gs r,F gs=some r->gs.length=n
section
variable {ι:Type}{P:Ai}{wd:A5}{base:Heap}{K:Fg}{mg:Str->Option AM}{k k' n:Nat}{X:ι->Cx}{ip:Option Nat}{e:Expr}{es:List Expr}{pos p:Pos}{da:DA}{F:DF}{x:Str}{dvs:List V}
def Vp(M:Fm K mg k X)(B:Fb P wd base X)(D0:FDd P wd K mg base k' x ip n F dvs)(ha:AX K X (e::es) da)(hk:k'<=k:=by first | exact AE _ | decide | lia)(hg:∀ j,Gl (X j) x:=by intro _;rfl)(hdb:(x == ("__debug__":Str))=false:=by decide)
  (he:∀ j,AW (e::es) (X j).env=(false,eval e (X j).env)::AW es (X j).env:=by intro _;rfl) (hpl:∀ j,(CV pos (AW es (X j).env)).any (·.1)=false:=by intro _;rfl) :
  EX K X (.Call (.Name x p) (e::es) [] pos) (dCall ip F dvs da):=by
 obtain⟨f,fd,ps,ds,h1,h2,h3,h4,h5⟩:=D0.ex;obtain⟨t,q,u⟩:=ha;refine⟨tCall (spD K ip n F) dvs E0 t,λj=>?_,PY D0.len u⟩;have hF:FnOk (X j).prog (X j).w (X j).K (X j).mg (X j).base CX0 k' f fd ps (spD K ip n F):=by rw[B.P,B.w,M.K,M.mg,B.b];exact h1
 exact RI hF ((M.room j).mono hk) (hg j) (by rw[M.mg];exact h2) (by rw[M.K];exact h3) (by rw[M.K];exact h4) h5 pass0 (q j) hdb (he j) (hpl j)
end
section
variable {P:Ai}{wd:A5}{base:Heap}{K:Fg}{mg:Str->Option AM}{k:Nat}
def dg{st T f fd N ps ip g dvs ds}(F:FunD K x x st T f fd)(S:FnScope N ps (defScope st))(hm:mg x=some (.ref f))(hb:Binds K fd ps [])(hb2:Binds K fd ps ds)(hv:Vals dvs ds)
  (body:∀ cdv A outer s H E,Fm K mg k (cx1 P wd K mg base N x (defScope st) f cdv A outer s H E)->Fb P wd base (cx1 P wd K mg base N x (defScope st) f cdv A outer s H E)->BX K (cx1 P wd K mg base N x (defScope st) f cdv A outer s H E) ip (defBody st) g) :
  FD P wd K mg base (k+1) x ip ps.length (fnD ip ps.length N.length g)/\FDd P wd K mg base (k+1) x ip ps.length (fnD ip ps.length N.length g) dvs:=by
 have ok:FnOk P wd K mg base CX0 (k+1) f fd ps (spD K ip ps.length (fnD ip ps.length N.length g)):=by
  refine F.ok S (λvs H Q E h=>h.1) λcdv A outer s H vs Q E hr h=>?_
  obtain⟨t,p,u⟩:=body cdv A outer s H E ⟨λ_=>rfl,λ_=>rfl,λ_=>rfl,λ_=>hr⟩ ⟨λ_=>rfl,λ_=>rfl,λ_=>rfl⟩;exact⟨t,p (),QW u h⟩
 exact⟨⟨⟨f,fd,ps,ok,hm,F.kp,hb⟩,Pn⟩,⟨⟨f,fd,ps,ds,ok,hm,F.kp,hb2,hv⟩,Pn⟩⟩
end
end D
namespace D
open PySem L2
variable {K:Fg}
end D
namespace D
open PySem L2
open PySem.SeqAt
section
variable {X:Cx}{k:Nat}
theorem Xt:∀ (a:List AM) (b:List El),a.length=b.length->(∀ (i:Nat) u,a[i]?=some u->∃ z,b[i]?=some z/\eqOf h d u=BG z d)->a.any (eqOf h d)=b.any λz=>BG z d:=by
 intro a;induction a with
 | nil=>intro b hb _;rw[EB.mp hb.symm];rfl
 | cons x r ih =>
  intro b hb hh;cases b with
  | nil=>cases hb
  | cons z b =>
   obtain⟨z',ez,e⟩:=hh 0 x rfl;cases ez;rw[B6,B6,e,ih b (by simpa using hb) λi u hu=>by simpa using hh (i+1) u ‹_›]
end
end D
namespace D
open PySem L2
noncomputable def PC (X:Cx) (ops:List CmpOp) (rs:List Expr) (tc:V->TE):Prop:=
 ∀ pos pins s (σ:St) H Q x v,Inv X pins σ H s->RelV x v->tc x σ H Q->AQ (model X.prog X.w) X.A (compareChain pos v ops (evalEach rs X.env)) (EP X pins σ Q) X.xe s
end D
namespace D
open PySem L2
@[simp low] theorem nc{α:Type}{x y:α}:ifB b (x:=⟨x⟩) (y:=⟨y⟩)=if b=true then x else y:=rfl
noncomputable abbrev nmS (x:Str) (s:Stmt):Str×Stmt:=(x,s)
def WrK (K:Fg) (q:Str×Stmt):Prop:=∃ f fd,CS K A4 q.1=some (some (.ref f))/\Fun K q.1 q.1 q.2 f fd
noncomputable def AllK (K:Fg):List (Str×Stmt)->Prop
 | []=>True
 | q::r=>WrK K q/\AllK K r
noncomputable def ZK (K:Fg):List Str->Prop
 | []=>True
 | x::r=>CS K A4 x=some none/\ZK K r
def Wx (K:Fg) (mg:Str->Option AM) (x:Str) (st:Stmt):Prop:=∃ f fd,CS K A4 x=some (some (.ref f))/\Fun K x x st f fd/\mg x=some (.ref f)
noncomputable def WxO (K:Fg) (mg:Str->Option AM):Option (Str×Stmt)->Prop
 | some q=>Wx K mg q.1 q.2
 | none=>True
section
variable {P:Ai}{wd:A5}{base h:Heap}{K:Fg}{mg:Str->Option AM}{k:Nat}{x:Str}{st:Stmt}{ip:Option Nat}{N ps:List Str}{g:DS}
def wrK{oc od an osl kV doc pm cdv ct}(a:CS K A4 x=some (some (.ref f)))(l:K.lookup f=some ⟨oc,od,.func (BW x x (defArgs st) (defBody st) (defScope st) .none kV doc pm an cdv ct),osl⟩)
  (c:Cc K cdv x=true) (k:Bt K (.ref f)=true):WrK K (x,st):=⟨f,_,a,au l c k⟩
theorem AllK.at(X:K.In h)(G:h.Ns A4 mg):∀ {l} (_:AllK K l) (i:Nat),WxO K mg l[i]?
 | [],_,_=>trivial
 | _::_,⟨⟨f,fd,a,F⟩,_⟩,0=>⟨f,fd,a,F,ID X G a⟩
 | _::_,⟨_,r⟩,i+1=>r.at X G i
theorem ZK.at(X:K.In h)(G:h.Ns A4 mg):∀ {l} (_:ZK K l) x,l.elem x=true->mg x=none
 | [],_,_,e=>nomatch e
 | y::r,⟨a,z⟩,x,e=>by
  rw[List.elem_cons]at e;split at e
  ·rename_i h;rw[eq_of_beq h];exact PySem.W.mg_none_of X G a
  ·exact z.at X G x e
def Wx.nk(w:Wx K mg x st):NK K mg x:=let ⟨f,_,a,_,m⟩:=w;⟨f,a,m⟩
def fd_w(w:Wx K mg x st)(S:FnScope N ps (defScope st))
  (body:∀ cdv f A outer s H E,N.Nodup->Fm K mg k (cx1 P wd K mg base N x (defScope st) f cdv A outer s H E)->Fb P wd base (cx1 P wd K mg base N x (defScope st) f cdv A outer s H E)->BX K (cx1 P wd K mg base N x (defScope st) f cdv A outer s H E) ip (defBody st) g:=by walk_at "d")
  (hb:∀ kV doc pm an cdv ct us,us.length=ps.length->Fl (BW x x (defArgs st) (defBody st) (defScope st) .none kV doc pm an cdv ct) ⟨us,[]⟩=pure (ps.zip us):=by walk_at "b") :
  FD P wd K mg base (k+1) x ip ps.length (fnD ip ps.length N.length g):=by
 obtain⟨f,fd,a,F,m⟩:=w;exact WR F S m (F.binds hb) λc A o s H E i j=>body c f A o s H E S.nd i j
theorem NA{F:Nat->DF}{n}(w:Wx K mg x st)(S:FnScope N ps (defScope st))(h0:F 0=λ_=>none)(hn:ps.length=n)(step:∀ m,FD P wd K mg base (k+m) x ip n (F m)->FD P wd K mg base (k+m+1) x ip n (F (m+1)))
  (hb:∀ kV doc pm an cdv ct us,us.length=ps.length->Fl (BW x x (defArgs st) (defBody st) (defScope st) .none kV doc pm an cdv ct) ⟨us,[]⟩=pure (ps.zip us):=by walk_at "b"):∀ m,FD P wd K mg base (k+m) x ip n (F m)
 | 0=>by
  obtain⟨f,fd,a,F,m⟩:=w;rw[h0];exact eW F m (F.binds hb) hn
 | m+1=>step m (NA w S h0 hn step hb m)
def Za{fa}{l:D7}{v0}(w:Wx K mg x st)(hfa:mg x=some (.ref fa))(hb:∀ kV doc pm an cdv ct v,Fl (BW x x (defArgs st) (defBody st) (defScope st) .none kV doc pm an cdv ct) ⟨[v],[]⟩=pure [(v0,v)])
  (body:∀ f fd base,Fun K x x st f fd->FnOk l.prog wd K mg base CX0 n f fd [v0] (spD K none 1 F)) :
  ∃ fd,(∀ s v,Fk s fd ⟨[v],[]⟩ [(v0,v)])/\∀ base,K.In base->base.Ns A4 mg->FnOk l.prog wd K mg base CX0 n fa fd [v0] (spD K none 1 F):=by
 obtain⟨f,fd,a,F0,m⟩:=w;rw[m]at hfa;cases hfa;refine⟨fd,λs v=>?_,λbase _ _=>body _ fd base F0⟩;obtain⟨oc,od,kV,doc,pm,an,cdv,ct,osl,rfl,lk,hcd⟩:=F0.ex;exact .of_eq (hb kV doc pm an cdv ct v)
end
end D
namespace L2
open PySem PySem.Spec PyProof.Rows PySem.W
section
variable {prog:Ai}{w:A5}{A:BD}{E:AM->AR->Prop}{s:AR}{d:Addr}{es:Array Eb}{ep:Nat}
def fO(hh:A.handled=none)(hsm:(d == B4)=false)(hm:RawD s.heap d es ep)(hn:es.size<=AD)
  (h:∀ (h':Heap) (tk:Nat) (acc:Array AM),(∀ b o,s.heap.get? b=some o->h'.get? b=some o)->Dc (λi v=>∃ e,es[i]?=some e/\v=e.key) acc es.size->Q₁ (.ref h'.objs.size) { s with heap:=h'.push { cls:=.type "tuple",data:=.seq acc },toks:=tk }) :
  Dp (model prog w) A (.call (.builtin "tuple.__new__") ⟨[.type "tuple",.ref d],[]⟩) (wants Q₁ E) s:=by
 refine codeAny_of_tree ?_;refine AA (CB (PySem.F.newCall_tuple_1 _) (AF ⟨Dd F8 _,Dl PySem.F.entry_tuple_new ?_⟩));rw[ET F8 _];have hsub:=KO;have hinit:=JE;have hmh:=KP;have hTI:=hm.typeIs
 wp_walk using Cy hTI,kdu_collect (A:=A.in1) (P5 (es:=es) (ep:=ep) hsm) (by exact hh) hm hn
 intro h' tk acc kp hacc;show AQ _ _ (DU acc.toList.toArray >>= λv=>ret v) _ _ _;refine AA (A8 ?_ (by show acc.toList.toArray.size<=AD;simp only[Gy];rw[hacc.1];exact hn));refine AF ?_;have e:acc.toList.toArray=acc:=by simp
 rw[e];exact h h' tk acc kp hacc
def ak(hh:A.handled=none)(hsm:(d == B4)=false)(hm:RawD s.heap d es ep)(hn:es.size<=AD)
  (h:∀ (h':Heap) tk acc,(∀ b o,s.heap.get? b=some o->h'.get? b=some o)->Dc (λi v=>∃ e,es[i]?=some e/\v=e.key) acc es.size->Q (.ref h'.objs.size) { s with heap:=h'.push { cls:=.type "tuple",data:=.seq acc },toks:=tk }) :
  AQ (model prog w) A (call (.type "tuple") [.ref d]) Q E s:=by
 refine G5 (Q₁:=λobj s₁=>s₁.TypeIs obj "tuple"/\Q obj s₁) ES (PySem.F.typeCall_tuple_1 _) PySem.F.entry_object_init
  (fO (hh) hsm hm hn λh' tk acc kp hacc=>⟨⟨_,AK _ rfl,rfl⟩,h h' tk acc kp hacc⟩) λobj s₁ h₁=>?_
 exact⟨h₁.1,PySem.F.args_object_init_2 obj _,object_init_meets ES.init.lookup ES.made ∅ prog w A.in1 _ s₁ ⟨h₁.1,rfl,h₁.2⟩⟩
end
end L2
namespace D
open PySem L2
theorem Ud(xs:List (List Key×Addr×AM)):Vals (xs.map λx=>V.ref x.2.1) (xs.map λx=>B3 x.2.1):=by
 induction xs with
 | nil=>exact .nil
 | cons a r ih=>exact .cons rfl ih
theorem SY(h:L2.KT H kvs xs):Ims K H (xs.map λx=>V.ref x.2.1) (kvs.map λkv=>keyTup kv.1):=by
 induction h with
 | nil=>exact .nil
 | @cons a b l m h t ih=>exact .cons (RH h.2.1) ih
def VE{xs:List (List Key×Addr×AM)}{es:Array Eb}{P w acc}(e4:es.toList=xs.map (entryOfKey (FE (mixKind P w))))(ha:Dc (λi v=>∃ e,es[i]?=some e/\v=e.key) acc es.size):acc.toList=xs.map λx=>B3 x.2.1:=by
 have hn:es.size=xs.length:=by rw[← As,e4,Af]
 refine DJ (by rw[As,ha.1,hn,Af]) λj h1 h2=>?_
 obtain⟨e,he,hv⟩:=ha.2 j acc[j] ↥1;rw[← ER,e4,Am]at he;have hjx:=by simpa using h2
 rw[AY hjx]at he;cases he;simp;exact hv
noncomputable def rListD (K:Fg) (mk:List V->HO):List V->Hp->VK->Prop:=λxs H Q=>∃ p kvs,xs=[.ref p]/\Rd H p (.dT kvs)/\∀ l us,H l=none->Ims K H us (kvs.map λkv=>keyTup kv.1)->Q (.ref l) (upd H l (mk us))
def oR{k}(hr:Room k X.A):CallR X (.type "list") (rListD X.K .lst):=by
 intro pins s σ H xs us Q I r h;obtain⟨p,kvs,rfl,hq,q⟩:=h;obtain⟨u,rfl,rfl⟩:=vals1 r;obtain⟨hz,hsm,xs,hk,o',es,ep,e1,e2,e3,e4,_,_⟩:=Mg I.hok hq;have hm:RawD s.heap p es ep:=⟨o',e1,e2,e3⟩
 have hn:es.size=xs.length:=by rw[← As,e4,Af]
 have hx:=(OH hk).symm;exact PySem.W.kdl_call (P5 hsm) (hr.hd) hm ⋯ λh' tk acc c kp hD ha=>⟨.ref s.heap.objs.size,_,I.laid kp (AE _) (show ObjOk X.prog X.w _ h' _ (.lst (xs.map λx=>V.ref x.2.1)) from ⟨by rw[Af];lia,xs.map λx=>B3 x.2.1,c,Ud xs,by rw[← (VE e4 ha)];exact hD⟩),rfl,q _ _ (I.hok.fresh (AE _)) (SY hk)⟩
def ff{k}(hr:Room k X.A):CallR X (.type "tuple") (rListD X.K .tup):=by
 intro pins s σ H xs us Q I r h;obtain⟨p,kvs,rfl,hq,q⟩:=h;obtain⟨u,rfl,rfl⟩:=vals1 r;obtain⟨hz,hsm,xs,hk,o',es,ep,e1,e2,e3,e4,_,_⟩:=Mg I.hok hq;have hm:RawD s.heap p es ep:=⟨o',e1,e2,e3⟩
 have hn:es.size=xs.length:=by rw[← As,e4,Af]
 have hx:=(OH hk).symm;refine ak (hr.hd) hsm hm ⋯ λh' tk acc kp ha=>?_
 have I1:=I.kept (t':=s.toks) kp;refine⟨.ref h'.objs.size,_,I1.laid (λb o e=>AB _ e) (AE _) (show ObjOk X.prog X.w _ _ _ (.tup (xs.map λx=>V.ref x.2.1)) from ⟨by rw[Af];lia,xs.map λx=>B3 x.2.1,Ud xs,?_⟩),rfl,q _ _ (I1.hok.fresh (AE _)) (SY hk)⟩;rw[← (VE e4 ha)];exact⟨_,AK _ rfl,rfl,⟨_,rfl⟩,rfl⟩
noncomputable def listDS:En->List S->Option S:=λΓ as=>match as with
 | [a]=>(dictOf Γ a).bind λd=>match d with
  | .inr kvs=>some (.l (keysT kvs))
  | .inl _=>none
 | _=>none
noncomputable def tupDS:En->List S->Option S:=λΓ as=>match as with
 | [a]=>(dictOf Γ a).bind λd=>match d with
  | .inr kvs=>some (.v (.t (keysT kvs)))
  | .inl _=>none
 | _=>none
def dI:SimRs K (rListD K .tup) tupDS:=by
 intro C w Γ σ H vs as s Q R o e k;unfold tupDS at e;split at e
 ·obtain⟨d,e1,e⟩:=bind_some e;split at e
  ·cases e;obtain⟨v,rfl,o1⟩:=soks1 o;obtain⟨p,ob,rfl,hp,hd⟩:=Nh R o1 e1;obtain⟨l,rfl,h1⟩:=hd.invT;refine⟨p,l,rfl,.inl hp,λl' us hl' hu=>?_⟩;rw[Th h1]at hu;exact k _ _ (R.new hl') (Evo.new hl') (R.newt hl' hu) trivial
  ·cases e
 ·cases e
section
variable {ι:Type}{K:Fg}{X:ι->Cx}{mg:Str->Option AM}{k:Nat}{Γ:En}
def Xh(M:Fm K mg k X):CalR K X (.type "tuple") tupDS:=⟨_,λj=>by have:=ff (M.room j);rw[M.K j]at this;exact this,dI⟩
@[simp] theorem lC:tupDS Γ [a]=(dictOf Γ a).bind λd=>match d with
  | .inr kvs=>some (.v (.t (keysT kvs)))
  | .inl _=>none:=(rfl)
end
open PySem.SeqAt
noncomputable def rInT (K:Fg) (neg:Bool):V->V->Hp->VK->Prop:=λy x H Q=>∃ p us ts t ds d,x=.ref p/\SqT K H p us/\Ims K H us ts/\toDs ts=some ds/\Im K H y t/\toD t=some d/\Al ds=true/\d.canLay0=true/\d.depth<=100 /\
 Q (.bl (if neg then !(ds.any λz=>BG z d) else ds.any λz=>BG z d)) H
section
variable {X:Cx}{k:Nat}
def Yj(hr:Room k X.A)(I:Inv X pins σ H s)(ry:RelV y v)(hq:SqT X.K H p us)(hi:Ims X.K H us ts)(e1:toDs ts=some ds)(hy:Im X.K H y t)(e2:toD t=some d)(c1:Al ds=true)(c2:d.canLay0=true)(dp:d.depth<=100)
  (h:Q (.bool (ds.any λz=>BG z d)) s):s.TypeIs (.ref p) "tuple"/\AQ (model X.prog X.w) X.A (call (.builtin "tuple.__contains__") [.ref p,v]) Q X.xe s:=by
 obtain⟨its,rw',⟨⟨cls,dd,data,sl⟩,ho,hc,n,hd⟩,hz⟩:=I.tuple hq;simp only at hc hd;subst hc hd;obtain⟨E1,E2⟩:=ZF hr I rw' hi e1 ry hy e2 c1 c2 dp;obtain⟨as3,ra3⟩:=M0 I hi rw' e1;refine⟨⟨_,ho,rfl⟩,Cu EY ⟨_,ho,rfl⟩ KA (KB _ _) (tuple_containsAt p its.toArray n dd sl v (eqOf s.heap d)) ⟨ho,E1,?_⟩⟩;rw[show its.toArray.any (eqOf s.heap d)=its.any (eqOf s.heap d) by simp,Xt its ds (ReadsAll.length ds its as3 ra3) E2];exact h
def ck(hr:Room k X.A):OpR X (Bi .In) (rInT X.K false):=by
 intro pins s σ H y x v u Q I ry rx h;obtain⟨p,us,ts,t,ds,d,rfl,hq,hi,e1,hy,e2,c1,c2,dp,q⟩:=h;cases rx;have:=Yj (Q:=λr s'=>AQ (model X.prog X.w) X.A (truthy r) (λb s''=>EP X pins σ Q (.bool b) s'') X.xe s') hr I ry hq hi e1 hy e2 c1 c2 dp (Bz ⟨.bl _,H,I,rfl,q⟩);exact KD this.1 EY this.2
end
noncomputable def inTS (neg:Bool):En->S->S->Option S:=λΓ a b=>match a,b with
 | .v t,.v (.t ts)=>(toDs ts).bind λds=>(toD t).bind λd=>if Al ds=true/\d.canLay0=true/\d.depth<=100 then some (mkB (if neg then !(ds.any λz=>BG z d) else ds.any λz=>BG z d)) else none
 | _,_=>none
def Zv:SimR2 K (rInT K neg) (inTS neg):=by
 intro C w Γ σ H x y a b s Q R ox oy e k;unfold inTS at e;split at e
 ·rename_i t ts;obtain⟨ds,e2,e⟩:=bind_some e;obtain⟨d,e3,e⟩:=bind_some e;split at e
  ·rename_i h;cases e;obtain⟨p,us,rfl,h1,i1⟩:=oy.inv;exact⟨p,us,ts,t,ds,d,rfl,h1.sq,i1,e2,ox,e3,h.1,h.2.1,h.2.2,k _ H R .refl SOk.atom trivial⟩
  ·cases e
 ·cases e
section
variable {ι:Type}{K:Fg}{mg:Str->Option AM}{k:Nat}{X:ι->Cx}
def bX(M:Fm K mg k X):CmpR K X .In (inTS false):=⟨_,λj=>by have:=ck (M.room j);rw[M.K j]at this;exact this,Zv⟩
end
end D
namespace L2
open PySem PySem.W PyProof.Rows
def gallopP:Bool->Bu->Array Bu->Nat->Nat->Nat->StateT BZ Sem (Option Nat):=sortPriv% PySem.Builtin.gallop
section
variable {prog:Ai}{w:A5}{A:BD}{E:AM->AR->Prop}{s0:AR}{κ:Ci}{it:Array Bu}{lt:Nat->Nat->Bool}{α β:Type}{st:BZ}
def wq (prog:Ai) (w:A5) (A:BD) (E:AM->AR->Prop) (s0:AR) {α} (m:StateT BZ Sem α) (Q:α->BZ->Prop) (st:BZ):Prop:=
 ∀ tk,kasC (model prog w) A E m (λa st' s'=>(∃ tk',s'={ s0 with toks:=tk' })/\Q a st') st { s0 with toks:=tk }
def LD{a:α}{Q}(h:Q a st):wq prog w A E s0 (pure a) Q st:=λtk=>kasC_pure ⟨⟨tk,rfl⟩,h⟩
def LC{m:StateT BZ Sem α}{f}{Q:β->BZ->Prop}(h:wq prog w A E s0 m (λa st'=>wq prog w A E s0 (f a) Q st') st):wq prog w A E s0 (m >>= f) Q st:=λtk=>by
 refine kasC_bind (BE (h tk) (λr s' h'=>?_) λ_ _ e=>e);obtain⟨⟨tk',rfl⟩,hq⟩:=h';exact hq tk'
def LR{Q Q':α->BZ->Prop}(h:wq prog w A E s0 m Q st)(hq:∀ a st',Q a st'->Q' a st'):wq prog w A E s0 m Q' st:=λtk=>by
 refine BE (h tk) (λr s' h'=>⟨h'.1,hq _ _ h'.2⟩) λ_ _ e=>e
def Li(h:Q st st):wq prog w A E s0 get Q st:=λtk=>kasC_get ⟨⟨tk,rfl⟩,h⟩
def MH(h:Q ⟨⟩ (f st)):wq prog w A E s0 (modify f:StateT BZ Sem PUnit) Q st:=λtk=>kasC_modify ⟨⟨tk,rfl⟩,h⟩
def Mc(h:Q () st):wq prog w A E s0 (liftM (rule x:Sem Unit):StateT BZ Sem Unit) Q st:=λtk=>kasC_lift (CP ⟨⟨tk,rfl⟩,h⟩)
theorem Qg(I:List Nat->β->BZ->Prop) Q
  (hs:∀ x rest b st,I (x::rest) b st->wq prog w A E s0 (f x b) (λr st'=>match r with | .done b'=>Q b' st' | .yield b'=>I rest b' st') st)
  (he:∀ b st,I [] b st->Q b st):∀ l b st,I l b st->wq prog w A E s0 (forIn l b f) Q st
 | [],b,st,h=>λtk=>kasC_nil ⟨⟨tk,rfl⟩,he _ _ h⟩
 | x::rest,b,st,h=>λtk=>by
  refine kasC_cons (BE (hs x rest b st h tk) (λr s' h'=>?_) λ_ _ e=>e);obtain⟨⟨tk',rfl⟩,hq⟩:=h';obtain⟨r,st'⟩:=r;cases r with
  | done b'=>exact⟨⟨tk',rfl⟩,hq⟩
  | yield b'=>exact Qg I Q hs he rest b' st' hq tk'
def LV(I:Nat->β->BZ->Prop){Q}
  (hs:∀ i c st,a<=i->i < b->I i c st->wq prog w A E s0 (f i c) (λr st'=>match r with | .done c'=>Q c' st' | .yield c'=>I (i+1) c' st') st)
  (he:∀ c st,I (max a b) c st->Q c st) {c} (h:I a c st):wq prog w A E s0 (forIn [a:b] c f) Q st:=λtk=>by
 refine kasC_range (Qg (λl c st=>∃ i,a<=i/\i<=max a b/\l=Dr i (max a b - i) 1/\I i c st) Q ?_ ?_ _ c st ⟨a,AE _,by lia,by congr 1;lia,h⟩ tk)
 ·rintro x rest c st ⟨i,hai,hib,hl,hI⟩;have hlt:i < max a b:=by
   rcases Bl i (max a b) with h' | h'
   ·exact h'
   ·rw[show max a b - i=0 by lia]at hl;simp at hl
  obtain⟨n,hn⟩:∃ n,max a b - i=n+1:=⟨max a b - i - 1,by lia⟩
  rw[hn]at hl;obtain⟨rfl,rfl⟩:=K9 hl;refine LR (hs x c st hai ⋯ hI) λr st' h'=>?_
  cases r with
  | done c'=>exact h'
  | yield c'=>exact⟨x+1,by lia,by lia,by congr 1;lia,h'⟩
 ·rintro c st ⟨i,hai,hib,hl,hI⟩;have:max a b - i=0:=by
   grind
  have e:i=max a b:=by lia
  exact he c st (e ▸ hI)
def Ans (prog:Ai) (w:A5) (A:BD) (s0:AR) (κ:Ci) (it:Array Bu) (lt:Nat->Nat->Bool):Prop:=
 ∀ i j,i < it.size->j < it.size->∀ C tk,(∀ tk',C (lt i j) { s0 with toks:=tk' })->kas_cmp prog w A κ it i j C { s0 with toks:=tk }
def NP(hA:Ans prog w A s0 κ it lt)(hi:i < it.size)(hj:j < it.size)(hk:DN st=κ)(h:Q (some (lt i j)) st):wq prog w A E s0 (lt' (kas_item it i) (kas_item it j)) Q st:=λtk=>by
 refine kasC_bind (kasC_get ?_);subst hk;refine kasC_bind (kasC_lift (By (BE (hA i j hi hj (λc s'=>c=lt i j/\∃ tk',s'={ s0 with toks:=tk' }) tk λtk'=>⟨rfl,tk',rfl⟩) (λc s' hc=>?_) λ_ _ hF=>hF.elim)));obtain⟨rfl,tk',rfl⟩:=hc;exact kasC_pure ⟨⟨tk',rfl⟩,h⟩
def LK{p:Array Nat}{i Q}(hi:i < p.size)(h:Q (kas_item it (p.getD i 0)) st):wq prog w A E s0 (elem' (p.map (kas_item it)) i) Q st:=by
 rw[elem'_eq];have e:p.getD i 0=p[i]:=by simp[HL,hi]
 have e2:(p.map (kas_item it))[i]?=some (kas_item it (p.getD i 0)):=by rw[e];simp[hi]
 rw[e2];exact LD h
end
section
variable {prog:Ai}{w:A5}{A:BD}{E:AM->AR->Prop}{s0:AR}{κ:Ci}{it:Array Bu}{lt:Nat->Nat->Bool}{st:BZ}
def past (lt:Nat->Nat->Bool) (left:Bool) (key x:Nat):Bool:=if left=true then lt x key else !lt key x
theorem gN{key base i}{p:Array Nat}{Q}(hA:Ans prog w A s0 κ it lt)(hk:DN st=κ)(hkey:key < it.size)(hp:∀ i,i < p.size->p.getD i 0 < it.size)(hi:base+i < p.size)
  (h:Q (some (past lt left key (p.getD (base+i) 0))) st) :
  wq prog w A E s0 ((elem' (p.map (kas_item it)) (base+i)) >>= λx=>if left=true then lt' x (kas_item it key) else (lt' (kas_item it key) x) >>= λr=>pure (JI (λb=>!b) r)) Q st:=by
 refine LC (LK hi ?_);cases left with
 | true =>
  exact NP hA (hp _ hi) hkey hk h
 | false =>
  exact LC (NP hA hkey (hp _ hi) hk (LD h))
theorem Uo{left:Bool}{key base n hint:Nat}{p:Array Nat}{Q:Option Nat->BZ->Prop}(hA:Ans prog w A s0 κ it lt)(hk:DN st=κ)(hkey:key < it.size)(hp:∀ i,i < p.size->p.getD i 0 < it.size)(hb:base+n<=p.size)(hh:hint < n)
  (t:Nat->Bool) (ht:∀ i,i < n->past lt left key (p.getD (base+i) 0)=t i) (mono:∀ i j,i<=j->j < n->t j=true->t i=true)
  (h:∀ k,k<=n->(∀ i,i < k->t i=true)->(∀ i,k<=i->i < n->t i=false)->Q (some k) st) :
  wq prog w A E s0 (gallopP left (kas_item it key) (p.map (kas_item it)) base n hint) Q st:=by
 have ask:∀ (i:Nat) (Q:Option Bool->BZ->Prop),i < n->Q (some (t i)) st->wq prog w A E s0 ((elem' (p.map (kas_item it)) (base+i)) >>= λx=>if left=true then lt' x (kas_item it key) else (lt' (kas_item it key) x) >>= λr=>pure (JI (λb=>!b) r)) Q st:=λi Q hi hq=>gN hA hk hkey hp ⋯ (by rw[ht i hi];exact hq)
 have up:∀ m,m < n->t m=true->∀ i,i < m+1->t i=true:=λm hm h1 i hi=>mono i m ⋯ hm h1
 have dn:∀ m,t m=false->∀ i,m<=i->i < n->t i=false:=λm h1 i hi hn=>by
  cases h2:t i with
  | false=>rfl
  | true=>rw[mono m i hi hn h2]at h1;cases h1
 unfold gallopP;refine LC (ask hint _ hh ?_);dsimp only;cases hr:t hint with
 | true =>
  simp only[if_true];refine LC (LR (LV (I:=λx c st'=>st=st'/\∃ l o:Nat,c=(none,l,o)/\l < o/\x+1<=o/\hint+l < n/\t (hint+l)=true)
   (Q:=λc st'=>st=st'/\∃ l o:Nat,c=(none,l,o)/\l < o/\hint+l < n/\t (hint+l)=true/\(n - hint<=o\/t (hint+o)=false)) ?_ ?_ ⟨rfl,0,1,rfl,by lia,by lia,by lia,hr⟩) ?_)
  ·rintro x c st' _ hx ⟨rfl,l,o,rfl,h1,h2,h3,h4⟩;dsimp only;by_cases ho:o ≥ n - hint
   ·rw[if_pos ho];exact LD ⟨rfl,l,o,rfl,h1,h3,h4,.inl ho⟩
   ·rw[if_neg ho];refine LC (ask (hint+o) _ ⋯ ?_);dsimp only;cases h5:t (hint+o) with
    | true =>
     exact LD ⟨rfl,o,2 * o+1,rfl,by lia,by lia,by lia,h5⟩
    | false =>
     exact LD ⟨rfl,l,o,rfl,h1,h3,h4,.inr h5⟩
  ·rintro c st' ⟨rfl,l,o,rfl,h1,h2,h3,h4⟩;exact⟨rfl,l,o,rfl,h1,h3,h4,.inl ⋯⟩
  ·rintro c st' ⟨rfl,l,o,rfl,h1,h3,h4,h5⟩;dsimp only;refine LC (LR (LV (I:=λx c st'=>st=st'/\∃ lo hi:Nat,c=(none,lo,hi)/\lo<=hi/\hi<=n/\hi - lo<=n - x/\(∀ i,i < lo->t i=true)/\(∀ i,hi<=i->i < n->t i=false))
    (Q:=λc st'=>st=st'/\∃ hi:Nat,c=(none,hi,hi)/\hi<=n/\(∀ i,i < hi->t i=true)/\(∀ i,hi<=i->i < n->t i=false)) ?_ ?_ ⟨rfl,hint+l+1,hint+min o (n - hint),rfl,by lia,by lia,by lia,up _ h3 h4,(λi hi hn=>by
    rcases h5 with h5 | h5
    ·lia
    ·exact dn _ h5 i ⋯ hn)⟩) ?_)
   ·rintro x c st' _ hx ⟨rfl,lo,hi,rfl,h1,h2,h3,h4,h5⟩;dsimp only;by_cases ho:lo ≥ hi
    ·rw[if_pos ho];obtain rfl:lo=hi:=by lia
     exact LD ⟨rfl,lo,rfl,h2,h4,h5⟩
    ·rw[if_neg ho];refine LC (ask (lo+(hi - lo) / 2) _ ⋯ ?_);dsimp only;cases hm:t (lo+(hi - lo) / 2) with
     | true =>
      simp only[if_true];exact LD ⟨rfl,_,hi,rfl,by lia,h2,by lia,up _ ⋯ hm,h5⟩
     | false =>
      exact LD ⟨rfl,lo,_,rfl,by lia,by lia,by lia,h4,dn _ hm⟩
   ·rintro c st' ⟨rfl,lo,hi,rfl,h1,h2,h3,h4,h5⟩;obtain rfl:lo=hi:=by lia
    exact⟨rfl,lo,rfl,h2,h4,h5⟩
   ·rintro c st' ⟨rfl,hi,rfl,h2,h4,h5⟩;exact LD (h hi h2 h4 h5)
 | false =>
  refine LC (LR (LV (I:=λx c st'=>st=st'/\∃ l o:Nat,c=(none,l,o)/\l < o/\x+1<=o/\l<=hint/\t (hint - l)=false)
   (Q:=λc st'=>st=st'/\∃ l o:Nat,c=(none,l,o)/\l < o/\l<=hint/\t (hint - l)=false/\(hint+1<=o\/(o<=hint/\t (hint - o)=true))) ?_ ?_ ⟨rfl,0,1,rfl,by lia,by lia,by lia,hr⟩) ?_)
  ·rintro x c st' _ hx ⟨rfl,l,o,rfl,h1,h2,h3,h4⟩;dsimp only;by_cases ho:o ≥ hint+1
   ·rw[if_pos ho];exact LD ⟨rfl,l,o,rfl,h1,h3,h4,.inl ho⟩
   ·rw[if_neg ho];refine LC (ask (hint - o) _ ⋯ ?_);dsimp only;cases h5:t (hint - o) with
    | true =>
     simp only[if_true];exact LD ⟨rfl,l,o,rfl,h1,h3,h4,.inr ⟨by lia,h5⟩⟩
    | false =>
     exact LD ⟨rfl,o,2 * o+1,rfl,by lia,by lia,by lia,h5⟩
  ·rintro c st' ⟨rfl,l,o,rfl,h1,h2,h3,h4⟩;exact⟨rfl,l,o,rfl,h1,h3,h4,.inl ⋯⟩
  ·rintro c st' ⟨rfl,l,o,rfl,h1,h3,h4,h5⟩;dsimp only;refine LC (LR (LV (I:=λx c st'=>st=st'/\∃ lo hi:Nat,c=(none,lo,hi)/\lo<=hi/\hi<=n/\hi - lo<=n - x/\(∀ i,i < lo->t i=true)/\(∀ i,hi<=i->i < n->t i=false))
    (Q:=λc st'=>st=st'/\∃ hi:Nat,c=(none,hi,hi)/\hi<=n/\(∀ i,i < hi->t i=true)/\(∀ i,hi<=i->i < n->t i=false)) ?_ ?_ ⟨rfl,hint+1 - min o (hint+1),hint - l,rfl,by lia,by lia,by lia,(λi hi=>by
    rcases h5 with h5 | ⟨h6,h5⟩
    ·lia
    ·exact up _ ⋯ h5 i ⋯),dn _ h4⟩) ?_)
   ·rintro x c st' _ hx ⟨rfl,lo,hi,rfl,h1,h2,h3,h4,h5⟩;dsimp only;by_cases ho:lo ≥ hi
    ·rw[if_pos ho];obtain rfl:lo=hi:=by lia
     exact LD ⟨rfl,lo,rfl,h2,h4,h5⟩
    ·rw[if_neg ho];refine LC (ask (lo+(hi - lo) / 2) _ ⋯ ?_);dsimp only;cases hm:t (lo+(hi - lo) / 2) with
     | true =>
      simp only[if_true];exact LD ⟨rfl,_,hi,rfl,by lia,h2,by lia,up _ ⋯ hm,h5⟩
     | false =>
      exact LD ⟨rfl,lo,_,rfl,by lia,by lia,by lia,h4,dn _ hm⟩
   ·rintro c st' ⟨rfl,lo,hi,rfl,h1,h2,h3,h4,h5⟩;obtain rfl:lo=hi:=by lia
    exact⟨rfl,lo,rfl,h2,h4,h5⟩
   ·rintro c st' ⟨rfl,hi,rfl,h2,h4,h5⟩;exact LD (h hi h2 h4 h5)
end
structure Mi(lt:Nat->Nat->Bool)(la lb po:List Nat)(ia ib:Nat):Prop where
 ha:ia<=la.length
 hb:ib<=lb.length
 pm:po.Perm (la.take ia++lb.take ib)
 so:po.Pairwise λx y=>lt x y=true
 ba:∀ x∈po,∀ y∈la.drop ia,lt x y=true
 bb:∀ x∈po,∀ y∈lb.drop ib,lt x y=true
section
variable {lt:Nat->Nat->Bool}{la lb po:List Nat}{ia ib:Nat}
def M1{l:List Nat}{i}(h:i < l.length):l.drop i=l.getD i 0::l.drop (i+1):=by simp_all
def Ug{l:List Nat}{i}(h:i < l.length):l.take (i+1)=l.take i++[l.getD i 0]:=by simp_all
def VF(h:po.Pairwise λx y=>lt x y=true)(hx:∀ y∈po,lt y x=true):(po++[x]).Pairwise λx y=>lt x y=true:=by
 rw[Ei];exact⟨h,Gk _ _,λa ha b hb=>by rw[AC.mp hb];exact hx a ha⟩
def Mi.pushA(h:Mi lt la lb po ia ib)(sa:la.Pairwise λx y=>lt x y=true)(hi:ia < la.length)(hx:∀ y∈lb.drop ib,lt (la.getD ia 0) y=true):Mi lt la lb (po++[la.getD ia 0]) (ia+1) ib:=by
 have hd:=M1 hi;have sd:(la.drop ia).Pairwise λx y=>lt x y=true:=sa.sublist (FL _ _)
 rw[hd,Br]at sd;refine⟨by lia,h.hb,?_,VF h.so λy hy=>h.ba y hy _ (by rw[hd];exact AG),λx hx' y hy=>?_,λx hx' y hy=>?_⟩
 ·rw[Ug hi];refine (h.pm.append_right _).trans ?_;rw[BC,BC];exact (List.perm_append_comm).append_left _
 ·rcases Aw.mp hx' with z | z
  ·exact h.ba x z y (by rw[hd];exact AH _ hy)
  ·rw[AC.mp z];exact sd.1 y hy
 ·rcases Aw.mp hx' with z | z
  ·exact h.bb x z y hy
  ·rw[AC.mp z];exact hx y hy
def Mi.pushB(h:Mi lt la lb po ia ib)(sb:lb.Pairwise λx y=>lt x y=true)(hi:ib < lb.length)(hx:∀ y∈la.drop ia,lt (lb.getD ib 0) y=true):Mi lt la lb (po++[lb.getD ib 0]) ia (ib+1):=by
 have hd:=M1 hi;have sd:(lb.drop ib).Pairwise λx y=>lt x y=true:=sb.sublist (FL _ _)
 rw[hd,Br]at sd;refine⟨h.ha,by lia,?_,VF h.so λy hy=>h.bb y hy _ (by rw[hd];exact AG),λx hx' y hy=>?_,λx hx' y hy=>?_⟩
 ·rw[Ug hi,← BC];exact h.pm.append_right _
 ·rcases Aw.mp hx' with z | z
  ·exact h.ba x z y hy
  ·rw[AC.mp z];exact hx y hy
 ·rcases Aw.mp hx' with z | z
  ·exact h.bb x z y (by rw[hd];exact AH _ hy)
  ·rw[AC.mp z];exact sd.1 y hy
theorem Mi.moveA(sa:la.Pairwise λx y=>lt x y=true):∀ k {po ia},Mi lt la lb po ia ib->ia+k<=la.length->(∀ i,i < k->∀ y∈lb.drop ib,lt (la.getD (ia+i) 0) y=true)->Mi lt la lb (po++(la.drop ia).take k) (ia+k) ib
 | 0,po,ia,h,_,_=>by simpa using h
 | k+1,po,ia,h,hl,hx=>by
  rw[M1 (show ia < la.length by lia),show ia+(k+1)=ia+1+k by lia];simpa using (Mi.moveA sa k (h.pushA sa ⋯ (hx 0 ⋯)) ⋯ λi hi y hy=>by rw[show ia+1+i=ia+(i+1) by lia];exact hx (i+1) ⋯ y hy)
theorem Mi.moveB(sb:lb.Pairwise λx y=>lt x y=true):∀ k {po ib},Mi lt la lb po ia ib->ib+k<=lb.length->(∀ i,i < k->∀ y∈la.drop ia,lt (lb.getD (ib+i) 0) y=true)->Mi lt la lb (po++(lb.drop ib).take k) ia (ib+k)
 | 0,po,ib,h,_,_=>by simpa using h
 | k+1,po,ib,h,hl,hx=>by
  rw[M1 (show ib < lb.length by lia),show ib+(k+1)=ib+1+k by lia];simpa using (Mi.moveB sb k (h.pushB sb ⋯ (hx 0 ⋯)) ⋯ λi hi y hy=>by rw[show ib+1+i=ib+(i+1) by lia];exact hx (i+1) ⋯ y hy)
def Both (lt:Nat->Nat->Bool) (la lb r:List Nat):Prop:=r.Perm (la++lb)/\r.Pairwise λx y=>lt x y=true
def Mi.fin(h:Mi lt la lb po la.length lb.length):Both lt la lb po:=⟨by simpa using h.pm,h.so⟩
def Mi.finA(h:Mi lt la lb po ia ib)(sa:la.Pairwise λx y=>lt x y=true)(hb:ib=lb.length):Both lt la lb (po++la.drop ia):=by
 have h1:=Mi.moveA sa (la.length - ia) h (by have:=h.ha;lia) (by simp_all);rw[Bk ↥1]at h1;have e:ia+(la.length - ia)=la.length:=by have:=h.ha;lia
 rw[e,hb]at h1;exact h1.fin
def Mi.finB(h:Mi lt la lb po ia ib)(sb:lb.Pairwise λx y=>lt x y=true)(ha:ia=la.length):Both lt la lb (po++lb.drop ib):=by
 have h1:=Mi.moveB sb (lb.length - ib) h (by have:=h.hb;lia) (by simp_all);rw[Bk ↥1]at h1;have e:ib+(lb.length - ib)=lb.length:=by have:=h.hb;lia
 rw[e,ha]at h1;exact h1.fin
end
structure Apart(lt:Nat->Nat->Bool)(la lb:List Nat):Prop where
 tr:∀ {x y z},lt x y=true->lt y z=true->lt x z=true
 no:∀ {x y},lt x y=true->lt y x=false
 ab:∀ x∈la,∀ y∈lb,lt x y=false->lt y x=true
 ba:∀ x∈lb,∀ y∈la,lt x y=false->lt y x=true
 sa:la.Pairwise λx y=>lt x y=true
 sb:lb.Pairwise λx y=>lt x y=true
section
variable {lt:Nat->Nat->Bool}{la lb po l:List Nat}{ia ib:Nat}
def M9(h:i < l.length):l.getD i 0∈l:=by simp_all
def Nx(tr:∀ {x y z},lt x y=true->lt y z=true->lt x z=true)(sl:l.Pairwise λx y=>lt x y=true)(hi:i < l.length)(h:lt x (l.getD i 0)=true):∀ y∈l.drop i,lt x y=true:=λy hy=>by
 have sd:(l.drop i).Pairwise λx y=>lt x y=true:=sl.sublist (FL _ _)
 rw[M1 hi,Br]at sd;rw[M1 hi]at hy;rcases AN.mp hy with e | e
 ·rw[e];exact h
 ·exact tr h (sd.1 y e)
def Yq(sl:l.Pairwise λx y=>lt x y=true)(hij:i < j)(hj:j < l.length):lt (l.getD i 0) (l.getD j 0)=true:=by
 have:=BI.mp sl i j ⋯ hj hij;simpa [Kc,AY (show i < l.length by lia),AY hj] using this
def Mi.wonB(h:Mi lt la lb po ia ib)(A:Apart lt la lb)(ha:ia < la.length)(hb:ib < lb.length)(c:lt (lb.getD ib 0) (la.getD ia 0)=true):Mi lt la lb (po++[lb.getD ib 0]) ia (ib+1):=
 h.pushB A.sb hb (Nx A.tr A.sa ha c)
def Mi.wonA(h:Mi lt la lb po ia ib)(A:Apart lt la lb)(ha:ia < la.length)(hb:ib < lb.length)(c:lt (lb.getD ib 0) (la.getD ia 0)=false):Mi lt la lb (po++[la.getD ia 0]) (ia+1) ib:=
 h.pushA A.sa ha (Nx A.tr A.sb hb (A.ba _ (M9 hb) _ (M9 ha) c))
def Mi.galA(h:Mi lt la lb po ia ib)(A:Apart lt la lb)(hb:ib < lb.length)(hk:ia+k<=la.length)(c:∀ i,i < k->lt (lb.getD ib 0) (la.getD (ia+i) 0)=false):Mi lt la lb (po++(la.drop ia).take k) (ia+k) ib:=
 Mi.moveA A.sa k h hk λi hi=>Nx A.tr A.sb hb (A.ba _ (M9 hb) _ (M9 ⋯) (c i hi))
def Mi.galB(h:Mi lt la lb po ia ib)(A:Apart lt la lb)(ha:ia < la.length)(hk:ib+k<=lb.length)(c:∀ i,i < k->lt (lb.getD (ib+i) 0) (la.getD ia 0)=true):Mi lt la lb (po++(lb.drop ib).take k) ia (ib+k):=
 Mi.moveB A.sb k h hk λi hi=>Nx A.tr A.sa ha (c i hi)
def Mi.finL(h:Mi lt la lb po ia ib)(A:Apart lt la lb)(ha:ia+1=la.length)(hl:∀ y∈lb,lt y (la.getD ia 0)=true):Both lt la lb (po++lb.drop ib++la.drop ia):=by
 have hb:=h.hb;have h1:=Mi.galB h A ⋯ (k:=lb.length - ib) ⋯ λi hi=>hl _ (M9 ⋯)
 rw[Bk ↥1]at h1;have e:ib+(lb.length - ib)=lb.length:=by lia
 rw[e]at h1;exact h1.finA A.sa rfl
end
def SA (κ:Ci) (it:Array Bu) (p:Array Nat) (pd:Array (Nat×Nat×Nat)) (st:BZ):Prop:=DN st=κ/\GZ st=p.map (kas_item it)/\D5 st=none/\DD st=pd
def AscS (lt:Nat->Nat->Bool) (p:Array Nat) (a b:Nat):Prop:=∀ i j,a<=i->i < j->j < b->lt (atA p i) (atA p j)=true
def DscS (lt:Nat->Nat->Bool) (p:Array Nat) (a b:Nat):Prop:=∀ i j,a<=i->i < j->j < b->lt (atA p j) (atA p i)=true
section
variable {prog:Ai}{w:A5}{A:BD}{E:AM->AR->Prop}{s0:AR}{κ:Ci}{it:Array Bu}{lt:Nat->Nat->Bool}{st:BZ}{p:Array Nat}{pd:Array (Nat×Nat×Nat)}
def Mk(hA:Ans prog w A s0 κ it lt)(h:SA κ it p pd st)(hp:Arr it.size p)(hi:i < it.size)(hj:j < it.size)(hq:Q (some (lt (atA p i) (atA p j))) st):wq prog w A E s0 (ltAt' i j) Q st:=by
 rw[ltAt'_eq];refine LC (Li ?_);rw[h.2.1];exact LC (LK (by rw[hp.size];exact hi) (LC (LK (by rw[hp.size];exact hj) (NP hA (hp.lt ⋯ _) (hp.lt ⋯ _) h.1 hq))))
def cX(h:SA κ it p pd st)(hq:∀ st',SA κ it (kas_rev p i j) pd st'->Q () st'):wq prog w A E s0 (reverseSlice' i j) Q st:=by
 rw[reverseSlice'_eq];refine MH (hq _ ⟨h.1,?_,h.2.2.1,h.2.2.2⟩);rw[h.2.1];exact kas_swaps_map (kas_item it) (λk=>i+k) (λk=>j - 1 - k) _ p
def iW(h:SA κ it p pd st)(hq:∀ st',SA κ it (bubble p k (k - l)) pd st'->Q () st'):wq prog w A E s0 (moveDown' k l) Q st:=by
 rw[moveDown'_eq];refine MH (hq _ ⟨h.1,?_,h.2.2.1,h.2.2.2⟩);rw[h.2.1];exact kas_swaps_map (kas_item it) (λi=>k - i) (λi=>k - i - 1) _ p
def QD(hm:m<=p.size) i:atA (kas_rev p a m) i=if a<=i/\i < m then atA p (a+m - 1 - i) else atA p i:=by
 unfold kas_rev;rw[LM,(Ia hm i)];split
 ·rw[LM]
 ·rw[LM]
def AscS.more(T:Tot it.size lt)(h:Arr it.size p)(s:AscS lt p a m)(hm:a < m)(hmn:m < it.size)(hc:lt (atA p (m - 1)) (atA p m)=true):AscS lt p a (m+1):=λi j hai hij hj=>by
 by_cases e:j=m
 ·subst e;by_cases e2:i=j - 1
  ·subst e2;exact hc
  ·exact T.tr _ _ _ (h.atlt ⋯ _) (h.atlt ⋯ _) (h.atlt ⋯ _) (s i (j - 1) hai ⋯ ⋯) hc
 ·exact s i j hai hij ⋯
def DscS.more(T:Tot it.size lt)(h:Arr it.size p)(s:DscS lt p a m)(hm:a < m)(hmn:m < it.size)(hc:lt (atA p m) (atA p (m - 1))=true):DscS lt p a (m+1):=λi j hai hij hj=>by
 by_cases e:j=m
 ·subst e;by_cases e2:i=j - 1
  ·subst e2;exact hc
  ·exact T.tr _ _ _ (h.atlt ⋯ _) (h.atlt ⋯ _) (h.atlt ⋯ _) hc (s i (j - 1) hai ⋯ ⋯)
 ·exact s i j hai hij ⋯
def Tot.flip(T:Tot it.size lt)(h:Arr it.size p)(hi:i < it.size)(hj:j < it.size)(hij:i≠j)(hc:lt (atA p i) (atA p j)=false):lt (atA p j) (atA p i)=true:=
 T.tot _ _ (h.atlt ⋯ _) (h.atlt ⋯ _) (λz=>hij (h.inj hi hj z)) hc
def Qq{lo nrem Q}(hA:Ans prog w A s0 κ it lt)(T:Tot it.size lt)(h:SA κ it p pd st)(hp:Arr it.size p)(hn:lo+nrem=it.size)(h1:1<=nrem)
  (hq:∀ m p' st',SA κ it p' pd st'->Arr it.size p'->1<=m->m<=nrem->AscS lt p' lo (lo+m)->(∀ i,i < lo->atA p' i=atA p i)->Q (some m) st'):wq prog w A E s0 (countRun' lo nrem) Q st:=by
 refine LC (LR (LV (I:=λx c st'=>st=st'/\c=(none,x)/\AscS lt p lo (lo+x)) (Q:=λc st'=>st=st'/\∃ m,c=(none,m)/\1<=m/\m<=nrem/\AscS lt p lo (lo+m)/\(m=nrem\/lt (atA p (lo+m)) (atA p (lo+m - 1))=true)) ?_ ?_ ⟨rfl,rfl,λi j _ _ _=>by lia⟩) ?_)
 ·rintro x c st' h1x hx ⟨rfl,rfl,ha⟩;dsimp only;refine LC (Mk hA h hp ⋯ ⋯ ?_);cases hc:lt (atA p (lo+x)) (atA p (lo+x - 1)) with
  | true =>
   exact LD ⟨rfl,x,rfl,h1x,by lia,ha,.inr hc⟩
  | false =>
   exact LD ⟨rfl,rfl,ha.more T hp ⋯ ⋯ (T.flip hp ⋯ ⋯ ⋯ hc)⟩
 ·rintro c st' ⟨rfl,rfl,ha⟩;rw[show max 1 nrem=nrem by simp_all]at ha ⊢;exact⟨rfl,nrem,rfl,h1,AE _,ha,.inl rfl⟩
 rintro c st' ⟨rfl,m,rfl,hm1,hm2,ha,hend⟩;dsimp only;by_cases e:m=nrem
 ·rw[if_pos (by simpa using e)];exact LD (hq m p st h hp hm1 hm2 ha λ_ _=>rfl)
 rw[if_neg (by simpa using e)];have hend':=hend.resolve_left e;by_cases e1:m > 1
 ·rw[if_pos e1];refine LC (Mk hA h hp ⋯ ⋯ ?_);rw[ha lo (lo+m - 1) (AE _) ⋯ ⋯];exact LD (hq m p st h hp hm1 hm2 ha λ_ _=>rfl)
 rw[if_neg e1];obtain rfl:m=1:=by lia
 refine LC (Mc (LC (LR (LV (I:=λx c st'=>st=st'/\c=(none,x,0)/\DscS lt p lo (lo+x)) (Q:=λc st'=>st=st'/\∃ m,c=(none,m,0)/\2<=m/\m<=nrem/\DscS lt p lo (lo+m)) ?_ ?_ ⟨rfl,rfl,λi j h1 h2 h3=>?_⟩) ?_)))
 ·rintro x c st' h1x hx ⟨rfl,rfl,ha⟩;dsimp only;refine LC (Mk hA h hp ⋯ ⋯ ?_);cases hc:lt (atA p (lo+x)) (atA p (lo+x - 1)) with
  | true =>
   exact LD ⟨rfl,rfl,ha.more T hp ⋯ ⋯ hc⟩
  | false =>
   refine LC (Mk hA h hp ⋯ ⋯ ?_);rw[T.flip hp ⋯ ⋯ ⋯ hc];exact LD ⟨rfl,x,rfl,by omega,by lia,ha⟩
 ·rintro c st' ⟨rfl,rfl,ha⟩;rw[show max (1+1) nrem=nrem by lia]at ha ⊢;exact⟨rfl,nrem,rfl,by lia,AE _,ha⟩
 ·obtain rfl:i=lo:=by lia
  obtain rfl:j=i+1:=by lia
  exact hend'
 rintro c st' ⟨rfl,m,rfl,hm1,hm2,hd⟩;dsimp only;refine LC (cX h λst2 h2=>?_);have hp2:Arr it.size (kas_rev p lo (lo+m)):=hp.rev _ _;have hsz:lo+m<=p.size:=by rw[hp.size];lia
 have hb:∀ i,i < lo->atA (kas_rev p lo (lo+m)) i=atA p i:=λi hi=>by rw[QD hsz,if_neg ⋯]
 have ha2:AscS lt (kas_rev p lo (lo+m)) lo (lo+m):=λi j h1 h2 h3=>by
  rw[QD hsz,QD hsz,if_pos ⋯,if_pos ⋯];exact hd _ _ ⋯ ⋯ ⋯
 generalize kas_rev p lo (lo+m)=p2 at *;refine LC (LR (LV (I:=λx c st'=>st2=st'/\c=(none,x)/\AscS lt p2 lo (lo+x)) (Q:=λc st'=>st2=st'/\∃ m,c=(none,m)/\1<=m/\m<=nrem/\AscS lt p2 lo (lo+m)) ?_ ?_ ⟨rfl,rfl,ha2⟩) ?_)
 ·rintro x c st' h1x hx ⟨rfl,rfl,ha⟩;dsimp only;refine LC (Mk hA h2 hp2 ⋯ ⋯ ?_);cases hc:lt (atA p2 (lo+x)) (atA p2 (lo+x - 1)) with
  | true =>
   exact LD ⟨rfl,x,rfl,by lia,by lia,ha⟩
  | false =>
   exact LD ⟨rfl,rfl,ha.more T hp2 ⋯ ⋯ (T.flip hp2 ⋯ ⋯ ⋯ hc)⟩
 ·rintro c st' ⟨rfl,rfl,ha⟩;rw[show max m nrem=nrem by simp_all]at ha ⊢;exact⟨rfl,nrem,rfl,h1,AE _,ha⟩
 rintro c st' ⟨rfl,m',rfl,hm1',hm2',ha⟩;exact LD (hq m' p2 st2 h2 hp2 hm1' hm2' ha hb)
def RE{lo n ok:Nat}{Q}(hA:Ans prog w A s0 κ it lt)(T:Tot it.size lt)(h:SA κ it p pd st)(hp:Arr it.size p)(hn:lo+n<=it.size)(h1:1<=ok)(hok:ok<=n)(ha:AscS lt p lo (lo+ok))
  (hq:∀ p' st',SA κ it p' pd st'->Arr it.size p'->AscS lt p' lo (lo+n)->(∀ i,i < lo->atA p' i=atA p i)->Q true st'):wq prog w A E s0 (binarySort' lo n ok) Q st:=by
 rw[binarySort'_eq];refine LC (LR (LV (I:=λk c st'=>c=(none,())/\∃ p',SA κ it p' pd st'/\Arr it.size p'/\AscS lt p' lo (lo+k)/\(∀ i,i < lo->atA p' i=atA p i))
  (Q:=λc st'=>c=(none,())/\∃ p',SA κ it p' pd st'/\Arr it.size p'/\AscS lt p' lo (lo+n)/\(∀ i,i < lo->atA p' i=atA p i)) ?_ ?_ ⟨rfl,p,h,hp,by rw[show max ok 1=ok by lia];exact ha,λ_ _=>rfl⟩) ?_)
 ·rintro k c st' hak hkn ⟨rfl,p',h',hp',ha',hb'⟩;have lts:=λi=>hp'.atlt (show 0 < it.size by lia) i
  refine LC (LR (LV (I:=λx c st''=>st'=st''/\∃ l r,c=(none,l,r)/\l<=r/\r<=k/\r - l<=k - x /\
    (∀ i,i < l->lt (atA p' (lo+i)) (atA p' (lo+k))=true)/\(∀ i,r<=i->i < k->lt (atA p' (lo+k)) (atA p' (lo+i))=true))
   (Q:=λc st''=>st'=st''/\∃ l r,c=(none,l,r)/\l<=k /\
    (∀ i,i < l->lt (atA p' (lo+i)) (atA p' (lo+k))=true)/\(∀ i,l<=i->i < k->lt (atA p' (lo+k)) (atA p' (lo+i))=true)) ?_ ?_ ⟨rfl,0,k,rfl,by lia,by lia,by lia,λi hi=>by lia,λi h1 h2=>by lia⟩) ?_)
  ·rintro x c st'' _ hxk ⟨rfl,l,r,rfl,hlr,hrk,hm,hlo,hhi⟩;dsimp only;by_cases hge:l ≥ r
   ·rw[if_pos hge];obtain rfl:l=r:=by lia
    exact LD ⟨rfl,l,l,rfl,hrk,hlo,hhi⟩
   ·rw[if_neg hge];refine LC (Mk hA h' hp' ⋯ ⋯ ?_);dsimp only;cases hc:lt (atA p' (lo+k)) (atA p' (lo+(l+r) / 2)) with
    | true =>
     refine LD ⟨rfl,l,(l+r) / 2,rfl,by lia,by lia,by lia,hlo,λi h1 h2=>?_⟩;by_cases ei:i=(l+r) / 2
     ·subst ei;exact hc
     ·exact T.tr _ _ _ (lts _) (lts _) (lts _) hc (ha' _ _ ⋯ ⋯ ⋯)
    | false =>
     have hc':=T.flip hp' ⋯ ⋯ ⋯ hc;refine LD ⟨rfl,(l+r) / 2+1,r,rfl,by lia,by lia,by lia,λi h1=>?_,hhi⟩;by_cases ei:i=(l+r) / 2
     ·subst ei;exact hc'
     ·exact T.tr _ _ _ (lts _) (lts _) (lts _) (ha' _ _ ⋯ ⋯ ⋯) hc'
  ·rintro c st'' ⟨rfl,l,r,rfl,hlr,hrk,hm,hlo,hhi⟩;obtain rfl:l=r:=by lia
   exact⟨rfl,l,l,rfl,hrk,hlo,hhi⟩
  rintro c st'' ⟨rfl,l,r,rfl,hlk,hlo,hhi⟩;dsimp only;refine LC (iW h' λst2 h2=>LD ⟨rfl,_,h2,hp'.bub _ _,?_,λi hi=>?_⟩)
  ·have hks:lo+k < p'.size:=by rw[hp'.size];lia
   intro i j hai hij hj;rw[Na hks ⋯,Na hks ⋯];have e1:∀ x,lo<=x->x < lo+l->lt (atA p' x) (atA p' (lo+k))=true:=λx h1 h2=>by have:=hlo (x - lo) ⋯;rwa [show lo+(x - lo)=x by lia]at this
   have e2:∀ x,lo+l<=x->x < lo+k->lt (atA p' (lo+k)) (atA p' x)=true:=λx h1 h2=>by have:=hhi (x - lo) ⋯ ⋯;rwa [show lo+(x - lo)=x by lia]at this
   repeat' split
   all_goals first
    | (exfalso;lia)
    | exact e1 _ ⋯ ⋯
    | exact e2 _ ⋯ ⋯
    | exact ha' _ _ ⋯ ⋯ ⋯
  ·have hks:lo+k < p'.size:=by rw[hp'.size];lia
   rw[Na hks ⋯,if_neg ⋯,if_neg ⋯];exact hb' i hi
 ·rintro c st' ⟨hc,p',h',hp',ha',hb'⟩;rw[show max (max ok 1) n=n by lia]at ha';exact⟨hc,p',h',hp',ha',hb'⟩
 rintro c st' ⟨rfl,p',h',hp',ha',hb'⟩;exact LD (hq p' st' h' hp' ha' hb')
end
def mergeLoP:Array Bu->Array Bu->StateT BZ Sem (Array Bu):=sortPriv% PySem.Builtin.mergeLo
def mergeHiP:Array Bu->Array Bu->StateT BZ Sem (Array Bu):=sortPriv% PySem.Builtin.mergeHi
def Good (it:Array Bu) (lt:Nat->Nat->Bool) (la lb:List Nat) (r:Array Bu):Prop:=∃ q:Array Nat,r=q.map (kas_item it)/\Both lt la lb q.toList
section
variable {it:Array Bu}{lt:Nat->Nat->Bool}{pa pb po:Array Nat}{ia ib:Nat}
def MC(f:Nat->Bu)(p:Array Nat) i j:(p.map f).extract i j=(p.extract i j).map f:=↥1
def MM(p:Array Nat) i j:(p.extract i j).toList=(p.toList.drop i).take (j - i):=↥1
def NR(p:Array Nat) i:(p.extract i p.size).toList=p.toList.drop i:=by
 rw[MM,Bk ↥1]
def PrL (it:Array Bu) (lt:Nat->Nat->Bool) (pa pb:Array Nat) (out:Array Bu) (ia ib:Nat):Prop:=ia<=pa.size/\ib<=pb.size/\∃ po:Array Nat,out=po.map (kas_item it)/\Mi lt pa.toList pb.toList po.toList ia ib
variable {out:Array Bu}
def LU(p:Array Nat) i:p.getD i 0=p.toList.getD i 0:=↥1
def PrL.done(h:PrL it lt pa pb out ia ib)(A:Apart lt pa.toList pb.toList)(he:ib=pb.size\/ia=pa.size) :
  Good it lt pa.toList pb.toList (out++(pa.map (kas_item it)).extract ia (pa.map (kas_item it)).size++(pb.map (kas_item it)).extract ib (pb.map (kas_item it)).size):=by
 obtain⟨_,_,po,rfl,h⟩:=h;refine⟨po++pa.extract ia pa.size++pb.extract ib pb.size,?_,?_⟩
 ·rw[MC];simp
 ·rw[A9,A9,NR,NR];rcases he with rfl | rfl
  ·rw[C5 (l:=pb.toList) ↥1,Bn];exact h.finA A.sa ↥1
  ·rw[C5 ↥1,Bn];exact h.finB A.sb ↥1
def PrL.last(h:PrL it lt pa pb out ia ib)(A:Apart lt pa.toList pb.toList)(hl:∀ y∈pb.toList,lt y (pa.toList.getD (pa.size - 1) 0)=true)(he:ia+1=pa.size) :
  Good it lt pa.toList pb.toList (out++(pb.map (kas_item it)).extract ib (pb.map (kas_item it)).size++(pa.map (kas_item it)).extract ia (pa.map (kas_item it)).size):=by
 obtain⟨_,_,po,rfl,h⟩:=h;refine⟨po++pb.extract ib pb.size++pa.extract ia pa.size,?_,?_⟩
 ·rw[MC];simp
 ·rw[A9,A9,NR,NR];exact h.finL A ‹_› λy hy=>by rw[show ia=pa.size - 1 by lia];exact hl y hy
def PrL.b(h:PrL it lt pa pb out ia ib)(A:Apart lt pa.toList pb.toList)(h1:ia < pa.size)(h2:ib < pb.size)(hc:lt (pb.getD ib 0) (pa.getD ia 0)=true):PrL it lt pa pb (out.push (kas_item it (pb.getD ib 0))) ia (ib+1):=by
 obtain⟨ea,eb,po,rfl,h⟩:=h;rw[LU,LU]at hc;exact⟨ea,h2,po.push (pb.getD ib 0),by simp,by rw[C4,LU];exact h.wonB A ‹_› ‹_› hc⟩
def PrL.a(h:PrL it lt pa pb out ia ib)(A:Apart lt pa.toList pb.toList)(h1:ia < pa.size)(h2:ib < pb.size)(hc:lt (pb.getD ib 0) (pa.getD ia 0)=false):PrL it lt pa pb (out.push (kas_item it (pa.getD ia 0))) (ia+1) ib:=by
 obtain⟨ea,eb,po,rfl,h⟩:=h;rw[LU,LU]at hc;exact⟨h1,eb,po.push (pa.getD ia 0),by simp,by rw[C4,LU];exact h.wonA A ‹_› ‹_› hc⟩
def PrL.ga(h:PrL it lt pa pb out ia ib)(A:Apart lt pa.toList pb.toList)(h1:ia+k<=pa.size)(h2:ib < pb.size)(hc:∀ i,i < k->lt (pb.getD ib 0) (pa.getD (ia+i) 0)=false):PrL it lt pa pb (out++(pa.map (kas_item it)).extract ia (ia+k)) (ia+k) ib:=by
 obtain⟨ea,eb,po,rfl,h⟩:=h;refine⟨h1,eb,po++pa.extract ia (ia+k),by rw[MC];simp,?_⟩;rw[A9,MM,Gq];exact h.galA A ‹_› ‹_› λi hi=>by rw[← LU,← LU];exact hc i hi
def PrL.gb(h:PrL it lt pa pb out ia ib)(A:Apart lt pa.toList pb.toList)(h1:ia < pa.size)(h2:ib+k<=pb.size)(hc:∀ i,i < k->lt (pb.getD (ib+i) 0) (pa.getD ia 0)=true):PrL it lt pa pb (out++(pb.map (kas_item it)).extract ib (ib+k)) ia (ib+k):=by
 obtain⟨ea,eb,po,rfl,h⟩:=h;refine⟨ea,h2,po++pb.extract ib (ib+k),by rw[MC];simp,?_⟩;rw[A9,MM,Gq];exact h.galB A ‹_› ‹_› λi hi=>by rw[← LU,← LU];exact hc i hi
end
section
variable {prog:Ai}{w:A5}{A:BD}{E:AM->AR->Prop}{s0:AR}{κ:Ci}{it:Array Bu}{lt:Nat->Nat->Bool}{st:BZ}{p:Array Nat}{pd:Array (Nat×Nat×Nat)}{pa pb:Array Nat}
def Run (it:Array Bu) (lt:Nat->Nat->Bool) (pa pb:Array Nat) (m:Nat) (out:Array Bu) (ia ib:Nat):Option (Array Bu)->Prop
 | some r=>Good it lt pa.toList pb.toList r
 | none=>PrL it lt pa pb out ia ib/\ia+1 < pa.size/\ib < pb.size/\m<=ia+ib
def Run.le(h:Run it lt pa pb n out ia ib none)(e:m<=n):Run it lt pa pb m out ia ib none:=⟨h.1,h.2.1,h.2.2.1,Ak e h.2.2.2⟩
def Lg [Decidable c] {m1 m2:StateT BZ Sem α} {Q} (h1:c->wq prog w A E s0 m1 Q st) (h2:¬ c->wq prog w A E s0 m2 Q st):wq prog w A E s0 (if c then m1 else m2) Q st:=by
 by_cases h:c
 ·rw[if_pos h];exact h1 h
 ·rw[if_neg h];exact h2 h
def LQ{x y:Nat}{m1 m2:StateT BZ Sem α}{Q}(h1:x=y->wq prog w A E s0 m1 Q st)(h2:x≠y->wq prog w A E s0 m2 Q st):wq prog w A E s0 (if (x == y)=true then m1 else m2) Q st:=
 Lg (λe=>h1 (beq_iff_eq.mp e)) λe=>h2 λz=>e (beq_iff_eq.mpr z)
def Mz{P G:Prop}(h:P->G)(k:P):G:=h k
def OU(h:SA κ it p pd st)(hq:∀ st',SA κ it p pd st'->Q ⟨⟩ st')(hf:∀ s,SA κ it p pd s->SA κ it p pd (f s)):wq prog w A E s0 (modify f:StateT BZ Sem PUnit) Q st:=MH (hq _ (hf _ h))
def N5(sl:p.toList.Pairwise λx y=>lt x y=true){i j}(hij:i<=j)(hj:j < p.size):i=j\/lt (p.getD i 0) (p.getD j 0)=true:=by
 rcases Bl i j with z | z
 ·rw[LU,LU];exact .inr (Yq sl z hj)
 ·exact .inl ⋯
section
variable {key base n hint:Nat}{p':Array Nat}{Q:Option Nat->BZ->Prop}(hA:Ans prog w A s0 κ it lt)(hs:SA κ it p pd st)(tr:∀ {x y z},lt x y=true->lt y z=true->lt x z=true)(hkey:key < it.size)(hp:∀ i,i < p'.size->p'.getD i 0 < it.size)(hb:base+n<=p'.size)(hh:hint < n)(so:∀ i j,base<=i->i<=j->j < base+n->i=j\/lt (p'.getD i 0) (p'.getD j 0)=true)
include hA hs tr hkey hp hb hh so
def P9(h:∀ k,k<=n->(∀ i,i < k->lt key (p'.getD (base+i) 0)=false)->(∀ i,k<=i->i < n->lt key (p'.getD (base+i) 0)=true)->Q (some k) st):wq prog w A E s0 (gallopP false (kas_item it key) (p'.map (kas_item it)) base n hint) Q st:=
 Uo hA hs.1 hkey hp hb hh (λi=>!lt key (p'.getD (base+i) 0)) (λi hi=>rfl) (λi j hij hj hc=>by
  rcases so (base+i) (base+j) ⋯ ⋯ ⋯ with e | e
  ·rw[e];exact hc
  ·cases hd:lt key (p'.getD (base+i) 0) with
   | false=>rfl
   | true=>rw[tr hd e]at hc;exact hc) λk hk h1 h2=>h k hk (λi hi=>by simpa using h1 i hi) λi hi hn=>by simpa using h2 i hi hn
def PQ(h:∀ k,k<=n->(∀ i,i < k->lt (p'.getD (base+i) 0) key=true)->(∀ i,k<=i->i < n->lt (p'.getD (base+i) 0) key=false)->Q (some k) st):wq prog w A E s0 (gallopP true (kas_item it key) (p'.map (kas_item it)) base n hint) Q st:=
 Uo hA hs.1 hkey hp hb hh (λi=>lt (p'.getD (base+i) 0) key) (λi hi=>rfl) (λi j hij hj hc=>by
  rcases so (base+i) (base+j) ⋯ ⋯ ⋯ with e | e
  ·rw[e];exact hc
  ·exact tr e hc) h
end
def jl{Q:Array Bu->BZ->Prop}(hA:Ans prog w A s0 κ it lt)(h:SA κ it p pd st)(ha:∀ i,i < pa.size->pa.getD i 0 < it.size)(hb:∀ i,i < pb.size->pb.getD i 0 < it.size)(AP:Apart lt pa.toList pb.toList)
  (h1:1<=pa.size) (h2:1<=pb.size) (hf:lt (pb.toList.getD 0 0) (pa.toList.getD 0 0)=true) (hl:∀ y∈pb.toList,lt y (pa.toList.getD (pa.size - 1) 0)=true)
  (hq:∀ r st',SA κ it p pd st'->Good it lt pa.toList pb.toList r->Q r st'):wq prog w A E s0 (mergeLoP (pa.map (kas_item it)) (pb.map (kas_item it))) Q st:=by
 have sza:(pa.map (kas_item it)).size=pa.size:=by simp
 have szb:(pb.map (kas_item it)).size=pb.size:=by simp
 unfold mergeLoP;refine LC (Mc ?_)
 extract_lets -underBinder tot dn la
 have ht:tot=pa.size+pb.size:=by rw[← sza,← szb]
 clear_value tot
 refine LC (LK h2 ?_)
 extract_lets -underBinder out ia ib
 have hm:PrL it lt pa pb out ia ib:=PrL.b (out:=#[]) (ia:=0) (ib:=0) ⟨Au _,Au _,#[],by simp,Au _,Au _,by simp,.nil,(λ_ z=>nomatch z),(λ_ z=>nomatch z)⟩ AP h1 h2 (by rw[LU,LU];exact hf);have hia:ia=0:=rfl;have hib:ib=1:=rfl
 clear_value out ia ib
 refine LQ (λe=>LD (hq _ _ h (hm.done AP (.inl (e.trans szb))))) λe=>LQ (λe=>LD (hq _ _ h (hm.last AP hl (e.trans sza)))) λe2=>?_
 have hr:Run it lt pa pb (0+1) out ia ib none:=⟨hm,by lia,by lia,by simp_all⟩
 refine LC (Li ?_);refine LC (LR (LV (I:=λx c st'=>SA κ it p pd st'/\Run it lt pa pb (x+1) c.2.1 c.2.2.1 c.2.2.2.1 none)
  (Q:=λc st'=>SA κ it p pd st'/\∃ r,c.1=some r/\Good it lt pa.toList pb.toList r) ?_ ?_ ⟨h,hr⟩) ?_)
 ·intro x c st1 _ hx hr
  extract_lets -underBinder _ out _ ia _ ib mg ac
  obtain⟨hs1,hr⟩:SA κ it p pd st1/\Run it lt pa pb (x+1) out ia ib none:=hr
  clear_value out ia ib mg ac
  refine LC (LR (LV (I:=λy c st'=>SA κ it p pd st'/\Run it lt pa pb (x+1+y) c.2.1 c.2.2.1 c.2.2.2.1 none)
   (Q:=λc st'=>SA κ it p pd st'/\Run it lt pa pb (x+2) c.2.1 c.2.2.1 c.2.2.2.1 c.1) ?_ ?_ ⟨hs1,hr⟩) ?_)
  ·intro y c st2 _ hy hr
   extract_lets -underBinder _ out _ ia _ ib _ ac bc
   obtain⟨hs2,hm,hia,hib,hsz⟩:SA κ it p pd st2/\Run it lt pa pb (x+1+y) out ia ib none:=hr
   clear_value out ia ib ac bc
   refine LC (LK hib (LC (LK ⋯ ?_)));refine LC (NP hA (hb _ hib) (ha _ ⋯) hs2.1 ?_);refine Lg (λhc=>?_) (λhc=>?_)
   ·refine LC (LK hib ?_);have hm:=hm.b AP ⋯ hib hc;refine LQ (λe=>LD ⟨hs2,hm.done AP (.inl (e.trans szb))⟩) λe=>?_
    have hr:Run it lt pa pb (x+1+y+1) _ ia (ib+1) none:=⟨hm,hia,by lia,by lia⟩
    exact Lg (λ_=>LD ⟨hs2,hr.le ⋯⟩) λ_=>LD ⟨hs2,hr⟩
   ·refine LC (LK ⋯ ?_);have hm:=hm.a AP ⋯ hib (FI.mpr hc);refine LQ (λe=>LD ⟨hs2,hm.last AP hl (e.trans sza)⟩) λe=>?_
    have hr:Run it lt pa pb (x+1+y+1) _ (ia+1) ib none:=⟨hm,by lia,hib,by lia⟩
    exact Lg (λ_=>LD ⟨hs2,hr.le ⋯⟩) λ_=>LD ⟨hs2,hr⟩
  ·rintro c st2 ⟨hs2,hm,hia,hib,hsz⟩;lia
  ·intro c st2 hr
   extract_lets -underBinder r _ out _ ia _ ib _ ac bc
   obtain⟨hs2,hr⟩:SA κ it p pd st2/\Run it lt pa pb (x+2) out ia ib r:=hr
   clear_value r out ia ib ac bc
   cases r with
   | some r=>exact LD ⟨hs2,r,rfl,hr⟩
   | none =>
    refine LC (Mc ?_);refine LC (LR (LV (I:=λy c st'=>SA κ it p pd st'/\Run it lt pa pb (x+2+y) c.2.1 c.2.2.1 c.2.2.2.1 none)
     (Q:=λc st'=>SA κ it p pd st'/\Run it lt pa pb (x+2) c.2.1 c.2.2.1 c.2.2.2.1 c.1) ?_ ?_ ⟨hs2,hr⟩) ?_)
    ·intro y c st3 _ hy hr
     extract_lets -underBinder _ out _ ia _ ib _ mg _ ac bc jp
     obtain⟨hs3,hm,hia,hib,hsz⟩:SA κ it p pd st3/\Run it lt pa pb (x+2+y) out ia ib none:=hr
     clear_value out ia ib mg ac bc
     refine Mz (P:=∀ g,wq prog w A E s0 (jp () g) _ st3) (λkey=>Lg (λ_=>key (mg - 1)) λ_=>key mg) λg=>?_
     refine LC (OU hs3 (λst4 hs4=>?_) λs z=>⟨z.1,z.2.1,z.2.2.1,z.2.2.2⟩);refine LC (LK hib (LC (P9 hA hs4 AP.tr (hb _ hib) ha (by grind) ⋯ (λi j _ hij hj=>N5 AP.sa hij ⋯) λk hk hk1 hk2=>?_)));dsimp -zeta only
     extract_lets -underBinder ac2 jp2
     have hm1:=hm.ga AP ⋯ hib hk1;refine Mz (P:=∀ ia out,PrL it lt pa pb out ia ib->ia+1 < pa.size->x+2+y<=ia+ib->lt (pb.getD ib 0) (pa.getD ia 0)=true->wq prog w A E s0 (jp2 () out ia) _ st4) (λkey =>
      Lg (λ_=>LQ (λe=>LD ⟨hs4,hm1.last AP hl (e.trans sza)⟩) λe=>LQ (λe=>LD ⟨hs4,hm1.done AP (.inr (e.trans sza))⟩) λe2=>key _ _ hm1 ⋯ ⋯ (hk2 k (AE _) ⋯)) λhk0=>key ia out hm hia hsz (hk2 0 ⋯ ⋯)) λia out hm hia hsz hc=>?_
     refine LC (LK hib ?_);have hm2:=hm.b AP ⋯ hib hc;refine LQ (λe=>LD ⟨hs4,hm2.done AP (.inl (e.trans szb))⟩) λe=>?_
     refine LC (LK ⋯ (LC (PQ hA hs4 AP.tr (ha _ ⋯) hb ⋯ ⋯ (λi j _ hij hj=>N5 AP.sb hij ⋯) λk hk hk1 hk2=>?_)));dsimp -zeta only
     extract_lets -underBinder bc2 jp3
     have hm3:=hm2.gb AP ⋯ ⋯ hk1;refine Mz (P:=∀ ib out,PrL it lt pa pb out ia ib->ib < pb.size->x+3+y<=ia+ib->lt (pb.getD ib 0) (pa.getD ia 0)=false->wq prog w A E s0 (jp3 () out ib) _ st4) (λkey =>
      Lg (λ_=>LQ (λe=>LD ⟨hs4,hm3.done AP (.inl (e.trans szb))⟩) λe2=>key _ _ hm3 ⋯ ⋯ (hk2 k (AE _) ⋯)) λhk0=>key _ _ hm2 ⋯ ⋯ (hk2 0 ⋯ ⋯)) λib out hm hib hsz hc=>?_
     refine LC (LK ⋯ ?_);have hm4:=hm.a AP ⋯ hib hc;refine LQ (λe=>LD ⟨hs4,hm4.last AP hl (e.trans sza)⟩) λe=>?_
     have hr:Run it lt pa pb (x+2+y+1) _ (ia+1) ib none:=⟨hm4,by lia,hib,by lia⟩
     exact Lg (λ_=>LD ⟨hs4,hr.le ⋯⟩) λ_=>LD ⟨hs4,hr⟩
    ·rintro c st3 ⟨hs3,hm,hia,hib,hsz⟩;lia
    ·intro c st3 hr
     extract_lets -underBinder r _ out _ ia _ ib _ mg
     obtain⟨hs3,hr⟩:SA κ it p pd st3/\Run it lt pa pb (x+2) out ia ib r:=hr
     clear_value r out ia ib mg
     cases r with
     | some r=>exact LD ⟨hs3,r,rfl,hr⟩
     | none=>exact LC (OU hs3 (λst4 hs4=>LD ⟨hs4,hr⟩) λs z=>⟨z.1,z.2.1,z.2.2.1,z.2.2.2⟩)
 ·rintro c st1 ⟨hs1,hm,hia,hib,hsz⟩;lia
 ·rintro ⟨o,c⟩ st1 ⟨hs1,r,rfl,hr⟩;exact LD (hq r st1 hs1 hr)
end
def ltR (lt:Nat->Nat->Bool) (x y:Nat):Bool:=lt y x
section
variable {it:Array Bu}{lt:Nat->Nat->Bool}{pa pb po:Array Nat}{ja jb na nb:Nat}
def Apart.rev(A:Apart lt la lb):Apart (ltR lt) lb.reverse la.reverse where
 tr:=λh1 h2=>A.tr h2 h1
 no:=A.no
 ab:=λx hx y hy h=>A.ab y (DK.mp hy) x (DK.mp hx) h
 ba:=λx hx y hy h=>A.ba y (DK.mp hy) x (DK.mp hx) h
 sa:=EZ.mpr A.sb
 sb:=EZ.mpr A.sa
def Both.rev(h:Both (ltR lt) lb.reverse la.reverse r.reverse):Both lt la lb r:=by
 refine⟨?_,EZ.mp h.2⟩;have h1:=h.1;rw[← CO]at h1;exact (Hs _).symm.trans (h1.trans (Hs _))
def VG{l:List Nat}{i j}(h:i+j+1=l.length):l.reverse.getD i 0=l.getD j 0:=by
 rw[BF,EW (by omega)];congr 2;omega
def Ni{p:Array Nat}{i j}(h:i+j=p.size):(p.extract 0 i).toList.reverse=p.toList.reverse.drop j:=by
 rw[MM,Ht];congr 2;simp;omega
def Q3{p:Array Nat}{i j k}(h:i+j=p.size)(hk:k<=i):(p.extract k i).toList.reverse=(p.toList.reverse.drop j).take (i - k):=by
 rw[MM,Ht,List.take_reverse,show p.toList.length - j=i by simp;omega,List.drop_take,DH,show min i p.toList.length - (i - k)=k by rw[As];omega]
def PrR (it:Array Bu) (lt:Nat->Nat->Bool) (pa pb:Array Nat) (out:Array Bu) (na nb:Nat):Prop:=na<=pa.size/\nb<=pb.size/\∃ po:Array Nat,out=po.map (kas_item it)/\Mi (ltR lt) pb.toList.reverse pa.toList.reverse po.toList (pb.size - nb) (pa.size - na)
variable {out:Array Bu}{k:Nat}
def Pq{p:Array Nat}{n i}(h:i < n)(hn:n<=p.size):p.toList.reverse.getD (p.size - n+i) 0=p.getD (n - 1 - i) 0:=by
 rw[LU];exact VG (by simp;omega)
def Mv{p:Array Nat}{n}(h:0 < n)(hn:n<=p.size):p.toList.reverse.getD (p.size - n) 0=p.getD (n - 1) 0:=Pq h hn
def PrR.done(h:PrR it lt pa pb out na nb)(A:Apart lt pa.toList pb.toList)(he:na=0\/nb=0) :
  Good it lt pa.toList pb.toList ((pa.map (kas_item it)).extract 0 na++(pb.map (kas_item it)).extract 0 nb++out.reverse):=by
 obtain⟨ea,eb,po,rfl,h⟩:=h;refine⟨pa.extract 0 na++pb.extract 0 nb++po.reverse,?_,Both.rev ?_⟩
 ·rw[MC];simp
 ·rw[A9,A9,CO,CO,DP,HB,Ni (p:=pa) (j:=pa.size - na) (by omega),Ni (j:=pb.size - nb) (by omega),← BC];rcases he with rfl | rfl
  ·rw[C5 (i:=pa.size - 0) ↥1];have:=h.finA A.rev.sa ↥1;simpa using this
  ·rw[C5 ↥1,Bn];exact h.finB A.rev.sb ↥1
def PrR.first(h:PrR it lt pa pb out na nb)(A:Apart lt pa.toList pb.toList)(hf:∀ y∈pa.toList,lt (pb.toList.getD 0 0) y=true)(he:nb=1) :
  Good it lt pa.toList pb.toList ((pb.map (kas_item it)).extract 0 nb++(pa.map (kas_item it)).extract 0 na++out.reverse):=by
 obtain⟨ea,eb,po,rfl,h⟩:=h;refine⟨pb.extract 0 nb++pa.extract 0 na++po.reverse,?_,Both.rev ?_⟩
 ·rw[MC];simp
 ·rw[A9,A9,CO,CO,DP,HB,Ni (j:=pa.size - na) (by omega),Ni (j:=pb.size - nb) (by omega),← BC];refine h.finL A.rev (by simp;omega) λy hy=>?_
  rw[VG (j:=0) (by simp;omega)];exact hf y (DK.mp hy)
def PrR.a(h:PrR it lt pa pb out na nb)(A:Apart lt pa.toList pb.toList)(h1:0 < na)(h2:0 < nb)(hc:lt (pb.getD (nb - 1) 0) (pa.getD (na - 1) 0)=true):PrR it lt pa pb (out.push (kas_item it (pa.getD (na - 1) 0))) (na - 1) nb:=by
 obtain⟨ea,eb,po,rfl,h⟩:=h;refine⟨by omega,eb,po.push (pa.getD (na - 1) 0),by simp,?_⟩;have ga:=Mv h1 ea;have:=h.wonB A.rev (by simp;omega) (by simp;omega) (by rw[← ga,← (Mv h2 eb)]at hc;exact hc);rw[C4,show pa.size - (na - 1)=pa.size - na+1 by omega,← ga];exact this
def PrR.b(h:PrR it lt pa pb out na nb)(A:Apart lt pa.toList pb.toList)(h1:0 < na)(h2:0 < nb)(hc:lt (pb.getD (nb - 1) 0) (pa.getD (na - 1) 0)=false):PrR it lt pa pb (out.push (kas_item it (pb.getD (nb - 1) 0))) na (nb - 1):=by
 obtain⟨ea,eb,po,rfl,h⟩:=h;refine⟨ea,by omega,po.push (pb.getD (nb - 1) 0),by simp,?_⟩;have gb:=Mv h2 eb;have:=h.wonA A.rev (by simp;omega) (by simp;omega) (by rw[← (Mv h1 ea),← gb]at hc;exact hc);rw[C4,show pb.size - (nb - 1)=pb.size - nb+1 by omega,← gb];exact this
def PrR.ga(h:PrR it lt pa pb out na nb)(A:Apart lt pa.toList pb.toList)(h1:k<=na)(h2:0 < nb)(hc:∀ i,k<=i->i < na->lt (pb.getD (nb - 1) 0) (pa.getD (0+i) 0)=true):PrR it lt pa pb (out++((pa.map (kas_item it)).extract k na).reverse) k nb:=by
 obtain⟨ea,eb,po,rfl,h⟩:=h;refine⟨by omega,eb,po++(pa.extract k na).reverse,by rw[MC];simp,?_⟩;have:=h.galB A.rev (by simp;omega) (k:=na - k) (by simp;omega) λi hi=>by
  rw[Pq (show i < na by omega) ea,Mv h2 eb];have:=hc (na - 1 - i) (by omega) (by omega);rwa [Bc]at this
 rw[A9,DP,Q3 (j:=pa.size - na) (by omega) h1,show pa.size - k=pa.size - na+(na - k) by omega];exact this
def PrR.gb(h:PrR it lt pa pb out na nb)(A:Apart lt pa.toList pb.toList)(h1:k<=nb)(h2:0 < na)(hc:∀ i,k<=i->i < nb->lt (pb.getD (0+i) 0) (pa.getD (na - 1) 0)=false):PrR it lt pa pb (out++((pb.map (kas_item it)).extract k nb).reverse) na k:=by
 obtain⟨ea,eb,po,rfl,h⟩:=h;refine⟨ea,by omega,po++(pb.extract k nb).reverse,by rw[MC];simp,?_⟩;have:=h.galA A.rev (by simp;omega) (k:=nb - k) (by simp;omega) λi hi=>by
  rw[Pq (show i < nb by omega) eb,Mv h2 ea];have:=hc (nb - 1 - i) (by omega) (by omega);rwa [Bc]at this
 rw[A9,DP,Q3 (j:=pb.size - nb) (by omega) h1,show pb.size - k=pb.size - nb+(nb - k) by omega];exact this
def RunR (it:Array Bu) (lt:Nat->Nat->Bool) (pa pb:Array Nat) (m:Nat) (out:Array Bu) (na nb:Nat):Option (Array Bu)->Prop
 | some r=>Good it lt pa.toList pb.toList r
 | none=>PrR it lt pa pb out na nb/\0 < na/\1 < nb/\m+na+nb<=pa.size+pb.size
def RunR.le{m n}(h:RunR it lt pa pb n out na nb none)(e:m<=n):RunR it lt pa pb m out na nb none:=⟨h.1,h.2.1,h.2.2.1,by have:=h.2.2.2;omega⟩
end
section
variable {prog:Ai}{w:A5}{A:BD}{E:AM->AR->Prop}{s0:AR}{κ:Ci}{it:Array Bu}{lt:Nat->Nat->Bool}{st:BZ}{p:Array Nat}{pd:Array (Nat×Nat×Nat)}{pa pb:Array Nat}
def eD(hA:Ans prog w A s0 κ it lt)(h:SA κ it p pd st)(ha:∀ i,i < pa.size->pa.getD i 0 < it.size)(hb:∀ i,i < pb.size->pb.getD i 0 < it.size)(AP:Apart lt pa.toList pb.toList)
  (h1:1<=pa.size) (h2:1<=pb.size) (hf:∀ y∈pa.toList,lt (pb.toList.getD 0 0) y=true) (hl:lt (pb.toList.getD (pb.size - 1) 0) (pa.toList.getD (pa.size - 1) 0)=true)
  (hq:∀ r st',SA κ it p pd st'->Good it lt pa.toList pb.toList r->Q r st'):wq prog w A E s0 (mergeHiP (pa.map (kas_item it)) (pb.map (kas_item it))) Q st:=by
 have sza:(pa.map (kas_item it)).size=pa.size:=by simp
 have szb:(pb.map (kas_item it)).size=pb.size:=by simp
 refine LC (Mc ?_);rw[sza,szb]
 extract_lets -underBinder tot dn fb na nb
 have h0:PrR it lt pa pb #[] pa.size pb.size:=⟨AE _,AE _,#[],by simp,by simp,by simp,by simp,.nil,(λ_ z=>nomatch z),(λ_ z=>nomatch z)⟩
 have hm:PrR it lt pa pb (#[].push (kas_item it (pa.getD na 0))) na nb:=h0.a AP h1 h2 (by rw[LU,LU];exact hl);have hna:na+1=pa.size:=Nat.sub_add_cancel h1;have hnb:nb=pb.size:=rfl;have ht:tot=pa.size+pb.size:=rfl
 clear_value tot na nb
 refine LC (LK (by grind) ?_)
 extract_lets -underBinder out
 replace hm:PrR it lt pa pb out na nb:=hm
 clear_value out
 refine LQ (λe=>LD (hq _ _ h (hm.done AP (.inl e)))) λe=>LQ (λe=>LD (hq _ _ h (hm.first AP hf e))) λe2=>?_
 have hr:RunR it lt pa pb (0+1) out na nb none:=⟨hm,by lia,by lia,by lia⟩
 refine LC (Li (LC (LR (LV (I:=λx c st'=>SA κ it p pd st'/\RunR it lt pa pb (x+1) c.2.2.2.1 c.2.1 c.2.2.1 none)
  (Q:=λc st'=>SA κ it p pd st'/\∃ r,c.1=some r/\Good it lt pa.toList pb.toList r) ?_ ?_ ⟨h,hr⟩) ?_)))
 ·intro x c st1 _ hx hr
  extract_lets -underBinder _ na _ nb _ out mg ac
  obtain⟨hs1,hr⟩:SA κ it p pd st1/\RunR it lt pa pb (x+1) out na nb none:=hr
  clear_value out na nb mg ac
  refine LC (LR (LV (I:=λy c st'=>SA κ it p pd st'/\RunR it lt pa pb (x+1+y) c.2.2.2.1 c.2.1 c.2.2.1 none)
   (Q:=λc st'=>SA κ it p pd st'/\RunR it lt pa pb (x+2) c.2.2.2.1 c.2.1 c.2.2.1 c.1) ?_ ?_ ⟨hs1,hr⟩) ?_)
  ·intro y c st2 _ hy hr
   extract_lets -underBinder _ na _ nb _ out _ ac bc
   obtain⟨hs2,hm,hna,hnb,hsz⟩:SA κ it p pd st2/\RunR it lt pa pb (x+1+y) out na nb none:=hr
   clear_value out na nb ac bc
   have ea:=hm.1;have eb:=hm.2.1;refine LC (LK (by omega) (LC (LK (by omega) ?_)));refine LC (NP hA (hb _ (by omega)) (ha _ (by omega)) hs2.1 (Lg (λhc=>?_) (λhc=>?_)))
   ·refine LC (LK (by omega) ?_);have hm:=hm.a AP hna ⋯ hc;refine LQ (λe=>LD ⟨hs2,hm.done AP (.inl e)⟩) λe=>?_
    have hr:RunR it lt pa pb (x+1+y+1) _ (na - 1) nb none:=⟨hm,by lia,hnb,by lia⟩
    exact Lg (λ_=>LD ⟨hs2,hr.le (by omega)⟩) λ_=>LD ⟨hs2,hr⟩
   ·refine LC (LK (by omega) ?_);have hm:=hm.b AP hna ⋯ (FI.mpr hc);refine LQ (λe=>LD ⟨hs2,hm.first AP hf e⟩) λe=>?_
    have hr:RunR it lt pa pb (x+1+y+1) _ na (nb - 1) none:=⟨hm,hna,by lia,by lia⟩
    exact Lg (λ_=>LD ⟨hs2,hr.le (by omega)⟩) λ_=>LD ⟨hs2,hr⟩
  ·rintro c st2 ⟨hs2,hm,hna,hnb,hsz⟩;lia
  ·intro c st2 hr
   extract_lets -underBinder r _ na _ nb _ out _ ac bc
   obtain⟨hs2,hr⟩:SA κ it p pd st2/\RunR it lt pa pb (x+2) out na nb r:=hr
   clear_value r out na nb ac bc
   cases r with
   | some r=>exact LD ⟨hs2,r,rfl,hr⟩
   | none =>
    refine LC (Mc (LC (LR (LV (I:=λy c st'=>SA κ it p pd st'/\RunR it lt pa pb (x+2+y) c.2.2.2.1 c.2.1 c.2.2.1 none)
     (Q:=λc st'=>SA κ it p pd st'/\RunR it lt pa pb (x+2) c.2.2.2.1 c.2.1 c.2.2.1 c.1) ?_ ?_ ⟨hs2,hr⟩) ?_)))
    ·intro y c st3 _ hy hr
     extract_lets -underBinder _ na _ nb _ out _ mg _ ac bc jp
     obtain⟨hs3,hm,hna,hnb,hsz⟩:SA κ it p pd st3/\RunR it lt pa pb (x+2+y) out na nb none:=hr
     clear_value out na nb mg ac bc
     have ea:=hm.1;have eb:=hm.2.1;refine Mz (P:=∀ g,wq prog w A E s0 (jp () g) _ st3) (λkey=>Lg (λ_=>key (mg - 1)) λ_=>key mg) λg=>?_
     refine LC (OU hs3 (λst4 hs4=>LC (LK (by omega) (LC (P9 hA hs4 AP.tr (hb _ (by omega)) ha (by simp_all) (by grind) (λi j _ hij hj=>N5 AP.sa hij ⋯) λk hk hk1 hk2=>?_)))) λs z=>⟨z.1,z.2.1,z.2.2.1,z.2.2.2⟩);dsimp -zeta only
     extract_lets -underBinder ka ac2 jp2
     have hm1:=hm.ga AP hk ⋯ hk2;refine Mz (P:=∀ k out,PrR it lt pa pb out k nb->0 < k->k<=na->lt (pb.getD (nb - 1) 0) (pa.getD (0+(k - 1)) 0)=false->wq prog w A E s0 (jp2 () k out) _ st4) (λkey =>
      Lg (λ_=>LQ (λe=>LD ⟨hs4,hm1.done AP (.inl e)⟩) λe=>key _ _ hm1 ⋯ hk (hk1 _ (by omega))) λ(hk0:¬ na - k > 0)=>key na out hm hna (AE _) (hk1 _ (by omega))) λk out hm hk0 hk hc=>?_
     rw[Bc]at hc;refine LC (LK (by grind) ?_);have hm2:=hm.b AP hk0 ⋯ hc;refine LQ (λe=>LD ⟨hs4,hm2.first AP hf e⟩) λe=>LC (LK (by omega) (LC (PQ hA hs4 AP.tr (ha _ (by omega)) hb (by omega) (by omega) (λi j _ hij hj=>N5 AP.sb hij (by omega)) λn hn hn1 hn2=>?_)))
     dsimp -zeta only
     extract_lets -underBinder kb bc2 jp3
     have hm3:=hm2.gb AP hn hk0 hn2;refine Mz (P:=∀ n out,PrR it lt pa pb out k n->1 < n->n < nb->lt (pb.getD (0+(n - 1)) 0) (pa.getD (k - 1) 0)=true->wq prog w A E s0 (jp3 () n out) _ st4) (λkey =>
      Lg (λ_=>LQ (λe=>LD ⟨hs4,hm3.first AP hf e⟩) λe=>LQ (λe=>LD ⟨hs4,hm3.done AP (.inr e)⟩) λe'=>key _ _ hm3 (by omega) (by omega) (hn1 _ (by omega))) λ(hk0:¬ nb - 1 - n > 0)=>key _ _ hm2 (by omega) (by omega) (hn1 _ (by omega))) λn out hm hn0 hn hc=>?_
     rw[Bc]at hc;refine LC (LK (by omega) ?_);have hm4:=hm.a AP hk0 (by omega) hc;refine LQ (λe=>LD ⟨hs4,hm4.done AP (.inl e)⟩) λe=>?_
     have hr:RunR it lt pa pb (x+2+y+1) _ (k - 1) n none:=⟨hm4,by omega,hn0,by omega⟩
     exact Lg (λ_=>LD ⟨hs4,hr.le (by omega)⟩) λ_=>LD ⟨hs4,hr⟩
    ·rintro c st3 ⟨hs3,hm,hna,hnb,hsz⟩;lia
    ·intro c st3 hr
     extract_lets -underBinder r _ na _ nb _ out _ mg
     obtain⟨hs3,hr⟩:SA κ it p pd st3/\RunR it lt pa pb (x+2) out na nb r:=hr
     clear_value r out na nb mg
     cases r with
     | some r=>exact LD ⟨hs3,r,rfl,hr⟩
     | none=>exact LC (OU hs3 (λst4 hs4=>LD ⟨hs4,hr⟩) λs z=>⟨z.1,z.2.1,z.2.2.1,z.2.2.2⟩)
 ·rintro c st1 ⟨hs1,hm,hna,hnb,hsz⟩;lia
 ·rintro ⟨o,c⟩ st1 ⟨hs1,r,rfl,hr⟩;exact LD (hq r st1 hs1 hr)
end
section
variable {α β:Type}
theorem Qb f sa:∀ (xs:List β) k (arr:Array α),sa+k+xs.length<=arr.size ->
  ((xs.map f).zipIdx k).foldl (λa q=>a.setIfInBounds (sa+q.2) q.1) arr=(arr.toList.take (sa+k)++xs.map f++arr.toList.drop (sa+k+xs.length)).toArray
 | [],k,arr,h=>by
  simp
 | x::xs,k,arr,h=>by
  simp at h;rw[Ad,FP,EL,Qb f sa xs (k+1) _ ↥2];apply D6.mp;simp only[Array.toList_setIfInBounds];have hl:sa+k < arr.toList.length:=by simp;lia
  rw[List.drop_set_of_lt ⋯,show sa+(k+1)=sa+k+1 by lia,List.take_succ];rw[List.take_set_of_le (AE _)];have:(arr.toList.set (sa+k) (f x))[sa+k]?=some (f x):=by rw[Aj hl]
  rw[this];simp[ Nat.add_comm,Nat.add_left_comm]
end
section
variable {prog:Ai}{w:A5}{A:BD}{E:AM->AR->Prop}{s0:AR}{κ:Ci}{it:Array Bu}{lt:Nat->Nat->Bool}{st:BZ}{p:Array Nat}{pd:Array (Nat×Nat×Nat)}
def Ys(h:Q ⟨⟩ st'):wq prog w A E s0 (set st':StateT BZ Sem PUnit) Q st:=MH h
def OV(h:AscS lt p a b)(hb:b<=p.size):((p.extract a b).toList).Pairwise λx y=>lt x y=true:=by
 refine BI.mpr λi j hi hj hij=>?_
 have hs:(p.extract a b).toList.length<=b - a:=by simp;lia
 have e:∀ k,k < (p.extract a b).toList.length->(p.extract a b).toList[k]?=some (atA p (a+k)):=λk hk=>by
  have:a+k < p.size:=by simp at hk;lia
  rw[MM,Ds ⋯,HW,LM,ER,Ah this];rfl
 have ei:=e i hi;have ej:=e j hj;rw[AY hi,Hu]at ei;rw[AY hj,Hu]at ej;rw[ei,ej];exact h _ _ ⋯ ⋯ ⋯
def ME(h:x∈(p.extract a b).toList):∃ i,a<=i/\i < b/\i < p.size/\x=atA p i:=by
 obtain⟨k,hk,rfl⟩:=CN h;have h1:=by simpa using hk
 refine⟨a+k,by lia,by lia,by lia,?_⟩;rw[LM];simp[Ah (show a+k < p.size by lia)]
def MT(h:a+k < b)(hb:b<=p.size):(p.extract a b).toList.getD k 0=atA p (a+k):=by
 rw[← LU,LM,Fe,Array.getElem?_extract_of_lt ⋯,Ah (show a+k < p.size by lia)]
def Xb(h:p.toList.Pairwise λx y=>lt x y=true):AscS lt p 0 p.size:=λi j _ hij hj=>by
 have:=BI.mp h i j ↥2 ‹_› hij;rw[LM,LM,Ah ⋯,Ah hj];simpa using this
def Vn(h:SA κ it p pd st')(hq:∀ st2,SA κ it p pd st2->Q ⟨⟩ st2):wq prog w A E s0 (set st':StateT BZ Sem PUnit) Q st:=Ys (hq _ h)
def Qc(h:SA κ it p' pd (f st))(hq:∀ st2,SA κ it p' pd st2->Q ⟨⟩ st2):wq prog w A E s0 (modify f:StateT BZ Sem PUnit) Q st:=MH (hq _ h)
def cL(hA:Ans prog w A s0 κ it lt)(T:Tot it.size lt)(TR:∀ {x y z},lt x y=true->lt y z=true->lt x z=true)(NO:∀ {x y},lt x y=true->lt y x=false)(h:SA κ it p #[(0,n1,pw),(n1,n2,0)] st)(hp:Arr it.size p)(h1:1<=n1)(h2:1<=n2)(hn:n1+n2=it.size)(s1:AscS lt p 0 n1)(s2:AscS lt p n1 it.size)
  (hq:∀ p' st',SA κ it p' #[(0,it.size,pw)] st'->Arr it.size p'->AscS lt p' 0 it.size->Q true st'):wq prog w A E s0 (mergeAt' 0) Q st:=by
 have lts:=λi=>hp.atlt (show 0 < it.size by lia) i
 have hsz:=hp.size;have s1':∀ i j,i<=j->j < n1->i=j\/lt (atA p i) (atA p j)=true:=λi j h1 h2=>by
  rcases Bl i j with z | z
  ·exact .inr (s1 i j (Au _) z h2)
  ·exact .inl ⋯
 have s2':∀ i j,n1<=i->i<=j->j < it.size->i=j\/lt (atA p i) (atA p j)=true:=λi j h0 h1 h2=>by
  rcases Bl i j with z | z
  ·exact .inr (s2 i j h0 z h2)
  ·exact .inl ⋯
 unfold mergeAt';obtain⟨k0,arr0,pd0,g0,f0⟩:=st;obtain rfl:k0=κ:=h.1;obtain rfl:arr0=p.map (kas_item it):=h.2.1;obtain rfl:f0=none:=h.2.2.1;obtain rfl:pd0=#[(0,n1,pw),(n1,n2,0)]:=h.2.2.2;refine LC (Li ?_);have e0:(#[(0,n1,pw),(n1,n2,0)]:Array (Nat×Nat×Nat))[0]?=some (0,n1,pw):=rfl;have e1:(#[(0,n1,pw),(n1,n2,0)]:Array (Nat×Nat×Nat))[0+1]?=some (n1,n2,0):=rfl;dsimp only;rw[e0,e1];dsimp only;refine LC (Vn (pd:=#[(0,it.size,pw)]) (p:=p) ⟨rfl,rfl,rfl,?_⟩ λst2 (hs2:SA k0 it p #[(0,it.size,pw)] st2)=>?_)
 ·rw[hn];simp[Array.setIfInBounds,Array.eraseIdxIfInBounds]
 refine LC (LK ⋯ ?_);refine LC (P9 hA hs2 TR (lts n1) (λi _=>lts i) ⋯ ⋯ (λi j _ a b=>s1' i j a (by simp_all)) λk hk hk1 hk2=>?_);dsimp only;have F1:∀ i,i < k->∀ j,n1<=j->j < it.size->lt (atA p i) (atA p j)=true:=λi hi j hj hj2=>by
  have:=hk1 i hi;rw[Bc]at this;have c:=T.flip hp (show n1 < it.size by lia) (show i < it.size by lia) ⋯ this;rcases s2' n1 j (AE _) hj hj2 with e | e
  ·rw[← e];exact c
  ·exact TR c e
 have all:k=n1->AscS lt p 0 it.size:=λe i j h0 hij hj=>by
  by_cases hi:i < n1
  ·by_cases hj1:j < n1
   ·exact s1 i j h0 hij hj1
   ·exact F1 i (by simp_all) j ⋯ hj
  ·exact s2 i j ⋯ hij hj
 refine LQ (λe=>LD (hq p st2 hs2 hp (all ⋯))) λe=>?_
 have hkn:k < n1:=by lia
 rw[Bc,show k+(n1 - k) - 1=n1 - 1 by lia];refine LC (LK ⋯ ?_);refine LC (PQ hA hs2 TR (lts (n1 - 1)) (λi _=>lts i) ⋯ ⋯ (λi j a b d=>s2' i j a b ⋯) λk2 hk' hk3 hk4=>?_);dsimp only;have cb:lt (atA p n1) (atA p k)=true:=by
  have:=hk2 k (AE _) hkn;rwa [Bc]at this
 have F3:∀ j,k<=j->j < n1->lt (atA p n1) (atA p j)=true:=λj h1 h2=>by
  rcases s1' k j h1 h2 with z | z
  ·rw[← z];exact cb
  ·exact TR cb z
 refine LQ (λe=>?_) λe=>?_
 ·exfalso;have:=hk4 0 ⋯ ⋯;exact AV (this.symm.trans (F3 (n1 - 1) ⋯ ⋯))
 have hk20:0 < k2:=by lia
 have F2:∀ i,i < n1->∀ j,n1+k2<=j->j < it.size->lt (atA p i) (atA p j)=true:=λi hi j hj hj2=>by
  have:=hk4 (j - n1) ⋯ ⋯;rw[show n1+(j - n1)=j by lia]at this;have c:=T.flip hp hj2 (show n1 - 1 < it.size by lia) ⋯ this;rcases s1' i (n1 - 1) ⋯ ⋯ with z | z
  ·rw[z];exact c
  ·exact TR z c
 have F4:∀ i,i < k2->lt (atA p (n1+i)) (atA p (n1 - 1))=true:=hk3;rw[MC,MC];have za:(p.extract k n1).size=n1 - k:=by simp;lia
 have zb:(p.extract n1 (n1+k2)).size=k2:=by simp;lia
 have AP:Apart lt (p.extract k n1).toList (p.extract n1 (n1+k2)).toList:={
  tr:=TR
  no:=NO
  ab:=λx hx y hy hc=>by
   obtain⟨i,a1,a2,a3,rfl⟩:=ME hx;obtain⟨j,b1,b2,b3,rfl⟩:=ME hy;exact T.flip hp ⋯ ⋯ ⋯ hc
  ba:=λx hx y hy hc=>by
   obtain⟨i,a1,a2,a3,rfl⟩:=ME hx;obtain⟨j,b1,b2,b3,rfl⟩:=ME hy;exact T.flip hp ⋯ ⋯ ⋯ hc
  sa:=OV (λi j h0 hij hj=>s1 i j (Au _) hij hj) ⋯
  sb:=OV (λi j h0 hij hj=>s2 i j h0 hij ⋯) ⋯ }
 have la:∀ i,i < (p.extract k n1).size->(p.extract k n1).getD i 0 < it.size:=λi hi=>by rw[LU,MT ⋯ ⋯];exact lts _
 have lb:∀ i,i < (p.extract n1 (n1+k2)).size->(p.extract n1 (n1+k2)).getD i 0 < it.size:=λi hi=>by rw[LU,MT ⋯ ⋯];exact lts _
 have fin:∀ r,Good it lt (p.extract k n1).toList (p.extract n1 (n1+k2)).toList r->∃ p':Array Nat,Arr it.size p'/\AscS lt p' 0 it.size /\
   E3 (λ(a:Array Bu) (q:Bu×Nat)=>a.setIfInBounds (k+q.2) q.1) (p.map (kas_item it)) r.toList.zipIdx=p'.map (kas_item it):=λr hr=>by
  obtain⟨q,rfl,hpm,hso⟩:=hr;have hql:q.toList.length=n1 - k+k2:=by rw[hpm.length_eq,A7,As,As,za,zb]
  have hw:p.toList=(p.extract 0 k).toList++((p.extract k n1).toList++(p.extract n1 (n1+k2)).toList)++p.toList.drop (k+q.toList.length):=by
   rw[MM,MM,MM,IY,Jd,hql,show n1+k2 - n1=k2 by lia,show k+(n1 - k+k2)=n1+k2 by lia];have c1:(p.toList.drop k).take (n1 - k)++(p.toList.drop n1).take k2=(p.toList.drop k).take (n1 - k+k2):=by
    rw[Iq,List.drop_drop,show k+(n1 - k)=n1 by lia]
   rw[c1];have c2:p.toList.take k++(p.toList.drop k).take (n1 - k+k2)=p.toList.take (n1+k2):=by
    rw[show n1+k2=k+(n1 - k+k2) by lia];exact (Iq ..).symm
   rw[c2,G4]
  refine⟨((p.extract 0 k).toList++q.toList++p.toList.drop (k+q.toList.length)).toArray,?_,?_,?_⟩
  ·show (_:List Nat).Perm _;refine HC ?_ hp;rw[Et]
   conv=>rhs;rw[hw]
   exact (hpm.append_left _).append_right _
  ·have hlen:((p.extract 0 k).toList++q.toList++p.toList.drop (k+q.toList.length)).toArray.size=it.size:=by
    simp only[Aa,A7,FO,As,hql]at *;rw[Array.size_extract];lia
   rw[← hlen];refine Xb ?_;rw[Et,BC,Ei,Ei];have m1:∀ x∈(p.extract 0 k).toList,∃ i,i < k/\x=atA p i:=λx hx=>by
    obtain⟨i,a1,a2,a3,rfl⟩:=ME hx;exact⟨i,a2,rfl⟩
   have e3:p.toList.drop (k+q.toList.length)=(p.extract (n1+k2) p.size).toList:=by rw[NR,hql,show k+(n1 - k+k2)=n1+k2 by lia]
   have m3:∀ x∈p.toList.drop (k+q.toList.length),∃ i,n1+k2<=i/\i < it.size/\x=atA p i:=λx hx=>by
    rw[e3]at hx;obtain⟨i,a1,a2,a3,rfl⟩:=ME hx;exact⟨i,a1,by lia,rfl⟩
   have m2:∀ x∈q.toList,∃ i,k<=i/\i < n1+k2/\x=atA p i:=λx hx=>by
    rcases Aw.mp (hpm.mem_iff.mp hx) with hx | hx
    ·obtain⟨i,a1,a2,a3,rfl⟩:=ME hx;exact⟨i,a1,by lia,rfl⟩
    ·obtain⟨i,a1,a2,a3,rfl⟩:=ME hx;exact⟨i,by lia,a2,rfl⟩
   refine⟨OV (λi j h0 hij hj=>s1 i j h0 hij ⋯) ⋯,⟨hso,?_,λx hx y hy=>?_⟩,λx hx y hy=>?_⟩
   ·rw[e3];exact OV (λi j h0 hij hj=>s2 i j ⋯ hij ⋯) (AE _)
   ·obtain⟨i,a1,a2,rfl⟩:=m2 x hx;obtain⟨j,b1,b2,rfl⟩:=m3 y hy;by_cases hi:i < n1
    ·exact F2 i hi j b1 b2
    ·exact s2 i j ⋯ ⋯ b2
   ·obtain⟨i,a1,rfl⟩:=m1 x hx;rcases Aw.mp hy with hy | hy
    ·obtain⟨j,b1,b2,rfl⟩:=m2 y hy;by_cases hj:j < n1
     ·exact s1 i j (Au _) ⋯ hj
     ·exact F1 i a1 j ⋯ ⋯
    ·obtain⟨j,b1,b2,rfl⟩:=m3 y hy;exact F1 i a1 j ⋯ b2
  ·have:=Qb (kas_item it) k q.toList 0 (p.map (kas_item it)) (by rw[IR];lia);rw[Hn];rw[this];apply D6.mp;simp
 refine Lg (λ_=>?_) (λ_=>?_)
 ·refine LC (jl hA hs2 la lb AP ⋯ ⋯ ?_ ?_ ?_)
  ·rw[MT ⋯ ⋯,MT ⋯ ⋯];exact cb
  ·intro y hy;obtain⟨j,b1,b2,b3,rfl⟩:=ME hy;rw[za,MT ⋯ ⋯,show k+(n1 - k - 1)=n1 - 1 by lia];have:=F4 (j - n1) ⋯;rwa [show n1+(j - n1)=j by lia]at this
  ·intro r st3 hs3 hr;obtain⟨p',g1,g2,g3⟩:=fin r hr;refine LC (Qc (it:=it) (κ:=k0) (p':=p') (pd:=#[(0,it.size,pw)]) ⟨hs3.1,?_,hs3.2.2.1,hs3.2.2.2⟩ λst4 hs4=>?_)
   ·rw[← g3];show E3 _ (GZ st3) _=_;rw[hs3.2.1]
   ·refine LC (Li ?_);have e:(D5 st4).isNone=true:=by rw[hs4.2.2.1];rfl
    show wq _ _ _ _ _ (pure (D5 st4).isNone) _ _;rw[e];exact LD (hq p' st4 hs4 g1 g2)
 ·refine LC (eD hA hs2 la lb AP ⋯ ⋯ ?_ ?_ ?_)
  ·intro y hy;obtain⟨j,b1,b2,b3,rfl⟩:=ME hy;rw[MT ⋯ ⋯];exact F3 j b1 b2
  ·rw[za,zb,MT ⋯ ⋯,MT ⋯ ⋯,show k+(n1 - k - 1)=n1 - 1 by lia];exact F4 (k2 - 1) ⋯
  ·intro r st3 hs3 hr;obtain⟨p',g1,g2,g3⟩:=fin r hr;refine LC (Qc (it:=it) (κ:=k0) (p':=p') (pd:=#[(0,it.size,pw)]) ⟨hs3.1,?_,hs3.2.2.1,hs3.2.2.2⟩ λst4 hs4=>?_)
   ·rw[← g3];show E3 _ (GZ st3) _=_;rw[hs3.2.1]
   ·refine LC (Li ?_);have e:(D5 st4).isNone=true:=by rw[hs4.2.2.1];rfl
    show wq _ _ _ _ _ (pure (D5 st4).isNone) _ _;rw[e];exact LD (hq p' st4 hs4 g1 g2)
end
section
variable {prog:Ai}{w:A5}{A:BD}{E:AM->AR->Prop}{s0:AR}{κ:Ci}{it:Array Bu}{lt:Nat->Nat->Bool}{st:BZ}{p:Array Nat}{pd:Array (Nat×Nat×Nat)}
def minRun2(h1:64<=n)(h2:n < 128):minRun' n n 0=n / 2+n % 2:=by
 obtain⟨f,hf⟩:∃ f,n=f+1+1:=⟨n - 2,by lia⟩
 have:minRun' (f+1+1) n 0=n / 2+n % 2:=by
  rw[LA,if_neg ⋯,LA,if_pos ⋯];lia
 rwa [← hf]at this
def AscS.of_eq(h:AscS lt p a b)(e:∀ i,i < b->atA p' i=atA p i):AscS lt p' a b:=λi j h0 hij hj=>by rw[e i ⋯,e j hj];exact h i j h0 hij hj
def EndS (κ:Ci) (it:Array Bu) (lt:Nat->Nat->Bool) (st:BZ):Prop:=∃ p',Arr it.size p'/\((SA κ it p' #[(0,it.size,0)] st/\AscS lt p' 0 it.size)\/∃ n1 n2 pw,1<=n1/\1<=n2/\n1+n2=it.size/\SA κ it p' #[(0,n1,pw),(n1,n2,0)] st/\AscS lt p' 0 n1/\AscS lt p' n1 it.size)
def IvS (κ:Ci) (it:Array Bu) (lt:Nat->Nat->Bool) (mr x c:Nat) (st:BZ):Prop:=
 (x=0/\c=0/\∃ p',SA κ it p' #[] st/\Arr it.size p')\/(x=1/\∃ p',mr<=c/\c < it.size/\SA κ it p' #[(0,c,0)] st/\Arr it.size p'/\AscS lt p' 0 c)\/(1<=x/\c=it.size/\EndS κ it lt st)
def Q1(a1:mr<=n)(a2:n<=it.size)(h3:SA κ it p #[] st)(a4:Arr it.size p)(a5:AscS lt p 0 n):IvS κ it lt mr (0+1) (0+n) (Ir st ((DD st).push (0,n,0))):=by
 have a3:SA κ it p #[(0,n,0)] (Ir st ((DD st).push (0,n,0))):=⟨h3.1,h3.2.1,h3.2.2.1,by show (DD st).push _=_;rw[h3.2.2.2];rfl⟩
 rw[Bc n];by_cases e:n=it.size
 ·subst e;exact .inr (.inr ⟨by lia,rfl,p,a4,.inl ⟨a3,a5⟩⟩)
 ·exact .inr (.inl ⟨rfl,p,a1,by lia,a3,a4,a5⟩)
def U3{α f}{Q:α->BZ->Prop}(h3:SA κ it p #[(0,n1,0)] st)(hg:∀ s,SA κ it p #[(0,n1,0)] s->SA κ it p #[(0,n1,pw)] (g s))(h:∀ st',SA κ it p #[(0,n1,pw),(n1,m,0)] st'->wq prog w A E s0 (f ⟨⟩) Q st') :
  wq prog w A E s0 (modify g >>= λ_=>(modify λs=>Ir s ((DD s).push (n1,m,0)):StateT BZ Sem PUnit) >>= f) Q st:=by
 have h4:=hg _ h3;exact LC (MH (LC (MH (h _ ⟨h4.1,h4.2.1,h4.2.2.1,by show (DD (g st)).push _=_;rw[h4.2.2.2];rfl⟩))))
def YO(hA:Ans prog w A s0 κ it lt)(T:Tot it.size lt)(TR:∀ {x y z},lt x y=true->lt y z=true->lt x z=true)(NO:∀ {x y},lt x y=true->lt y x=false)(h:SA κ it p #[] st)(hp:Arr it.size p)(h1:64<=it.size)(h2:it.size < 128)
  (hq:∀ p' st',GZ st'=p'.map (kas_item it)->D5 st'=none->Arr it.size p'->AscS lt p' 0 it.size->Q () st'):wq prog w A E s0 sortRuns' Q st:=by
 rw[sortRuns'_eq];refine LC (Li ?_);dsimp only;have hsz:(GZ st).size=it.size:=by rw[h.2.1,IR,hp.size]
 rw[hsz,minRun2 h1 h2];generalize hmr:it.size / 2+it.size % 2=mr;refine LC (LR (LV (I:=λx c st'=>c.1=none/\IvS κ it lt mr x c.2 st') (Q:=λc st'=>c.1=none/\EndS κ it lt st') ?step ?fin ⟨rfl,.inl ⟨rfl,rfl,p,h,hp⟩⟩) ?post)
 case fin =>
  rintro ⟨o,c⟩ st' ⟨ho,⟨hx,_⟩ | ⟨hx,_⟩ | ⟨_,hc,hD⟩⟩
  ·lia
  ·lia
  ·exact⟨ho,hD⟩
 case step =>
  rintro x ⟨o,c⟩ st' _ hx ⟨ho,⟨rfl,hc,p',hs,hp'⟩ | ⟨rfl,p',hn1,hn2,hs,hp',ha⟩ | ⟨hx1,hc,hD⟩⟩
  ·dsimp only at ho hc ⊢;subst ho hc;rw[if_neg ⋯];refine LC (Qq hA T hs hp' ⋯ ⋯ ?_);intro m p2 st2 hs2 hp2 hm1' hm2' ha2 _;rw[Bc]at ha2;dsimp only;by_cases hlt:m < mr
   ·rw[if_pos hlt];refine LC (Mc ?_);rw[show min (it.size - 0) mr=mr by lia];refine LC (RE hA T hs2 hp2 ⋯ hm1' ⋯ (by simp_all) ?_);intro p3 st3 hs3 hp3 ha3 _;rw[Bc]at ha3;refine LC (Li ?_);have hb:(DD st3).back?=none:=by rw[hs3.2.2.2];rfl
    rw[hb];exact LC (MH (LD ⟨rfl,Q1 (AE _) ⋯ hs3 hp3 ha3⟩))
   ·rw[if_neg hlt];refine LC (Li ?_);have hb:(DD st2).back?=none:=by rw[hs2.2.2.2];rfl
    rw[hb];exact LC (MH (LD ⟨rfl,Q1 ⋯ hm2' hs2 hp2 ha2⟩))
  ·dsimp only at ho hn1 hn2 hs ha ⊢;rw[if_neg ⋯];refine LC (Qq hA T hs hp' ⋯ ⋯ ?_);intro m p2 st2 hs2 hp2 hm1' hm2' ha2 hb2;dsimp only;have ha1:=ha.of_eq hb2;by_cases hlt:m < mr
   ·rw[if_pos hlt];refine LC (Mc ?_);rw[show min (it.size - c) mr=it.size - c by lia];refine LC (RE hA T hs2 hp2 ⋯ hm1' ⋯ ha2 ?_);intro p3 st3 hs3 hp3 ha3 hb3;have ha4:=ha1.of_eq hb3;rw[show c+(it.size - c)=it.size by lia]at ha3;refine LC (Li ?_);have hb:(DD st3).back?=some (0,c,0):=by rw[hs3.2.2.2];rfl
    rw[hb];dsimp only;generalize power' it.size (2 * 0+c) _ it.size=pw;refine LC (LR (LV (I:=λx e st''=>e=(none,())/\st3=st'') ?_ (λ_ _ z=>z) ⟨rfl,rfl⟩) ?_)
    ·rintro x e st'' _ _ ⟨rfl,rfl⟩;refine LC (Li ?_);rw[hs3.2.2.2];exact LD ⟨rfl,rfl⟩
    rintro e st'' ⟨rfl,rfl⟩;refine U3 hs3 (λs z=>⟨z.1,z.2.1,z.2.2.1,?_⟩) λst4 hs4=>LD ⟨rfl,.inr (.inr ⟨by lia,by dsimp only;lia,p3,hp3,.inr ⟨c,it.size - c,pw,by lia,by lia,by lia,hs4,ha4,ha3⟩⟩)⟩
    rw[z.2.2.2];rfl
   ·rw[if_neg hlt];have hm:m=it.size - c:=by lia
    subst hm;rw[show c+(it.size - c)=it.size by lia]at ha2;refine LC (Li ?_);have hb:(DD st2).back?=some (0,c,0):=by rw[hs2.2.2.2];rfl
    rw[hb];dsimp only;generalize power' it.size (2 * 0+c) _ it.size=pw;refine LC (LR (LV (I:=λx e st''=>e=(none,())/\st2=st'') ?_ (λ_ _ z=>z) ⟨rfl,rfl⟩) ?_)
    ·rintro x e st'' _ _ ⟨rfl,rfl⟩;refine LC (Li ?_);rw[hs2.2.2.2];exact LD ⟨rfl,rfl⟩
    rintro e st'' ⟨rfl,rfl⟩;refine U3 hs2 (λs z=>⟨z.1,z.2.1,z.2.2.1,?_⟩) λst4 hs4=>LD ⟨rfl,.inr (.inr ⟨by lia,by dsimp only;lia,p2,hp2,.inr ⟨c,it.size - c,pw,by lia,by lia,by lia,hs4,ha1,ha2⟩⟩)⟩
    rw[z.2.2.2];rfl
  ·dsimp only at ho hc ⊢;subst ho hc;rw[if_pos (AE _)];exact LD ⟨rfl,hD⟩
 case post =>
  rintro ⟨o,c⟩ st' ⟨ho,p',hp',hD⟩;subst ho;refine LC (LR (LV (I:=λx c st''=>c=(none,())/\((x=0/\∃ p',Arr it.size p'/\∃ n1 n2 pw,1<=n1/\1<=n2/\n1+n2=it.size/\SA κ it p' #[(0,n1,pw),(n1,n2,0)] st''/\AscS lt p' 0 n1/\AscS lt p' n1 it.size)\/∃ p' pw,Arr it.size p'/\SA κ it p' #[(0,it.size,pw)] st''/\AscS lt p' 0 it.size))
   (Q:=λc st''=>c=(none,())/\∃ p' pw,Arr it.size p'/\SA κ it p' #[(0,it.size,pw)] st''/\AscS lt p' 0 it.size) ?_ ?_ ⟨rfl,?_⟩) ?_)
  ·rintro x c st'' _ hx ⟨rfl,⟨rfl,p2,hp2,n1,n2,pw,a1,a2,a3,hs,b1,b2⟩ | ⟨p2,pw,hp2,hs,ha⟩⟩
   ·refine LC (Li ?_);rw[hs.2.2.2];exact LC (cL hA T TR NO hs hp2 a1 a2 a3 b1 b2 (λp3 st3 hs3 hp3 ha3=>LD ⟨rfl,.inr ⟨p3,pw,hp3,hs3,ha3⟩⟩))
   ·refine LC (Li ?_);rw[hs.2.2.2];exact LD ⟨rfl,p2,pw,hp2,hs,ha⟩
  ·rintro c st'' ⟨rfl,⟨hx,_⟩ | hD⟩
   ·lia
   ·exact⟨rfl,hD⟩
  ·rcases hD with ⟨hs,ha⟩ | hD
   ·exact .inr ⟨p',0,hp',hs,ha⟩
   ·exact .inl ⟨rfl,p',hp',hD⟩
  ·rintro c st'' ⟨rfl,p2,pw,hp2,hs,ha⟩;exact LD (hq p2 _ hs.2.1 hs.2.2.1 hp2 ha)
end
def Wk(T:Tot n lt)(hp:Arr n p)(hq:Arr n q)(ap:AscS lt p 0 n)(aq:Asc lt q n):p=q:=by
 apply D6.mp;have lq:=hq.size;have pp:p.toList.Pairwise λx y=>lt x y=true:=by
  refine BI.mpr λi j hi hj hij=>?_
  have:=ap i j (Au _) hij (by simpa [hp.size] using hj);rw[LM,LM,Ah ‹_›,Ah ‹_›]at this;simpa using this
 have pq:q.toList.Pairwise λx y=>lt x y=true:=by
  refine BI.mpr λi j hi hj hij=>?_
  have:=aq i j hij (by simp_all);rw[LM,LM,Ah ‹_›,Ah ‹_›]at this;simpa using this
 refine FZ (λa b ha hb h1 h2=>?_) pp pq (HC hp (LB hq));have la:=Bv.mp (hp.subset ha);have lb:=Bv.mp (hq.subset hb);rw[T.asy a b la lb h1]at h2;cases h2
def ax(h1:64<=n)(h2:n < 128)(T:Tot n lt)(TR:∀ {x y z},lt x y=true->lt y z=true->lt x z=true)(NO:∀ {x y},lt x y=true->lt y x=false):Cn n lt:=⟨by lia,λ_ prog w A E s κ vs hl hlt=>by
 have hz:(vs.toArray.zip vs.toArray).size=n:=by simp[hl]
 have hA:Ans prog w A s κ (vs.toArray.zip vs.toArray) lt:=λi j hi hj C tk hC=>by
  have:=hlt i j ⋯ ⋯ C tk hC;rwa [kat_ask_eq rfl]at this
 have h0:Arr n (Df (AI n)):=by show (Df (AI n)).toList.Perm _;simp
 have hst:SA κ (vs.toArray.zip vs.toArray) (Df (AI n)) #[] (HA κ (vs.toArray.zip vs.toArray) #[] 7 none):=⟨rfl,by
  rw[← hz];exact (kas_range _).symm,rfl,rfl⟩
 rw[← hz]at h0 T h1 h2;have run:=YO (E:=E) (Q:=λ_ st'=>∃ p,p.size=n/\GZ st'=p.map (kas_item (vs.toArray.zip vs.toArray))/\D5 st'=none/\p=runT lt (kas_sort n)) hA T TR NO (by rw[hz];exact hst) h0 h1 h2 (λp' st' e1 e2 hp ha=>by
  refine⟨p',by rw[hp.size,hz],e1,e2,?_⟩;rw[← hz];exact Wk T hp ((MW ⋯).run lt) ha (TQ T ⋯)) s.toks
 refine BE run (λr s' h=>?_) λ_ _ e=>e
 obtain⟨⟨tk,rfl⟩,p,a1,a2,a3,a4⟩:=h;exact⟨p,a1,a2,a3,a4,tk,rfl⟩⟩
end L2
namespace D
open PySem L2 PyProof.Rows
theorem Nv:∀ l,HT.lexLt l l=false
 | []=>HT.lexLt_nil_nil
 | x::l=>by rw[HT.lexLt_cons,if_pos rfl];exact Nv l
theorem Nc:∀ {a b c},HT.lexLt a b=true->HT.lexLt b c=true->HT.lexLt a c=true
 | [],[],_,h,_=>by rw[HT.lexLt_nil_nil]at h;cases h
 | [],_::_,[],_,h=>by rw[HT.lexLt_cons_nil]at h;cases h
 | [],_::_,_::_,_,_=>HT.lexLt_nil_cons ..
 | _::_,[],_,h,_=>by rw[HT.lexLt_cons_nil]at h;cases h
 | _::_,_::_,[],_,h=>by rw[HT.lexLt_cons_nil]at h;cases h
 | x::a,y::b,z::c,h1,h2=>by
  rw[HT.lexLt_cons]at h1 h2 ⊢;split at h1
  ·rename_i e;subst e;split at h2
   ·rename_i e;subst e;rw[if_pos rfl];exact Nc h1 h2
   ·rename_i e;rw[if_neg e];exact h2
  ·rename_i e1;split at h2
   ·rename_i e;subst e;rw[if_neg e1];exact h1
   ·lia
theorem Rt(h:HT.lexLt a b=true):HT.lexLt b a=false:=by
 cases e:HT.lexLt b a with
 | false=>rfl
 | true=>have:=Nc h e;rw[Nv]at this;cases this
theorem Qf:∀ {a b},a≠b->HT.lexLt a b=false->HT.lexLt b a=true
 | [],[],h,_=>absurd rfl h
 | [],_::_,_,h=>by rw[HT.lexLt_nil_cons]at h;cases h
 | _::_,[],_,_=>HT.lexLt_nil_cons ..
 | x::a,y::b,h,h1=>by
  rw[HT.lexLt_cons]at h1 ⊢;split at h1
  ·rename_i e;subst e;rw[if_pos rfl];exact Qf (λz=>h (by rw[z])) h1
  ·rename_i e;rw[if_neg (λz=>e z.symm)];lia
def Rr(h:nss.Nodup):Tot nss.length (ltI nss) where
 tot:=λi j hi hj hij e=>by
  refine Qf (λz=>?_) e;simp[ AY hi,AY hj]at z;have pw:=BI.mp h;rcases Hv hij with q | q
  ·exact pw i j hi hj q z
  ·exact pw j i hj hi q z.symm
 asy:=λi j _ _ e=>Rt e
 tr:=λi j k _ _ _ e1 e2=>Nc e1 e2
noncomputable def srtU (ts:List T):Option (List T):=match asTIs ts with
 | some nss=>if nss.length < 64\/(nss.length < 128/\nss.Nodup) then some (sortBy (ltI nss) (.a .non) ts) else none
 | none=>none
def Vz(h:srtU ts=some ys):∃ lt,Srt ts lt/\Cn ts.length lt/\ys=sortBy lt (.a .non) ts:=by
 unfold srtU at h;split at h
 ·rename_i nss e;split at h
  ·rename_i hl;cases h;have:=Se e;refine⟨_,.inl ⟨nss,this,rfl⟩,?_,rfl⟩;rw[this,Af];rcases hl with hl | ⟨hl,hn⟩
   ·exact Qy hl
   ·by_cases hf:nss.length < 64
    ·exact Qy hf
    ·exact ax ⋯ hl (Rr hn) Nc Rt
  ·cases h
 ·cases h
noncomputable def sortTU:En->List S->Option S:=λΓ as=>match as with
 | [a]=>(sqlOf Γ a).bind λts=>(srtU ts).map .l
 | _=>none
noncomputable def sortDU:En->List S->Option S:=λΓ as=>match as with
 | [a]=>(dictOf Γ a).bind λd=>match d with
  | .inr kvs=>(srtU (keysT kvs)).map .l
  | .inl _=>none
 | _=>none
def Xc{K}:SimRs K (rSortD K) sortDU:=by
 intro C w Γ σ H vs as s Q R o e k;unfold sortDU at e;split at e
 ·obtain⟨d,e1,e⟩:=bind_some e;split at e
  ·obtain⟨ys,e2,rfl⟩:=LF e;obtain⟨v,rfl,o1⟩:=soks1 o;obtain⟨p,ob,rfl,hp,hd⟩:=Nh R o1 e1;obtain⟨l,rfl,h1⟩:=hd.invT;obtain⟨lt,hs,hl,rfl⟩:=Vz e2;have hkk:=Th h1;refine⟨p,l,lt,rfl,.inl hp,by rw[hkk];exact hs,?_,λl' us hl' hu=>?_⟩
   ·have:=congrArg G8 hkk;rw[Af]at this;rw[this];exact hl
   ·rw[hkk]at hu;exact k _ _ (R.new hl') (Evo.new hl') (R.newl hl' (XH hu lt)) ⟨l',rfl,hl'⟩
  ·cases e
 ·cases e
section
variable {ι:Type}{K:Fg}{X:ι->Cx}{mg:Str->Option AM}{k:Nat}{Γ:En}
def gP(M:Fm K mg k X):CalR K X (.builtin "sorted") sortDU:=⟨_,λj=>by have:=VJ (M.room j);rw[M.K j]at this;exact this,Xc⟩
@[simp] theorem lZ:sortDU Γ [a]=(dictOf Γ a).bind λd=>match d with
  | .inr kvs=>(srtU (keysT kvs)).map .l
  | .inl _=>none:=(rfl)
end
end D
namespace Lw
open PySem.W (mg_of mg_none_of nsIn fnOf)
open PyProof.Rows (boot_all boot_isinstance boot_max boot_min boot_sorted boot_sum boot_tuple)
open PySem L2 D
local macro_rules | `(%[$x|0]) => `(jW $x qQ) | `(%[$x,$xs,*|0]) => `(jW $x %[$xs,*|0])
local macro_rules | `(↑$n:num) => `(dC (.int $n))
def top (i:Nat):Stmt:=PySem.Challenge.pw_fivecups_k45_whole_what_lasts_dances.main.body.getD i (.Pass ⟨0,0,0,0⟩)
section
variable {P:Ai}{wd:A5}{K:Ab}{mg:Str->Option AM}{base:Heap}
noncomputable def NU:T:=.w (([1,3,0,4,2]:List Int).map V.int |>.map T.a)
noncomputable def NJ:T:=.w (([1,2,3,4,0]:List Int).map V.int |>.map T.a)
abbrev P6:Nat:=12
abbrev MP:Nat:=12
abbrev OW:Nat:=12
abbrev Pj:Nat:=12
local macro_rules | `(tactic| walk_at "s") => `(tactic| exact ⟨rfl,rfl,rfl,by decide +kernel,rfl,by decide +kernel,by decide +kernel⟩)
abbrev st_4:Stmt:=top 49
def sc_4:FnScope ["_law_script","_law_k","_law_cell","_law_seed"] ["_law_script","_law_k"] (defScope st_4):=↥6
noncomputable def d_4:DS:=dSeq (dSet 2 (dOp addS (dOp mulS ↑7919 (jV 1)) ↑11))
 (dSeq (dIf (dTest (dOp ltS (jV 1) (dCB lenS %[jV 0|0]))) (dSet 2 (dOp ixS (jV 0) (jV 1))) (dIf (dTest (dOp gtS (dCB lenS %[jV 0|0]) ↑0)) (dSet 2 (dOp addS (jV 2) (dOp mulS (dOp modS (dOp ixS (jV 0) (dOp modS (jV 1) (dCB lenS %[jV 0|0]))) ↑2147483629) ↑69623))) dNext))
 (dSeq (dSet 3 (dOp addS (dOp modS (dOp addS (dOp mulS (dOp modS (jV 2) ↑2147483629) ↑48271) (dOp mulS ↑40692 (jV 1))) ↑2147483629) ↑1))
 (dRet (dLst %[dOp ixS (dLst %[↑0,jV 2|0]) (dCB intS %[dOp geS (jV 2) (dOp powS ↑10 ↑18)|0]),jV 3|0]))))
noncomputable def F_4:DF:=fnD none 2 4 d_4
abbrev st_5:Stmt:=top 50
def sc_5:FnScope ["_law_box_here","_law_wide","_law_digit","_law_one"] ["_law_box_here","_law_wide"] (defScope st_5):=↥6
noncomputable def d_5:DS:=dSeq (dIf (dTest (dOp gtS (dOp ixS (jV 0) ↑0) ↑0)) (dSeq (dSet 2 (dOp modS (dOp ixS (jV 0) ↑0) (jV 1)))
 (dSeq (dSetIx 0 (dOp fdivS (dOp ixS (jV 0) ↑0) (jV 1)) ↑0)
 (dRet (jV 2)))) dNext)
 (dSeq (dSet 3 (dOp modS (dOp mulS (dOp ixS (jV 0) ↑1) ↑69623) ↑2147483647))
 (dSeq (dSetIx 0 (dOp addS (dOp modS (dOp addS (dOp mulS (jV 3) ↑48271) ↑30103) ↑2147483629) ↑1) ↑1)
 (dRet (dOp modS (dOp fdivS (dOp addS (dOp mulS (jV 3) ↑2147483647) (dOp ixS (jV 0) ↑1)) ↑8191) (jV 1)))))
noncomputable def F_5:DF:=fnD (some 0) 2 4 d_5
noncomputable def OI:DT:=dTest (dOp gtS (dCB lenS %[jV 2|0]) ↑0)
noncomputable def QT:DS:=dSet 3 (dOp addS (jV 3) (dTup %[(dMut 2 hPopAt %[(dCall (some 0) F_5 [] %[jV 0,dCB lenS %[jV 2|0]|0])|0])|0]))
abbrev st_6:Stmt:=top 51
def sc_6:FnScope ["_law_box_here","_law_cups","_law_left","_law_found"] ["_law_box_here","_law_cups"] (defScope st_6):=↥6
noncomputable def d_6:DS:=dSeq (dSet 2 (dListRng %[jV 1|0]))
 (dSeq (dSet 3 (dTup qQ))
 (dSeq (dWhile (OI) (QT) fuelX)
 (dRet (jV 3))))
noncomputable def F_6:DF:=fnD (some 0) 2 4 d_6
noncomputable def Ob:DE:=dOp ixS (jV 1) (jV 0)
abbrev st_7:Stmt:=top 53
def sc_7:FnScope ["_law_one","_law_other"] ["_law_one","_law_other"] (defScope st_7):=↥6
noncomputable def d_7:DS:=dRet (dCB tupleS %[dComp none [none,some 1] (dSeqI (jV 0)) (gdName 0) dYes (Ob)|0])
noncomputable def F_7:DF:=fnD none 2 2 d_7
noncomputable def Og:DE:=dIndex (jV 1) %[jV 0|0]
abbrev st_8:Stmt:=top 54
def sc_8:FnScope ["_law_turning_here"] ["_law_turning_here"] (defScope st_8):=↥6
noncomputable def d_8:DS:=dRet (dCB tupleS %[dComp none [none,some 0] (dRng1 %[dCB lenS %[jV 0|0]|0]) (gdName 0) dYes (Og)|0])
noncomputable def F_8:DF:=fnD none 1 1 d_8
noncomputable def OJ:DS:=dSeq (dSet 3 (dCB max2S %[↑0,dOp subS (dCall (some 0) F_5 [] %[jV 0,↑8|0]) ↑3|0]))
 (dSeq (dSet 4 (dCall (some 0) F_6 [] %[jV 0,↑5|0]))
 (dSeq (dSet 5 (dLst %[dTup %[↑1,↑2,↑3,↑4,↑0|0],dTup %[↑1,↑2,↑0,↑3,↑4|0],dTup %[↑1,↑2,↑0,↑3,↑4|0],dTup %[↑1,↑0,↑3,↑2,↑4|0],dTup %[↑0,↑1,↑2,↑3,↑4|0]|0]))
 (dDrop (dMut 1 hAppend %[(dCall none F_7 [] %[(dCall none F_7 [] %[dCall none F_8 [] %[jV 4|0],dOp ixS (jV 5) (jV 3)|0]),jV 4|0])|0]))))
abbrev st_9:Stmt:=top 62
def sc_9:FnScope ["_law_box_here","_law_found","_law_k","_law_form","_law_by","_law_some"] ["_law_box_here"] (defScope st_9):=↥6
noncomputable def d_9:DS:=dSeq (dSet 1 (dLst qQ))
 (dSeq (dFor (some 0) (dRng1 %[dOp addS ↑1 (dCall (some 0) F_5 [] %[jV 0,↑2|0])|0]) (gdName 2) (OJ))
 (dRet (dCB tupleS %[jV 1|0])))
noncomputable def F_9:DF:=fnD (some 0) 1 6 d_9
abbrev Uh:Stmt:=top 1
def Vq:FnScope ["cups"] ["cups"] (defScope Uh):=↥6
noncomputable def d_10:DS:=dRet (dTupRng %[jV 0|0])
noncomputable def F_10:DF:=fnD none 1 1 d_10
noncomputable def OQ:DE:=dOp ixS (jV 1) (jV 0)
abbrev S6:Stmt:=top 2
def ZN:FnScope ["one","other"] ["one","other"] (defScope S6):=↥6
noncomputable def d_11:DS:=dRet (dCB tupleS %[dComp none [none,some 1] (dSeqI (jV 0)) (gdName 0) dYes (OQ)|0])
noncomputable def F_11:DF:=fnD none 2 2 d_11
noncomputable def Mq:DS:=dSeq (dSet 8 (dCall none F_11 [] %[jV 5,jV 7|0]))
 (dIf (dTest (dOp (dinS [] true) (jV 8) (jV 2))) (dSeq (dDPut [] 2 (jV 8) (dOp addS (dOp (getS []) (jV 2) (jV 5)) (dTup %[jV 6|0])))
 (dDrop (dMut 4 hAppend %[jV 8|0]))) dNext)
noncomputable def Nl:DS:=dFor none (dEnum %[jV 1|0]) (gdTup 2 (gdCons (gdName 6) (gdCons (gdName 7) gdNil))) (Mq)
noncomputable def NM:DT:=dTru (jV 3)
noncomputable def N4:DS:=dSeq (dSet 4 (dLst qQ))
 (dSeq (dFor none (dSeqI (jV 3)) (gdName 5) (Nl))
 (dMv 3 4))
abbrev Ut:Stmt:=top 8
def Zk:FnScope ["cups","some","told","rest","further","turning","number","one","new"] ["cups","some"] (defScope Ut):=↥6
noncomputable def d_12:DS:=dSeq (dSet 2 (dDisp1 [] (dCall none F_10 [] %[jV 0|0]) (dTup qQ)))
 (dSeq (dSet 3 (dLst %[dCall none F_10 [] %[jV 0|0]|0]))
 (dSeq (dWhile (NM) (N4) fuelX)
 (dRet (jV 2))))
noncomputable def F_12:DF:=fnD none 2 9 d_12
abbrev SF:Stmt:=top 9
def VT:FnScope ["cups","some"] ["cups","some"] (defScope SF):=↥6
noncomputable def d_13:DS:=dRet (dCB tupleS %[dCB sortDU %[dCall none F_12 [] %[jV 0,jV 1|0]|0]|0])
noncomputable def F_13:DF:=fnD none 2 2 d_13
noncomputable def Nq:DE:=dIndex (jV 1) %[jV 0|0]
abbrev R7:Stmt:=top 3
def fR:FnScope ["turning"] ["turning"] (defScope R7):=↥6
noncomputable def d_14:DS:=dRet (dCB tupleS %[dComp none [none,some 0] (dRng1 %[dCB lenS %[jV 0|0]|0]) (gdName 0) dYes (Nq)|0])
noncomputable def F_14:DF:=fnD none 1 1 d_14
abbrev Qn:Stmt:=top 5
def bh:FnScope ["a","b"] ["a","b"] (defScope Qn):=↥6
noncomputable def d_15:DS:=dRet (dCall none F_11 [] %[dCall none F_11 [] %[jV 0,jV 1|0],(dCall none F_11 [] %[dCall none F_14 [] %[jV 0|0],dCall none F_14 [] %[jV 1|0]|0])|0])
noncomputable def F_15:DF:=fnD none 2 2 d_15
noncomputable def Ny:DS:=dDPut [] 2 (dCall none F_15 [] %[jV 3,jV 4|0]) (dC (.bl true))
noncomputable def OK:DS:=dFor none (dSeqI (jV 1)) (gdName 4) (Ny)
abbrev TH:Stmt:=top 11
def fN:FnScope ["cups","turnings","found","a","b"] ["cups","turnings"] (defScope TH):=↥6
noncomputable def d_16:DS:=dSeq (dSet 2 (dDNew true))
 (dSeq (dFor none (dSeqI (jV 1)) (gdName 3) (OK))
 (dRet (dCall none F_13 [] %[jV 0,dCB tupDS %[jV 2|0]|0])))
noncomputable def F_16:DF:=fnD none 2 5 d_16
noncomputable def NW:DT:=dTest (dOp gtS (dCB lenS %[dOp ixS (jV 2) (dUn negS ↑1)|0]) ↑1)
noncomputable def Mh:DS:=dSeq (dSet 3 (dCall none F_16 [] %[jV 0,dOp ixS (jV 2) (dUn negS ↑1)|0]))
 (dSeq (dIf (dTest (dOp eqS (jV 3) (dOp ixS (jV 2) (dUn negS ↑1)))) (dRet (dTup %[dC (.str "lasting"),dCB tupleS %[jV 2|0]|0])) dNext)
 (dDrop (dMut 2 hAppend %[jV 3|0])))
abbrev RT:Stmt:=top 12
def eC:FnScope ["cups","some","groups","left"] ["cups","some"] (defScope RT):=↥6
noncomputable def d_17:DS:=dSeq (dSet 2 (dLst %[dCall none F_13 [] %[jV 0,jV 1|0]|0]))
 (dSeq (dWhile (NW) (Mh) fuelX)
 (dRet (dTup %[dC (.str "down"),dCB tupleS %[jV 2|0]|0])))
noncomputable def F_17:DF:=fnD none 2 4 d_17
abbrev st_1:Stmt:=top 55
def sc_1:FnScope ["_law_box_here","_law_questions","_law_room","_law_down","_law_form","_law_first","_law_one","_law_second","_law_other","_law_head"] ["_law_box_here","_law_questions","_law_room","_law_down"] (defScope st_1):=↥6
noncomputable def d_1 (rec:DF):DS:=dSeq (dSet 4 (dCall (some 0) F_5 [] %[jV 0,↑10|0]))
 (dSeq (dIf (dOr (dTest (dOp ltS (jV 2) ↑2)) (dOr (dTest (dOp ltS (jV 3) ↑2)) (dTest (dOp eqS (jV 4) ↑0)))) (dRet (dOp ixS (dLst %[(dTup %[dC (.str "ask"),dCall (some 0) F_5 [] %[jV 0,jV 1|0]|0]),dTup %[dC (.str "yes")|0],dTup %[dC (.str "no")|0]|0]) (dCB max2S %[↑0,dOp subS (dCall (some 0) F_5 [] %[jV 0,↑8|0]) ↑5|0]))) dNext)
 (dSeq (dIf (dOr (dTest (dOp ltS (jV 4) ↑3)) (dTest (dOp ltS (jV 2) ↑3))) (dRet (dTup %[dC (.str "not"),dCall (some 0) rec [] %[jV 0,jV 1,dOp subS (jV 2) ↑1,dOp subS (jV 3) ↑1|0]|0])) dNext)
 (dSeq (dSet 5 (dOp addS ↑1 (dCall (some 0) F_5 [] %[jV 0,dOp subS (jV 2) ↑2|0])))
 (dSeq (dSet 6 (dCall (some 0) rec [] %[jV 0,jV 1,jV 5,dOp subS (jV 3) ↑1|0]))
 (dSeq (dIf (dAnd (dTest (dOp eqS (jV 4) ↑9)) (dAnd (dTest (dOp gtS (jV 2) ↑3)) (dTest (dOp ltS (jV 5) (dOp subS (jV 2) ↑2))))) (dSeq (dSet 7 (dOp addS ↑1 (dCall (some 0) F_5 [] %[jV 0,dOp subS (dOp subS (jV 2) ↑2) (jV 5)|0])))
 (dSeq (dSet 8 (dCall (some 0) rec [] %[jV 0,jV 1,jV 7,dOp subS (jV 3) ↑1|0]))
 (dRet (dTup %[dC (.str "most"),jV 6,jV 8,dCall (some 0) rec [] %[jV 0,jV 1,dOp subS (dOp subS (dOp subS (jV 2) ↑1) (jV 5)) (jV 7),dOp subS (jV 3) ↑1|0]|0])))) dNext)
 (dSeq (dSet 9 (dOp ixS (dLst %[dC (.str "and"),dC (.str "or"),dC (.str "either")|0]) (dOp modS (jV 4) ↑3)))
 (dRet (dTup %[jV 9,jV 6,dCall (some 0) rec [] %[jV 0,jV 1,dOp subS (dOp subS (jV 2) ↑1) (jV 5),dOp subS (jV 3) ↑1|0]|0]))))))))
noncomputable def F_1:Nat->DF
 | 0=>λ_=>none
 | n+1=>fnD (some 0) 4 10 (d_1 (F_1 n))
abbrev st_2:Stmt:=top 58
def sc_2:FnScope ["_law_box_here","_law_questions","_law_most","_law_down","_law_form","_law_head","_law_room","_law_last","_law_third","_law_first","_law_one"] ["_law_box_here","_law_questions","_law_most","_law_down"] (defScope st_2):=↥6
noncomputable def d_2 (rec:DF):DS:=dSeq (dSet 4 (dCall (some 0) F_5 [] %[jV 0,↑8|0]))
 (dSeq (dIf (dOr (dTest (dOp ltS (jV 2) ↑4)) (dOr (dTest (dOp ltS (jV 3) ↑2)) (dTest (dOp eqS (jV 4) ↑0)))) (dRet (dCall (some 0) (F_1 MP) [] %[jV 0,jV 1,↑1,↑1|0])) dNext)
 (dSeq (dIf (dTest (dOp eqS (jV 4) ↑1)) (dRet (dTup %[dC (.str "not"),dCall (some 0) rec [] %[jV 0,jV 1,jV 2,dOp subS (jV 3) ↑1|0]|0])) dNext)
 (dSeq (dPar3 5 6 7 %[dOp ixS (dLst %[dC (.str "and"),dC (.str "or")|0]) (dOp modS (jV 4) ↑2),dOp fdivS (jV 2) ↑2,dTup qQ|0])
 (dSeq (dIf (dAnd (dTest (dOp eqS (jV 4) ↑4)) (dTest (dOp gtS (jV 2) ↑15))) (dPar2 5 6 %[dC (.str "either"),dOp fdivS (jV 2) ↑8|0]) dNext)
 (dSeq (dIf (dAnd (dTest (dOp ltS (jV 4) ↑4)) (dTest (dOp gtS (jV 2) ↑27))) (dSeq (dSet 8 (dOp addS ↑1 (dCall (some 0) F_5 [] %[jV 0,dOp fdivS (dOp subS (jV 2) ↑24) ↑4|0])))
 (dSeq (dPar2 5 6 %[dC (.str "most"),dOp fdivS (dOp subS (jV 2) (dOp mulS ↑4 (jV 8))) ↑12|0])
 (dSet 7 (dTup %[dCall (some 0) rec [] %[jV 0,jV 1,jV 8,dOp subS (jV 3) ↑1|0]|0])))) dNext)
 (dSeq (dSet 9 (dOp addS ↑1 (dCall (some 0) F_5 [] %[jV 0,dOp subS (jV 6) ↑1|0])))
 (dSeq (dSet 10 (dCall (some 0) rec [] %[jV 0,jV 1,jV 9,dOp subS (jV 3) ↑1|0]))
 (dRet (dOp addS (dTup %[jV 5,jV 10,dCall (some 0) rec [] %[jV 0,jV 1,dOp subS (jV 6) (jV 9),dOp subS (jV 3) ↑1|0]|0]) (jV 7))))))))))
noncomputable def F_2:Nat->DF
 | 0=>λ_=>none
 | n+1=>fnD (some 0) 4 11 (d_2 (F_2 n))
noncomputable def OD (rec:DF):DE:=dCall none rec [] %[jV 0|0]
noncomputable def OC (rec:DF):DT:=dTru (dCB isiS %[jV 0,dC (.ty "tuple")|0])
abbrev st_3:Stmt:=top 56
def sc_3:FnScope ["_law_saying_here","_law_some"] ["_law_saying_here"] (defScope st_3):=↥6
noncomputable def d_3 (rec:DF):DS:=dSeq (dSet 1 (dComp none [none] (dSeqI (dSl (jV 0) (dPart ↑1) dNoPart)) (gdName 0) ((OC rec)) ((OD rec))))
 (dSeq (dIf (dTest (dOp (inS false) (dOp ixS (jV 0) ↑0) (dTup %[dC (.str "yes"),dC (.str "no"),dC (.str "ask")|0]))) (dRet ↑1) dNext)
 (dSeq (dIf (dTest (dOp eqS (dOp ixS (jV 0) ↑0) (dC (.str "not")))) (dRet (dOp ixS (jV 1) ↑0)) dNext)
 (dSeq (dIf (dTest (dOp eqS (dOp ixS (jV 0) ↑0) (dC (.str "most")))) (dRet (dOp addS (dOp mulS ↑12 (dOp addS (dOp ixS (jV 1) ↑0) (dOp ixS (jV 1) ↑1))) (dOp mulS ↑4 (dOp ixS (jV 1) ↑2)))) dNext)
 (dRet (dOp mulS (dOp addS (dOp ixS (jV 1) ↑0) (dOp ixS (jV 1) ↑1)) (dOp ixS (dLst %[↑2,↑8|0]) (dCB intS %[dOp eqS (dOp ixS (jV 0) ↑0) (dC (.str "either"))|0])))))))
noncomputable def F_3:Nat->DF
 | 0=>λ_=>none
 | n+1=>fnD none 1 2 (d_3 (F_3 n))
noncomputable def NL (rec:DF):DE:=dCall none rec [] %[jV 0|0]
noncomputable def N9 (rec:DF):DT:=dTru (dCB isiS %[jV 0,dC (.ty "tuple")|0])
abbrev st_0:Stmt:=top 57
def sc_0:FnScope ["_law_saying_here"] ["_law_saying_here"] (defScope st_0):=↥6
noncomputable def d_0 (rec:DF):DS:=dRet (dOp addS ↑1 (dCB sumS %[dComp none [none] (dSeqI (dSl (jV 0) (dPart ↑1) dNoPart)) (gdName 0) ((N9 rec)) ((NL rec))|0]))
noncomputable def F_0:Nat->DF
 | 0=>λ_=>none
 | n+1=>fnD none 1 1 (d_0 (F_0 n))
noncomputable def Mo:DT:=dOr (dTest (dOp gtS (dCall none (F_3 Pj) [] %[jV 4|0]) (jV 3))) (dTest (dOp gtS (dCall none (F_0 P6) [] %[jV 4|0]) (jV 2)))
noncomputable def OL:DS:=dSet 4 (dOp ixS (jV 4) (dOp addS ↑1 (dCall (some 0) F_5 [] %[jV 0,dOp subS (dCB lenS %[jV 4|0]) ↑1|0])))
abbrev UK:Stmt:=top 59
def Xd:FnScope ["_law_box_here","_law_questions","_law_room","_law_most","_law_found"] ["_law_box_here","_law_questions","_law_room","_law_most"] (defScope UK):=↥6
noncomputable def d_18:DS:=dSeq (dSet 4 (dCall (some 0) (F_1 MP) [] %[jV 0,jV 1,jV 2,↑5|0]))
 (dSeq (dIf (dTest (dOp eqS (dCall (some 0) F_5 [] %[jV 0,↑2|0]) ↑0)) (dSet 4 (dCall (some 0) (F_2 OW) [] %[jV 0,jV 1,jV 3,↑5|0])) dNext)
 (dSeq (dWhile (Mo) (OL) fuelX)
 (dRet (jV 4))))
noncomputable def F_18:DF:=fnD (some 0) 4 5 d_18
abbrev SC:Stmt:=top 6
def Wi:FnScope ["cups","thing"] ["cups","thing"] (defScope SC):=↥6
noncomputable def d_19:DS:=dRet (dOp eqS (dCB sortedS %[jV 1|0]) (dListRng %[jV 0|0]))
noncomputable def F_19:DF:=fnD none 2 2 d_19
noncomputable def j8:DT:=dTest (dOp neS (dOp ixS (jV 0) (dOp ixS (jV 2) (dUn negS ↑1))) (jV 1))
noncomputable def VL:DS:=dDrop (dMut 2 hAppend %[dOp ixS (jV 0) (dOp ixS (jV 2) (dUn negS ↑1))|0])
abbrev Uq:Stmt:=top 21
def YE:FnScope ["turning","place","row"] ["turning","place"] (defScope Uq):=↥6
noncomputable def d_20:DS:=dSeq (dSet 2 (dLst %[jV 1|0]))
 (dSeq (dWhile (j8) (VL) fuelX)
 (dRet (dCB tupleS %[jV 2|0])))
noncomputable def F_20:DF:=fnD none 2 3 d_20
noncomputable def Rl:DE:=jV 0
noncomputable def gC:DT:=dAnd (dTest (dOp gtS (dCB lenS %[jV 0|0]) ↑1)) (dTest (dOp eqS (dOp ixS (jV 0) ↑0) (dCB min1S %[jV 0|0])))
noncomputable def U4:DE:=dCall none F_20 [] %[jV 1,jV 0|0]
abbrev Sa:Stmt:=top 22
def UF:FnScope ["turning","rows"] ["turning"] (defScope Sa):=↥6
noncomputable def d_21:DS:=dSeq (dSet 1 (dComp none [none,some 0] (dRng1 %[dCB lenS %[jV 0|0]|0]) (gdName 0) dYes (U4)))
 (dRet (dComp none [none] (dSeqI (jV 1)) (gdName 0) (gC) (Rl)))
noncomputable def F_21:DF:=fnD none 1 2 d_21
noncomputable def Tq:DE:=dCB lenS %[jV 0|0]
abbrev Qh:Stmt:=top 23
def VW:FnScope ["turning"] ["turning"] (defScope Qh):=↥6
noncomputable def d_22:DS:=dRet (dOp eqS (dComp none [none] (dSeqI (dCall none F_21 [] %[jV 0|0])) (gdName 0) dYes (Tq)) (dLst %[dCB lenS %[jV 0|0]|0]))
noncomputable def F_22:DF:=fnD none 1 1 d_22
abbrev Uj:Stmt:=top 41
def kY:FnScope ["thing"] ["thing"] (defScope Uj):=↥6
noncomputable def d_23:DS:=dRet (dAndV (dCall none F_19 [] %[↑5,jV 0|0]) (dCall none F_22 [] %[jV 0|0]))
noncomputable def F_23:DF:=fnD none 1 1 d_23
abbrev Ss:Stmt:=top 29
def cO:FnScope ["saying"] ["saying"] (defScope Ss):=↥6
noncomputable def d_24:DS:=dRet (dIfE (dTest (dOp eqS (dOp ixS (jV 0) ↑0) (dC (.str "ask")))) (dTup qQ) (dSl (jV 0) (dPart ↑1) dNoPart))
noncomputable def F_24:DF:=fnD none 1 1 d_24
noncomputable def Qj:DE:=dOp getKS (jV 1) (jV 0)
abbrev Uu:Stmt:=top 24
def aO:FnScope ["one","other","led"] ["one","other"] (defScope Uu):=↥6
noncomputable def d_25:DS:=dSeq (dSet 2 (dDZip %[dOp ixS (dCall none F_21 [] %[jV 0|0]) ↑0,dOp ixS (dCall none F_21 [] %[jV 1|0]) ↑0|0]))
 (dRet (dCB tupleS %[dComp none [none,some 2] (dRng1 %[dCB lenS %[jV 0|0]|0]) (gdName 0) dYes (Qj)|0]))
noncomputable def F_25:DF:=fnD none 2 3 d_25
abbrev Us:Stmt:=top 4
def ZZ:FnScope ["turning","by"] ["turning","by"] (defScope Us):=↥6
noncomputable def d_26:DS:=dRet (dCall none F_11 [] %[(dCall none F_11 [] %[dCall none F_14 [] %[jV 1|0],jV 0|0]),jV 1|0])
noncomputable def F_26:DF:=fnD none 2 2 d_26
abbrev RM:Stmt:=top 40
def gW:FnScope ["ring","by"] ["ring"] (defScope RM):=↥6
noncomputable def d_27:DS:=dSeq (dSet 1 (dCall none F_25 [] %[dCall none F_15 [] %[dK NJ,dK NU|0],jV 0|0]))
 (dRet (dTup %[dCall none F_26 [] %[dK NJ,jV 1|0],dCall none F_26 [] %[dK NU,jV 1|0]|0]))
noncomputable def F_27:DF:=fnD none 1 2 d_27
abbrev To:Stmt:=top 43
def cQ:FnScope ["piece","saying","ring","pair","there"] ["piece"] (defScope To):=↥6
noncomputable def d_28:DS:=dSeq (dSet 1 (dOp ixS (jV 0) ↑0))
 (dSeq (dSet 2 (dOp ixS (jV 0) ↑1))
 (dSeq (dIf (dTest (dOp eqS (dOp ixS (jV 1) ↑0) (dC (.str "not")))) (dRet (dLst %[(dTup %[dOp ixS (jV 1) ↑1,dCall none F_14 [] %[jV 2|0]|0])|0])) dNext)
 (dSeq (dIf (dTest (dOp eqS (dOp ixS (jV 1) ↑0) (dC (.str "and")))) (dSeq (dSet 3 (dCall none F_27 [] %[jV 2|0]))
 (dSeq (dSet 4 (dLst %[dTup %[dOp ixS (jV 1) ↑1,dOp ixS (jV 3) ↑0|0],dTup %[dOp ixS (jV 1) ↑2,dOp ixS (jV 3) ↑1|0]|0]))
 (dRet (dOp addS (jV 4) (dLst %[(dTup %[dOp ixS (jV 1) ↑1,dCall none F_14 [] %[dOp ixS (jV 3) ↑0|0]|0]),(dTup %[dOp ixS (jV 1) ↑2,dCall none F_14 [] %[dOp ixS (jV 3) ↑1|0]|0])|0]))))) dNext)
 (dRet (dLst qQ)))))
noncomputable def F_28:DF:=fnD none 1 5 d_28
noncomputable def cN:DT:=dTru (jV 3)
noncomputable def cT:DS:=dSeq (dSet 4 (dMut 3 hPop qQ))
 (dSeq (dDrop (dMut 2 hAppend %[jV 4|0]))
 (dDrop (dMut 3 hExtend %[dLRev %[dCallV 1 [("inner",1,F_24),("pieces_in",1,F_28)] %[jV 4|0]|0]|0])))
abbrev S8:Stmt:=top 26
def jO:FnScope ["whole","inside_of","found","rest","part"] ["whole","inside_of"] (defScope S8):=↥6
noncomputable def d_29:DS:=dSeq (dSet 2 (dLst qQ))
 (dSeq (dSet 3 (dLst %[jV 0|0]))
 (dSeq (dWhile (cN) (cT) fuelX)
 (dRet (jV 2))))
noncomputable def F_29:DF:=fnD none 2 5 d_29
abbrev S0:Stmt:=top 31
def aU:FnScope ["part","inside","word"] ["part","inside"] (defScope S0):=↥6
noncomputable def d_30:DS:=dSeq (dSet 2 (dOp ixS (jV 0) ↑0))
 (dSeq (dIf (dTest (dOp eqS (jV 2) (dC (.str "not")))) (dRet (dOp ixS (jV 1) ↑0)) dNext)
 (dSeq (dIf (dTest (dOp (inS false) (jV 2) (dTup %[dC (.str "and"),dC (.str "or")|0]))) (dRet (dOp mulS ↑2 (dOp addS (dOp ixS (jV 1) ↑0) (dOp ixS (jV 1) ↑1)))) dNext)
 (dSeq (dIf (dTest (dOp eqS (jV 2) (dC (.str "either")))) (dRet (dOp mulS ↑8 (dOp addS (dOp ixS (jV 1) ↑0) (dOp ixS (jV 1) ↑1)))) dNext)
 (dSeq (dIf (dTest (dOp eqS (jV 2) (dC (.str "most")))) (dRet (dOp addS (dOp mulS ↑12 (dOp addS (dOp ixS (jV 1) ↑0) (dOp ixS (jV 1) ↑1))) (dOp mulS ↑4 (dOp ixS (jV 1) ↑2)))) dNext)
 (dRet ↑1)))))
noncomputable def F_30:DF:=fnD none 2 3 d_30
abbrev UO:Stmt:=top 34
def X5:FnScope ["s","t"] ["s","t"] (defScope UO):=↥6
noncomputable def d_31:DS:=dRet (dTup %[dC (.str "not"),(dTup %[dC (.str "and"),dTup %[dC (.str "not"),jV 0|0],dTup %[dC (.str "not"),jV 1|0]|0])|0])
noncomputable def F_31:DF:=fnD none 2 2 d_31
abbrev Uz:Stmt:=top 35
def Yp:FnScope ["part","inside","word","s","t"] ["part","inside"] (defScope Uz):=↥6
noncomputable def d_32:DS:=dSeq (dSet 2 (dOp ixS (jV 0) ↑0))
 (dSeq (dIf (dTest (dOp (inS false) (jV 2) (dTup %[dC (.str "yes"),dC (.str "no"),dC (.str "ask")|0]))) (dRet (jV 0)) dNext)
 (dSeq (dIf (dTest (dOp eqS (jV 2) (dC (.str "or")))) (dRet (dCall none F_31 [] %[dOp ixS (jV 1) ↑0,dOp ixS (jV 1) ↑1|0])) dNext)
 (dSeq (dIf (dTest (dOp eqS (jV 2) (dC (.str "either")))) (dSeq (dSet 3 (dOp ixS (jV 1) ↑0))
 (dSeq (dSet 4 (dOp ixS (jV 1) ↑1))
 (dRet (dCall none F_31 [] %[(dTup %[dC (.str "and"),jV 3,dTup %[dC (.str "not"),jV 4|0]|0]),(dTup %[dC (.str "and"),dTup %[dC (.str "not"),jV 3|0],jV 4|0])|0])))) dNext)
 (dSeq (dIf (dTest (dOp eqS (jV 2) (dC (.str "most")))) (dSeq (dSet 3 (dOp ixS (jV 1) ↑0))
 (dSeq (dSet 4 (dOp ixS (jV 1) ↑1))
 (dRet (dCall none F_31 [] %[dTup %[dC (.str "and"),jV 3,jV 4|0],(dTup %[dC (.str "and"),dOp ixS (jV 1) ↑2,dCall none F_31 [] %[jV 3,jV 4|0]|0])|0])))) dNext)
 (dRet (dCB tupleS %[dOp addS (dLst %[jV 2|0]) (jV 1)|0]))))))
noncomputable def F_32:DF:=fnD none 2 5 d_32
abbrev TY:Stmt:=top 45
def jD:FnScope ["steps","turning","last"] ["steps","turning"] (defScope TY):=↥6
noncomputable def d_33:DS:=dSeq (dSet 2 (dOp ixS (jV 0) (dUn negS ↑1)))
 (dRet (dOp addS (dSl (jV 0) dNoPart (dPart (dUn negS ↑1))) (dTup %[(dTup %[dOp ixS (jV 2) ↑0,dCall none F_11 [] %[dOp ixS (jV 2) ↑1,jV 1|0],dCall none F_11 [] %[dOp ixS (jV 2) ↑2,jV 1|0]|0])|0])))
noncomputable def F_33:DF:=fnD none 2 3 d_33
abbrev RU:Stmt:=top 44
def gH:FnScope ["saying","ring","turning"] ["saying","ring"] (defScope RU):=↥6
noncomputable def d_34:DS:=dSeq (dIf (dTest (dOp eqS (dOp ixS (jV 0) ↑0) (dC (.str "ask")))) (dRet (dTup %[dOp ixS (jV 0) ↑1,jV 1,dCall none F_10 [] %[↑5|0]|0])) dNext)
 (dSeq (dSet 2 (dIfE (dTest (dOp eqS (dOp ixS (jV 0) ↑0) (dC (.str "yes")))) (jV 1) (dCall none F_10 [] %[↑5|0])))
 (dRet (dTup %[↑0,jV 2,jV 2|0])))
noncomputable def F_34:DF:=fnD none 2 3 d_34
abbrev Qp:Stmt:=top 46
def Zt:FnScope ["piece","inside","word"] ["piece","inside"] (defScope Qp):=↥6
noncomputable def d_35:DS:=dSeq (dSet 2 (dOp ixS (dOp ixS (jV 0) ↑0) ↑0))
 (dSeq (dIf (dTest (dOp eqS (jV 2) (dC (.str "not")))) (dRet (dCall none F_33 [] %[dOp ixS (jV 1) ↑0,dOp ixS (jV 0) ↑1|0])) dNext)
 (dSeq (dIf (dTest (dOp eqS (jV 2) (dC (.str "and")))) (dRet (dOp addS (dOp addS (dOp addS (dOp ixS (jV 1) ↑0) (dOp ixS (jV 1) ↑1)) (dOp ixS (jV 1) ↑2)) (dOp ixS (jV 1) ↑3))) dNext)
 (dRet (dTup %[dCall none F_34 [] %[dOp ixS (jV 0) ↑0,dOp ixS (jV 0) ↑1|0]|0]))))
noncomputable def F_35:DF:=fnD none 2 3 d_35
noncomputable def RD:DE:=dMut 1 hPop qQ
noncomputable def WQ:DS:=dSeq (dSet 5 (dComp (some (1,3)) [none,some 3] (dSeqI (dCallV 1 [("inner",1,F_24),("pieces_in",1,F_28)] %[jV 4|0])) (gdName 0) dYes (RD)))
 (dDrop (dMut 3 hAppend %[dCallV 2 [("weight_of",2,F_30),("spelled_of",2,F_32),("steps_of",2,F_35)] %[jV 4,jV 5|0]|0]))
abbrev Ui:Stmt:=top 27
def Tr:FnScope ["whole","inside_of","put","told","part","inside"] ["whole","inside_of","put"] (defScope Ui):=↥6
noncomputable def d_36:DS:=dSeq (dSet 3 (dLst qQ))
 (dSeq (dFor none (dRevL %[dCall none F_29 [] %[jV 0,jV 1|0]|0]) (gdName 4) (WQ))
 (dRet (dOp ixS (jV 3) ↑0)))
noncomputable def F_36:DF:=fnD none 3 6 d_36
abbrev Ti:Stmt:=top 30
def eU:FnScope ["saying","put"] ["saying","put"] (defScope Ti):=↥6
noncomputable def d_37:DS:=dRet (dCall none F_36 [] %[jV 0,dFn "inner",jV 1|0])
noncomputable def F_37:DF:=fnD none 2 2 d_37
abbrev Rk:Stmt:=top 32
def dt:FnScope ["saying"] ["saying"] (defScope Rk):=↥6
noncomputable def d_38:DS:=dRet (dCall none F_37 [] %[jV 0,dFn "weight_of"|0])
noncomputable def F_38:DF:=fnD none 1 1 d_38
abbrev Rw:Stmt:=top 42
def Z2:FnScope ["saying","ring","most"] ["saying","ring","most"] (defScope Rw):=↥6
noncomputable def d_39:DS:=dSeq (dIf (dNot (dTru (dCall none F_23 [] %[jV 1|0]))) (dNever) dNext)
 (dIf (dTest (dOp gtS (dCall none F_38 [] %[jV 0|0]) (jV 2))) (dNever) dNext)
noncomputable def F_39:DF:=fnD none 3 3 d_39
abbrev Tu:Stmt:=top 36
def gQ:FnScope ["saying"] ["saying"] (defScope Tu):=↥6
noncomputable def d_40:DS:=dRet (dCall none F_37 [] %[jV 0,dFn "spelled_of"|0])
noncomputable def F_40:DF:=fnD none 1 1 d_40
abbrev Mx:Stmt:=top 47
def Q8:FnScope ["saying","questions","ring","most"] ["saying","questions","ring","most"] (defScope Mx):=↥6
noncomputable def d_41:DS:=dSeq (dDrop (dCall none F_39 [] %[jV 0,jV 2,jV 3|0]))
 (dRet (dTup %[↑5,jV 1,(dCall none F_36 [] %[(dTup %[dCall none F_40 [] %[jV 0|0],jV 2|0]),dFn "pieces_in",dFn "steps_of"|0])|0]))
noncomputable def F_41:DF:=fnD none 4 4 d_41
noncomputable def NY:DE:=dCall (some 0) F_5 [] %[jV 1,↑2|0]
abbrev TF:Stmt:=top 60
def aF:FnScope ["_law_box_here","_law_questions"] ["_law_box_here","_law_questions"] (defScope TF):=↥6
noncomputable def d_42:DS:=dRet (dCB tupleS %[dComp (some (1,0)) [none,some 0] (dRng1 %[jV 1|0]) (gdName 0) dYes (NY)|0])
noncomputable def F_42:DF:=fnD (some 0) 2 2 d_42
noncomputable def Nr:DS:=dSet 7 (dCall none F_7 [] %[jV 7,(dOp ixS (jV 1) (dCall (some 0) F_5 [] %[jV 0,dCB lenS %[jV 1|0]|0]))|0])
noncomputable def Nn:DS:=dSeq (dSet 7 (dTupRng %[↑5|0]))
 (dSeq (dFor (some 0) (dRng1 %[dCall (some 0) F_5 [] %[jV 0,↑4|0]|0]) (gdName 8) (Nr))
 (dDrop (dMut 5 hAppend %[jV 7|0])))
noncomputable def N7:DS:=dSeq (dSet 5 (dLst qQ))
 (dSeq (dFor (some 0) (dRng1 %[↑2|0]) (gdName 6) (Nn))
 (dDrop (dMut 3 hAppend %[(dTup %[dCall (some 0) F_5 [] %[jV 0,jV 2|0],dOp ixS (jV 5) ↑0,dOp ixS (jV 5) ↑1|0])|0])))
abbrev SE:Stmt:=top 63
def kB:FnScope ["_law_box_here","_law_some","_law_questions","_law_steps","_law_k","_law_sides","_law_side","_law_turning_here","_law_turn"] ["_law_box_here","_law_some","_law_questions"] (defScope SE):=↥6
noncomputable def d_43:DS:=dSeq (dSet 3 (dLst qQ))
 (dSeq (dFor (some 0) (dRng1 %[dCall (some 0) F_5 [] %[jV 0,↑7|0]|0]) (gdName 4) (N7))
 (dRet (dTup %[↑5,jV 2,dCB tupleS %[jV 3|0]|0])))
noncomputable def F_43:DF:=fnD (some 0) 3 9 d_43
noncomputable def Pd:DS:=dSetIx 4 (dOp ixS (jV 3) (dOp modS (dOp addS (jV 5) ↑1) (jV 1))) (jV 6)
noncomputable def NC:DT:=dTest (dOp gtS (dCB lenS %[jV 2|0]) ↑0)
noncomputable def Oa:DS:=dDrop (dMut 3 hAppend %[(dMut 2 hPopAt %[(dCall (some 0) F_5 [] %[jV 0,dCB lenS %[jV 2|0]|0])|0])|0])
abbrev T6:Stmt:=top 52
def Wr:FnScope ["_law_box_here","_law_cups","_law_left","_law_row","_law_found","_law_k","_law_place"] ["_law_box_here","_law_cups"] (defScope T6):=↥6
noncomputable def d_44:DS:=dSeq (dSet 2 (dListRng %[↑1,jV 1|0]))
 (dSeq (dSet 3 (dLst %[↑0|0]))
 (dSeq (dWhile (NC) (Oa) fuelX)
 (dSeq (dSet 4 (dOp mulS (dLst %[↑0|0]) (jV 1)))
 (dSeq (dFor (some 0) (dEnum %[jV 3|0]) (gdTup 2 (gdCons (gdName 5) (gdCons (gdName 6) gdNil))) (Pd))
 (dRet (dCB tupleS %[jV 4|0]))))))
noncomputable def F_44:DF:=fnD (some 0) 2 7 d_44
abbrev Ua:Stmt:=top 14
def YX:FnScope ["step","answers"] ["step","answers"] (defScope Ua):=↥6
noncomputable def d_45:DS:=dRet (dIfE (dTest (dOp eqS (dOp ixS (jV 1) (dOp ixS (jV 0) ↑0)) ↑1)) (dOp ixS (jV 0) ↑1) (dOp ixS (jV 0) ↑2))
noncomputable def F_45:DF:=fnD none 2 2 d_45
noncomputable def N1:DS:=dSeq (dSet 3 (dCall none F_11 [] %[jV 3,dCall none F_45 [] %[jV 4,jV 1|0]|0]))
 (dDrop (dMut 2 hAppend %[jV 3|0]))
abbrev Sz:Stmt:=top 15
def eu:FnScope ["dance","answers","told","turning","step"] ["dance","answers"] (defScope Sz):=↥6
noncomputable def d_46:DS:=dSeq (dSet 2 (dLst qQ))
 (dSeq (dSet 3 (dCall none F_10 [] %[dOp ixS (jV 0) ↑0|0]))
 (dSeq (dFor none (dSeqI (dOp ixS (jV 0) ↑2)) (gdName 4) (N1))
 (dRet (jV 2))))
noncomputable def F_46:DF:=fnD none 2 5 d_46
noncomputable def SW:DE:=jV 0
noncomputable def V6:DT:=dTest (dOp gtS (dOp ixS (jV 1) (jV 2)) (dOp ixS (jV 1) (jV 0)))
noncomputable def jH:DS:=dSet 1 (dOp addS (jV 1) (dCB lenS %[dComp none [none,some 0,some 2] (dRng2 %[dOp addS (jV 2) ↑1,↑5|0]) (gdName 0) (V6) (SW)|0]))
abbrev VD:Stmt:=top 61
def Uk:FnScope ["_law_turning_here","_law_pairs","_law_x"] ["_law_turning_here"] (defScope VD):=↥6
noncomputable def d_47:DS:=dSeq (dSet 1 ↑0)
 (dSeq (dFor none (dRng1 %[↑5|0]) (gdName 2) (jH))
 (dRet (dOp eqS (dOp modS (jV 1) ↑2) ↑0)))
noncomputable def F_47:DF:=fnD none 1 3 d_47
noncomputable def OF:DE:=dOp (inTS false) (jV 0) (dOp ixS (jV 1) ↑0)
noncomputable def M6:DE:=dOp (inTS false) (jV 0) (dOp ixS (jV 1) (dUn negS ↑1))
noncomputable def Nk:DS:=dSet 10 (dOp addS (jV 10) (dLst %[jV 12,jV 13|0]))
noncomputable def NI:DE:=jV 0
noncomputable def Mt:DT:=dTru (dCall none F_47 [] %[jV 0|0])
abbrev Pw:Stmt:=top 64
def Pu:FnScope ["_law_script","_law_box_here","_law_some","_law_questions","_law_told","_law_groups","_law_evens","_law_saying_here","_law_dance","_law_answers_here","_law_turnings","_law_q","_law_yes","_law_no","_law_other"] ["_law_script"] (defScope Pw):=↥6
noncomputable def P1:DS:=dSeq (dSet 1 (dCall none F_4 [] %[jV 0,↑0|0]))
 (dSeq (dSet 2 (dCall (some 0) F_9 [] %[jV 1|0]))
 (dSeq (dSet 1 (dCall none F_4 [] %[jV 0,↑1|0]))
 (dSeq (dSet 3 (dOp addS ↑1 (dCall (some 0) F_5 [] %[jV 1,↑4|0])))
 (dSeq (dUnp (gdTup 2 (gdCons (gdName 4) (gdCons (gdName 5) gdNil))) (dCall none F_17 [] %[↑5,jV 2|0]))
 (dSeq (dSet 6 (dCB lenS %[dComp none [none] (dSeqI (dOp ixS (jV 5) ↑0)) (gdName 0) (Mt) (NI)|0]))
 (dSeq (dIf (dOr (dTest (dOp neS (jV 4) (dOp ixS (dLst %[dC (.str "down"),dC (.str "lasting")|0]) (dCB intS %[dOp eqS (jV 6) ↑60|0])))) (dTest (dOp neS (dOp ixS (jV 5) ↑0) (dCall none F_13 [] %[↑5,jV 2|0])))) (dRet (dC (.bl false))) dNext)
 (dSeq (dSet 7 (dCall (some 0) F_18 [] %[jV 1,jV 3,↑20,↑24|0]))
 (dSeq (dSet 8 (dCall none F_41 [.int 128] %[jV 7,jV 3,dCall (some 0) F_44 [] %[jV 1,↑5|0]|0]))
 (dSeq (dSet 9 (dCall (some 0) F_42 [] %[jV 1,jV 3|0]))
 (dSeq (dIf (dTest (dOp eqS (jV 4) (dC (.str "lasting")))) (dSeq (dSet 10 (dCall none F_46 [] %[jV 8,jV 9|0]))
 (dSeq (dFor none (dSeqI (dOp ixS (jV 8) ↑2)) (gdTup 3 (gdCons (gdName 11) (gdCons (gdName 12) (gdCons (gdName 13) gdNil)))) (Nk))
 (dIf (dNot (dTru (dCB allS %[dComp none [none,some 5] (dSeqI (jV 10)) (gdName 0) dYes (M6)|0]))) (dRet (dC (.bl false))) dNext))) dNext)
 (dSeq (dSet 14 (dCall (some 0) F_43 [] %[jV 1,jV 2,jV 3|0]))
 (dRet (dCB allS %[dComp none [none,some 5] (dSeqI (dCall none F_46 [] %[jV 14,jV 9|0])) (gdName 0) dYes (OF)|0])))))))))))))
noncomputable def Ma:DF:=fnD none 1 15 P1
noncomputable abbrev tb_1:Tb:=[("inner",1,F_24),("pieces_in",1,F_28)]
noncomputable abbrev tb_2:Tb:=[("weight_of",2,F_30),("spelled_of",2,F_32),("steps_of",2,F_35)]
end
def dP a b w (h0:0 < w) (h1:w < 1073741824):∃ r a' b',0<=r/\r < w/\F_5 [.l [iT a,iT b],.v (iT w)]=some (.v (iT r),[iT a',iT b']):=by
 have h2:CDiv a w:=⟨h0,h1⟩
 by_cases h:0 < a
 ·refine⟨a % w,a / w,b,Fw _ ⋯,FC _ h0,?_⟩;simp[F_5,fnD,d_5,h,h0,h2,ixN]
 ·refine⟨(b * 69623 % 2147483647 * 2147483647+((b * 69623 % 2147483647 * 48271+30103) % 2147483629+1)) / 8191 % w,a,(b * 69623 % 2147483647 * 48271+30103) % 2147483629+1,Fw _ ⋯,FC _ h0,?_⟩;simp[F_5,fnD,d_5,h,h0,ixN,CMul,CDiv]
def LS a b w (h0:0 < w) (h1:w<=1000000000):∃ (r:Nat) (a' b':Int),r < w/\F_5 [.l [iT a,iT b],.v (iT w)]=some (.v (iT r),[iT a',iT b']):=by
 obtain⟨r,a',b',r0,r1,e⟩:=dP a b w ⋯ ⋯;obtain⟨n,rfl⟩:∃ n:Nat,r=n:=⟨r.toNat,by lia⟩
 exact⟨n,a',b',by lia,e⟩
def RQ ns k (hk:0<=k) (hk1:k < 1000):∃ a b,F_4 [.k (intsT ns),.v (iT k)]=some (.l [iT a,iT b],[]):=by
 have hl:(intsT ns).length=ns.length:=by simp[intsT]
 have fin:∀ c,∃ a,atI [T.a (V.int 0),T.a (V.int c)] (if 1000000000000000000<=c then 1 else 0)=some (iT a):=λc=>by
  split
  ·exact⟨c,rfl⟩
  ·exact⟨0,rfl⟩
 have c1:CMul 7919 k:=.inl ⟨by decide,by decide⟩;have c2:CMul 40692 k:=.inl ⟨by decide,by decide⟩;have c3:∀ m,CMul m 69623:=λm=>.inr ⟨by decide,by decide⟩
 have c4:∀ m,CMul m 48271:=λm=>.inr ⟨by decide,by decide⟩
 have c5:CPow 10 18:=⟨by decide,by decide,by decide⟩
 by_cases h1:k < ns.length
 ·obtain⟨z,hz⟩:=T7 ns hk h1;obtain⟨a,ha⟩:=fin z;refine⟨a,(z % 2147483629 * 48271+40692 * k) % 2147483629+1,?_⟩;simp[F_4,fnD,d_4,hl,h1,c1,c2,c4,c5,hz,ha]
 ·by_cases h2:0 < ns.length
  ·obtain⟨z,hz⟩:=T7 ns (i:=k % ns.length) (Fw _ ⋯) (FC _ ⋯);obtain⟨a,ha⟩:=fin (7919 * k+11+z % 2147483629 * 69623);refine⟨a,((7919 * k+11+z % 2147483629 * 69623) % 2147483629 * 48271+40692 * k) % 2147483629+1,?_⟩;simp[F_4,fnD,d_4,hl,h1,h2,c1,c2,c3,c4,c5,hz,ha]
  ·obtain⟨a,ha⟩:=fin (7919 * k+11);simp[F_4,fnD,d_4,hl,h1,h2,c1,c2,c4,c5,ha]
theorem WK:∀ m ls fs a b n fuel,ls.length=m->m < fuel->ls.length+fs.length<=5->∃ fs' a' b',fs'.Perm (fs++ls) /\
  dWhile OI QT fuel [~~~[iT a,iT b],~~~(iT n),some (.l (tvT ls)),~~~(tuT fs)]=↥([~~~[iT a',iT b'],~~~(iT n),~~~[],~~~(tuT fs')]):=by
 intro m;induction m with
 | zero =>
  intro ls fs a b n fuel hl hf h5;obtain rfl:ls=[]:=EB.mp hl;obtain⟨f,rfl⟩:∃ f,fuel=f+1:=⟨fuel - 1,by lia⟩
  exact⟨fs,a,b,by simp,by rw[Lo];simp[OI]⟩
 | succ m ih =>
  intro ls fs a b n fuel hl hf h5;obtain⟨f,rfl⟩:∃ f,fuel=f+1:=⟨fuel - 1,by lia⟩
  obtain⟨r,a',b',hr,e⟩:=LS a b ls.length ⋯ ⋯;obtain⟨z,hz⟩:∃ z,ls[r]?=some z:=⟨ls[r],by simp⟩
  obtain⟨fs',a2,b2,hp,e2⟩:=ih (ls.eraseIdx r) (fs++[z]) a' b' n f (by rw[Ck hr];lia) ⋯ (by rw[Ck hr];simp;lia);refine⟨fs',a2,b2,hp.trans (Q5 hz),?_⟩;rw[← e2,Lo];have hb:inR 9223372036854775807 r=true:=M4 ⋯;have g1:ls.length<=AD:=LI ⋯;have g2:fs.length+1<=AD:=LI ⋯;have g3:1<=AD:=by decide
  simp[OI,QT,e,hb,Qd hr,hz,gd,g1,g2,g3,show 0 < ls.length by lia,VA]
def eZ a b n (hn:n<=5):∃ t a' b',IsT n t/\F_6 [.l [iT a,iT b],.v (iT n)]=some (.v (tuT t),[iT a',iT b']):=by
 obtain⟨t,a',b',hp,e⟩:=WK n (AI n) [] a b n fuelX ↥1 (by rw[MB];lia) (by simp_all);refine⟨t,a',b',Ol ‹_›,?_⟩;simp at e;simp[F_6,fnD,d_6,L6 n ⋯,OB,e]
def V2 n t (h:IsT n t) (hn:n<=5):F_8 [.v (tuT t)]=some (.v (tuT (backL t)),[]):=by
 obtain⟨o',e⟩:=Nf (λ(i:Nat)=>iT i) (λi=>iT (t.idxOf i)) (de:=Og) (R:=[~~~(tuT t)]) (AI n) (λi hi=>by
  simp[Og,Pv t,RN t,(Q2 (h.mem (show i < n by simpa using hi))),flatV]) none
 simp[F_8,fnD,d_8,h.len,L6 n ⋯,(OB n),e,backL]
def P0 n a b (ha:IsT n a) (hb:IsT n b) (hn:n<=5):F_7 [.v (tuT a),.v (tuT b)]=some (.v (tuT (thenL a b)),[]):=by
 have hl:=ha.len;obtain⟨o',e⟩:=Nf (λ(k:Nat)=>iT k) (λk=>iT (b.getD k 0)) (de:=Ob) (R:=[~~~(tuT b)]) a (λk hk=>by
  obtain⟨m,hm,_⟩:=hb.get (ha.lt k hk);have:=N6 hm;simp[Ob,this,hm]) none
 have g:a.length<=AD:=LI ⋯;simp[F_7,fnD,d_7,gd,g,e,thenL]
def MZ n a b (ha:IsT n a) (hb:IsT n b) (hn:n<=5):F_11 [.v (tuT a),.v (tuT b)]=some (.v (tuT (thenL a b)),[]):=by
 have hl:=ha.len;obtain⟨o',e⟩:=Nf (λ(k:Nat)=>iT k) (λk=>iT (b.getD k 0)) (de:=OQ) (R:=[~~~(tuT b)]) a (λk hk=>by
  obtain⟨m,hm,_⟩:=hb.get (ha.lt k hk);have:=N6 hm;simp[OQ,this,hm]) none
 have g:a.length<=AD:=LI ⋯;simp[F_11,fnD,d_11,gd,g,e,thenL]
def O4(n:Nat)(hn:n<=5):F_10 [.v (iT n)]=some (.v (tuT (AI n)),[]):=by
 simp[F_10,fnD,d_10,L6 n ⋯,OB]
def L8(h1:tg Γ t=some Γ1)(h2:b Γ1=some (.nx Γ2)):forD tg b (t::r) Γ=forD tg b r Γ2:=by
 rw[Oc,h1,An,h2,An]
def j3(h1:tg Γ t=some Γ1)(h2:de Γ1=some (.v t',Γ2))(h3:compD tg dYes de r Γ2=some (ts,Γ3)):compD tg dYes de (t::r) Γ=some (t'::ts,Γ3):=by
 rw[LY,h1,An,j7,An,h2,An,h3];rfl
noncomputable def allL (n:Nat):Nat->List (List Nat)
 | 0=>[[]]
 | m+1=>(allL n m).flatMap λr=>(AI n).map λk=>k::r
theorem Qa:∀ {t},(∀ k∈t,k < n)->t∈allL n t.length
 | [],_=>AC.mpr rfl
 | k::r,h=>FV.mpr ⟨r,Qa λx hx=>h x (AH _ hx),Aq.mpr ⟨k,Bv.mpr (h k AG),rfl⟩⟩
noncomputable def ndB:List Nat->Bool
 | []=>true
 | k::r=>!(r.contains k) && ndB r
theorem Qx:∀ {t},t.Nodup->ndB t=true
 | [],_=>rfl
 | k::r,h=>by
  have h':=BL.mp h;simp[ndB,h'.1,Qx h'.2]
noncomputable def turns (n:Nat):List (List Nat):=(allL n n).filter ndB
def Lx(h:IsT n t):t∈turns n:=by
 refine Bm.mpr ⟨?_,Qx h.nd⟩;have:=Qa h.lt;rw[h.len]at this;exact this
noncomputable def isTr:Option (G×List T)->Bool
 | some (.v (.a (.bl true)),[])=>true
 | _=>false
theorem cP:∀ {x},isTr x=true->x=some (.v (.a (.bl true)),[])
 | some (.v (.a (.bl true)),[]),_=>rfl
noncomputable def keyN (t:List Nat):List Key:=t.map λ(k:Nat)=>(.inl (k:Int):Key)
theorem QE(h:keyN a=keyN b):a=b:=by
 induction a generalizing b with
 | nil=>cases b with
  | nil=>rfl
  | cons _ _=>simp[keyN]at h
 | cons x r ih=>cases b with
  | nil=>simp[keyN]at h
  | cons y s =>
   simp[keyN]at h;obtain⟨h1,h2⟩:=h;rw[show x=y by lia,ih h2]
theorem Mm:∀ t,keyTs (tvT t)=some (keyN t)
 | []=>rfl
 | x::r=>by
  have:=Mm r;simp[keyTs,keyT,this,keyN]
abbrev Wd:=List (List Nat×List Nat)
noncomputable def dctT (D:Wd):List (List Key×T):=D.map λp=>(keyN p.1,tuT p.2)
noncomputable def lk (D:Wd) (t:List Nat):Option (List Nat):=(D.find? λp=>decide (p.1=t)).map (·.2)
theorem eL D t:valT (dctT D) (keyN t)=(lk D t).map tuT:=by
 induction D with
 | nil=>rfl
 | cons p r ih =>
  unfold valT lk dctT at *;rw[Ad,Fh,Fh];by_cases h:p.1=t
  ·simp[h]
  ·have h':¬ keyN p.1=keyN t:=λe=>h (QE e)
   simp only[h,h',decide_false];exact ih
theorem eM D t:((dctT D).any λkv=>decide (kv.1=keyN t))=(lk D t).isSome:=by
 induction D with
 | nil=>rfl
 | cons p r ih =>
  unfold lk dctT at *;rw[Ad,B6,ih];by_cases h:p.1=t
  ·simp[h]
  ·have h':¬ keyN p.1=keyN t:=λe=>h (QE e)
   simp[h,h']
def YA(h:lk D t=none):putT (dctT D) (keyN t) (tuT w)=dctT (D++[(t,w)]):=by
 unfold putT;rw[eM,h];simp[dctT]
theorem iP(nd:(D.map (·.1)).Nodup)(h:(t,w)∈D):lk D t=some w:=by
 induction D with
 | nil=>cases h
 | cons p r ih =>
  rw[Ad,BL]at nd;unfold lk at *;rw[Fh];rcases AN.mp h with e | e
  ·subst e;simp
  ·have:¬ p.1=t:=λz=>nd.1 (z ▸ Aq.mpr ⟨(t,w),e,rfl⟩)
   simp only[this,decide_false];exact ih nd.2 e
def jM(h:lk D t=none):t∉D.map (·.1):=λhm=>by
 obtain⟨p,hp,e⟩:=Aq.mp hm;have:=List.find?_eq_none.mp (Option.map_eq_none_iff.mp h) p hp;simp[e]at this
def Ve(h:lk D t=some w):(t,w)∈D:=by
 obtain⟨p,e,rfl⟩:=LF h;have h2:=IQ e;simp at h2;subst h2;exact (GK e)
noncomputable def walkW (n:Nat) (ts:List (List Nat)) (w:List Nat):List Nat:=w.foldl (λt k=>thenL t (ts.getD k [])) (AI n)
def QU n ts w k:walkW n ts (w++[k])=thenL (walkW n ts w) (ts.getD k []):=by simp[walkW]
structure WOk(n:Nat)(ts:List (List Nat))(D:Wd):Prop where
 nd:(D.map (·.1)).Nodup
 wk:∀ p∈D,walkW n ts p.2=p.1
 tr:∀ p∈D,IsT n p.1
 ln:∀ p∈D,p.2.length<=D.length
 lt:∀ p∈D,∀ k∈p.2,k < ts.length
def WOk.more(h:WOk n ts D)(ht:∀ t∈ts,IsT n t)(hk:k < ts.length)(hw:(walkW n ts w,w)∈D)(hn:lk D (walkW n ts (w++[k]))=none):WOk n ts (D++[(walkW n ts (w++[k]),w++[k])]):=by
 have hT:IsT n (walkW n ts (w++[k])):=by
  rw[QU];refine Lj (h.tr _ hw) (ht _ ?_);simp_all
 refine⟨?_,λp hp=>?_,λp hp=>?_,λp hp=>?_,λp hp=>?_⟩
 ·rw[Ba,Hw];refine⟨h.nd,by simp,λa ha b hb=>?_⟩;have:=by simpa using hb
  subst this;exact λe=>jM hn (e ▸ ha)
 all_goals rcases Aw.mp hp with z | z
 ·exact h.wk p z
 ·have:=AC.mp z;subst this;rfl
 ·exact h.tr p z
 ·have:=AC.mp z;subst this;exact hT
 ·have:=h.ln p z;simp;lia
 ·have:=AC.mp z;subst this;have:=h.ln _ hw;simp at this ⊢;lia
 ·exact h.lt p z
 ·have:=AC.mp z;subst this;intro j hj;rcases Aw.mp hj with y | y
  ·exact h.lt _ hw j y
  ·have:=AC.mp y;lia
noncomputable def inW (n:Nat) (ts:List (List Nat)) (w:List Nat):List Nat->Wd×List (List Nat)->Wd×List (List Nat)
 | [],s=>s
 | k::r,s=>if (lk s.1 (walkW n ts (w++[k]))).isSome=true then inW n ts w r s else inW n ts w r (s.1++[(walkW n ts (w++[k]),w++[k])],s.2++[w++[k]])
structure SOkW(n:Nat)(ts:List (List Nat))(s:Wd×List (List Nat)):Prop where
 d:WOk n ts s.1
 l:∀ w∈s.2,(walkW n ts w,w)∈s.1
theorem Np(ht:∀ t∈ts,IsT n t) w:∀ ks s,(∀ k∈ks,k < ts.length)->SOkW n ts s->(walkW n ts w,w)∈s.1->SOkW n ts (inW n ts w ks s)/\∃ D' L',(inW n ts w ks s).1=s.1++D'/\(inW n ts w ks s).2=s.2++L'/\L'.length=D'.length
 | [],s,_,h,_=>⟨h,[],[],by simp[inW],by simp[inW],rfl⟩
 | k::r,s,hk,h,hw=>by
  unfold inW;split
  ·exact Np ht w r s (λj hj=>hk j (AH _ hj)) h hw
  ·rename_i hn;obtain⟨a,D',L',b,c,d⟩:=Np ht w r (s.1++[(walkW n ts (w++[k]),w++[k])],s.2++[w++[k]]) (λj hj=>hk j (AH _ hj)) ⟨h.d.more ht (hk k AG) hw (by simpa using hn),λu hu=>by
    rcases Aw.mp hu with z | z
    ·exact BB _ (h.l u z)
    ·have:=AC.mp z;subst this;exact Ac _ AG⟩ (BB _ hw)
   exact⟨a,(walkW n ts (w++[k]),w++[k])::D',(w++[k])::L',by simp[b],by simp[c],by simp[d]⟩
noncomputable def midW (n:Nat) (ts:List (List Nat)):List (List Nat)->Wd×List (List Nat)->Wd×List (List Nat)
 | [],s=>s
 | w::r,s=>midW n ts r (inW n ts w (AI ts.length) s)
theorem QI(ht:∀ t∈ts,IsT n t):∀ ly s,SOkW n ts s->(∀ w∈ly,(walkW n ts w,w)∈s.1)->SOkW n ts (midW n ts ly s)/\∃ D' L',(midW n ts ly s).1=s.1++D'/\(midW n ts ly s).2=s.2++L'/\L'.length=D'.length
 | [],s,h,_=>⟨h,[],[],by simp[midW],by simp[midW],rfl⟩
 | w::r,s,h,hl=>by
  unfold midW;obtain⟨a,D1,L1,b1,c1,d1⟩:=Np ht w (AI ts.length) s (λk hk=>Bv.mp hk) h (hl w AG);obtain⟨a2,D2,L2,b2,c2,d2⟩:=QI ht r _ a λu hu=>by rw[b1];exact BB _ (hl u (AH _ hu))
  exact⟨a2,D1++D2,L1++L2,by rw[b2,b1,BC],by rw[c2,c1,BC],by simp[d1,d2]⟩
noncomputable def runW (n:Nat) (ts:List (List Nat)):Nat->Wd->List (List Nat)->Wd
 | 0,D,_=>D
 | f+1,D,ly=>if ly=[] then D else runW n ts f (midW n ts ly (D,[])).1 (midW n ts ly (D,[])).2
theorem Md:∀ (ys xs:List (List Nat)),ys.Nodup->(∀ y∈ys,y∈xs)->ys.length<=xs.length
 | [],_,_,_=>Au _
 | y::r,xs,nd,h=>by
  have nd':=BL.mp nd;have hy:=h y AG;have:=Md r (xs.erase y) nd'.2 λz hz=>(List.mem_erase_of_ne (λe=>nd'.1 (by simp_all))).mpr (h z (AH _ hz))
  rw[GY hy]at this;have:=List.length_pos_of_mem hy;simp;lia
theorem Qs n:∀ m,(allL n m).length=n ^ m
 | 0=>rfl
 | m+1=>by
  have:∀ L:List (List Nat),(L.flatMap λr=>(AI n).map λk=>k::r).length=L.length * n:=by
   intro L;induction L with
   | nil=>simp
   | cons a r ih=>rw[List.flatMap_cons,A7,ih];simp[Nat.add_mul];lia
  rw[allL,this,Qs n m,Nat.pow_succ]
def WOk.few(h:WOk n ts D)(hn:n<=5):D.length<=3125:=by
 have:=Md (D.map (·.1)) (allL n n) h.nd λy hy=>by
  obtain⟨p,hp,rfl⟩:=Aq.mp hy;have hT:=h.tr p hp;have:=Qa hT.lt;rw[hT.len]at this;exact this
 rw[Af,Qs]at this;have h5:n ^ n<=3125:=by
  rcases (show n=0\/n=1\/n=2\/n=3\/n=4\/n=5 by lia) with h | h | h | h | h | h <;> subst h <;> decide
 lia
def Ux D t:getX [] (.inr (dctT D)) (tuT t)=some ((lk D t).map tuT):=by
 show (keyTs (tvT t)).bind _=_;rw[Mm,← eL];rfl
def XT(h:lk D t=none)(hl:D.length < AD):putX [] (.inr (dctT D)) (tuT t) (tuT w)=some (.inr (dctT (D++[(t,w)]))):=by
 show (keyTs (tvT t)).bind _=_;rw[Mm,← YA h];have:(dctT D).length < AD:=by simpa [dctT] using hl
 simp[this]
theorem p_in n (hn:n<=5) ts (ht:∀ t∈ts,IsT n t) w c tsv rest:∀ ks s o6 o7 o8,(∀ k∈ks,k < ts.length)->SOkW n ts s->(walkW n ts w,w)∈s.1->s.2.length<=s.1.length->∃ o6' o7' o8',
  forD (gdTup 2 (gdCons (gdName 6) (gdCons (gdName 7) gdNil))) Mq (ks.map λ(k:Nat)=>.t [iT k,tuT (ts.getD k [])]) [c,tsv,some (.d (.inr (dctT s.1))),rest,some (.l (s.2.map λu=>tuT (walkW n ts u))),~~~(tuT (walkW n ts w)),o6,o7,o8] =
   some (.nx [c,tsv,some (.d (.inr (dctT (inW n ts w ks s).1))),rest,some (.l ((inW n ts w ks s).2.map λu=>tuT (walkW n ts u))),~~~(tuT (walkW n ts w)),o6',o7',o8']):=by
 intro ks;induction ks with
 | nil=>intro s o6 o7 o8 _ _ _ _;exact⟨o6,o7,o8,by rw[CH];rfl⟩
 | cons k r ih =>
  intro s o6 o7 o8 hk h hw hl;have hk0:=hk k AG;have hkr:=λj hj=>hk j (AH _ hj)
  have hT:IsT n (ts.getD k []):=ht _ (by simp_all);have e1:=MZ n (walkW n ts w) (ts.getD k []) (h.d.tr _ hw) hT hn;rw[← QU]at e1;have gx1:=Ux s.1 (walkW n ts (w++[k]));have hfew:=h.d.few hn;by_cases hs:(lk s.1 (walkW n ts (w++[k]))).isSome=true
  ·obtain⟨p6,p7,p8,e3⟩:=ih s (~~~(iT k)) (~~~(tuT (ts.getD k []))) (~~~(tuT (walkW n ts (w++[k])))) hkr h hw hl;have ei:inW n ts w (k::r) s=inW n ts w r s:=by rw[inW,if_pos hs]
   rw[ei];refine⟨p6,p7,p8,?_⟩;obtain⟨u,hu⟩:=CG.mp hs;rw[hu]at gx1;have turn:Mq [c,tsv,some (.d (.inr (dctT s.1))),rest,some (.l (s.2.map λu=>tuT (walkW n ts u))),~~~(tuT (walkW n ts w)),~~~(iT k),~~~(tuT (ts.getD k [])),o8] =
     some (.nx [c,tsv,some (.d (.inr (dctT s.1))),rest,some (.l (s.2.map λu=>tuT (walkW n ts u))),~~~(tuT (walkW n ts w)),~~~(iT k),~~~(tuT (ts.getD k [])),~~~(tuT (walkW n ts (w++[k])))]):=by
    generalize tuT (ts.getD k [])=TV at *;simp[Mq,e1,gx1]
   rw[Ad,L8 ↥1 turn];exact e3
  ·have hn':=by simpa using hs
   rw[hn']at gx1;have gx2:=Ux s.1 (walkW n ts w);rw[iP h.d.nd hw]at gx2;have px:=XT (w:=w++[k]) hn' (MF (show s.1.length<=100000 by lia));obtain⟨p6,p7,p8,e3⟩:=ih (s.1++[(walkW n ts (w++[k]),w++[k])],s.2++[w++[k]]) (~~~(iT k)) (~~~(tuT (ts.getD k []))) (~~~(tuT (walkW n ts (w++[k])))) hkr ⟨h.d.more ht hk0 hw hn',λu hu=>by
    rcases Aw.mp hu with z | z
    ·exact BB _ (h.l u z)
    ·have:=AC.mp z;subst this;exact Ac _ AG⟩ (BB _ hw) ↥2
   have ei:inW n ts w (k::r) s=inW n ts w r (s.1++[(walkW n ts (w++[k]),w++[k])],s.2++[w++[k]]):=by rw[inW,if_neg hs]
   rw[ei];refine⟨p6,p7,p8,?_⟩;have hwl:=h.d.ln _ hw;have g1:1<=AD:=by decide
   have g2:w.length+1<=AD:=LI (by simp at hwl;lia);have g3:s.2.length < AD:=MF ⋯;have g4:s.2.length<=AD:=LI ⋯;have turn:Mq [c,tsv,some (.d (.inr (dctT s.1))),rest,some (.l (s.2.map λu=>tuT (walkW n ts u))),~~~(tuT (walkW n ts w)),~~~(iT k),~~~(tuT (ts.getD k [])),o8] =
     some (.nx [c,tsv,some (.d (.inr (dctT (s.1++[(walkW n ts (w++[k]),w++[k])])))),rest,some (.l ((s.2++[w++[k]]).map λu=>tuT (walkW n ts u))),~~~(tuT (walkW n ts w)),~~~(iT k),~~~(tuT (ts.getD k [])),~~~(tuT (walkW n ts (w++[k])))]):=by
    have tw:tuT (w++[k])=.t (tvT w++[iT k]):=by simp
    rw[tw]at px;generalize tuT (ts.getD k [])=TV at *;simp[Mq,e1,gx1,gx2,px,gd,g1,g2,g3,g4]
   rw[Ad,L8 ↥1 turn];exact e3
@[simp] theorem lW:dMv i j Γ=(jV j Γ).bind λp=>(setM i p.1 p.2).map .nx:=(rfl)
def Zi(ts:List (List Nat)):enumT (ts.map tuT)=(AI ts.length).map λk=>.t [iT k,tuT (ts.getD k [])]:=by
 unfold enumT;apply DJ
 ·simp
 ·intro i h1 h2;simp at h1;simp[Kc,h1]
theorem Wn n (hn:n<=5) ts (hm:ts.length<=10000) (ht:∀ t∈ts,IsT n t) c rest:∀ ly s o5 o6 o7 o8,SOkW n ts s->(∀ w∈ly,(walkW n ts w,w)∈s.1)->s.2.length<=s.1.length->∃ o5' o6' o7' o8',
  forD (gdName 5) Nl (ly.map λw=>tuT (walkW n ts w)) [c,~~~(.t (ts.map tuT)),some (.d (.inr (dctT s.1))),rest,some (.l (s.2.map λu=>tuT (walkW n ts u))),o5,o6,o7,o8] =
   some (.nx [c,~~~(.t (ts.map tuT)),some (.d (.inr (dctT (midW n ts ly s).1))),rest,some (.l ((midW n ts ly s).2.map λu=>tuT (walkW n ts u))),o5',o6',o7',o8']):=by
 intro ly;induction ly with
 | nil=>intro s o5 o6 o7 o8 _ _ _;exact⟨o5,o6,o7,o8,by rw[CH];rfl⟩
 | cons w r ih =>
  intro s o5 o6 o7 o8 h hl hlen;have hw:=hl w AG;obtain⟨a,D1,L1,b1,c1,d1⟩:=Np ht w (AI ts.length) s (λk hk=>Bv.mp hk) h hw;obtain⟨p6,p7,p8,e1⟩:=p_in n hn ts ht w c (~~~(.t (ts.map tuT))) rest (AI ts.length) s o6 o7 o8 (λk hk=>Bv.mp hk) h hw hlen;obtain⟨q5,q6,q7,q8,e2⟩:=ih (inW n ts w (AI ts.length) s) (~~~(tuT (walkW n ts w))) p6 p7 p8 a (λu hu=>by rw[b1];exact BB _ (hl u (AH _ hu))) (by rw[b1,c1,A7,A7];lia);refine⟨q5,q6,q7,q8,?_⟩;rw[← Zi]at e1;have g:ts.length<=AD:=LI ⋯;have turn:Nl [c,~~~(.t (ts.map tuT)),some (.d (.inr (dctT s.1))),rest,some (.l (s.2.map λu=>tuT (walkW n ts u))),~~~(tuT (walkW n ts w)),o6,o7,o8] =
    some (.nx [c,~~~(.t (ts.map tuT)),some (.d (.inr (dctT (inW n ts w (AI ts.length) s).1))),rest,some (.l ((inW n ts w (AI ts.length) s).2.map λu=>tuT (walkW n ts u))),~~~(tuT (walkW n ts w)),p6,p7,p8]):=by
   simp[Nl,dEnum,gd,g,e1]
  rw[Ad,L8 ↥1 turn];exact e2
theorem aC n (hn:n<=5) ts (hm:ts.length<=10000) (ht:∀ t∈ts,IsT n t) c:∀ f D ly o4 o5 o6 o7 o8,WOk n ts D->(∀ w∈ly,(walkW n ts w,w)∈D)->ly.length<=D.length->(ly≠[]->3126 < D.length+f)->0 < f->∃ o4' o5' o6' o7' o8',
  dWhile NM N4 f [c,~~~(.t (ts.map tuT)),some (.d (.inr (dctT D))),some (.l (ly.map λu=>tuT (walkW n ts u))),o4,o5,o6,o7,o8] =
   some (.nx [c,~~~(.t (ts.map tuT)),some (.d (.inr (dctT (runW n ts f D ly)))),~~~[],o4',o5',o6',o7',o8'])/\WOk n ts (runW n ts f D ly):=by
 intro f;induction f with
 | zero=>intro D ly o4 o5 o6 o7 o8 _ _ _ _ h0;lia
 | succ f ih =>
  intro D ly o4 o5 o6 o7 o8 hD hl hlen hf _;rw[Lo];by_cases hly:ly=[]
  ·subst hly;exact⟨o4,o5,o6,o7,o8,by simp[NM,runW],by simpa [runW] using hD⟩
  ·obtain⟨a,D1,L1,b1,c1,d1⟩:=QI ht ly (D,[]) ⟨hD,λw hw=>nomatch hw⟩ hl;obtain⟨p5,p6,p7,p8,e1⟩:=Wn n hn ts hm ht c (some (.r (ly.map λu=>tuT (walkW n ts u)))) ly (D,[]) o5 o6 o7 o8 ⟨hD,λw hw=>nomatch hw⟩ hl (Au _);have hfew:=hD.few hn;have hL:(midW n ts ly (D,[])).2.length=L1.length:=by rw[c1];simp
   have hDl:(midW n ts ly (D,[])).1.length=D.length+L1.length:=by rw[b1,A7,d1]
   obtain⟨q4,q5,q6,q7,q8,e2,hfin⟩:=ih (midW n ts ly (D,[])).1 (midW n ts ly (D,[])).2 none p5 p6 p7 p8 a.d a.l (by simp_all) (λhne=>by
    have:0 < L1.length:=by rw[← hL];exact Ct.mpr hne
    rw[hDl];lia) ⋯
   have er:runW n ts (f+1) D ly=runW n ts f (midW n ts ly (D,[])).1 (midW n ts ly (D,[])).2:=by rw[runW,if_neg hly]
   rw[er];refine⟨q4,q5,q6,q7,q8,?_,hfin⟩;have g:ly.length<=AD:=LI ⋯;have cnd:NM [c,~~~(.t (ts.map tuT)),some (.d (.inr (dctT D))),some (.l (ly.map λu=>tuT (walkW n ts u))),o4,o5,o6,o7,o8]=some (true,[c,~~~(.t (ts.map tuT)),some (.d (.inr (dctT D))),some (.l (ly.map λu=>tuT (walkW n ts u))),o4,o5,o6,o7,o8]):=by
    have:(ly.map λu=>tuT (walkW n ts u)).isEmpty=false:=by simpa using hly
    simp[NM,this]
   have body:N4 [c,~~~(.t (ts.map tuT)),some (.d (.inr (dctT D))),some (.l (ly.map λu=>tuT (walkW n ts u))),o4,o5,o6,o7,o8]=↥([c,~~~(.t (ts.map tuT)),some (.d (.inr (dctT (midW n ts ly (D,[])).1))),some (.l ((midW n ts ly (D,[])).2.map λu=>tuT (walkW n ts u))),none,p5,p6,p7,p8]):=by
    simp at e1;simp[N4,gd,g,frz1,e1,setM]
   rw[cnd];simp;rw[body];exact e2
noncomputable def fin42 (n:Nat) (ts:List (List Nat)):Wd:=runW n ts fuelX [(AI n,[])] [[]]
def Rh n ts:WOk n ts [(AI n,[])]:=by
 refine⟨by simp,λp hp=>?_,λp hp=>?_,λp hp=>?_,λp hp=>?_⟩ <;> (have:=AC.mp hp;subst this)
 ·rfl
 ·exact MN n
 ·exact Au _
 ·simp_all
def aY n (hn:n<=5) ts (hm:ts.length<=10000) (ht:∀ t∈ts,IsT n t):F_12 [.v (iT n),.v (.t (ts.map tuT))]=some (.d (.inr (dctT (fin42 n ts))),[])/\WOk n ts (fin42 n ts):=by
 obtain⟨q4,q5,q6,q7,q8,e,h⟩:=aC n hn ts hm ht (~~~(iT n)) fuelX [(AI n,[])] [[]] none none none none none (Rh n ts) (λw hw=>by have:=AC.mp hw;subst this;exact AG) (AE _) (λ_=>by rw[MB];simp) (by rw[MB];decide);refine⟨?_,h⟩;have e1:=O4 n hn;have w0:walkW n ts []=AI n:=rfl;have d0:dctT [(AI n,[])]=[(keyN (AI n),.t [])]:=rfl;rw[d0]at e;simp[ w0]at e;show F_12 _=some (.d (.inr (dctT (runW n ts fuelX [(AI n,[])] [[]]))),[]);simp[F_12,fnD,d_12,e1,(Mm (AI n)),e]
inductive Rch (n:Nat) (ts:List (List Nat)):List Nat->Prop
 | still:Rch n ts (AI n)
 | more {x t:List Nat}:Rch n ts x->t∈ts->Rch n ts (thenL x t)
theorem Rch.isT(ht:∀ t∈ts,IsT n t)(h:Rch n ts x):IsT n x:=by
 induction h with
 | still=>exact MN n
 | more _ hm ih=>exact Lj ih (ht _ hm)
structure Whl(n:Nat)(ts:List (List Nat))(X:List (List Nat)):Prop where
 nd:X.Nodup
 mem:∀ x,x∈X ↔ Rch n ts x
def Whl.of(nd:X.Nodup)(sub:∀ x∈X,Rch n ts x)(st:AI n∈X)(cl:∀ x∈X,∀ t∈ts,thenL x t∈X):Whl n ts X:=
 ⟨nd,λx=>⟨sub x,λh=>by
  induction h with
  | still=>exact st
  | more _ hm ih=>exact cl _ ih _ hm⟩⟩
def dk(hn:n<=5):(turns n).length<=120:=by
 rcases (show n=0\/n=1\/n=2\/n=3\/n=4\/n=5 by lia) with h | h | h | h | h | h <;> subst h <;> decide +kernel
def N8(hn:n<=5){X:List (List Nat)}(nd:X.Nodup)(h:∀ x∈X,IsT n x):X.length<=120:=
 Ak (Md X (turns n) nd λy hy=>Lx (h y hy)) (dk hn)
def lexN (a b:List Nat):Prop:=HT.lexLt (a.map λ(k:Nat)=>k) (b.map λ(k:Nat)=>k)=true
theorem Q9{a b:List Nat}(h:(a.map λ(k:Nat)=>(k:Int))=b.map λ(k:Nat)=>(k:Int)):a=b:=by
 induction a generalizing b with
 | nil=>cases b with
  | nil=>rfl
  | cons _ _=>cases h
 | cons x r ih=>cases b with
  | nil=>cases h
  | cons y s =>
   simp at h;rw[show x=y by lia,ih h.2]
def S5{Z Y:List (List Nat)}(sz:Z.Pairwise lexN)(sy:Y.Pairwise lexN)(h:∀ x,x∈Z ↔ x∈Y):Z=Y:=by
 have irr:∀ x,¬ lexN x x:=λx e=>by unfold lexN at e;rw[Nv]at e;cases e
 have nz:∀ {W:List (List Nat)},W.Pairwise lexN->W.Nodup:=λs=>s.imp λ{a b} hab (e:a=b)=>irr a (by rw[← e]at hab;exact hab)
 refine FZ (λa b _ _ h1 h2=>?_) sz sy ((List.perm_ext_iff_of_nodup (nz sz) (nz sy)).mpr h);exact absurd (Nc h1 h2) (irr a)
structure Grp(n:Nat)(ts:List (List Nat))(Z:List (List Nat)):Prop where
 so:Z.Pairwise lexN
 mem:∀ x,x∈Z ↔ Rch n ts x
def Grp.one{ts us Z Y}(h:Grp n ts Z)(h':Grp n us Y)(e:∀ x,Rch n ts x ↔ Rch n us x):Z=Y:=
 S5 h.so h'.so λx=>(h.mem x).trans ((e x).trans (h'.mem x).symm)
def Grp.nd(h:Grp n ts Z):Z.Nodup:=h.so.imp λ{a b} hab e=>by
 subst e;unfold lexN at hab;rw[Nv]at hab;cases hab
def Grp.len(h:Grp n ts Z)(hn:n<=5)(ht:∀ t∈ts,IsT n t):Z.length<=120:=N8 hn h.nd λx hx=>((h.mem x).mp hx).isT ht
theorem US:∀ t,intsOf (tvT t)=some (t.map λ(k:Nat)=>(k:Int))
 | []=>rfl
 | k::r=>by
  have:=US r;simp[intsOf,this]
def dj t:asTI (tuT t)=some (t.map λ(k:Nat)=>(k:Int)):=US t
theorem UJ:∀ X:List (List Nat),asTIs (X.map tuT)=some (X.map λt=>t.map λ(k:Nat)=>(k:Int))
 | []=>rfl
 | t::r=>by
  rw[Ad,asTIs,dj t,UJ r];rfl
def jB(nd:X.Nodup)(hl:X.length < 128):∃ Z:List (List Nat),Z.Perm X/\Z.Pairwise lexN/\srtU (X.map tuT)=some (Z.map tuT):=by
 have nd':=D.nodup_map_on (λx _ y _ e=>Q9 e) nd;have T0:=Rr nd';have e:srtU (X.map tuT)=some (sortBy (ltI (X.map λt=>t.map λ(k:Nat)=>k)) (.a .non) (X.map tuT)):=by
  unfold srtU;rw[UJ];dsimp only;rw[if_pos (.inr ⟨by simpa using hl,nd'⟩)]
 generalize hlt:ltI (X.map λt=>t.map λ(k:Nat)=>k)=lt at *;rw[Af]at T0;have em:sortBy lt (.a .non) (X.map tuT)=(sortBy lt [] X).map tuT:=by
  unfold sortBy;rw[Af];split
  ·rfl
  ·rw[FJ];refine DY λi hi=>?_
   have:=Bv.mp (((MW ⋯).run lt).subset hi);simp[ AY this]
 refine⟨sortBy lt [] X,XJ lt [] X,i8 T0 lexN (λi j hi hj hij=>?_),by rw[e,em]⟩;rw[← hlt]at hij;unfold ltI at hij;unfold lexN;simpa [ AY hi,AY hj] using hij
theorem Oz w:∀ ks s,(∀ k∈ks,walkW n ts (w++[k])∈(inW n ts w ks s).1.map (·.1))/\(∀ p∈s.1,p∈(inW n ts w ks s).1)/\(∀ p∈(inW n ts w ks s).1,p∈s.1\/p.2∈(inW n ts w ks s).2)/\(∀ u∈s.2,u∈(inW n ts w ks s).2)
 | [],s=>⟨(λk hk=>nomatch hk),(λp hp=>hp),(λp hp=>.inl hp),λu hu=>hu⟩
 | k::r,s=>by
  unfold inW;split
  ·rename_i hs;obtain⟨a,b,c,d⟩:=Oz w r s;refine⟨λj hj=>?_,b,c,d⟩;rcases AN.mp hj with e | e
   ·subst e;obtain⟨u,hu⟩:=CG.mp hs;exact Aq.mpr ⟨_,b _ (Ve hu),rfl⟩
   ·exact a j e
  ·obtain⟨a,b,c,d⟩:=Oz w r (s.1++[(walkW n ts (w++[k]),w++[k])],s.2++[w++[k]]);refine⟨λj hj=>?_,λp hp=>b p (BB _ hp),λp hp=>?_,λu hu=>d u (BB _ hu)⟩
   ·rcases AN.mp hj with e | e
    ·subst e;exact Aq.mpr ⟨_,b _ (Ac _ AG),rfl⟩
    ·exact a j e
   ·rcases c p hp with z | z
    ·rcases Aw.mp z with y | y
     ·exact .inl y
     ·have:=AC.mp y;subst this;exact .inr (d _ (Ac _ AG))
    ·exact .inr z
theorem Sg:∀ ly s,(∀ w∈ly,∀ k,k < ts.length->walkW n ts (w++[k])∈(midW n ts ly s).1.map (·.1))/\(∀ p∈s.1,p∈(midW n ts ly s).1)/\(∀ p∈(midW n ts ly s).1,p∈s.1\/p.2∈(midW n ts ly s).2)/\(∀ u∈s.2,u∈(midW n ts ly s).2)
 | [],s=>⟨(λk hk=>nomatch hk),(λp hp=>hp),(λp hp=>.inl hp),λu hu=>hu⟩
 | w::r,s=>by
  obtain⟨a,b,c,d⟩:=Oz w (AI ts.length) s;obtain⟨a',b',c',d'⟩:=Sg r (inW n ts w (AI ts.length) s);refine⟨λu hu k hk=>?_,λp hp=>b' p (b p hp),λp hp=>?_,λu hu=>d' u (d u hu)⟩
  ·rcases AN.mp hu with e | e
   ·subst e;obtain⟨p,hp,e⟩:=Aq.mp (a k (Bv.mpr hk));exact Aq.mpr ⟨p,b' p hp,e⟩
   ·exact a' u e k hk
  ·rcases c' p hp with z | z
   ·exact (c p z).imp id λy=>d' _ y
   ·exact .inr z
theorem bx(hn:n<=5)(ht:∀ t∈ts,IsT n t):∀ f D ly,WOk n ts D->(∀ w∈ly,(walkW n ts w,w)∈D)->(ly≠[]->3126 < D.length+f)->(∀ p∈D,p.2∈ly\/∀ k,k < ts.length->walkW n ts (p.2++[k])∈D.map (·.1)) ->
  (∀ p∈D,p∈runW n ts f D ly)/\∀ p∈runW n ts f D ly,∀ k,k < ts.length->walkW n ts (p.2++[k])∈(runW n ts f D ly).map (·.1):=by
 intro f;induction f with
 | zero =>
  intro D ly hD hl hf hc;have hfew:=hD.few hn;have:ly=[]:=by
   cases ly with
   | nil=>rfl
   | cons a r=>have:=hf ↥1;lia
  subst this;exact⟨(λp hp=>hp),λp hp k hk=>(hc p hp).elim (λz=>nomatch z) λz=>z k hk⟩
 | succ f ih =>
  intro D ly hD hl hf hc;by_cases hly:ly=[]
  ·subst hly;exact⟨(λp hp=>hp),λp hp k hk=>(hc p hp).elim (λz=>nomatch z) λz=>z k hk⟩
  ·rw[runW,if_neg hly];obtain⟨a,b,c,d⟩:=Sg ly (D,[]);obtain⟨a1,D1,L1,b1,c1,d1⟩:=QI ht ly (D,[]) ⟨hD,λw hw=>nomatch hw⟩ hl;simp only at b1 c1;obtain⟨r1,r2⟩:=ih (midW n ts ly (D,[])).1 (midW n ts ly (D,[])).2 a1.d a1.l (λhne=>by
    have:0 < L1.length:=by
     rw[c1]at hne;exact Ct.mpr hne
    rw[b1,A7];lia) (λp hp=>by
    rcases c p hp with z | z
    ·right;intro k hk;rcases hc p z with y | y
     ·exact a p.2 y k hk
     ·obtain⟨q,hq,e⟩:=Aq.mp (y k hk);exact Aq.mpr ⟨q,b q hq,e⟩
    ·exact .inl z)
   exact⟨λp hp=>r1 p (b p hp),r2⟩
theorem SI:∀ (w x:List Nat),(∀ k∈w,k < ts.length)->Rch n ts x->Rch n ts (w.foldl (λt k=>thenL t (ts.getD k [])) x)
 | [],_,_,h=>h
 | k::w,x,hk,h=>SI w _ (λj hj=>hk j (AH _ hj)) (.more h (by
  have hk0:=hk k AG;rw[BF,AY hk0];exact D8 hk0))
def bC w (h:∀ k∈w,k < ts.length):Rch n ts (walkW n ts w):=SI w _ h .still
def Zy(hn:n<=5)(ht:∀ t∈ts,IsT n t)(hW:WOk n ts (fin42 n ts)):Whl n ts ((fin42 n ts).map (·.1)):=by
 obtain⟨r1,r2⟩:=bx hn ht fuelX [(AI n,[])] [[]] (Rh n ts) (λw hw=>by have:=AC.mp hw;subst this;exact AG) (λ_=>by rw[MB];simp) (λp hp=>by have:=AC.mp hp;subst this;exact .inl AG);refine .of hW.nd (λx hx=>?_) (Aq.mpr ⟨_,r1 _ AG,rfl⟩) λx hx t hm=>?_
 ·obtain⟨p,hp,rfl⟩:=Aq.mp hx;rw[← hW.wk p hp];exact bC _ (hW.lt p hp)
 ·obtain⟨p,hp,rfl⟩:=Aq.mp hx;obtain⟨k,hk,rfl⟩:=CN hm;have:=r2 p hp k hk;rw[QU,hW.wk p hp]at this;rw[BF,AY hk]at this;exact this
def kO D:keysT (dctT D)=(D.map (·.1)).map tuT:=by
 simp only[keysT,dctT,FJ];refine DY λp _=>?_
 simp[keyTup,keyN,kV,Hx]
def Ov n (hn:n<=5) ts (hm:ts.length<=10000) (ht:∀ t∈ts,IsT n t):∃ Z,Grp n ts Z/\F_13 [.v (iT n),.v (.t (ts.map tuT))]=some (.v (.t (Z.map tuT)),[]):=by
 obtain⟨e,hW⟩:=aY n hn ts hm ht;have hw:=Zy hn ht hW;have hl:=N8 hn hw.nd λx hx=>((hw.mem x).mp hx).isT ht
 obtain⟨Z,hp,so,es⟩:=jB hw.nd ⋯;refine⟨Z,⟨so,λx=>hp.mem_iff.trans (hw.mem x)⟩,?_⟩;rw[← kO]at es;simp[F_13,fnD,d_13,e,es]
def Mp{α:Type}{a b:List α}(hl:a.length=b.length)(h:∀ i,i < a.length->a[i]?=b[i]?):a=b:=by
 apply Hr;intro i;by_cases hi:i < a.length
 ·exact h i hi
 ·grind
def Lv a b:(thenL a b).length=a.length:=by simp[thenL]
def Q0(ha:IsT n a)(hb:IsT n b)(hc:IsT n c):thenL (thenL a b) c=thenL a (thenL b c):=by
 refine Mp (by simp[Lv]) λi hi=>?_
 obtain⟨k,e1,k1⟩:=ha.get (by rw[Lv,Lv,ha.len]at hi;exact hi);obtain⟨m,e2,m1⟩:=hb.get k1;obtain⟨z,e3,z1⟩:=hc.get m1;rw[MS (MS e1 e2) e3,MS e1 (MS e2 e3)]
def OE(h:i < n):(AI n)[i]?=some i:=by simp[h]
def UH(ha:IsT n a):thenL a (AI n)=a:=by
 refine Mp (by simp[Lv]) λi hi=>?_
 obtain⟨k,e1,k1⟩:=ha.get (by rw[Lv,ha.len]at hi;exact hi);rw[MS e1 (OE k1),e1]
def QB(ha:IsT n a):thenL (AI n) a=a:=by
 refine Mp (by simp[Lv,ha.len]) λi hi=>?_
 have hi':=by rw[Lv,Hq]at hi;exact hi
 obtain⟨k,e1,k1⟩:=ha.get hi';rw[MS (OE hi') e1,e1]
def cS(ha:IsT n a):thenL a (backL a)=AI n:=by
 refine Mp (by simp[Lv,ha.len]) λi hi=>?_
 have hi':=by rw[Lv,ha.len]at hi;exact hi
 obtain⟨k,e1,k1⟩:=ha.get hi';rw[MS e1 (OG (by rw[ha.len];exact k1)),NF ha e1,OE hi']
def ah(ha:IsT n a)(hi:i < n):a[a.idxOf i]?=some i:=by
 rw[AY (CK.mpr (ha.mem hi))];simp
def jA(ha:IsT n a):thenL (backL a) a=AI n:=by
 refine Mp (by simp[Lv,backL,ha.len]) λi hi=>?_
 have hi':=by rw[Lv,(LX ha).len]at hi;exact hi
 rw[MS (OG (by rw[ha.len];exact hi')) (ah ha hi'),OE hi']
def V4(ha:IsT n a):backL (backL a)=a:=by
 have hb:=LX ha;refine Mp (by rw[(LX hb).len,ha.len]) λi hi=>?_
 have hi':=by rw[(LX hb).len]at hi;exact hi
 obtain⟨k,e1,k1⟩:=ha.get hi';rw[OG (by rw[hb.len];exact hi'),e1];have:(backL a)[k]?=some i:=by rw[OG (by rw[ha.len];exact k1),NF ha e1]
 rw[NF hb this]
noncomputable def Pm (n:Nat):Type:={ t:List Nat // IsT n t }
section
variable {n:Nat}
noncomputable def Pm.m (a b:Pm n):Pm n:=⟨thenL a.1 b.1,Lj a.2 b.2⟩
noncomputable def Pm.i (a:Pm n):Pm n:=⟨backL a.1,LX a.2⟩
noncomputable def Pm.e:Pm n:=⟨AI n,MN n⟩
def Pm.as(a b c:Pm n):(a.m b).m c=a.m (b.m c):=Cv (Q0 a.2 b.2 c.2)
def Pm.me(a:Pm n):a.m Pm.e=a:=Cv (UH a.2)
def Pm.em(a:Pm n):Pm.e.m a=a:=Cv (QB a.2)
def Pm.mi(a:Pm n):a.m a.i=Pm.e:=Cv (cS a.2)
def Pm.im(a:Pm n):a.i.m a=Pm.e:=Cv (jA a.2)
def Pm.ii(a:Pm n):a.i.i=a:=Cv (V4 a.2)
def Pm.mim(a b:Pm n):a.m (a.i.m b)=b:=by rw[← Pm.as,Pm.mi,Pm.em]
def Pm.imm(a b:Pm n):a.i.m (a.m b)=b:=by rw[← Pm.as,Pm.im,Pm.em]
def Pm.im2(a b:Pm n):(a.m b).i=b.i.m a.i:=by
 have h:(a.m b).m (b.i.m a.i)=Pm.e:=by rw[Pm.as,Pm.mim,Pm.mi]
 calc (a.m b).i=(a.m b).i.m ((a.m b).m (b.i.m a.i)):=by rw[h,Pm.me]
  _=b.i.m a.i:=Pm.imm _ _
def Pm.ie:(Pm.e:Pm n).i=Pm.e:=by rw[← Pm.em Pm.e.i,Pm.mi]
noncomputable def Pm.tb (a b:Pm n):Pm n:=(a.m b).m (a.i.m b.i)
noncomputable def Pm.ab (a s:Pm n):Pm n:=(s.i.m a).m s
def Pm.tb_l(a b c:Pm n):(a.m b).tb c=((b.tb c).ab a.i).m (a.tb c):=by
 simp[Pm.tb,Pm.ab,Pm.im2,Pm.ii,Pm.as,Pm.imm]
def Pm.tb_r(a b c:Pm n):a.tb (b.m c)=(a.tb b).m ((a.tb c).ab b.i):=by
 simp[Pm.tb,Pm.ab,Pm.im2,Pm.ii,Pm.as,Pm.imm]
def Pm.tb_e(a:Pm n):Pm.e.tb a=Pm.e:=by simp[Pm.tb,Pm.em,Pm.ie,Pm.mi]
def Pm.e_tb(a:Pm n):a.tb Pm.e=Pm.e:=by simp[Pm.tb,Pm.me,Pm.ie,Pm.mi]
def Pm.ab_m(a b s:Pm n):(a.m b).ab s=(a.ab s).m (b.ab s):=by
 simp[Pm.ab,Pm.as,Pm.mim]
def Pm.ab_ab(a s t:Pm n):a.ab (s.m t)=(a.ab s).ab t:=by simp[Pm.ab,Pm.im2,Pm.as]
def Pm.ab_e(a:Pm n):a.ab Pm.e=a:=by simp[Pm.ab,Pm.ie,Pm.em,Pm.me]
def Pm.e_ab(s:Pm n):Pm.e.ab s=Pm.e:=by simp[Pm.ab,Pm.me,Pm.im]
inductive Gen (S:Pm n->Prop):Pm n->Prop
 | e:Gen S Pm.e
 | more {x t:Pm n}:Gen S x->S t->Gen S (x.m t)
theorem Gen.mul{S}{x y:Pm n}(hx:Gen S x)(hy:Gen S y):Gen S (x.m y):=by
 induction hy with
 | e=>rw[Pm.me];exact hx
 | more _ ht ih=>rw[← Pm.as];exact ih.more ht
noncomputable def Pm.pow (a:Pm n):Nat->Pm n
 | 0=>Pm.e
 | k+1=>(a.pow k).m a
theorem Gen.pow{S}{x:Pm n}(hx:Gen S x):∀ k,Gen S (x.pow k)
 | 0=>.e
 | k+1=>(hx.pow k).mul hx
noncomputable def powL (n:Nat) (t:List Nat):Nat->List Nat
 | 0=>AI n
 | k+1=>thenL (powL n t k) t
theorem SQ(a:Pm n):∀ k,(a.pow k).1=powL n a.1 k
 | 0=>rfl
 | k+1=>by show thenL (a.pow k).1 a.1=_;rw[SQ a k];rfl
def eK(hn:n<=5):((turns n).all λt=>decide (powL n t 59=backL t))=true:=by
 rcases (show n=0\/n=1\/n=2\/n=3\/n=4\/n=5 by lia) with h | h | h | h | h | h <;> subst h <;> decide +kernel
def Gen.inv(hn:n<=5){S}{x:Pm n}(hx:Gen S x):Gen S x.i:=by
 have e:x.i=x.pow 59:=Cv (by rw[SQ];exact (of_decide_eq_true (AJ.mp (eK hn) x.1 (Lx x.2))).symm);rw[e];exact hx.pow 59
theorem Wl(hn:n<=5){S F}(hab:∀ f,F f->∀ s,S s->Gen F (f.ab s))(htb:∀ s t,S s->S t->Gen F (s.tb t)){a b:Pm n}(ha:Gen S a)(hb:Gen S b):Gen F (a.tb b):=by
 have c1:∀ s,S s->∀ {h},Gen F h->Gen F (h.ab s):=λs hs h hh=>by
  induction hh with
  | e=>rw[Pm.e_ab];exact .e
  | more _ ht ih=>rw[Pm.ab_m];exact ih.mul (hab _ ht s hs)
 have c2:∀ {g},Gen S g->∀ {h},Gen F h->Gen F (h.ab g):=λ{g} hg=>by
  induction hg with
  | e=>intro h hh;rw[Pm.ab_e];exact hh
  | more _ ht ih=>intro h hh;rw[Pm.ab_ab];exact c1 _ ht (ih hh)
 have c3:∀ t,S t->∀ {a},Gen S a->Gen F (a.tb t):=λt ht a ha=>by
  induction ha with
  | e=>rw[Pm.tb_e];exact .e
  | more hx hs ih=>rw[Pm.tb_l];exact (c2 (hx.inv hn) (htb _ _ hs ht)).mul ih
 induction hb with
 | e=>rw[Pm.e_tb];exact .e
 | more hy hs ih=>rw[Pm.tb_r];exact ih.mul (c2 (hy.inv hn) (c3 _ hs ha))
def NH(ht:∀ t∈ts,IsT n t) x:Rch n ts x.1 ↔ Gen (λt:Pm n=>t.1∈ts) x:=by
 constructor
 ·intro h;have:∀ {y:List Nat},Rch n ts y->∀ hy,Gen (λt=>t.1∈ts) ⟨y,hy⟩:=λ{y} h=>by
   induction h with
   | still=>intro _;exact .e
   | more hx hm ih=>intro _;exact (ih (hx.isT ht)).more (t:=⟨_,ht _ hm⟩) hm
  exact this h x.2
 ·intro h;induction h with
  | e=>exact .still
  | more _ hm ih=>exact ih.more hm
end
noncomputable def tbL (a b:List Nat):List Nat:=thenL (thenL a b) (thenL (backL a) (backL b))
def Mf(ha:IsT n a)(hb:IsT n b):IsT n (tbL a b):=Lj (Lj ha hb) (Lj (LX ha) (LX hb))
theorem Rch.mul(ht:∀ t∈ts,IsT n t)(hx:Rch n ts x)(hy:Rch n ts y):Rch n ts (thenL x y):=by
 induction hy with
 | still=>rw[UH (hx.isT ht)];exact hx
 | more hy' hm ih=>rw[← Q0 (hx.isT ht) (hy'.isT ht) (ht _ hm)];exact ih.more hm
theorem Rch.sub(hu:∀ t∈us,IsT n t)(h:∀ t∈ts,Rch n us t)(hx:Rch n ts x):Rch n us x:=by
 induction hx with
 | still=>exact .still
 | more _ hm ih=>exact ih.mul hu (h _ hm)
def Rch.one(ht:∀ t∈ts,IsT n t)(h:t∈ts):Rch n ts t:=by
 have:=(Rch.still (n:=n)).more h;rwa [QB (ht t h)]at this
noncomputable def dctB (X:List (List Nat)):List (List Key×T):=X.map λt=>(keyN t,.a (.bl true))
def j5(h:t∉X)(hl:X.length < AD):putX [] (.inr (dctB X)) (tuT t) (.a (.bl true))=some (.inr (dctB (X++[t]))):=by
 show (keyTs (tvT t)).bind _=_;rw[Mm];have:(dctB X).length < AD:=by simpa [dctB] using hl
 have e:putT (dctB X) (keyN t) (.a (.bl true))=dctB (X++[t]):=by
  unfold putT;have:((dctB X).any λkv=>decide (kv.1=keyN t))=false:=by
   rw[List.any_eq_false];intro kv hkv;obtain⟨u,hu,rfl⟩:=Aq.mp hkv;simp;exact λe=>h (QE e ▸ hu)
  rw[this];simp[dctB]
 rw[← e];simp[this]
def bW X:keysT (dctB X)=X.map tuT:=by
 simp only[keysT,dctB,FJ];refine DY λp _=>?_
 simp[keyTup,keyN,kV,Hx]
def M7 n t (h:IsT n t) (hn:n<=5):F_14 [.v (tuT t)]=some (.v (tuT (backL t)),[]):=by
 obtain⟨o',e⟩:=Nf (λ(i:Nat)=>iT i) (λi=>iT (t.idxOf i)) (de:=Nq) (R:=[~~~(tuT t)]) (AI n) (λi hi=>by
  simp[Nq,Pv t,RN t,(Q2 (h.mem (show i < n by simpa using hi))),flatV]) none
 simp[F_14,fnD,d_14,h.len,L6 n ⋯,(OB n),e,backL]
noncomputable def addX (X:List (List Nat)) (t:List Nat):List (List Nat):=if t∈X then X else X++[t]
def SR:x∈addX X t ↔ x∈X\/x=t:=by
 unfold addX;split
 ·simp_all
 ·simp
def Qz(h:X.Nodup):(addX X t).Nodup:=by
 unfold addX;split
 ·exact h
 ·rename_i hm;rw[Hw];exact⟨h,by simp,λx hx y hy e=>hm (by rw[AC.mp hy]at e;exact e ▸ hx)⟩
def fP(hl:X.length < AD):putX [] (.inr (dctB X)) (tuT t) (.a (.bl true))=some (.inr (dctB (addX X t))):=by
 unfold addX;split
 ·rename_i h;show (keyTs (tvT t)).bind _=_;rw[Mm];have l:(dctB X).length < AD:=by simpa [dctB] using hl
  have e:putT (dctB X) (keyN t) (.a (.bl true))=dctB X:=by
   unfold putT;have:((dctB X).any λkv=>decide (kv.1=keyN t))=true:=B8.mpr ⟨(keyN t,.a (.bl true)),Aq.mpr ⟨t,h,rfl⟩,by simp⟩;rw[if_pos this];have:∀ kv∈dctB X,(if kv.1=keyN t then (kv.1,(.a (.bl true))) else kv)=id kv:=λkv hkv=>by
    obtain⟨u,hu,rfl⟩:=Aq.mp hkv;split <;> rfl
   rw[DY this,List.map_id]
  simp[e,l]
 ·rename_i h;exact j5 h hl
def Wc n (hn:n<=5) a b (ha:IsT n a) (hb:IsT n b):F_15 [.v (tuT a),.v (tuT b)]=some (.v (tuT (tbL a b)),[]):=by
 have e2:=M7 n a ha hn;have e3:=M7 n b hb hn;have e5:=MZ n _ _ (Lj ha hb) (Lj (LX ha) (LX hb)) hn;unfold tbL;simp[F_15,fnD,d_15,(MZ n a b ha hb hn),e2,e3,(MZ n _ _ (LX ha) (LX hb) hn),e5]
theorem kA n (hn:n<=5) a (ha:IsT n a) c zv:∀ (us X:List (List Nat)) o4,(∀ u∈us,IsT n u)->X.Nodup->(∀ x∈X,IsT n x)->∃ o4',
  forD (gdName 4) Ny (us.map tuT) [c,zv,some (.d (.inr (dctB X))),~~~(tuT a),o4]=↥([c,zv,some (.d (.inr (dctB (us.foldl (λX b=>addX X (tbL a b)) X)))),~~~(tuT a),o4']):=by
 intro us;induction us with
 | nil=>intro X o4 _ _ _;exact⟨o4,by rw[CH];rfl⟩
 | cons b r ih =>
  intro X o4 hu nd hX;have hb:=hu b AG;have e1:=Wc n hn a b ha hb;have hl:=N8 hn nd hX;obtain⟨p4,e2⟩:=ih (addX X (tbL a b)) (~~~(tuT b)) (λu h=>hu u (AH _ h)) (Qz nd) (λx hx=>(SR.mp hx).elim (hX x) λe=>e ▸ Mf ha hb);refine⟨p4,?_⟩;have turn:Ny [c,zv,some (.d (.inr (dctB X))),~~~(tuT a),~~~(tuT b)]=↥([c,zv,some (.d (.inr (dctB (addX X (tbL a b))))),~~~(tuT a),~~~(tuT b)]):=by
   generalize tuT a=R1 at *;generalize tuT b=R2 at *;simp[Ny,e1,(fP (X:=X) (MF ⋯))]
  rw[Ad,L8 ↥1 turn];exact e2
theorem Rn a:∀ (us X:List (List Nat)) x,x∈us.foldl (λX b=>addX X (tbL a b)) X ↔ x∈X\/∃ b∈us,x=tbL a b
 | [],X,x=>by simp
 | b::r,X,x=>by
  rw[EL,Rn a r,SR];simp[ or_assoc]
theorem Qw a:∀ (us X:List (List Nat)),X.Nodup->(us.foldl (λX b=>addX X (tbL a b)) X).Nodup
 | [],X,h=>h
 | b::r,X,h=>Qw a r _ (Qz h)
theorem i6 n (hn:n<=5) (Z:List (List Nat)) (hz:∀ u∈Z,IsT n u) (hl:Z.length<=120) c:∀ (us X:List (List Nat)) o3 o4,(∀ u∈us,IsT n u)->X.Nodup->(∀ x∈X,IsT n x)->∃ Y o3' o4',Y.Nodup/\(∀ x,x∈Y ↔ x∈X\/∃ a∈us,∃ b∈Z,x=tbL a b) /\
  forD (gdName 3) OK (us.map tuT) [c,~~~(.t (Z.map tuT)),some (.d (.inr (dctB X))),o3,o4]=↥([c,~~~(.t (Z.map tuT)),some (.d (.inr (dctB Y))),o3',o4']):=by
 intro us;induction us with
 | nil=>intro X o3 o4 _ nd _;exact⟨X,o3,o4,nd,by simp,by rw[CH,MV]⟩
 | cons a r ih =>
  intro X o3 o4 hu nd hX;have ha:=hu a AG;obtain⟨p4,e1⟩:=kA n hn a ha c (~~~(.t (Z.map tuT))) Z X o4 hz nd hX;have nd1:=Qw a Z X nd;have m1:=Rn a Z X;generalize Z.foldl (λX b=>addX X (tbL a b)) X=X1 at *;obtain⟨Y,q3,q4,ndY,hY,e2⟩:=ih X1 (~~~(tuT a)) p4 (λu h=>hu u (AH _ h)) nd1 (λx hx=>((m1 x).mp hx).elim (hX x) λ⟨b,hb,e⟩=>e ▸ Mf ha (hz b hb));refine⟨Y,q3,q4,ndY,λx=>?_,?_⟩
  ·rw[hY,m1];simp[ or_assoc]
  ·have g:Z.length<=AD:=LI ⋯;have turn:OK [c,~~~(.t (Z.map tuT)),some (.d (.inr (dctB X))),~~~(tuT a),o4]=↥([c,~~~(.t (Z.map tuT)),some (.d (.inr (dctB X1))),~~~(tuT a),p4]):=by
    simp[OK,gd,g,e1]
   rw[Ad,L8 ↥1 turn];exact e2
def fD n (hn:n<=5) (Z:List (List Nat)) (hz:∀ u∈Z,IsT n u) (hl:Z.length<=120):∃ W Y,(∀ x,x∈W ↔ ∃ a∈Z,∃ b∈Z,x=tbL a b)/\Grp n W Y/\F_16 [.v (iT n),.v (.t (Z.map tuT))]=some (.v (.t (Y.map tuT)),[]):=by
 obtain⟨W,o3,o4,nd,hW,e1⟩:=i6 n hn Z hz hl (~~~(iT n)) Z [] none none hz .nil (λx hx=>nomatch hx);have hWT:∀ w∈W,IsT n w:=λw hw=>by
  rcases (hW w).mp hw with h | ⟨a,ha,b,hb,rfl⟩
  ·cases h
  ·exact Mf (hz a ha) (hz b hb)
 obtain⟨Y,hY,e2⟩:=Ov n hn W (by have:=N8 hn nd hWT;lia) hWT;refine⟨W,Y,λx=>by simpa using hW x,hY,?_⟩;have g:Z.length<=AD:=LI ⋯;have d0:dctB []=[]:=rfl;rw[d0]at e1;simp[F_16,fnD,d_16,gd,g,e1,(bW W),e2]
noncomputable def dgC (y j:Nat):Nat:=y / 8 ^ j % 8
noncomputable def mulC (x y:Nat):Nat:=dgC y (dgC x 0)+8 * dgC y (dgC x 1)+64 * dgC y (dgC x 2)+512 * dgC y (dgC x 3)+4096 * dgC y (dgC x 4)
noncomputable def invC (x:Nat):Nat:=8 ^ dgC x 1+2 * 8 ^ dgC x 2+3 * 8 ^ dgC x 3+4 * 8 ^ dgC x 4
noncomputable def tbC (x y:Nat):Nat:=mulC (mulC x y) (mulC (invC x) (invC y))
noncomputable def encC:List Nat->Nat
 | [a,b,c,d,e]=>a+8 * b+64 * c+512 * d+4096 * e
 | _=>0
noncomputable def hC (x:Nat):Nat:=x % 151
noncomputable def addC (x:Nat):List Nat->List Nat×Nat->List Nat×Nat
 | [],s=>s
 | g::gs,s=>addC x gs (if s.2.testBit (hC (mulC x g)) then s else (mulC x g::s.1,s.2 ||| 1 <<< hC (mulC x g)))
noncomputable def cloF (gs:List Nat):Nat->List Nat×Nat->Nat
 | 0,s=>s.2
 | f+1,s=>match s.1 with
  | []=>s.2
  | x::r=>cloF gs f (addC x gs (r,s.2))
noncomputable def cloC (gs:List Nat):Nat:=cloF gs 61 ([18056],1 <<< hC 18056)
noncomputable def A5c:List Nat:=[18056,10440,13576,14416,17104,5904,17496,6296,8984,9824,12960,5344,14465,17601,9985,17937,2257,12561,10265,16537,1305,13345,1697,8417,17986,6338,13058,14346,16586,1802,16922,2138,4378,5666,12386,738,10307,17027,5379,17419,2187,8459,6163,16467,787,8739,1123,4259,13380,5764,8900,9740,12428,1228,12820,1620,4308,5148,8284,668]
noncomputable def R31:List Nat:=[10440,14416,17104,5904,6296,8984,5344,14465,17601,9985,17937,2257,12561,10265,16537,1305,13345,1697,8417,14346,16586,1802,16922,5666,2187,8459,16467,4259,1228,1620,668]
noncomputable def MA:Nat:=1982271597707175918497259903353675922372478746
noncomputable def Ms21:List (Nat×List Nat):=[(176989366135318092298836660778220619072000,[10440,14416]),(174225901091516471637251841152793560219648,[10440,14465]),(2961987862863309010044451795838781629661194,[10440,14346]),(1993841993832118675449624559605645314,[14416,14465]),(356811923176489970459820188013581068826312712,[14416,17601]),(178407322717712669040884465917645782825567232,[14416,9985]),(1298074369388017734082701301907712,[14416,2187]),(2893106271200931406358775571593583265024,[17104,17601]),(2722260233441877083937261410885324242944,[17104,1228]),(2787593815728400155206133827323031471161856,[5904,9985]),(154742504910672536509907720,[5904,8459]),(43906102800744763929740081298721996800,[6296,14465]),(42535336430091862204083153672423343106,[6296,14346]),(87113620352072852522699750267293786964224,[8984,14465]),(21778072781014469761272952212434534285314,[8984,17601]),(41538375023361136325683119452061704,[8984,9985]),(2787593149816328047547824937086524745319424,[8984,1802]),(5575198263982850675328026625366730735617048,[5344,14465]),(193428131714801489044045824,[5344,17601]),(1438403509823095932750971923654936685399507202,[5344,9985]),(170141183460624578700102258717794238464,[5344,16586])]
noncomputable def inM (c m:Nat):Bool:=c &&& m == m
noncomputable def pwC (r:Nat):List Nat:=[r,mulC r r,mulC (mulC r r) r,mulC (mulC (mulC r r) r) r]
def blk{α:Type}(l:List α) b m (hb:0 < b) (hl:l.length<=b * m) {x} (hx:x∈l):∃ i,i < m/\x∈(l.drop (b * i)).take b:=by
 obtain⟨k,hk,rfl⟩:=CN hx;have h1:k / b < m:=Nat.div_lt_of_lt_mul ⋯;have h2:k % b < b:=Kd _ hb;have h3:b * (k / b)+k % b=k:=Nat.div_add_mod _ _;refine⟨k / b,h1,List.mem_iff_getElem?.mpr ⟨k % b,?_⟩⟩;rw[Ds h2,HW,h3,AY hk]
def O2{α:Type}{l:List α}{P} b m (hb:0 < b) (hl:l.length<=b * m) (h:∀ i,i < m->((l.drop (b * i)).take b).all P=true):l.all P=true:=AJ.mpr λx hx=>by
 obtain⟨i,hi,hm⟩:=blk l b m hb hl hx;exact AJ.mp (h i hi) x hm
noncomputable def C120:List Nat:=(turns 5).map encC
noncomputable abbrev p2 (x:Nat):Bool:=C120.all λy=>A5c.contains (tbC x y)
noncomputable abbrev p5 (r:Nat):Bool:=R31.all λs=>decide (s<=r) || tbC r s == 18056 || inM (cloC [r,s]) MA || Ms21.any λp=>inM (cloC [r,s]) p.1
noncomputable abbrev p6 (p:Nat×List Nat):Bool:=R31.all λr=>p.1.testBit (hC r) || inM (cloC (r::p.2)) MA
abbrev Lh(i:Nat):Prop:=((C120.drop i).take 8).all p2=true
def VR:Lh 0:=↥4
def Xx:Lh 8:=↥4
def ar:Lh 16:=↥4
def YH:Lh 24:=↥4
def VU:Lh 32:=↥4
def Zr:Lh 40:=↥4
def kK:Lh 48:=↥4
def j9:Lh 56:=↥4
def aA:Lh 64:=↥4
def Xw:Lh 72:=↥4
def VY:Lh 80:=↥4
def f9:Lh 88:=↥4
def fQ:Lh 96:=↥4
def iD:Lh 104:=↥4
def Yr:Lh 112:=↥4
theorem kC2:C120.all p2=true:=O2 8 15 ∅ ↥4 λi hi=>by
 match i,hi with
 | 0,_=>exact VR
 | 1,_=>exact Xx
 | 2,_=>exact ar
 | 3,_=>exact YH
 | 4,_=>exact VU
 | 5,_=>exact Zr
 | 6,_=>exact kK
 | 7,_=>exact j9
 | 8,_=>exact aA
 | 9,_=>exact Xw
 | 10,_=>exact VY
 | 11,_=>exact f9
 | 12,_=>exact fQ
 | 13,_=>exact iD
 | 14,_=>exact Yr
abbrev MU(i:Nat):Prop:=((R31.drop i).take 4).all p5=true
def eO:MU 0:=↥4
def YW:MU 4:=↥4
def bz:MU 8:=↥4
def iq:MU 12:=↥4
def fW:MU 16:=↥4
def W9:MU 20:=↥4
def Xs:MU 24:=↥4
def XN:MU 28:=↥4
theorem kC5:R31.all p5=true:=O2 4 8 ∅ ↥4 λi hi=>by
 match i,hi with
 | 0,_=>exact eO
 | 1,_=>exact YW
 | 2,_=>exact bz
 | 3,_=>exact iq
 | 4,_=>exact fW
 | 5,_=>exact W9
 | 6,_=>exact Xs
 | 7,_=>exact XN
abbrev LO(i:Nat):Prop:=((Ms21.drop i).take 1).all p6=true
def iV:LO 0:=↥4
def Vi:LO 1:=↥4
def dA:LO 2:=↥4
def Xp:LO 3:=↥4
def WB:LO 4:=↥4
def gB:LO 5:=↥4
def bO:LO 6:=↥4
def fm:LO 7:=↥4
def bQ:LO 8:=↥4
def Yu:LO 9:=↥4
def WJ:LO 10:=↥4
def gO:LO 11:=↥4
def Vg:LO 12:=↥4
def gi:LO 13:=↥4
def ag:LO 14:=↥4
def dw:LO 15:=↥4
def Zu:LO 16:=↥4
def ZM:LO 17:=↥4
def gL:LO 18:=↥4
def kL:LO 19:=↥4
def iO:LO 20:=↥4
theorem kC6:Ms21.all p6=true:=O2 1 21 ∅ ↥4 λi hi=>by
 match i,hi with
 | 0,_=>exact iV
 | 1,_=>exact Vi
 | 2,_=>exact dA
 | 3,_=>exact Xp
 | 4,_=>exact WB
 | 5,_=>exact gB
 | 6,_=>exact bO
 | 7,_=>exact fm
 | 8,_=>exact bQ
 | 9,_=>exact Yu
 | 10,_=>exact WJ
 | 11,_=>exact gO
 | 12,_=>exact Vg
 | 13,_=>exact gi
 | 14,_=>exact ag
 | 15,_=>exact dw
 | 16,_=>exact Zu
 | 17,_=>exact ZM
 | 18,_=>exact gL
 | 19,_=>exact kL
 | 20,_=>exact iO
 | _+21,h=>exact absurd h ⋯
def kC1:(A5c.all λa=>A5c.all λb=>hC a != hC b || a == b)=true:=↥4
def kC3:(A5c.all λa=>a == 18056 || R31.any λr=>(pwC a).contains r && (pwC r).contains a)=true:=↥4
def kC4:(R31.all λr=>R31.all λs=>tbC r s != 18056 || (pwC r).all λa=>(pwC s).all λb=>tbC a b == 18056)=true:=↥4
def kC7:(Ms21.all λp=>(p.2.all λg=>A5c.contains g && p.1.testBit (hC g)) && p.1.testBit (hC 18056) && R31.all λr=>!p.1.testBit (hC r) || (pwC r).all λa=>p.1.testBit (hC a))=true:=↥4
def kC9:(Ms21.all λp=>((A5c.filter λa=>p.1.testBit (hC a)).flatMap λa=>(A5c.filter λa=>p.1.testBit (hC a)).map (tbC a)).eraseDups.all λx=>((A5c.filter λa=>p.1.testBit (hC a)).flatMap λa=>(A5c.filter λa=>p.1.testBit (hC a)).map (tbC a)).eraseDups.all λy=>tbC x y == 18056)=true:=↥4
def kC10:(inM (cloC [tbC 10440 14416,tbC 10440 16922]) MA && A5c.contains 10440 && A5c.contains 14416 && A5c.contains 16922 && A5c.all λa=>MA.testBit (hC a))=true:=↥4
def kC11:((turns 5).all λt=>encC (backL t) == invC (encC t))=true:=↥4
def kC12:(R31.all λr=>R31.all λs=>(tbC r s == 18056) == (tbC s r == 18056) && (r != s || tbC r s == 18056))=true:=↥4
theorem isT5(h:IsT 5 t):∃ a b c d e,t=[a,b,c,d,e]/\a < 5/\b < 5/\c < 5/\d < 5/\e < 5:=by
 match t,h.len,h.lt with
 | [a,b,c,d,e],_,l=>exact⟨a,b,c,d,e,rfl,l a ↥1,l b ↥1,l c ↥1,l d ↥1,l e ↥1⟩
def L9(h:IsT 5 t)(hj:j < 5):dgC (encC t) j=t.getD j 0:=by
 obtain⟨a,b,c,d,e,rfl,h0,h1,h2,h3,h4⟩:=isT5 h;rcases (show j=0\/j=1\/j=2\/j=3\/j=4 by lia) with rfl | rfl | rfl | rfl | rfl <;> simp[dgC,encC] <;> omega
def NQ(ha:IsT 5 a)(hb:IsT 5 b):encC (thenL a b)=mulC (encC a) (encC b):=by
 have e0:=L9 ha (show 0 < 5 by decide);have e1:=L9 ha (show 1 < 5 by decide);unfold mulC;rw[e0,e1,(L9 ha (show 2 < 5 by decide)),(L9 ha (show 3 < 5 by decide)),(L9 ha (show 4 < 5 by decide))];obtain⟨p,q,r,s,t,rfl,h0,h1,h2,h3,h4⟩:=isT5 ha;show encC [b.getD p 0,b.getD q 0,b.getD r 0,b.getD s 0,b.getD t 0]=dgC (encC b) p+8 * dgC (encC b) q+64 * dgC (encC b) r+512 * dgC (encC b) s+4096 * dgC (encC b) t;rw[L9 hb h0,L9 hb h1,L9 hb h2,L9 hb h3,L9 hb h4];rfl
def Pe(ha:IsT 5 a)(hb:IsT 5 b)(h:encC a=encC b):a=b:=by
 obtain⟨p,q,r,s,t,rfl,h0,h1,h2,h3,h4⟩:=isT5 ha;obtain⟨p',q',r',s',t',rfl,h0',h1',h2',h3',h4'⟩:=isT5 hb;simp[encC]at h
 grind
def Sr(ha:IsT 5 a):encC (backL a)=invC (encC a):=beq_iff_eq.mp (AJ.mp kC11 a (Lx ha))
def NG(ha:IsT 5 a)(hb:IsT 5 b):encC (tbL a b)=tbC (encC a) (encC b):=by
 unfold tbL tbC;rw[NQ (Lj ha hb) (Lj (LX ha) (LX hb)),NQ ha hb,NQ (LX ha) (LX hb),Sr ha,Sr hb]
def OO:encC (AI 5)=18056:=rfl
def UE(ha:IsT 5 a)(hb:IsT 5 b)(h:tbC (encC a) (encC b)=18056):tbL a b=AI 5:=Pe (Mf ha hb) (MN 5) (by rw[NG ha hb,h,OO])
structure H5(Z:List (List Nat)):Prop where
 tr:∀ z∈Z,IsT 5 z
 ev:∀ z∈Z,encC z∈A5c
 st:AI 5∈Z
 mul:∀ a∈Z,∀ b∈Z,thenL a b∈Z
def PC (Z:List (List Nat)) (y:Nat):Prop:=∃ t∈Z,encC t=y
def Qm(hc:inM c m=true)(hi:m.testBit i=true):c.testBit i=true:=by
 have:=congrArg (λx=>Nat.testBit x i) (beq_iff_eq.mp hc);simp[ hi]at this;exact this
def YL(hm:m∈A5c):MA.testBit (hC m)=true:=by
 have:=kC10;simp only[Ar]at this;exact AJ.mp this.2 m hm
section
variable {Z:List (List Nat)}(h:H5 Z)
include h
theorem PC.mul(hx:PC Z x)(hy:PC Z y):PC Z (mulC x y):=by
 obtain⟨a,ha,rfl⟩:=hx;obtain⟨b,hb,rfl⟩:=hy;exact⟨_,h.mul a ha b hb,NQ (h.tr a ha) (h.tr b hb)⟩
def PC.pw(hr:PC Z r):∀ a∈pwC r,PC Z a:=by
 have h2:=PC.mul h hr hr;have h3:=PC.mul h h2 hr;intro a ha;simp[pwC,or_false]at ha;rcases ha with rfl | rfl | rfl | rfl
 ·exact hr
 ·exact h2
 ·exact h3
 ·exact (PC.mul h h3 hr)
def PC.inA(hy:PC Z y):y∈A5c:=by obtain⟨a,ha,rfl⟩:=hy;exact h.ev a ha
theorem UR(hx:PC Z x):∀ gs s,(∀ g∈gs,PC Z g)->((∀ y∈s.1,PC Z y)/\∀ i,s.2.testBit i=true->∃ y,PC Z y/\hC y=i)->((∀ y∈(addC x gs s).1,PC Z y)/\∀ i,(addC x gs s).2.testBit i=true->∃ y,PC Z y/\hC y=i)
 | [],s,_,hs=>hs
 | g::gs,s,hg,hs=>by
  have hp:=PC.mul h hx (hg g AG);unfold addC;refine UR hx gs _ (λz hz=>hg z (AH _ hz)) ?_;split
  ·exact hs
  ·refine⟨λy hy=>?_,λi hi=>?_⟩
   ·rcases AN.mp hy with e | e
    ·rw[e];exact hp
    ·exact hs.1 y e
   ·rw[Nat.testBit_or,CZ,IE,HX]at hi;rcases hi with z | z
    ·exact hs.2 i z
    ·exact⟨_,hp,of_decide_eq_true z⟩
theorem Tv gs (hg:∀ g∈gs,PC Z g):∀ f s,((∀ y∈s.1,PC Z y)/\∀ i,s.2.testBit i=true->∃ y,PC Z y/\hC y=i)->∀ i,(cloF gs f s).testBit i=true->∃ y,PC Z y/\hC y=i
 | 0,s,hs=>hs.2
 | f+1,([],m),hs=>hs.2
 | f+1,(x::r,m),hs=>Tv gs hg f _ (UR h (hs.1 x AG) gs (r,m) hg ⟨λy hy=>hs.1 y (AH _ hy),hs.2⟩)
def RV(hg:∀ g∈gs,PC Z g)(hm:m∈A5c)(hb:(cloC gs).testBit (hC m)=true):PC Z m:=by
 have he:PC Z 18056:=⟨_,h.st,OO⟩
 obtain⟨y,hy,e⟩:=Tv h gs hg 61 ([18056],1 <<< hC 18056) ⟨λy hy=>AC.mp hy ▸ he,λi hi=>by rw[IE,HX]at hi;exact⟨_,he,of_decide_eq_true hi⟩⟩ _ hb;have:=AJ.mp (AJ.mp kC1 y (PC.inA h hy)) m hm;simp at this;rcases this with z | z
 ·exact absurd e z
 ·exact z ▸ hy
def QP(hg:∀ g∈gs,PC Z g)(hf:inM (cloC gs) MA=true):∀ m∈A5c,PC Z m:=λm hm=>RV h hg hm (Qm hf (YL hm))
def Pa(ha:a∈Z):a=AI 5\/∃ r∈R31,PC Z r/\encC a∈pwC r:=by
 have:=AJ.mp kC3 _ (h.ev a ha);rw[CZ,beq_iff_eq,B8]at this;rcases this with z | ⟨r,hr,z⟩
 ·exact .inl (Pe (h.tr a ha) (MN 5) (z.trans OO.symm))
 ·simp at z;exact .inr ⟨r,hr,PC.pw h ⟨a,ha,rfl⟩ r z.1,z.2⟩
def UX(hr:r∈R31)(hs:s∈R31)(pr:PC Z r)(ps:PC Z s)(hlt:r < s)(hn:tbC r s≠18056):(∀ m∈A5c,PC Z m)\/∃ p∈Ms21,∀ m∈A5c,p.1.testBit (hC m)=true->PC Z m:=by
 have k5:=AJ.mp (AJ.mp kC5 r hr) s hs;simp only[CZ,decide_eq_true_eq,beq_iff_eq,B8]at k5;have hg:∀ g∈[r,s],PC Z g:=λg hg=>by
  rcases AN.mp hg with z | z
  ·rw[z];exact pr
  ·rw[AC.mp z];exact ps
 rcases k5 with ((z | z) | z) | ⟨p,hp,z⟩
 ·lia
 ·exact absurd z hn
 ·exact .inl (QP h hg z)
 ·exact .inr ⟨p,hp,λm hm hb=>RV h hg hm (Qm z hb)⟩
def X0:(∀ a∈Z,∀ b∈Z,tbL a b=AI 5)\/(∀ m∈A5c,PC Z m)\/∀ a∈Z,∀ b∈Z,∀ c∈Z,∀ d∈Z,tbL (tbL a b) (tbL c d)=AI 5:=by
 by_cases hc:∃ r∈R31,∃ s∈R31,PC Z r/\PC Z s/\tbC r s≠18056
 ·obtain⟨r,hr,s,hs,pr,ps,hn⟩:=hc;have k12:=AJ.mp (AJ.mp kC12 r hr) s hs;rw[Ar,beq_iff_eq,CZ,bne_iff_ne,beq_iff_eq]at k12;have hn':tbC s r≠18056:=λz=>hn (by
   have:=k12.1;rw[beq_iff_eq.mpr z]at this;exact beq_iff_eq.mp this)
  have:(∀ m∈A5c,PC Z m)\/∃ p∈Ms21,∀ m∈A5c,p.1.testBit (hC m)=true->PC Z m:=by
   rcases Hv (k12.2.resolve_right hn) with z | z
   ·exact UX h hr hs pr ps z hn
   ·exact UX h hs hr ps pr z hn'
  rcases this with z | ⟨p,hp,hM⟩
  ·exact .inr (.inl z)
  ·have k7:=AJ.mp kC7 p hp;rw[Ar,Ar]at k7;obtain⟨⟨k7g,k7e⟩,k7r⟩:=k7;by_cases hz:∃ q∈R31,PC Z q/\¬ p.1.testBit (hC q)=true
   ·obtain⟨q,hq,pq,hb⟩:=hz;have k6:=AJ.mp (AJ.mp kC6 p hp) q hq;rw[CZ]at k6;refine .inr (.inl (QP h (λg hg=>?_) (k6.resolve_left hb)));rcases AN.mp hg with e | e
    ·rw[e];exact pq
    ·have:=AJ.mp k7g g e;rw[Ar,DG]at this;exact hM g this.1 this.2
   ·have inm:∀ z∈Z,encC z∈A5c.filter λa=>p.1.testBit (hC a):=λz hzm=>by
     refine Bm.mpr ⟨h.ev z hzm,?_⟩;rcases Pa h hzm with e | ⟨q,hq,pq,hm⟩
     ·rw[e];exact k7e
     ·have hb:=DZ λw=>hz ⟨q,hq,pq,w⟩
      have:=AJ.mp k7r q hq;rw[hb]at this;exact AJ.mp this _ hm
    refine .inr (.inr λa ha b hb c hc d hd=>?_);have mem:∀ x∈Z,∀ y∈Z,tbC (encC x) (encC y)∈((A5c.filter λa=>p.1.testBit (hC a)).flatMap λa=>(A5c.filter λa=>p.1.testBit (hC a)).map (tbC a)).eraseDups:=λx hx y hy =>
     List.mem_eraseDups.mpr (FV.mpr ⟨_,inm x hx,Aq.mpr ⟨_,inm y hy,rfl⟩⟩)
    have:=beq_iff_eq.mp (AJ.mp (AJ.mp (AJ.mp kC9 p hp) _ (mem a ha b hb)) _ (mem c hc d hd));refine UE (Mf (h.tr a ha) (h.tr b hb)) (Mf (h.tr c hc) (h.tr d hd)) ?_;rw[NG (h.tr a ha) (h.tr b hb),NG (h.tr c hc) (h.tr d hd)];exact this
 ·refine .inl λa ha b hb=>?_
  have ta:=h.tr a ha;have tb:=h.tr b hb;rcases Pa h ha with e | ⟨r,hr,pr,hm⟩
  ·subst e;exact congrArg FM (Pm.tb_e ⟨b,tb⟩)
  ·rcases Pa h hb with e | ⟨s,hs,ps,hm'⟩
   ·subst e;exact congrArg FM (Pm.e_tb ⟨a,ta⟩)
   ·have k4:=AJ.mp (AJ.mp kC4 r hr) s hs;rw[(DZ λw=>hc ⟨r,hr,s,hs,pr,ps,w⟩)]at k4;have k4':((pwC r).all λa=>(pwC s).all λb=>tbC a b == 18056)=true:=by simpa using k4
    exact UE ta tb (beq_iff_eq.mp (AJ.mp (AJ.mp k4' _ hm) _ hm'))
end
theorem XZ(h:Gen (λ_=>False) x):x=Pm.e:=by
 cases h with
 | e=>rfl
 | more _ hf=>exact hf.elim
def Der (Z Y:List (List Nat)):Prop:=∃ W,(∀ x,x∈W ↔ ∃ a∈Z,∃ b∈Z,x=tbL a b)/\Grp 5 W Y
def Full (Z:List (List Nat)):Prop:=∀ m∈A5c,PC Z m
def Nt{Z W:List (List Nat)}(h1:∀ z∈Z,IsT 5 z)(hW:∀ x,x∈W ↔ ∃ a∈Z,∃ b∈Z,x=tbL a b):∀ w∈W,IsT 5 w/\encC w∈A5c:=λw hw=>by
 obtain⟨a,ha,b,hb,rfl⟩:=(hW w).mp hw;refine⟨Mf (h1 a ha) (h1 b hb),?_⟩;rw[NG (h1 a ha) (h1 b hb)];exact DG.mp (AJ.mp (AJ.mp kC2 _ (Aq.mpr ⟨a,Lx (h1 a ha),rfl⟩)) _ (Aq.mpr ⟨b,Lx (h1 b hb),rfl⟩))
def kC13:(A5c.all λx=>A5c.all λy=>A5c.contains (mulC x y))=true:=↥4
def kD(hx:x∈A5c)(hy:y∈A5c):mulC x y∈A5c:=DG.mp (AJ.mp (AJ.mp kC13 _ hx) _ hy)
def kT{W Z}(hW:∀ w∈W,IsT 5 w/\encC w∈A5c)(g:Grp 5 W Z):H5 Z where
 tr:=λz hz=>((g.mem z).mp hz).isT λw hw=>(hW w hw).1
 ev:=λz hz=>by
  induction ((g.mem z).mp hz) with
  | still=>rw[OO];decide +kernel
  | more hx hm ih =>
   rw[NQ (hx.isT λw hw=>(hW w hw).1) (hW _ hm).1];exact kD (ih ((g.mem _).mpr hx)) (hW _ hm).2
 st:=(g.mem _).mpr .still
 mul:=λa ha b hb=>(g.mem _).mpr (((g.mem a).mp ha).mul (λw hw=>(hW w hw).1) ((g.mem b).mp hb))
def Der.h5(h:∀ z∈Z,IsT 5 z)(d:Der Z Y):H5 Y:=let ⟨_,hW,g⟩:=d;kT (Nt h hW) g
def Der.full(h:∀ z∈Z,IsT 5 z)(f:Full Z)(d:Der Z Y):Full Y:=by
 have H2:=d.h5 h;obtain⟨W,hW,g⟩:=d;have k10:=kC10;simp at k10;obtain⟨⟨⟨⟨ka,kb⟩,kc⟩,kd⟩,_⟩:=k10;have pt:∀ x y,x∈A5c->y∈A5c->PC Y (tbC x y):=λx y hx hy=>by
  obtain⟨a,ha,rfl⟩:=f x hx;obtain⟨b,hb,rfl⟩:=f y hy;exact⟨tbL a b,(g.mem _).mpr (Rch.one (λw hw=>(Nt h hW w hw).1) ((hW _).mpr ⟨a,ha,b,hb,rfl⟩)),NG (h a ha) (h b hb)⟩
 exact QP H2 (λg hg=>by
  rcases AN.mp hg with z | z
  ·rw[z];exact pt _ _ kb kc
  ·rw[AC.mp z];exact pt _ _ kb kd) ka
def PC.mem(h:∀ z∈Z,IsT 5 z)(ht:IsT 5 t)(p:PC Z (encC t)):t∈Z:=by
 obtain⟨a,ha,e⟩:=p;rw[← Pe (h a ha) ht e];exact ha
def Der.fix(sz:Z.Pairwise lexN)(H:H5 Z)(f:Full Z)(d:Der Z Y):Y=Z:=by
 have H2:=d.h5 H.tr;have f2:=d.full H.tr f;obtain⟨W,hW,g⟩:=d;exact S5 g.so sz λx=>⟨λhx=>PC.mem H.tr (H2.tr x hx) (f _ (H2.ev x hx)),λhx=>PC.mem H2.tr (H.tr x hx) (f2 _ (H.ev x hx))⟩
def dead(H:H5 Z)(nf:¬ Full Z)(d:Der Z Y)(e:Der Y X):X.length<=1:=by
 have hc:∀ a∈Z,∀ b∈Z,∀ c∈Z,∀ d∈Z,tbL (tbL a b) (tbL c d)=AI 5:=by
  rcases X0 H with c | c | c
  ·exact λa ha b hb c' hc' d hd=>by rw[c a ha b hb,c c' hc' d hd];exact congrArg FM (Pm.tb_e (Pm.e:Pm 5))
  ·exact absurd c nf
  ·exact c
 obtain⟨W1,hW1,g2⟩:=d;obtain⟨W2,hW2,g3⟩:=e;have w1t:=λw hw=>(Nt H.tr hW1 w hw).1
 have w2:∀ w∈W2,w=AI 5:=λw hw=>by
  obtain⟨p,hp,q,hq,rfl⟩:=(hW2 w).mp hw;have rp:=(g2.mem p).mp hp;have rq:=(g2.mem q).mp hq;have:=Wl (AE 5) (F:=λ_=>False) (λ_ z=>z.elim) (λs t hs ht=>by
   obtain⟨a,ha,b,hb,ea⟩:=(hW1 s.1).mp hs;obtain⟨c,hcm,d,hd,eb⟩:=(hW1 t.1).mp ht;have e:s.tb t=Pm.e:=Cv (by show tbL s.1 t.1=AI 5;rw[ea,eb];exact hc a ha b hb c hcm d hd);rw[e];exact .e) ((NH w1t ⟨p,rp.isT w1t⟩).mp rp) ((NH w1t ⟨q,rq.isT w1t⟩).mp rq)
  exact congrArg FM (XZ this)
 have z3:∀ x∈X,x=AI 5:=λx hx=>by
  have:=(g3.mem x).mp hx;induction this with
  | still=>rfl
  | more hx' hm ih=>rw[ih ((g3.mem _).mpr hx'),w2 _ hm];exact QB (MN 5)
 have:=Md X [AI 5] g3.nd λx hx=>AC.mpr (z3 x hx)
 simpa using this
noncomputable def Sl:Nat->List (List Nat)->Prop
 | 0,Z=>Z.length<=1
 | k+1,Z=>Z.length<=1\/∀ Y,Der Z Y->¬ Y=Z/\Sl k Y
def sl2(H:H5 Z)(nf:¬ Full Z)(hs:∀ Y,Der Z Y->∀ y∈Y,y∈Z):Sl 2 Z:=by
 by_cases h1:Z.length<=1
 ·exact .inl h1
 refine .inr λY d=>⟨λe=>h1 ?_,?_⟩
 ·rw[e]at d;exact dead H nf d d
 ·by_cases h2:Y.length<=1
  ·exact .inl h2
  ·exact .inr λX e=>⟨λz=>h2 (by have:=dead H nf d e;rw[z]at this;exact this),dead H nf d e⟩
theorem Pf:∀ t,Al (intsD t)=true
 | []=>by simp[intsD,Al]
 | k::r=>by have:=Pf r;simp[intsD]at this ⊢;simp[Al,B7,this]
theorem Mn:∀ Z:List (List Nat),Al (Z.map λt=>.tuple (intsD t))=true
 | []=>by simp[Al]
 | t::r=>by have:=Mn r;simp[Al,B7,Pf t,this]
def R8 a b:BG (.tuple (intsD a)) (.tuple (intsD b))=decide (a=b):=by
 have h:∀ t,intsD t=(t.map λ(k:Nat)=>(k:Int)).map Cf:=λt=>by simp[intsD]
 rw[h,h,L2.eqv_tup];by_cases e:a=b
 ·subst e;simp
 ·rw[decide_eq_false e,decide_eq_false λz=>e (Q9 z)]
theorem M5:∀ Z:List (List Nat),toDs (Z.map tuT)=some (Z.map λt=>.tuple (intsD t))
 | []=>rfl
 | t::r=>by
  have e:toD (tuT t)=some (.tuple (intsD t)):=by
   simp[toD,(QM t)]
  rw[Ad,toDs,e,M5 r];rfl
def UL f Γ (h1:toDs xs=some ds) (h2:toDs ys=some es) (c1:Al ds=true) (c2:Al es=true) (dp:BP ds < 100):cmpD f Γ (.v (.t xs)) (.v (.t ys))= ~~~(.a (.bl (f (.tuple ds) (.tuple es)))):=by
 have e1:datS Γ (.v (.t xs))=some (.tuple ds):=by simp[datS,toD,h1]
 have e2:datS Γ (.v (.t ys))=some (.tuple es):=by simp[datS,toD,h2]
 unfold cmpD;rw[e1,e2,An,An,if_pos ⟨by simp[B7];exact c1,by simp[B7];exact c2,Ak (Nat.min_le_left _ _) ‹_›⟩];rfl
def aW Γ (h1:toDs xs=some ds) (h2:toDs ys=some es) (c1:Al ds=true) (c2:Al es=true) (dp:BP ds < 100):eqS Γ (.v (.t xs)) (.v (.t ys))= ~~~(.a (.bl (Bs ds es))):=by
 show (none.or (cmpD BG Γ (.v (.t xs)) (.v (.t ys))))=_;rw[ UL _ _ h1 h2 c1 c2 dp];simp[BG]
def aQ Γ (h1:toDs xs=some ds) (h2:toDs ys=some es) (c1:Al ds=true) (c2:Al es=true) (dp:BP ds < 100):neS Γ (.v (.t xs)) (.v (.t ys))= ~~~(.a (.bl (!PyData.eqvAll ds es))):=by
 show (none.or (cmpD (λa b=>!PyData.eqv a b) Γ (.v (.t xs)) (.v (.t ys))))=_;rw[ UL _ _ h1 h2 c1 c2 dp];simp[BG]
theorem P3:∀ Z Y:List (List Nat),Bs (Z.map λt=>.tuple (intsD t)) (Y.map λt=>.tuple (intsD t))=decide (Z=Y)
 | [],[]=>by simp[Bs]
 | [],_::_=>by simp[Bs]
 | _::_,[]=>by simp[Bs]
 | a::Z,b::Y=>by
  rw[Ad,Ad,Bs,P3 Z Y,R8];simp_all
theorem O5:∀ Z:List (List Nat),BP (Z.map λt=>.tuple (intsD t))<=1
 | []=>by simp[BP]
 | t::r=>by
  have:=O5 r;rw[Ad,BP,EA,Pr];lia
def bj Γ (Z Y:List (List Nat)):eqS Γ (.v (.t (Z.map tuT))) (.v (.t (Y.map tuT)))= ~~~(.a (.bl (decide (Z=Y)))):=by
 rw[aW Γ (M5 Z) (M5 Y) (Mn Z) (Mn Y) (by have:=O5 Z;lia),P3]
def W0 Γ (Z Y:List (List Nat)):neS Γ (.v (.t (Z.map tuT))) (.v (.t (Y.map tuT)))= ~~~(.a (.bl (!decide (Z=Y)))):=by
 rw[aQ Γ (M5 Z) (M5 Y) (Mn Z) (Mn Y) (by have:=O5 Z;lia),P3]
noncomputable def gT (Z:List (List Nat)):T:=.t (Z.map tuT)
noncomputable def chT (wd:Str) (gs:List (List (List Nat))):T:=.t [.a (.str wd),.t (gs.map gT)]
def GpZ (n:Nat) (Z:List (List Nat)):Prop:=∃ ts,(∀ t∈ts,IsT n t)/\Grp n ts Z
def GpZ.tr(h:GpZ n Z):∀ z∈Z,IsT n z:=λz hz=>by obtain⟨ts,ht,g⟩:=h;exact ((g.mem z).mp hz).isT ht
theorem GpZ.len(h:GpZ n Z)(hn:n<=5):Z.length<=120:=by obtain⟨ts,ht,g⟩:=h;exact g.len hn ht
theorem GpZ.so(h:GpZ n Z):Z.Pairwise lexN:=by obtain⟨ts,ht,g⟩:=h;exact g.so
theorem GpZ.nd(h:GpZ n Z):Z.Nodup:=by obtain⟨ts,ht,g⟩:=h;exact g.nd
def GpZ.tb(hn:n<=5)(h:GpZ n Z)(ha:a∈Z)(hb:b∈Z):tbL a b∈Z:=by
 obtain⟨ts,ht,g⟩:=h;have h1:=(NH ht ⟨a,((g.mem a).mp ha).isT ht⟩).mp ((g.mem a).mp ha);have h2:=(NH ht ⟨b,((g.mem b).mp hb).isT ht⟩).mp ((g.mem b).mp hb);exact (g.mem _).mpr ((NH ht _).mpr ((h1.mul h2).mul ((h1.inv hn).mul (h2.inv hn))))
noncomputable def chE (n:Nat) (o1 o3:Option G) (gs:List (List (List Nat))):En:=[~~~(iT (n:Int)),o1,some (.l (gs.map gT)),o3]
def Oe n o1 o3 gs Z:NW (chE n o1 o3 (gs++[Z]))=some (decide (1 < Z.length),chE n o1 o3 (gs++[Z])):=by
 have at1:atI ((gs++[Z]).map gT) (-1)=some (gT Z):=by rw[Ba];exact PN _ _
 have e:decide (1 < Z.length)=decide (1 < (Z.length:Int)):=by
  by_cases h:1 < Z.length
  ·rw[decide_eq_true h,decide_eq_true ⋯]
  ·rw[decide_eq_false h,decide_eq_false ⋯]
 rw[e];unfold chE;generalize (gs++[Z]).map gT=GV at *;unfold gT at at1;simp[NW,at1]
def PK n (hn:n<=5) o1 o3 gs Z (hz:∀ z∈Z,IsT n z) (hl:Z.length<=120) (hg:gs.length<=1000):∃ W Y,(∀ x,x∈W ↔ ∃ a∈Z,∃ b∈Z,x=tbL a b)/\Grp n W Y /\
  Mh (chE n o1 o3 (gs++[Z]))=some (if Y=Z then .rt (.v (chT "lasting" (gs++[Z]))) (chE n o1 (~~~(gT Y)) (gs++[Z])) else .nx (chE n o1 (~~~(gT Y)) (gs++[Z]++[Y]))):=by
 obtain⟨W,Y,hW,hY,e1⟩:=fD n hn Z hz hl;refine⟨W,Y,hW,hY,?_⟩;have at1:atI ((gs++[Z]).map gT) (-1)=some (gT Z):=by rw[Ba];exact PN _ _
 have eq:=λΓ=>bj Γ Y Z
 have lg:((gs++[Z]).map gT).length=gs.length+1:=by simp
 have g1:gs.length+1<=AD:=LI ⋯;have g2:gs.length+1 < AD:=MF ⋯;have ap:(gs++[Z]++[Y]).map gT=(gs++[Z]).map gT++[gT Y]:=by simp
 unfold chE chT;rw[ap];generalize (gs++[Z]).map gT=GV at *;unfold gT at *;generalize Y.map tuT=YV at *;by_cases h:Y=Z
 ·rw[if_pos h];simp[ h]at *;simp[Mh,at1,e1,eq]
 ·simp[ h]at *;simp[Mh,at1,e1,eq,gd,lg,g1,g2]
theorem GpZ.sub(h:GpZ 5 Z)(d:Der Z Y):∀ y∈Y,y∈Z:=λy hy=>by
 obtain⟨W,hW,g⟩:=d;obtain⟨ts,ht,g0⟩:=id h;refine (g0.mem y).mpr (((g.mem y).mp hy).sub ht λw hw=>?_);obtain⟨a,ha,b,hb,rfl⟩:=(hW w).mp hw;exact (g0.mem _).mp (h.tb (AE 5) ha hb)
def GpZ.der(h:GpZ 5 Z)(d:Der Z Y):GpZ 5 Y:=let ⟨W,hW,g⟩:=d;⟨W,λw hw=>(Nt h.tr hW w hw).1,g⟩
def sl3(h:GpZ 5 Z)(nf:¬ Full Z):Sl 3 Z:=by
 have up:∀ {Y},Der Z Y->H5 Y/\¬ Full Y:=λd=>⟨d.h5 h.tr,λf=>nf λm hm=>by
  obtain⟨t,ht,e⟩:=f m hm;exact⟨t,h.sub d t ht,e⟩⟩
 by_cases h1:Z.length<=1
 ·exact .inl h1
 refine .inr λY d=>⟨λe=>h1 ?_,sl2 (up d).1 (up d).2 λX x=>(h.der d).sub x⟩
 rw[e]at d;exact dead (up d).1 (up d).2 d d
theorem Su(f:Full Z):1 < Z.length:=by
 obtain⟨a,ha,e1⟩:=f 18056 ↥4;obtain⟨b,hb,e2⟩:=f 10440 ↥4
 match Z,ha,hb with
 | [],ha,_=>cases ha
 | [z],ha,hb=>rw[AC.mp ha]at e1;rw[AC.mp hb,e1]at e2;cases e2
 | _::_::_,_,_=>simp
theorem ir o1:∀ k gs Z o3 f,Sl k Z->GpZ 5 Z->k < f->gs.length+k<=900 ->
  ∃ more o3',more.length<=k/\(∀ g∈more,GpZ 5 g)/\dWhile NW Mh f (chE 5 o1 o3 (gs++[Z]))=some (.nx (chE 5 o1 o3' (gs++[Z]++more))):=by
 intro k;induction k with
 | zero =>
  intro gs Z o3 f h hz hf hg;obtain⟨f,rfl⟩:∃ g,f=g+1:=⟨f - 1,by lia⟩
  have h1:=He.mpr h;refine⟨[],o3,AE _,(λ_ z=>nomatch z),?_⟩;rw[Lo,Oe,decide_eq_false h1];simp
 | succ k ih =>
  intro gs Z o3 f h hz hf hg;obtain⟨f,rfl⟩:∃ g,f=g+1:=⟨f - 1,by lia⟩
  rw[Lo,Oe];by_cases h1:1 < Z.length
  ·obtain⟨W,Y,hW,hY,b⟩:=PK 5 (AE 5) o1 o3 gs Z hz.tr (hz.len (AE 5)) ⋯;have d:Der Z Y:=⟨W,hW,hY⟩
   obtain⟨ne,s⟩:=(Or.resolve_left h ⋯) Y d;rw[if_neg ne]at b;simp only[h1,decide_true,An,if_true];rw[b];simp only[An];obtain⟨more,o3',m1,m2,m3⟩:=ih (gs++[Z]) Y (~~~(gT Y)) f s (hz.der d) ⋯ ↥2;refine⟨Y::more,o3',by simp;lia,λg hg=>?_,?_⟩
   ·rcases AN.mp hg with e | e
    ·rw[e];exact hz.der d
    ·exact m2 g e
   ·rw[List.append_cons (gs++[Z]) Y more];exact m3
  ·simp only[h1,decide_false,An,Bool.false_eq_true,if_false];exact⟨[],o3,Au _,(λ_ z=>nomatch z),by rw[Bn]⟩
def XM o1 Z o3 f (hz:GpZ 5 Z) (hf:Full Z) (h2:2 < f) :
  ∃ more q,more.length<=1/\(∀ g∈more,GpZ 5 g)/\(∃ L,(Z::more).getLast?=some L/\H5 L/\Full L)/\dWhile NW Mh f (chE 5 o1 o3 [Z])=some (.rt (.v (chT "lasting" (Z::more))) q):=by
 obtain⟨f,rfl⟩:∃ g,f=g+2:=⟨f - 2,by lia⟩
 have c1:=Oe 5 o1 o3 [] Z;rw[decide_eq_true (Su hf)]at c1;obtain⟨W,Y,hW,hY,b⟩:=PK 5 (AE 5) o1 o3 [] Z hz.tr (hz.len (AE 5)) ∅;have d:Der Z Y:=⟨W,hW,hY⟩
 have hY5:=d.h5 hz.tr;have fY:=d.full hz.tr hf;rw[Fd]at b c1;rw[Lo,c1];simp only[An,if_true];rw[b];by_cases e:Y=Z
 ·rw[if_pos e];exact⟨[],_,by decide,(λ_ z=>nomatch z),⟨Z,rfl,e ▸ hY5,hf⟩,rfl⟩
 ·rw[if_neg e];simp only[An];have c2:=Oe 5 o1 (~~~(gT Y)) [Z] Y;rw[decide_eq_true (Su fY)]at c2;obtain⟨W2,Y2,hW2,hY2,b2⟩:=PK 5 (AE 5) o1 (~~~(gT Y)) [Z] Y hY5.tr ((hz.der d).len (AE 5)) ↥1;rw[if_pos (Der.fix (hz.der d).so hY5 fY ⟨W2,hW2,hY2⟩)]at b2;rw[Lo,c2];simp only[An];rw[b2];exact⟨[Y],_,by simp,λg hg=>by rw[AC.mp hg];exact hz.der d,⟨Y,rfl,hY5,fY⟩,rfl⟩
def Xz ts (hm:ts.length<=10000) (ht:∀ t∈ts,IsT 5 t):∃ (Z:List (List Nat)) (more:List (List (List Nat))) (wd:Str),Grp 5 ts Z/\more.length<=3/\(∀ g∈more,GpZ 5 g) /\
  ((wd="lasting"/\Full Z/\∃ L,(Z::more).getLast?=some L/\H5 L/\Full L)\/(wd="down"/\¬ Full Z))/\F_17 [.v (iT ((5:Nat):Int)),.v (.t (ts.map tuT))]=some (.v (chT wd (Z::more)),[]):=by
 obtain⟨Z,hZ,e2⟩:=Ov 5 (AE 5) ts ⋯ ht;have gz:GpZ 5 Z:=⟨ts,ht,hZ⟩
 have z1:[Z].map gT=[.t (Z.map tuT)]:=rfl;by_cases hf:Full Z
 ·obtain⟨more,q,m1,m2,m3,w1⟩:=XM (~~~(.t (ts.map tuT))) Z none fuelX gz hf (by rw[MB];lia);refine⟨Z,more,"lasting",hZ,by lia,m2,.inl ⟨rfl,hf,m3⟩,?_⟩;unfold chE at w1;rw[z1]at w1;simp at *;simp[F_17,fnD,d_17,e2,w1]
 ·obtain⟨more,q,m1,m2,w1⟩:=ir (~~~(.t (ts.map tuT))) 3 [] Z none fuelX (sl3 gz hf) gz (by rw[MB];lia) ∅;refine⟨Z,more,"down",hZ,m1,m2,.inr ⟨rfl,hf⟩,?_⟩;have cc:[]++[Z]++more=Z::more:=rfl;rw[cc]at w1;unfold chE at w1;unfold chT;rw[Fd,z1]at w1;generalize (Z::more).map gT=QV at *;simp at *;simp[F_17,fnD,d_17,e2,w1]
@[simp] theorem oG(a b:String):(Jf a=Jf b)=(a=b):=by
 refine propext ⟨λh=>?_,λh=>by rw[h]⟩;rw[G6,G6]at h;have h2:=congrArg (λs=>s.cps.toList) h;simp only[Et]at h2;refine String.toList_inj.mp (List.map_inj_right (λx y e=>?_) |>.mp h2);exact Char.ext (UInt32.toNat_inj.mp e)
inductive Sy where
 | yes | no | ask (q:Nat) | nt (a:Sy) | an (a b:Sy) | or (a b:Sy) | ei (a b:Sy) | mo (a b c:Sy)
noncomputable abbrev sT (x:Str):T:=.a (.str x)
noncomputable def Sy.t:Sy->T
 | .yes=>.t [sT "yes"]
 | .no=>.t [sT "no"]
 | .ask q=>.t [sT "ask",iT q]
 | .nt a=>.t [sT "not",a.t]
 | .an a b=>.t [sT "and",a.t,b.t]
 | .or a b=>.t [sT "or",a.t,b.t]
 | .ei a b=>.t [sT "either",a.t,b.t]
 | .mo a b c=>.t [sT "most",a.t,b.t,c.t]
noncomputable def Sy.kids:Sy->List Sy
 | .yes=>[]
 | .no=>[]
 | .ask _=>[]
 | .nt a=>[a]
 | .an a b=>[a,b]
 | .or a b=>[a,b]
 | .ei a b=>[a,b]
 | .mo a b c=>[a,b,c]
noncomputable def Sy.parts:Sy->Nat
 | .yes=>1
 | .no=>1
 | .ask _=>1
 | .nt a=>1+a.parts
 | .an a b=>1+a.parts+b.parts
 | .or a b=>1+a.parts+b.parts
 | .ei a b=>1+a.parts+b.parts
 | .mo a b c=>1+a.parts+b.parts+c.parts
noncomputable def Sy.down:Sy->Nat
 | .yes=>1
 | .no=>1
 | .ask _=>1
 | .nt a=>1+a.down
 | .an a b=>1+max a.down b.down
 | .or a b=>1+max a.down b.down
 | .ei a b=>1+max a.down b.down
 | .mo a b c=>1+max a.down (max b.down c.down)
noncomputable def Sy.wt:Sy->Nat
 | .yes=>1
 | .no=>1
 | .ask _=>1
 | .nt a=>a.wt
 | .an a b=>2 * (a.wt+b.wt)
 | .or a b=>2 * (a.wt+b.wt)
 | .ei a b=>8 * (a.wt+b.wt)
 | .mo a b c=>12 * (a.wt+b.wt)+4 * c.wt
noncomputable def Sy.qs (q:Nat):Sy->Prop
 | .yes=>True
 | .no=>True
 | .ask k=>k < q
 | .nt a=>a.qs q
 | .an a b=>a.qs q/\b.qs q
 | .or a b=>a.qs q/\b.qs q
 | .ei a b=>a.qs q/\b.qs q
 | .mo a b c=>a.qs q/\b.qs q/\c.qs q
theorem Sy.parts_pos:∀ s:Sy,1<=s.parts
 | .yes=>AE _
 | .no=>AE _
 | .ask _=>AE _
 | .nt a=>by simp only[Sy.parts];lia
 | .an a b=>by simp[Sy.parts];lia
 | .or a b=>by simp[Sy.parts];lia
 | .ei a b=>by simp[Sy.parts];lia
 | .mo a b c=>by simp[Sy.parts];lia
theorem Sy.down_pos:∀ s:Sy,1<=s.down
 | .yes=>AE _
 | .no=>AE _
 | .ask _=>AE _
 | .nt a=>by simp only[Sy.down];lia
 | .an a b=>by simp only[Sy.down];lia
 | .or a b=>by simp only[Sy.down];lia
 | .ei a b=>by simp only[Sy.down];lia
 | .mo a b c=>by simp only[Sy.down];lia
noncomputable def Sy.rs (f:Sy->T):Sy->Rs
 | .yes=>.mk (Sy.t .yes) (f .yes) []
 | .no=>.mk (Sy.t .no) (f .no) []
 | .ask q=>.mk (Sy.t (.ask q)) (f (.ask q)) []
 | .nt a=>.mk (Sy.t (.nt a)) (f (.nt a)) [a.rs f]
 | .an a b=>.mk (Sy.t (.an a b)) (f (.an a b)) [a.rs f,b.rs f]
 | .or a b=>.mk (Sy.t (.or a b)) (f (.or a b)) [a.rs f,b.rs f]
 | .ei a b=>.mk (Sy.t (.ei a b)) (f (.ei a b)) [a.rs f,b.rs f]
 | .mo a b c=>.mk (Sy.t (.mo a b c)) (f (.mo a b c)) [a.rs f,b.rs f,c.rs f]
def Sy.rs_e f (s:Sy):(s.rs f).e=s.t:=by cases s <;> rfl
def Sy.rs_v f (s:Sy):(s.rs f).v=f s:=by cases s <;> rfl
theorem Sy.rs_pre f:∀ s:Sy,(s.rs f).pre.length=s.parts
 | .yes=>by simp[Sy.rs,LP,LW,Sy.parts]
 | .no=>by simp[Sy.rs,LP,LW,Sy.parts]
 | .ask _=>by simp[Sy.rs,LP,LW,Sy.parts]
 | .nt a=>by simp[Sy.rs,LP,LW,La,Sy.parts,a.rs_pre f];lia
 | .an a b=>by simp[Sy.rs,LP,LW,La,Sy.parts,a.rs_pre f,b.rs_pre f];lia
 | .or a b=>by simp[Sy.rs,LP,LW,La,Sy.parts,a.rs_pre f,b.rs_pre f];lia
 | .ei a b=>by simp[Sy.rs,LP,LW,La,Sy.parts,a.rs_pre f,b.rs_pre f];lia
 | .mo a b c=>by simp[Sy.rs,LP,LW,La,Sy.parts,a.rs_pre f,b.rs_pre f,c.rs_pre f];lia
def cut1 x r:cutT (x::r) (some 1) none=r:=bL (x::r) 1
def MR(s:Sy):F_24 [.v s.t]=some (.v (.t (s.kids.map Sy.t)),[]):=by
 cases s <;> simp[F_24,fnD,d_24,Sy.t,Sy.kids,cut1]
theorem Sy.rs_in f:∀ s:Sy,(s.rs f).In F_24
 | .yes=>Lk.mpr ⟨.inl (MR .yes),Lm⟩
 | .no=>Lk.mpr ⟨.inl (MR .no),Lm⟩
 | .ask q=>Lk.mpr ⟨.inl (MR (.ask q)),Lm⟩
 | .nt a=>Lk.mpr ⟨.inl (by simpa [Sy.kids,Sy.rs_e] using MR (.nt a)),LN.mpr ⟨a.rs_in f,Lm⟩⟩
 | .an a b=>Lk.mpr ⟨.inl (by simpa [Sy.kids,Sy.rs_e] using MR (.an a b)),LN.mpr ⟨a.rs_in f,LN.mpr ⟨b.rs_in f,Lm⟩⟩⟩
 | .or a b=>Lk.mpr ⟨.inl (by simpa [Sy.kids,Sy.rs_e] using MR (.or a b)),LN.mpr ⟨a.rs_in f,LN.mpr ⟨b.rs_in f,Lm⟩⟩⟩
 | .ei a b=>Lk.mpr ⟨.inl (by simpa [Sy.kids,Sy.rs_e] using MR (.ei a b)),LN.mpr ⟨a.rs_in f,LN.mpr ⟨b.rs_in f,Lm⟩⟩⟩
 | .mo a b c=>Lk.mpr ⟨.inl (by simpa [Sy.kids,Sy.rs_e] using MR (.mo a b c)),LN.mpr ⟨a.rs_in f,LN.mpr ⟨b.rs_in f,LN.mpr ⟨c.rs_in f,Lm⟩⟩⟩⟩
theorem Sy.rs_put f (h:∀ s,put [.v s.t,.r (s.kids.map f)]=some (.v (f s),[])):∀ s:Sy,(s.rs f).Put put
 | .yes=>Ll.mpr ⟨h .yes,Ls⟩
 | .no=>Ll.mpr ⟨h .no,Ls⟩
 | .ask q=>Ll.mpr ⟨h (.ask q),Ls⟩
 | .nt a=>Ll.mpr ⟨by simpa [Sy.kids,Sy.rs_v] using h (.nt a),Lf.mpr ⟨a.rs_put f h,Ls⟩⟩
 | .an a b=>Ll.mpr ⟨by simpa [Sy.kids,Sy.rs_v] using h (.an a b),Lf.mpr ⟨a.rs_put f h,Lf.mpr ⟨b.rs_put f h,Ls⟩⟩⟩
 | .or a b=>Ll.mpr ⟨by simpa [Sy.kids,Sy.rs_v] using h (.or a b),Lf.mpr ⟨a.rs_put f h,Lf.mpr ⟨b.rs_put f h,Ls⟩⟩⟩
 | .ei a b=>Ll.mpr ⟨by simpa [Sy.kids,Sy.rs_v] using h (.ei a b),Lf.mpr ⟨a.rs_put f h,Lf.mpr ⟨b.rs_put f h,Ls⟩⟩⟩
 | .mo a b c=>Ll.mpr ⟨by simpa [Sy.kids,Sy.rs_v] using h (.mo a b c),Lf.mpr ⟨a.rs_put f h,Lf.mpr ⟨b.rs_put f h,Lf.mpr ⟨c.rs_put f h,Ls⟩⟩⟩⟩
noncomputable def orS (s t:Sy):Sy:=.nt (.an (.nt s) (.nt t))
noncomputable def Sy.spell:Sy->Sy
 | .yes=>.yes
 | .no=>.no
 | .ask q=>.ask q
 | .nt a=>.nt a.spell
 | .an a b=>.an a.spell b.spell
 | .or a b=>orS a.spell b.spell
 | .ei a b=>orS (.an a.spell (.nt b.spell)) (.an (.nt a.spell) b.spell)
 | .mo a b c=>orS (.an a.spell b.spell) (.an c.spell (orS a.spell b.spell))
def Vj x y:F_31 [.v x,.v y]=some (.v (.t [sT "not",.t [sT "and",.t [sT "not",x],.t [sT "not",y]]]),[]):=rfl
def YS(s:Sy):F_32 [.v s.t,.r (s.kids.map λk=>k.spell.t)]=some (.v s.spell.t,[]):=by
 have g1:1<=AD:=by decide
 cases s <;> simp[F_32,fnD,d_32,Sy.t,Sy.kids,Sy.spell,orS,Vj,inS,atomsOf,flatV,inV,eqV]
def PV:F_36=fnD none 3 6 (fwD (fnD none 2 5 (awD tb_1)) tb_1 tb_2):=rfl
def Qu:tb_1.find? (λq=>decide (q.1=("inner":Str)))=some (("inner":Str),1,F_24):=by rfl
def Zb:tb_2.find? (λq=>decide (q.1=("spelled_of":Str)))=some (("spelled_of":Str),2,F_32):=by rfl
def Z9(s:Sy)(h:s.parts<=80000):F_40 [.v s.t]=some (.v s.spell.t,[]):=by
 have:=Ph Qu Zb (s.rs λk=>k.spell.t) (s.rs_in _) (s.rs_put _ YS) (by rw[Sy.rs_pre];exact h);rw[← PV,Sy.rs_e,Sy.rs_v]at this;simp[F_40,fnD,d_40,F_37,d_37,this]
theorem Ts(q:Nat)(hq0:0 < q)(hq:q<=100):∀ (n:Nat) (a b:Int) (room down:Nat),1<=n->down<=n->1<=room->room<=1000->∃ (s:Sy) (a' b':Int),s.down<=max 1 down/\s.parts<=room/\s.qs q /\
  F_1 n [.l [iT a,iT b],.v (iT (q:Int)),.v (iT (room:Int)),.v (iT (down:Int))]=some (.v s.t,[iT a',iT b']):=by
 intro n;induction n with
 | zero=>intro a b room down h;simp_all
 | succ n ih =>
  intro a b room down _ hd hr hr2;obtain⟨f,a1,b1,hf,e1⟩:=LS a b 10 ∅ ∅;have e1':F_5 [.l [iT a,iT b],.v (iT 10)]=some (.v (iT (f:Int)),[iT a1,iT b1]):=e1;simp only[iT]at e1' ⊢;clear e1;by_cases leaf:room < 2\/down < 2\/f=0
  ·obtain⟨k,a2,b2,hk,e2⟩:=LS a1 b1 q hq0 ⋯;obtain⟨g,a3,b3,hg,e3⟩:=LS a2 b2 8 ∅ ∅;have e3':F_5 [.l [iT a2,iT b2],.v (iT 8)]=some (.v (iT (g:Int)),[iT a3,iT b3]):=e3;simp only[iT]at e2 e3';have fin:∀ (s:Sy) (i:Nat),(if (5:Int) < (g:Int) then (g:Int) - 5 else 0)=(i:Int)->[Sy.t (.ask k),Sy.t .yes,Sy.t .no][i]?=some s.t->F_1 (n+1) [.l [⇑a,⇑b],.v (⇑(q:Int)),.v (⇑(room:Int)),.v (⇑(down:Int))]=some (.v s.t,[⇑a3,⇑b3]):=λs i mx es=>by
    simp only[Sy.t,iT]at es;by_cases h1:(room:Int) < 2
    ·simp[F_1,fnD,d_1,e1',e2,e3',h1,mx,Lu,es]
    ·by_cases h2:(down:Int) < 2
     ·simp[F_1,fnD,d_1,e1',e2,e3',h1,h2,mx,Lu,es]
     ·have h3:f=0:=by lia
      simp[F_1,fnD,d_1,e1',e2,e3',h1,h2,h3,mx,Lu,es]
   have hm:(1:Nat)<=max 1 down:=Ib _ _;by_cases c1:g<=5
   ·exact⟨.ask k,a3,b3,hm,hr,hk,fin _ 0 (by rw[if_neg ⋯];rfl) rfl⟩
   ·by_cases c2:g=6
    ·subst c2;exact⟨.yes,a3,b3,hm,hr,trivial,fin _ 1 ∅ rfl⟩
    ·have:g=7:=by lia
     subst this;exact⟨.no,a3,b3,hm,hr,trivial,fin _ 2 ∅ rfl⟩
  ·have m1:¬ (room:Int) < 2:=by lia
   have m2:¬ (down:Int) < 2:=by omega
   have m3:¬ f=0:=by simp_all
   have m3':¬ (f:Int)=0:=by simp_all
   have d1:(down:Int) - 1=((down - 1:Nat):Int):=by lia
   by_cases nt:f < 3\/room < 3
   ·obtain⟨s,a2,b2,h1,h2,h3,e2⟩:=ih a1 b1 (room - 1) (down - 1) ⋯ ⋯ ⋯ ⋯;have r1:(room:Int) - 1=((room - 1:Nat):Int):=by lia
    refine⟨.nt s,a2,b2,by simp only[Sy.down];lia,by simp only[Sy.parts];lia,h3,?_⟩;simp only[iT,Sy.t]at e2 ⊢;generalize s.t=S at *;by_cases h:(f:Int) < 3
    ·simp[F_1,fnD,d_1,e1',m1,m2,m3,m3',h,r1,d1,e2]
    ·have h':(room:Int) < 3:=by lia
     simp[F_1,fnD,d_1,e1',m1,m2,m3,m3',h,h',r1,d1,e2]
   ·have n1:¬ (f:Int) < 3:=by lia
    have n2:¬ (room:Int) < 3:=by lia
    obtain⟨k1,a2,b2,hk1,e2⟩:=LS a1 b1 (room - 2) ⋯ ⋯;have r2:(room:Int) - 2=((room - 2:Nat):Int):=by lia
    obtain⟨x1,hx1⟩:∃ x1:Nat,x1=1+k1:=⟨1+k1,rfl⟩
    obtain⟨s1,a3,b3,h1,h2,h3,e3⟩:=ih a2 b2 x1 (down - 1) ⋯ ⋯ ⋯ ⋯;have c1:(1:Int)+(k1:Int)=(x1:Int):=by lia
    by_cases mo:f=9/\room > 3/\x1 < room - 2
    ·obtain⟨k2,a4,b4,hk2,e4⟩:=LS a3 b3 (room - 2 - x1) ⋯ ⋯;obtain⟨x2,hx2⟩:∃ x2:Nat,x2=1+k2:=⟨1+k2,rfl⟩
     have c2:(1:Int)+(k2:Int)=(x2:Int):=by lia
     obtain⟨s2,a5,b5,u1,u2,u3,e5⟩:=ih a4 b4 x2 (down - 1) ⋯ ⋯ ⋯ ⋯;obtain⟨s3,a6,b6,v1,v2,v3,e6⟩:=ih a5 b5 (room - 1 - x1 - x2) (down - 1) ⋯ ⋯ ⋯ ⋯;have r3:((room - 2:Nat):Int) - (x1:Int)=((room - 2 - x1:Nat):Int):=by lia
     have r4:(room:Int) - 1 - (x1:Int) - (x2:Int)=((room - 1 - x1 - x2:Nat):Int):=by lia
     have q1:(f:Int)=9:=by lia
     have q2:(3:Int) < (room:Int):=by lia
     have q3:(x1:Int) < ((room - 2:Nat):Int):=by lia
     refine⟨.mo s1 s2 s3,a6,b6,by simp only[Sy.down];lia,by simp only[Sy.parts];lia,⟨h3,u3,v3⟩,?_⟩;simp only[iT,Sy.t]at e2 e3 e4 e5 e6 ⊢;rw[q1]at e1';simp[F_1,fnD,d_1,e1',m1,m2,n2,r2,e2,c1,d1,e3,q2,q3,r3,e4,c2,e5,r4,e6]
    ·obtain⟨s2,a4,b4,u1,u2,u3,e4⟩:=ih a3 b3 (room - 1 - x1) (down - 1) ⋯ ⋯ ⋯ ⋯;have r3:(room:Int) - 1 - (x1:Int)=((room - 1 - x1:Nat):Int):=by lia
     simp only[iT]at e2 e3 e4;have fin:∀ (w:Str) (i:Nat),(f:Int) % 3=(i:Int)->[sT "and",sT "or",sT "either"][i]?=some (sT w)->F_1 (n+1) [.l [⇑a,⇑b],.v (⇑(q:Int)),.v (⇑(room:Int)),.v (⇑(down:Int))]=some (.v (.t [sT w,s1.t,s2.t]),[⇑a4,⇑b4]):=λw i ei es=>by
      simp only[sT]at es ⊢;by_cases q1:(f:Int)=9
      ·have hi:i=0:=by lia
       subst hi;simp at es;subst es;by_cases q2:(3:Int) < (room:Int)
       ·have q3:¬ (x1:Int) < ((room - 2:Nat):Int):=by lia
        simp[F_1,fnD,d_1,e1',m1,m2,m3,m3',n1,n2,r2,e2,c1,d1,e3,q1,q2,q3,r3,e4]
       ·simp[F_1,fnD,d_1,e1',m1,m2,m3,m3',n1,n2,r2,e2,c1,d1,e3,q1,q2,r3,e4]
      ·simp[F_1,fnD,d_1,e1',m1,m2,m3,m3',n1,n2,r2,e2,c1,d1,e3,q1,ei,Lu,es,r3,e4]
     have hf3:f % 3=0\/f % 3=1\/f % 3=2:=by lia
     rcases hf3 with h | h | h
     ·exact⟨.an s1 s2,a4,b4,by simp only[Sy.down];lia,by simp only[Sy.parts];lia,⟨h3,u3⟩,fin "and" 0 ⋯ rfl⟩
     ·exact⟨.or s1 s2,a4,b4,by simp only[Sy.down];lia,by simp only[Sy.parts];lia,⟨h3,u3⟩,fin "or" 1 ⋯ rfl⟩
     ·exact⟨.ei s1 s2,a4,b4,by simp only[Sy.down];lia,by simp only[Sy.parts];lia,⟨h3,u3⟩,fin "either" 2 ⋯ rfl⟩
def lw_q rec (s:Sy):OC rec [~~~s.t]=some (true,[~~~s.t]):=by
 cases s <;> simp[OC,Sy.t,isiS,isiT,tyN,subTy]
def lw_i rec i:OC rec [~~~(iT i)]=some (false,[~~~(iT i)]):=rfl
def lw_e rec (s:Sy) (m:Nat) (h:rec [.v s.t]=some (.v (iT m),[])):OD rec [~~~s.t]=some (.v (iT m),[~~~s.t]):=by
 simp[OD,h]
theorem aL:∀ (n:Nat) (s:Sy),s.down<=n->F_3 n [.v s.t]=some (.v (iT (s.wt:Int)),[]):=by
 intro n;induction n with
 | zero=>intro s h;have:=s.down_pos;lia
 | succ n ih =>
  intro s h;have g1:=sL 1;have g2:=sL 2;have g3:=sL 3;have c12:∀ x:Int,CMul 12 x:=λx=>.inl ⟨by decide,by decide⟩
  have c4:∀ x:Int,CMul 4 x:=λx=>.inl ⟨by decide,by decide⟩
  have c2:∀ x:Int,CMul x 2:=λx=>.inr ⟨by decide,by decide⟩
  have c8:∀ x:Int,CMul x 8:=λx=>.inr ⟨by decide,by decide⟩
  have ea:=λk hk=>lw_e _ k _ (ih k hk)
  have qi:=λi:Int=>lw_i (F_3 n) i
  have qk:=lw_q (F_3 n);simp only[iT]at qi;cases s with
  | yes=>simp[F_3,fnD,d_3,Sy.t,Sy.wt,cut1,Lb,gd,g1,g2,g3,inS,atomsOf,flatV,inV,eqV]
  | no=>simp[F_3,fnD,d_3,Sy.t,Sy.wt,cut1,Lb,gd,g1,g2,g3,inS,atomsOf,flatV,inV,eqV]
  | ask q=>simp[F_3,fnD,d_3,Sy.t,Sy.wt,cut1,LY,Lb,gd,g1,g2,g3,inS,atomsOf,flatV,inV,eqV,qi]
  | nt a =>
   have h1:=ea a (by simp only[Sy.down]at h;lia);simp[F_3,fnD,d_3,Sy.t,Sy.wt,cut1,LY,Lb,gd,g1,g2,g3,inS,atomsOf,flatV,inV,eqV,qk,h1]
  | an a b =>
   have h1:=ea a (by simp only[Sy.down]at h;lia);have h2:=ea b (by simp only[Sy.down]at h;lia);simp[F_3,fnD,d_3,Sy.t,Sy.wt,cut1,LY,Lb,gd,g1,g2,g3,inS,atomsOf,flatV,inV,eqV,qk,h1,h2,c2];lia
  | or a b =>
   have h1:=ea a (by simp only[Sy.down]at h;lia);have h2:=ea b (by simp only[Sy.down]at h;lia);simp[F_3,fnD,d_3,Sy.t,Sy.wt,cut1,LY,Lb,gd,g1,g2,g3,inS,atomsOf,flatV,inV,eqV,qk,h1,h2,c2];lia
  | ei a b =>
   have h1:=ea a (by simp only[Sy.down]at h;lia);have h2:=ea b (by simp only[Sy.down]at h;lia);simp[F_3,fnD,d_3,Sy.t,Sy.wt,cut1,LY,Lb,gd,g1,g2,g3,inS,atomsOf,flatV,inV,eqV,qk,h1,h2,c8];lia
  | mo a b c =>
   have h1:=ea a (by simp only[Sy.down]at h;lia);have h2:=ea b (by simp only[Sy.down]at h;lia);have h3:=ea c (by simp only[Sy.down]at h;lia);simp[F_3,fnD,d_3,Sy.t,Sy.wt,cut1,LY,Lb,gd,g1,g2,g3,inS,atomsOf,flatV,inV,eqV,qk,h1,h2,h3,c12,c4]
def lp_q rec (s:Sy):N9 rec [~~~s.t]=some (true,[~~~s.t]):=by
 cases s <;> simp[N9,Sy.t,isiS,isiT,tyN,subTy]
def lp_i rec i:N9 rec [~~~(iT i)]=some (false,[~~~(iT i)]):=rfl
def lp_e rec (s:Sy) (m:Nat) (h:rec [.v s.t]=some (.v (iT m),[])):NL rec [~~~s.t]=some (.v (iT m),[~~~s.t]):=by
 simp[NL,h]
theorem aK:∀ (n:Nat) (s:Sy),s.down<=n->F_0 n [.v s.t]=some (.v (iT (s.parts:Int)),[]):=by
 intro n;induction n with
 | zero=>intro s h;have:=s.down_pos;lia
 | succ n ih =>
  intro s h;have g1:=sL 1;have g2:=sL 2;have g3:=sL 3;have ea:∀ k:Sy,k.down<=n->NL (F_0 n) [~~~k.t]=some (.v (⇑(k.parts:Int)),[~~~k.t]):=λk hk=>lp_e _ k _ (ih k hk)
  have qi:=λi:Int=>lp_i (F_0 n) i
  have qk:=lp_q (F_0 n);simp only[iT]at qi;cases s with
  | yes=>simp[F_0,fnD,d_0,Sy.t,Sy.parts,cut1,Lb,gd,sumS,intsOf]
  | no=>simp[F_0,fnD,d_0,Sy.t,Sy.parts,cut1,Lb,gd,sumS,intsOf]
  | ask q=>simp[F_0,fnD,d_0,Sy.t,Sy.parts,cut1,LY,Lb,gd,g1,sumS,intsOf,qi]
  | nt a =>
   have h1:=ea a (by simp only[Sy.down]at h;lia);simp[F_0,fnD,d_0,Sy.t,Sy.parts,cut1,LY,Lb,gd,g1,sumS,intsOf,qk,h1]
  | an a b =>
   have h1:=ea a (by simp only[Sy.down]at h;lia);have h2:=ea b (by simp only[Sy.down]at h;lia);simp[F_0,fnD,d_0,Sy.t,Sy.parts,cut1,LY,Lb,gd,g1,g2,sumS,intsOf,qk,h1,h2];lia
  | or a b =>
   have h1:=ea a (by simp only[Sy.down]at h;lia);have h2:=ea b (by simp only[Sy.down]at h;lia);simp[F_0,fnD,d_0,Sy.t,Sy.parts,cut1,LY,Lb,gd,g1,g2,sumS,intsOf,qk,h1,h2];lia
  | ei a b =>
   have h1:=ea a (by simp only[Sy.down]at h;lia);have h2:=ea b (by simp only[Sy.down]at h;lia);simp[F_0,fnD,d_0,Sy.t,Sy.parts,cut1,LY,Lb,gd,g1,g2,sumS,intsOf,qk,h1,h2];lia
  | mo a b c =>
   have h1:=ea a (by simp only[Sy.down]at h;lia);have h2:=ea b (by simp only[Sy.down]at h;lia);have h3:=ea c (by simp only[Sy.down]at h;lia);simp[F_0,fnD,d_0,Sy.t,Sy.parts,cut1,LY,Lb,gd,g1,g2,g3,sumS,intsOf,qk,h1,h2,h3];lia
def Px q n dn (ih:∀ a b (most:Nat),1<=most->most<=1000->∃ (s:Sy) (a' b':Int),s.down<=max 1 (dn - 1)/\s.qs q/\F_2 n [.l [iT a,iT b],.v (iT q),.v (iT most),.v (iT ((dn - 1:Nat):Int))]=some (.v s.t,[iT a',iT b'])) a b (y:Nat) (h2:2<=y) (hy:y<=1000) :
  ∃ (k x:Nat) (s1 s2:Sy) (a1 b1 a2 b2 a3 b3:Int),(s1.down<=max 1 (dn - 1)/\s1.qs q/\s2.down<=max 1 (dn - 1)/\s2.qs q)/\1+k=(x:Int) /\
   F_5 [.l [⇑a,⇑b],.v (⇑(y - 1))]=some (.v (⇑k),[⇑a1,⇑b1]) /\
   F_2 n [.l [⇑a1,⇑b1],.v (⇑q),.v (⇑x),.v (⇑((dn - 1:Nat):Int))]=some (.v s1.t,[⇑a2,⇑b2]) /\
   F_2 n [.l [⇑a2,⇑b2],.v (⇑q),.v (⇑(y - x)),.v (⇑((dn - 1:Nat):Int))]=some (.v s2.t,[⇑a3,⇑b3]):=by
 obtain⟨k,a1,b1,hk,e1⟩:=LS a b (y - 1) ⋯ ⋯;obtain⟨s1,a2,b2,u1,u2,e2⟩:=ih a1 b1 (1+k) (by simp_all) ⋯;obtain⟨s2,a3,b3,v1,v2,e3⟩:=ih a2 b2 (y - (1+k)) (by grind) ⋯;rw[show ((y - 1:Nat):Int)=y - 1 by grind]at e1;rw[show ((y - (1+k):Nat):Int)=y - (1+k) by grind]at e3;exact⟨k,1+k,s1,s2,a1,b1,a2,b2,a3,b3,⟨u1,u2,v1,v2⟩,by simp_all,e1,e2,e3⟩
theorem kM(q:Nat)(hq0:0 < q)(hq:q<=100):∀ (n:Nat) (a b:Int) (most down:Nat),1<=n->down<=n->1<=most->most<=1000->∃ (s:Sy) (a' b':Int),s.down<=max 1 down/\s.qs q /\
  F_2 n [.l [iT a,iT b],.v (iT (q:Int)),.v (iT (most:Int)),.v (iT (down:Int))]=some (.v s.t,[iT a',iT b']):=by
 intro n;induction n with
 | zero=>intro a b most down h;simp_all
 | succ n ih =>
  intro a b most down _ hd hm hm2;obtain⟨f,a1,b1,hf,e1⟩:=LS a b 8 ∅ ∅;have e1':F_5 [.l [iT a,iT b],.v (iT 8)]=some (.v (iT (f:Int)),[iT a1,iT b1]):=e1;simp only[iT]at e1' ⊢;clear e1;by_cases leaf:most < 4\/down < 2\/f=0
  ·obtain⟨s,a2,b2,h1,h2,h3,e2⟩:=Ts q hq0 hq MP a1 b1 1 1 ∅ ∅ ∅ ∅;have e2':F_1 MP [.l [⇑a1,⇑b1],.v (⇑(q:Int)),.v (⇑1),.v (⇑1)]=some (.v s.t,[⇑a2,⇑b2]):=e2;refine⟨s,a2,b2,by lia,h3,?_⟩;by_cases h1:(most:Int) < 4
   ·simp[F_2,fnD,d_2,e1',h1,e2']
   ·by_cases h2:(down:Int) < 2
    ·simp[F_2,fnD,d_2,e1',h1,h2,e2']
    ·have h3:f=0:=by lia
     simp[F_2,fnD,d_2,e1',h1,h2,h3,e2']
  ·have l1:¬ (most:Int) < 4:=by lia
   have l2:¬ (down:Int) < 2:=by omega
   have l3:¬ f=0:=by simp_all
   have c4:(down:Int) - 1=((down - 1:Nat):Int):=by lia
   by_cases one:f=1
   ·subst one;obtain⟨s,a2,b2,h1,h2,e2⟩:=ih a1 b1 most (down - 1) ⋯ (by simp_all) hm hm2;refine⟨.nt s,a2,b2,by simp only[Sy.down];grind,h2,?_⟩;simp only[iT,Sy.t]at e2 ⊢;simp[F_2,fnD,d_2,e1',l1,l2,c4,e2]
   ·have o1:¬ (f:Int)=1:=by lia
    have ih':=λa b mm h1 h2=>ih a b mm (down - 1) ⋯ (by simp_all) h1 h2
    have d2:CDiv (most:Int) 2:=⟨by decide,by decide⟩
    have d8:CDiv (most:Int) 8:=⟨by decide,by decide⟩
    obtain⟨w0,ew,hw0⟩:∃ w0:Str,atI [.a (.str "and"),.a (.str "or")] ((f:Int) % 2)=some (sT w0)/\(w0="and"\/w0="or"):=by
     have:f % 2=0\/f % 2=1:=by lia
     rcases this with h | h
     ·exact⟨"and",by rw[show (f:Int) % 2=((0:Nat):Int) by grind];rfl,.inl rfl⟩
     ·exact⟨"or",by rw[show (f:Int) % 2=((1:Nat):Int) by lia];rfl,.inr rfl⟩
    obtain⟨hh,ehh⟩:∃ hh:Nat,hh=most / 2:=⟨most / 2,rfl⟩
    obtain⟨hg,ehg⟩:∃ hg:Nat,hg=most / 8:=⟨most / 8,rfl⟩
    have m2:(most:Int) / 2=(hh:Int):=by simp_all
    have m8:(most:Int) / 8=(hg:Int):=by simp_all
    by_cases mst:f < 4/\most > 27
    ·obtain⟨z4,ez4⟩:∃ z4:Nat,z4=(most - 24) / 4:=⟨(most - 24) / 4,rfl⟩
     obtain⟨k,a2,b2,hk,e2⟩:=LS a1 b1 z4 (by omega) (by omega);obtain⟨x,hx⟩:∃ x:Nat,x=1+k:=⟨1+k,rfl⟩
     have c1:(1:Int)+(k:Int)=(x:Int):=by omega
     have d4:∀ z:Int,CDiv z 4:=λz=>⟨by decide,by decide⟩
     have d12:∀ z:Int,CDiv z 12:=λz=>⟨by decide,by decide⟩
     have cm4:CMul 4 (x:Int):=.inl ⟨by decide,by decide⟩;have m24:((most:Int) - 24) / 4=(z4:Int):=by omega
     obtain⟨y,hy⟩:∃ y:Nat,y=(most - 4 * x) / 12:=⟨_,rfl⟩
     have m12:((most:Int) - 4 * (x:Int)) / 12=(y:Int):=by omega
     obtain⟨s0,a3,b3,h01,h02,e3⟩:=ih' a2 b2 x (by omega) (by omega);obtain⟨k',x',s1,s2,a4,b4,a5,b5,a6,b6,⟨u1,u2,v1,v2⟩,c5,t1,t2,t3⟩:=Px q n down ih' a3 b3 y (by omega) (by omega);refine⟨.mo s1 s2 s0,a6,b6,by simp only[Sy.down];omega,⟨u2,v2,h02⟩,?_⟩;have f4:(f:Int) < 4:=by omega
     have f4':¬ (f:Int)=4:=by omega
     have b27:(27:Int) < (most:Int):=by omega
     simp only[iT,Sy.t]at e2 e3 ⊢;simp[F_2,fnD,d_2,e1',l1,l2,l3,o1,one,ew,d2,m2,f4,f4',b27,d4,m24,e2,c1,d12,cm4,m12,c4,e3,t1,c5,t2,t3]
    ·by_cases ei:f=4/\most > 15
     ·obtain⟨k',x',s1,s2,a4,b4,a5,b5,a6,b6,⟨u1,u2,v1,v2⟩,c5,t1,t2,t3⟩:=Px q n down ih' a1 b1 hg (by omega) (by omega);refine⟨.ei s1 s2,a6,b6,by simp only[Sy.down];omega,⟨u2,v2⟩,?_⟩;obtain⟨rfl,h15⟩:=ei;have b15:(15:Int) < (most:Int):=by omega
      simp only[Sy.t];have ew':atI [T.a (.str "and"),.a (.str "or")] 0=some (sT "and"):=rfl;simp[F_2,fnD,d_2,e1',l1,l2,d2,m2,ew',b15,d8,m8,c4,t1,c5,t2,t3]
     ·obtain⟨k',x',s1,s2,a4,b4,a5,b5,a6,b6,⟨u1,u2,v1,v2⟩,c5,t1,t2,t3⟩:=Px q n down ih' a1 b1 hh (by omega) (by omega);have go:F_2 (n+1) [.l [⇑a,⇑b],.v (⇑(q:Int)),.v (⇑(most:Int)),.v (⇑(down:Int))]=some (.v (.t [sT w0,s1.t,s2.t]),[⇑a6,⇑b6]):=by
       by_cases f4:f=4
       ·have b15:¬ (15:Int) < (most:Int):=by omega
        have f4':(f:Int)=4:=by omega
        have f4'':¬ (f:Int) < 4:=by omega
        have z:atI [T.a (.str "and"),.a (.str "or")] ((4:Int) % 2)=some (sT "and"):=rfl;rw[f4']at ew;cases Av (z.symm.trans ew);simp[F_2,fnD,d_2,e1',l1,l2,l3,o1,one,ew,d2,m2,f4',f4'',b15,c4,t1,c5,t2,t3]
       ·have f4':¬ (f:Int)=4:=by omega
        by_cases f3:(f:Int) < 4
        ·have b27:¬ (27:Int) < (most:Int):=by omega
         simp[F_2,fnD,d_2,e1',l1,l2,l3,o1,one,ew,d2,m2,f4,f4',f3,b27,c4,t1,c5,t2,t3]
        ·simp[F_2,fnD,d_2,e1',l1,l2,l3,o1,one,ew,d2,m2,f4,f4',f3,c4,t1,c5,t2,t3]
      rcases hw0 with rfl | rfl
      ·exact⟨.an s1 s2,a6,b6,by simp only[Sy.down];omega,⟨u2,v2⟩,go⟩
      ·exact⟨.or s1 s2,a6,b6,by simp only[Sy.down];omega,⟨u2,v2⟩,go⟩
theorem Sy.head(s:Sy)(h:s.kids≠[]):∃ w,s.t=.t (sT w::s.kids.map Sy.t):=by
 cases s with
 | yes=>exact absurd rfl h
 | no=>exact absurd rfl h
 | ask q=>exact absurd rfl h
 | nt a=>exact⟨_,rfl⟩
 | an a b=>exact⟨_,rfl⟩
 | or a b=>exact⟨_,rfl⟩
 | ei a b=>exact⟨_,rfl⟩
 | mo a b c=>exact⟨_,rfl⟩
theorem Sy.leaf(s:Sy)(h:s.kids=[]):s.wt=1/\s.parts=1:=by
 cases s with
 | yes=>exact⟨rfl,rfl⟩
 | no=>exact⟨rfl,rfl⟩
 | ask q=>exact⟨rfl,rfl⟩
 | nt a=>cases h
 | an a b=>cases h
 | or a b=>cases h
 | ei a b=>cases h
 | mo a b c=>cases h
theorem Sy.kid{s k:Sy}(h:k∈s.kids):k.down < s.down/\(s.qs q->k.qs q):=by
 cases s with
 | yes=>cases h
 | no=>cases h
 | ask q=>cases h
 | nt a =>
  simp only[Sy.kids,AN,DM,or_false]at h;subst h;exact⟨by simp only[Sy.down];lia,λz=>z⟩
 | an a b =>
  simp only[Sy.kids,AN,DM,or_false]at h;rcases h with rfl | rfl
  ·exact⟨by simp[Sy.down];omega,λz=>z.1⟩
  ·exact⟨by simp[Sy.down];omega,λz=>z.2⟩
 | or a b =>
  simp only[Sy.kids,AN,DM,or_false]at h;rcases h with rfl | rfl
  ·exact⟨by simp[Sy.down];omega,λz=>z.1⟩
  ·exact⟨by simp[Sy.down];omega,λz=>z.2⟩
 | ei a b =>
  simp only[Sy.kids,AN,DM,or_false]at h;rcases h with rfl | rfl
  ·exact⟨by simp[Sy.down];omega,λz=>z.1⟩
  ·exact⟨by simp[Sy.down];omega,λz=>z.2⟩
 | mo a b c =>
  simp only[Sy.kids,AN,DM,or_false]at h;rcases h with rfl | rfl | rfl
  ·exact⟨by simp[Sy.down];lia,λz=>z.1⟩
  ·exact⟨by simp[Sy.down];lia,λz=>z.2.1⟩
  ·exact⟨by simp[Sy.down];lia,λz=>z.2.2⟩
def Sy.kids3(s:Sy):s.kids.length<=3:=by cases s <;> simp[Sy.kids]
theorem Ue q room most (h1:1<=room) (h2:1<=most):∀ m (s:Sy) a b fuel,s.down<=m->s.down<=12->m < fuel->s.qs q->∃ (s':Sy) (a' b':Int),s'.down<=s.down/\s'.qs q/\s'.wt<=most/\s'.parts<=room /\
  dWhile Mo OL fuel [~~~[iT a,iT b],~~~(iT q),~~~(iT room),~~~(iT most),~~~s.t]=↥([~~~[iT a',iT b'],~~~(iT q),~~~(iT room),~~~(iT most),~~~s'.t]):=by
 intro m;induction m with
 | zero=>intro s a b fuel h;have:=s.down_pos;lia
 | succ m ih =>
  intro s a b fuel hd h12 hf hq;obtain⟨f,rfl⟩:∃ f,fuel=f+1:=⟨fuel - 1,by omega⟩
  have ew:=aL Pj s h12;have ep:=aK P6 s h12;by_cases c:s.wt > most\/s.parts > room
  ·have hk:s.kids≠[]:=λz=>by have:=s.leaf z;omega
   obtain⟨w,et⟩:=s.head hk;obtain⟨j,a1,b1,hj,e1⟩:=LS a b s.kids.length (Ct.mpr hk) (by have:=s.kids3;lia);obtain⟨k,ek⟩:∃ k,s.kids[j]?=some k:=⟨s.kids[j],by simp⟩
   obtain⟨kd,kq⟩:=Sy.kid (DQ ek);obtain⟨s',a',b',u1,u2,u3,u4,e2⟩:=ih k a1 b1 f ⋯ ⋯ ⋯ (kq hq);refine⟨s',a',b',by omega,u2,u3,u4,?_⟩;rw[← e2,Lo];have test:Mo [~~~[iT a,iT b],~~~(iT q),~~~(iT room),~~~(iT most),~~~s.t]=some (true,[~~~[iT a,iT b],~~~(iT q),~~~(iT room),~~~(iT most),~~~s.t]):=by
    by_cases c1:s.wt > most
    ·have:=by omega
     simp[Mo,ew,this]
    ·have:room < (s.parts):=by lia
     simp[Mo,ew,ep,(by omega)]
   have body:OL [~~~[iT a,iT b],~~~(iT q),~~~(iT room),~~~(iT most),~~~s.t]=↥([~~~[iT a1,iT b1],~~~(iT q),~~~(iT room),~~~(iT most),~~~k.t]):=by
    have ei:atI (sT w::s.kids.map Sy.t) (1+j)=some k.t:=by
     rw[show 1+j=((j+1:Nat):Int) by lia,Lu];simp[ek]
    rw[et];simp[OL,e1,ei]
   rw[test,An,if_pos rfl,body,An]
  ·have c1:¬ most < (s.wt):=by lia
   have c2:¬ room < (s.parts):=by omega
   refine⟨s,a,b,AE _,hq,by lia,by omega,?_⟩;rw[Lo];simp[Mo,ew,ep,c1,c2]
def XG q room most (hq0:0 < q) (hq:q<=100) (h1:1<=room) (h1':room<=1000) (h2:1<=most) (h2':most<=1000) a b:∃ (s:Sy) (a' b':Int),s.down<=6/\s.qs q/\s.wt<=most/\s.parts<=room /\
  F_18 [.l [iT a,iT b],.v (iT q),.v (iT room),.v (iT most)]=some (.v s.t,[iT a',iT b']):=by
 obtain⟨s,a1,b1,u1,u2,u3,e1⟩:=Ts q hq0 hq MP a b room 5 ∅ ∅ h1 h1';obtain⟨c,a2,b2,hc,e2⟩:=LS a1 b1 2 ∅ ∅;have e1':F_1 MP [.l [⇑a,⇑b],.v (⇑q),.v (⇑room),.v (⇑5)]=some (.v s.t,[⇑a1,⇑b1]):=e1;have e2':F_5 [.l [⇑a1,⇑b1],.v (⇑2)]=some (.v (⇑c),[⇑a2,⇑b2]):=e2;by_cases c0:c=0
 ·obtain⟨s2,a3,b3,v1,v2,e3⟩:=kM q hq0 hq OW a2 b2 most 5 ∅ ∅ h2 h2';have e3':F_2 OW [.l [⇑a2,⇑b2],.v (⇑q),.v (⇑most),.v (⇑5)]=some (.v s2.t,[⇑a3,⇑b3]):=e3;obtain⟨s',a',b',w1,w2,w3,w4,e4⟩:=Ue q room most h1 h2 12 s2 a3 b3 fuelX (by omega) (by omega) (by rw[MB];lia) v2;refine⟨s',a',b',by lia,w2,w3,w4,?_⟩;simp[F_18,fnD,d_18,e1',e2',c0,e3',e4]
 ·obtain⟨s',a',b',w1,w2,w3,w4,e4⟩:=Ue q room most h1 h2 12 s a2 b2 fuelX (by omega) (by omega) (by rw[MB];lia) u3;refine⟨s',a',b',by lia,w2,w3,w4,?_⟩;simp[F_18,fnD,d_18,e1',e2',c0,e4]
theorem L4:∀ s:Sy,s.spell.down<=7 * s.down
 | .yes=>by simp[Sy.spell,Sy.down]
 | .no=>by simp[Sy.spell,Sy.down]
 | .ask _=>by simp[Sy.spell,Sy.down]
 | .nt a=>by have:=L4 a;simp only[Sy.spell,Sy.down];lia
 | .an a b=>by have:=L4 a;have:=L4 b;simp only[Sy.spell,Sy.down];lia
 | .or a b=>by have:=L4 a;have:=L4 b;simp[Sy.spell,orS,Sy.down];lia
 | .ei a b=>by have:=L4 a;have:=L4 b;simp[Sy.spell,orS,Sy.down];lia
 | .mo a b c=>by have:=L4 a;have:=L4 b;have:=L4 c;simp[Sy.spell,orS,Sy.down];lia
noncomputable def ringF (row:List Nat) (m:Nat):List (Nat×Nat)->List Nat->List Nat
 | [],f=>f
 | (p,k)::r,f=>ringF row m r (f.set p (row.getD ((k+1) % m) 0))
noncomputable def ringOf (n:Nat) (row:List Nat):List Nat:=ringF row n row.zipIdx (Ae n 0)
noncomputable def isTb (n:Nat) (t:List Nat):Bool:=t.length == n && (t.all λk=>decide (k < n)) && ndB t
theorem UW:∀ {t},ndB t=true->t.Nodup
 | [],_=>F7
 | k::r,h=>by
  simp only[ndB,Ar,Bool.not_eq_true']at h;refine BL.mpr ⟨λhm=>?_,UW h.2⟩
  grind
def Ry(h:isTb n t=true):IsT n t:=by
 simp[isTb]at h;exact⟨h.1.1,h.1.2,UW h.2⟩
def jg:([3,4,5].all λn=>(turns n).all λrow=>isTb n (ringOf n row) || row.getD 0 0 != 0)=true:=↥4
def XD t:enumT (tvT t)=(t.zipIdx 0).map λq=>.t [iT (q.2:Int),iT (q.1:Int)]:=by
 unfold enumT;simp[List.zipIdx_map,G7]
theorem gm:∀ m ls fs a b n o4 o5 o6 fuel,ls.length=m->m < fuel->ls.length+fs.length<=5->∃ fs' a' b',(fs'.Perm (fs++ls)/\(fs≠[]->fs'.getD 0 0=fs.getD 0 0)) /\
  dWhile NC Oa fuel [~~~[iT a,iT b],~~~(iT n),some (.l (tvT ls)),some (.l (tvT fs)),o4,o5,o6]=↥([~~~[iT a',iT b'],~~~(iT n),~~~[],some (.l (tvT fs')),o4,o5,o6]):=by
 intro m;induction m with
 | zero =>
  intro ls fs a b n o4 o5 o6 fuel hl hf h5;obtain rfl:ls=[]:=EB.mp hl;obtain⟨f,rfl⟩:∃ f,fuel=f+1:=⟨fuel - 1,by lia⟩
  exact⟨fs,a,b,⟨by simp,λ_=>rfl⟩,by rw[Lo];simp[NC]⟩
 | succ m ih =>
  intro ls fs a b n o4 o5 o6 fuel hl hf h5;obtain⟨f,rfl⟩:∃ f,fuel=f+1:=⟨fuel - 1,by lia⟩
  obtain⟨r,a',b',hr,e⟩:=LS a b ls.length ⋯ ⋯;obtain⟨z,hz⟩:∃ z,ls[r]?=some z:=⟨ls[r],by simp⟩
  obtain⟨fs',a2,b2,⟨hp,hh⟩,e2⟩:=ih (ls.eraseIdx r) (fs++[z]) a' b' n o4 o5 o6 f (by rw[Ck hr];lia) ⋯ (by rw[Ck hr];simp;lia);refine⟨fs',a2,b2,⟨hp.trans (Q5 hz),λh0=>?_⟩,?_⟩
  ·rw[hh ↥1];cases fs with
   | nil=>exact absurd rfl h0
   | cons x r=>rfl
  rw[← e2,Lo];have hb:inR 9223372036854775807 r=true:=M4 ⋯;have g1:ls.length<=AD:=LI ⋯;have g2:fs.length<=AD:=LI ⋯;have g3:fs.length < AD:=MF ⋯;simp[NC,Oa,e,hb,Qd hr,hz,gd,g1,g2,g3,show 0 < ls.length by lia,VA]
theorem VM(n:Nat) row (hn:0 < n) (hrow:row.length=n) b0 b2:∀ its f o5 o6,(∀ q∈its,q.1 < f.length/\q.2 < 100)->∃ o5' o6',
  forD (gdTup 2 (gdCons (gdName 5) (gdCons (gdName 6) gdNil))) Pd (its.map λq=>.t [iT (q.2:Int),iT (q.1:Int)]) [b0,~~~(iT n),b2,some (.r (tvT row)),some (.l (tvT f)),o5,o6] =
   some (.nx [b0,~~~(iT n),b2,some (.r (tvT row)),some (.l (tvT (ringF row n its f))),o5',o6']):=by
 intro its;induction its with
 | nil=>intro f o5 o6 _;exact⟨o5,o6,by rw[CH];rfl⟩
 | cons q r ih =>
  intro f o5 o6 h;obtain⟨p,k⟩:=q;have hm:(k+1) % n < n:=Kd _ hn;have h2:atI (tvT row) ((k+1) % n)=some (iT (row.getD ((k+1) % n) 0)):=by
   have e:(k+1) % n=(((k+1) % n:Nat):Int):=by simp
   rw[e];refine N6 ?_;rw[BF,AY ⋯];rfl
  obtain⟨o5',o6',e⟩:=ih (f.set p (row.getD ((k+1) % n) 0)) (~~~(iT k)) (~~~(iT p)) (λq hq=>by have:=h q (AH _ hq);simpa using this);refine⟨o5',o6',?_⟩;rw[Ad,Oc];have hs:(tvT f).set p (iT ((row.getD ((k+1) % n) 0)))=tvT (f.set p (row.getD ((k+1) % n) 0)):=by simp
  have h3':ixN (tvT f).length p=some p:=by simpa using (Rf (h (p,k) AG).1)
  simp only[ringF];rw[← e,← hs];generalize row.getD ((k+1) % n) 0=z at *;generalize tvT f=FF at *;simp[Pd,hn,h2,h3']
def kS a b n (h3:3<=n) (hn:n<=5):∃ row a' b',IsT n (ringOf n row)/\row.Perm (AI n)/\row.getD 0 0=0/\F_44 [.l [iT a,iT b],.v (iT n)]=some (.v (tuT (ringOf n row)),[iT a',iT b']):=by
 obtain⟨row,a',b',⟨hp,hh⟩,e⟩:=gm (n - 1) (Dr 1 (n - 1)) [0] a b n none none none fuelX ↥1 (by rw[MB];lia) ↥2;have hpr:row.Perm (AI n):=by
  have e0:[0]++Dr 1 (n - 1)=AI n:=by
   obtain⟨m,rfl⟩:∃ m,n=m+1:=⟨n - 1,by lia⟩
   rw[List.range_eq_range',List.range'_succ];simp
  rw[← e0];exact hp
 have hrt:=Ol hpr;have h0:=hh ↥1;have hT:IsT n (ringOf n row):=by
  have:=AJ.mp jg n ↥2;have:=AJ.mp this row (Lx hrt);simp at this;rcases this with z | z
  ·exact Ry z
  ·exact absurd h0 z
 refine⟨row,a',b',hT,hpr,h0,?_⟩;obtain⟨o5,o6,e2⟩:=VM n row ⋯ hrt.len (~~~[iT a',iT b']) (~~~[]) row.zipIdx (Ae n 0) none none (λq hq=>by
  have h:=List.mem_zipIdx hq;have hl:=hrt.len;refine⟨?_,by lia⟩;have:q.1∈row:=by rw[h.2.2];exact D8 _
  simpa using hrt.lt _ this)
 have r1:rngS [.v (⇑1),.v (⇑n)]=some (rngT 1 (n - 1)):=V3 1 n ⋯ ⋯;have r2:rngT 1 (n - 1)=tvT (Dr 1 (n - 1)):=by
  simp[rngT,List.range'_eq_map_range,G7]
 have m1:∀ Γ,mulS Γ (.l [⇑0]) (.v (⇑n))=some (.l (tvT (Ae n 0))):=λΓ=>by
  rw[iA [⇑0] n ↥2 ⋯];simp
 have gl:(tvT row).length<=AD:=LI (by simp[hrt.len];lia);have en:dEnum %[jV 3|0] [~~~[iT a',iT b'],~~~(iT n),~~~[],some (.l (tvT row)),some (.l (tvT (Ae n 0))),none,none]=some (((row.zipIdx 0).map λq=>.t [iT (q.2),iT (q.1)],[3]),[~~~[iT a',iT b'],~~~(iT n),~~~[],some (.l (tvT row)),some (.l (tvT (Ae n 0))),none,none]):=by
  rw[← XD];generalize tvT row=RR at *;simp[dEnum,gd,gl]
 unfold ringOf;have e':dWhile NC Oa fuelX [~~~[iT a,iT b],~~~(iT n),some (.l (tvT (Dr 1 (n - 1)))),~~~[⇑0],none,none,none]=↥([~~~[iT a',iT b'],~~~(iT n),~~~[],some (.l (tvT row)),none,none,none]):=e;rw[← r2]at e';generalize tvT (Ae n 0)=R0 at *;simp[F_44,fnD,d_44,r1,e',m1,en,frz1,e2]
noncomputable def rings5:List (List Nat):=[[1,2,3,4,0],[1,2,4,0,3],[1,3,4,2,0],[1,3,0,4,2],[1,4,3,0,2],[1,4,0,2,3],[2,3,1,4,0],[2,4,1,0,3],[2,4,3,1,0],[2,0,3,4,1],[2,3,4,0,1],[2,0,4,1,3],[3,2,4,1,0],[3,4,0,1,2],[3,4,1,2,0],[3,0,4,2,1],[3,2,0,4,1],[3,0,1,4,2],[4,2,3,0,1],[4,3,0,2,1],[4,3,1,0,2],[4,0,3,1,2],[4,2,0,1,3],[4,0,1,2,3]]
noncomputable def invs:List Nat->Nat
 | []=>0
 | k::r=>(r.filter λx=>decide (x < k)).length+invs r
noncomputable def evB (t:List Nat):Bool:=invs t % 2 == 0
noncomputable def natsT':List T->Option (List Nat)
 | []=>some []
 | .a (.int n)::r=>if 0<=n then (natsT' r).map λks=>n.toNat::ks else none
 | _=>none
theorem natsT'_eq:∀ {ts ks},natsT' ts=some ks->ts=tvT ks
 | [],ks,e=>by cases e;rfl
 | t::r,ks,e=>by
  unfold natsT' at e;split at e
  ·rename_i h;cases h
  ·rename_i n r' h;cases h;split at e
   ·obtain⟨ms,e1,rfl⟩:=LF e;rw[natsT'_eq e1];simp;lia
   ·cases e
  ·cases e
noncomputable def apT:T->Option (List Nat)
 | .t as=>natsT' as
 | _=>none
noncomputable def apG:G->Option (List Nat×List Nat)
 | .v (.t ts)=>match ts with
  | [x,y]=>(apT x).bind λa=>(apT y).map λb=>(a,b)
  | _=>none
 | _=>none
noncomputable def apO (r:List Nat):Option (List Nat×List Nat):=(F_27 [.v (tuT r)]).bind λx=>if x.2=[] then apG x.1 else none
def Up{x:T}{a:List Nat}(h:apT x=some a):x=tuT a:=by
 unfold apT at h;split at h
 ·rw[natsT'_eq h]
 ·cases h
noncomputable def apL (r:List Nat):List Nat×List Nat:=(apO r).getD ([],[])
def XR(h:apO r=some p):F_27 [.v (tuT r)]=some (.v (.t [tuT p.1,tuT p.2]),[]):=by
 obtain⟨⟨g,l⟩,e,h⟩:=bind_some h;split at h
 ·rename_i hl;dsimp only at hl h;subst hl;unfold apG at h;split at h
  ·split at h
   ·obtain⟨a,e1,h⟩:=bind_some h;obtain⟨b,e2,rfl⟩:=LF h;rw[e,Up e1,Up e2]
   ·cases h
  ·cases h
 ·cases h
noncomputable def chkA (r:List Nat):Bool:=match apO r with
 | some (a,b)=>rings5.contains a && rings5.contains b && (thenL (thenL a b) (thenL (backL a) (backL b)) == r)
 | none=>false
def allA5:rings5.all chkA=true:=↥4
def allB5:(rings5.all λr=>rings5.contains (backL r) && isTb 5 r && evB r && isTr (F_23 [.v (tuT r)]))=true:=↥4
def allR5:((turns 5).all λrow=>row.getD 0 0 != 0 || rings5.contains (ringOf 5 row))=true:=↥4
def allC5:((turns 5).all λt=>!evB t || rings5.all λr=>evB (thenL t r))=true:=↥4
structure Rg(r:List Nat):Prop where
 mem:r∈rings5
def Rg.facts(h:Rg r):Rg (backL r)/\IsT 5 r/\evB r=true/\F_23 [.v (tuT r)]=some (.v (.a (.bl true)),[]):=by
 have:=AJ.mp allB5 r h.mem;simp only[Ar]at this;exact⟨⟨by simpa using this.1.1.1⟩,Ry this.1.1.2,this.1.2,cP this.2⟩
def Rg.isT(h:Rg r):IsT 5 r:=h.facts.2.1
def Rg.back(h:Rg r):Rg (backL r):=h.facts.1
def Rg.ap(h:Rg r):F_27 [.v (tuT r)]=some (.v (.t [tuT (apL r).1,tuT (apL r).2]),[])/\Rg (apL r).1/\Rg (apL r).2/\thenL (thenL (apL r).1 (apL r).2) (thenL (backL (apL r).1) (backL (apL r).2))=r:=by
 have:=AJ.mp allA5 r h.mem;unfold chkA at this;unfold apL;split at this
 ·rename_i a b e;simp only[Ar]at this;rw[e];exact⟨XR e,⟨by simpa using this.1.1⟩,⟨by simpa using this.1.2⟩,by simpa using this.2⟩
 ·cases this
structure Ev(t:List Nat):Prop where
 isT:IsT 5 t
 ev:evB t=true
def Rg.even(h:Rg r):Ev r:=⟨h.isT,h.facts.2.2.1⟩
def QY:Ev (AI 5):=⟨MN 5,by decide⟩
def Ev.then(h:Ev t)(hr:Rg r):Ev (thenL t r):=by
 refine⟨Lj h.isT hr.isT,?_⟩;have:=AJ.mp allC5 t (Lx h.isT);rw[h.ev]at this;exact AJ.mp (by simpa using this) r hr.mem
noncomputable def lastF (st:List Stp) (t:List Nat):List Stp:=match st.getLast? with
 | some s=>st.dropLast++[(s.1,thenL s.2.1 t,thenL s.2.2 t)]
 | none=>[]
noncomputable def Sy.steps:Sy->List Nat->List Stp
 | .yes,r=>[(0,r,r)]
 | .no,_=>[(0,AI 5,AI 5)]
 | .ask q,r=>[(q,r,AI 5)]
 | .nt a,r=>lastF (a.steps (backL r)) r
 | .an a b,r=>a.steps (apL r).1++b.steps (apL r).2++a.steps (backL (apL r).1)++b.steps (backL (apL r).2)
 | _,_=>[]
noncomputable def Sy.plain:Sy->Prop
 | .yes=>True
 | .no=>True
 | .ask _=>True
 | .nt a=>a.plain
 | .an a b=>a.plain/\b.plain
 | _=>False
theorem LZ:∀ s:Sy,s.spell.plain
 | .yes=>trivial
 | .no=>trivial
 | .ask _=>trivial
 | .nt a=>LZ a
 | .an a b=>⟨LZ a,LZ b⟩
 | .or a b=>⟨LZ a,LZ b⟩
 | .ei a b=>⟨⟨LZ a,LZ b⟩,⟨LZ a,LZ b⟩⟩
 | .mo a b c=>⟨⟨LZ a,LZ b⟩,⟨LZ c,⟨LZ a,LZ b⟩⟩⟩
theorem Lq:∀ s:Sy,s.spell.wt=s.wt
 | .yes=>rfl
 | .no=>rfl
 | .ask _=>rfl
 | .nt a=>by have:=Lq a;simp[Sy.spell,Sy.wt];try lia
 | .an a b=>by have:=Lq a;have:=Lq b;simp[Sy.spell,Sy.wt];try lia
 | .or a b=>by have:=Lq a;have:=Lq b;simp[Sy.spell,orS,Sy.wt];try lia
 | .ei a b=>by have:=Lq a;have:=Lq b;simp[Sy.spell,orS,Sy.wt];try lia
 | .mo a b c=>by have:=Lq a;have:=Lq b;have:=Lq c;simp[Sy.spell,orS,Sy.wt];try lia
theorem Le:∀ s:Sy,s.qs q->s.spell.qs q
 | .yes,_=>trivial
 | .no,_=>trivial
 | .ask _,h=>h
 | .nt a,h=>Le a h
 | .an a b,h=>⟨Le a h.1,Le b h.2⟩
 | .or a b,h=>⟨Le a h.1,Le b h.2⟩
 | .ei a b,h=>⟨⟨Le a h.1,Le b h.2⟩,⟨Le a h.1,Le b h.2⟩⟩
 | .mo a b c,h=>⟨⟨Le a h.1,Le b h.2.1⟩,⟨Le c h.2.2,⟨Le a h.1,Le b h.2.1⟩⟩⟩
theorem iM:(lastF st t).length=st.length:=by
 unfold lastF;cases h:st.getLast? with
 | none=>rw[GL.mp h];try rfl
 | some s =>
  have:st≠[]:=λz=>by rw[z]at h;cases h
  have:=Ct.mpr this;simp;lia
theorem MG:∀ (s:Sy) r,s.plain->(s.steps r).length=s.wt
 | .yes,_,_=>rfl
 | .no,_,_=>rfl
 | .ask _,_,_=>rfl
 | .nt a,r,h=>by simp[Sy.steps,iM];exact MG a _ h
 | .an a b,r,h=>by
  simp only[Sy.steps,A7,(λr=>MG a r h.1),(λr=>MG b r h.2),Sy.wt];lia
theorem MQ:∀ s:Sy,1<=s.wt
 | .yes=>AE _
 | .no=>AE _
 | .ask _=>AE _
 | .nt a=>by simp[Sy.wt];exact MQ a
 | .an a b=>by have:=MQ a;simp only[Sy.wt];lia
 | .or a b=>by have:=MQ a;simp only[Sy.wt];lia
 | .ei a b=>by have:=MQ a;simp only[Sy.wt];lia
 | .mo a b c=>by have:=MQ a;simp only[Sy.wt];lia
def StE (q:Nat) (st:List Stp):Prop:=∀ s∈st,s.1 < q/\Ev s.2.1/\Ev s.2.2
def StE.ok(h:StE q st):StOk 5 q st:=λs hs=>⟨(h s hs).1,(h s hs).2.1.isT,(h s hs).2.2.isT⟩
def StE.app(h:StE q a)(h':StE q b):StE q (a++b):=λs hs=>(Aw.mp hs).elim (h s) (h' s)
theorem eP(h:StE q st)(ht:Rg t):StE q (lastF st t):=by
 unfold lastF;cases e:st.getLast? with
 | none=>exact λs hs=>nomatch hs
 | some s =>
  have hs:=h s (HD e);refine StE.app (λx hx=>h x (List.dropLast_subset _ hx)) λx hx=>?_
  rw[AC.mp hx];exact⟨hs.1,hs.2.1.then ht,hs.2.2.then ht⟩
theorem Me(hq:0 < q):∀ (s:Sy) r,s.plain->s.qs q->Rg r->StE q (s.steps r)
 | .yes,r,_,_,hr=>λx hx=>by rw[AC.mp hx];exact⟨hq,hr.even,hr.even⟩
 | .no,r,_,_,hr=>λx hx=>by rw[AC.mp hx];exact⟨hq,QY,QY⟩
 | .ask k,r,_,h,hr=>λx hx=>by rw[AC.mp hx];exact⟨h,hr.even,QY⟩
 | .nt a,r,hp,h,hr=>eP (Me hq a _ hp h hr.back) hr
 | .an a b,r,hp,h,hr=>by
  obtain⟨_,h1,h2,_⟩:=hr.ap;exact (((Me hq a _ hp.1 h.1 h1).app (Me hq b _ hp.2 h.2 h2)).app (Me hq a _ hp.1 h.1 h1.back)).app (Me hq b _ hp.2 h.2 h2.back)
noncomputable abbrev danT (n qs:Nat) (st:List Stp):T:=.t [iT (n:Int),iT (qs:Int),.t (st.map stT)]
noncomputable abbrev pcT (s:Sy) (r:List Nat):T:=.t [s.t,tuT r]
noncomputable abbrev spT (st:List Stp):T:=.t (st.map stT)
noncomputable def Sy.prs:Sy->List Nat->Rs
 | .yes,r=>.mk (pcT .yes r) (spT (Sy.steps .yes r)) []
 | .no,r=>.mk (pcT .no r) (spT (Sy.steps .no r)) []
 | .ask q,r=>.mk (pcT (.ask q) r) (spT (Sy.steps (.ask q) r)) []
 | .nt a,r=>.mk (pcT (.nt a) r) (spT (Sy.steps (.nt a) r)) [a.prs (backL r)]
 | .an a b,r=>.mk (pcT (.an a b) r) (spT (Sy.steps (.an a b) r)) [a.prs (apL r).1,b.prs (apL r).2,a.prs (backL (apL r).1),b.prs (backL (apL r).2)]
 | s,r=>.mk (pcT s r) (spT []) []
def P4 s r:(s.prs r).e=pcT s r:=by cases s <;> rfl
theorem OT(s:Sy) r (h:s.plain):(s.prs r).v=spT (s.steps r):=by
 cases s with
 | or a b=>exact h.elim
 | ei a b=>exact h.elim
 | mo a b c=>exact h.elim
 | _=>rfl
theorem Mj:∀ (s:Sy) r,s.plain->(s.prs r).pre.length<=s.wt * s.down
 | .yes,r,_=>by simp[Sy.prs,LP,LW,Sy.wt,Sy.down]
 | .no,r,_=>by simp[Sy.prs,LP,LW,Sy.wt,Sy.down]
 | .ask _,r,_=>by simp[Sy.prs,LP,LW,Sy.wt,Sy.down]
 | .nt a,r,h=>by
  have h1:=Mj a (backL r) h;have h2:=MQ a;simp only[Sy.prs,LP,La,LW,Bn,Co,Sy.wt,Sy.down];lia
 | .an a b,r,h=>by
  have a1:=Mj a (apL r).1 h.1;have a2:=Mj a (backL (apL r).1) h.1;have b1:=Mj b (apL r).2 h.2;have b2:=Mj b (backL (apL r).2) h.2;have pa:=MQ a;have ma:a.wt * a.down<=a.wt * max a.down b.down:=HY _ (Ib _ _);have mb:b.wt * b.down<=b.wt * max a.down b.down:=HY _ (Nat.le_max_right _ _);simp only[Sy.prs,LP,La,LW,Bn,Co,A7,Sy.wt,Sy.down];lia
theorem Oo s r (h:s.kids=[]):F_28 [.v (pcT s r)]=some (.l [],[]):=by
 cases s with
 | yes=>simp[F_28,fnD,d_28,Sy.t]
 | no=>simp[F_28,fnD,d_28,Sy.t]
 | ask q=>simp[F_28,fnD,d_28,Sy.t]
 | _=>cases h
def cY a r (hr:Rg r):F_28 [.v (pcT (.nt a) r)]=some (.l [pcT a (backL r)],[]):=by
 have e:=M7 5 r hr.isT ∅;unfold pcT;simp only[Sy.t];generalize tuT r=R at *;generalize tuT (backL r)=BR at *;simp[F_28,fnD,d_28,e]
def jr a b r (hr:Rg r):F_28 [.v (pcT (.an a b) r)]=some (.l [pcT a (apL r).1,pcT b (apL r).2,pcT a (backL (apL r).1),pcT b (backL (apL r).2)],[]):=by
 obtain⟨e0,r1,r2,_⟩:=hr.ap;have e1:=M7 5 _ r1.isT ∅;have e2:=M7 5 _ r2.isT ∅;unfold pcT;simp only[Sy.t];generalize tuT r=R at *;generalize tuT (backL (apL r).1)=B1 at *;generalize tuT (backL (apL r).2)=B2 at *;generalize tuT (apL r).1=A1 at *;generalize tuT (apL r).2=A2 at *;simp[F_28,fnD,d_28,e0,e1,e2]
theorem Ml:∀ (s:Sy) r,s.plain->Rg r->(s.prs r).In F_28
 | .yes,r,_,_=>Lk.mpr ⟨.inr (Oo .yes r rfl),Lm⟩
 | .no,r,_,_=>Lk.mpr ⟨.inr (Oo .no r rfl),Lm⟩
 | .ask q,r,_,_=>Lk.mpr ⟨.inr (Oo (.ask q) r rfl),Lm⟩
 | .nt a,r,h,hr=>Lk.mpr ⟨.inr (by rw[Ad,P4];exact cY a r hr),LN.mpr ⟨Ml a _ h hr.back,Lm⟩⟩
 | .an a b,r,h,hr=>by
  obtain⟨_,r1,r2,_⟩:=hr.ap;exact Lk.mpr ⟨.inr (by simp only[Ad,P4];exact jr a b r hr),LN.mpr ⟨Ml a _ h.1 r1,LN.mpr ⟨Ml b _ h.2 r2,LN.mpr ⟨Ml a _ h.1 r1.back,LN.mpr ⟨Ml b _ h.2 r2.back,Lm⟩⟩⟩⟩⟩
theorem df(s:Sy) r (h:s.kids=[]):F_34 [.v s.t,.v (tuT r)]=some (.v (.t [iT ((match s with | .ask q=>q | _=>0:Nat):Int),(match s with | .no=>tuT (AI 5) | _=>tuT r),(match s with | .yes=>tuT r | _=>tuT (AI 5))]),[]):=by
 have e':F_10 [.v (⇑5)]=some (.v (tuT (AI 5)),[]):=(O4 5 ∅)
 cases s with
 | yes=>simp[F_34,fnD,d_34,Sy.t]
 | no=>simp[F_34,fnD,d_34,Sy.t,e']
 | ask q=>simp[F_34,fnD,d_34,Sy.t,e']
 | _=>cases h
theorem PZ s r (h:s.kids=[]):F_35 [.v (pcT s r),.r []]=some (.v (spT (s.steps r)),[]):=by
 have e:=df s r h;have g1:1<=AD:=by decide
 unfold pcT spT;cases s with
 | yes =>
  simp only[Sy.steps,Ad,CH,stT];simp only[Sy.t]at e ⊢;generalize tuT r=R at *;simp[F_35,fnD,d_35,g1,e]
 | no =>
  simp only[Sy.steps,stT];simp only[Sy.t]at e ⊢;generalize tuT r=R at *;simp[F_35,fnD,d_35,g1,e]
 | ask q =>
  simp only[Sy.steps,CH];simp[Sy.t]at e ⊢;simp[F_35,fnD,d_35,e]
 | _=>cases h
def cp xs (h:xs≠[]):cutT xs none (some (-1))=xs.dropLast:=by
 have:HT.sIx xs.length xs.length (some (-1))=xs.length - 1:=by
  show (if (-1) < 0 then ((-1)+(xs.length:Int)).toNat else min (-1).toNat xs.length)=_
  grind
 unfold cutT;rw[this,HT.sIx_none];simp[EU]
theorem gI st t (h:StOk 5 q st) (hn:st≠[]) (ht:IsT 5 t) (hl:st.length<=5000):F_33 [.v (spT st),.v (tuT t)]=some (.v (spT (lastF st t)),[]):=by
 unfold lastF;cases e:st.getLast? with
 | none=>exact absurd (GL.mp e) hn
 | some s =>
  have hs:=h s (HD e);have e1:=MZ 5 s.2.1 t hs.2.1 ht ∅;have e2:=MZ 5 s.2.2 t hs.2.2 ht ∅;have e3:atI (st.map stT) (-1)=some (stT s):=by
   rw[d9 (by simpa using hn),Am,Af,← List.getLast?_eq_getElem?,e];rfl
  have e4:cutT (st.map stT) none (some (-1))=st.dropLast.map stT:=by rw[cp _ (by simpa using hn),List.map_dropLast]
  have g1:1<=AD:=by decide
  have g3:3<=AD:=by decide
  have gl:(st.dropLast.map stT).length+1<=AD:=LI ↥2;unfold spT;rw[Ba,Ad];generalize st.dropLast.map (λs=>T.t [iT (s.1),tuT s.2.1,tuT s.2.2])=DL at *;simp[F_33,fnD,d_33,gd,g1,g3,gl,e1,e2,e3,e4]
def fH(hq:0 < q) a r (hp:a.plain) (h:a.qs q) (hw:a.wt<=1000) (hr:Rg r):F_35 [.v (pcT (.nt a) r),.r [spT (a.steps (backL r))]]=some (.v (spT (Sy.steps (.nt a) r)),[]):=by
 have hl:=MG a (backL r) hp;have hn:a.steps (backL r)≠[]:=λz=>by
  rw[z]at hl;have:=MQ a;simp at hl;lia
 have e:=gI (a.steps (backL r)) r (Me hq a _ hp h hr.back).ok hn hr.isT ⋯;simp[Sy.steps];unfold pcT;simp only[Sy.t];generalize tuT r=R at *;simp[F_35,fnD,d_35,e]
def kG a b r (hp:a.plain/\b.plain) (hw:a.wt+b.wt<=1000):F_35 [.v (pcT (.an a b) r),.r [spT (a.steps (apL r).1),spT (b.steps (apL r).2),spT (a.steps (backL (apL r).1)),spT (b.steps (backL (apL r).2))]]=some (.v (spT (Sy.steps (.an a b) r)),[]):=by
 have l3:=MG a (backL (apL r).1) hp.1;simp only[Sy.steps];unfold pcT spT;simp only[Sy.t,Ba];have k1:((a.steps (apL r).1).map stT).length=a.wt:=by rw[Af,(MG a (apL r).1 hp.1)]
 have k2:((b.steps (apL r).2).map stT).length=b.wt:=by rw[Af,(MG b (apL r).2 hp.2)]
 have k3:((a.steps (backL (apL r).1)).map stT).length=a.wt:=by rw[Af,l3]
 have k4:((b.steps (backL (apL r).2)).map stT).length=b.wt:=by rw[Af,(MG b (backL (apL r).2) hp.2)]
 generalize (a.steps (apL r).1).map stT=S1 at *;generalize (b.steps (apL r).2).map stT=S2 at *;generalize (a.steps (backL (apL r).1)).map stT=S3 at *;generalize (b.steps (backL (apL r).2)).map stT=S4 at *;generalize tuT r=R;have g1:S1.length+S2.length<=AD:=LI ⋯;have g2:S1.length+S2.length+S3.length<=AD:=LI ⋯;have g3'':S1.length+(S2.length+S3.length)+S4.length<=AD:=LI ⋯;simp[F_35,fnD,d_35,gd,g1,g2,g3'']
def bf:a.wt<=(Sy.an a b).wt/\b.wt<=(Sy.an a b).wt/\a.wt+b.wt<=(Sy.an a b).wt:=by simp[Sy.wt];lia
theorem M3(hq:0 < q):∀ (s:Sy) r,s.plain->s.qs q->s.wt<=1000->Rg r->(s.prs r).Put F_35
 | .yes,r,_,_,_,_=>Ll.mpr ⟨PZ .yes r rfl,Ls⟩
 | .no,r,_,_,_,_=>Ll.mpr ⟨PZ .no r rfl,Ls⟩
 | .ask q,r,_,_,_,_=>Ll.mpr ⟨PZ (.ask q) r rfl,Ls⟩
 | .nt a,r,hp,h,hw,hr=>Ll.mpr ⟨by rw[Ad,OT _ _ (show a.plain from hp)];exact fH hq a r hp h hw hr,Lf.mpr ⟨M3 hq a _ hp h hw hr.back,Ls⟩⟩
 | .an a b,r,hp,h,hw,hr=>by
  obtain⟨_,r1,r2,_⟩:=hr.ap;have w:=bf (a:=a) (b:=b);exact Ll.mpr ⟨by simp only[Ad,OT _ _ hp.1,OT _ _ hp.2];exact kG a b r hp ⋯,Lf.mpr ⟨M3 hq a _ hp.1 h.1 ⋯ r1,Lf.mpr ⟨M3 hq b _ hp.2 h.2 ⋯ r2,Lf.mpr ⟨M3 hq a _ hp.1 h.1 ⋯ r1.back,Lf.mpr ⟨M3 hq b _ hp.2 h.2 ⋯ r2.back,Ls⟩⟩⟩⟩⟩
def fV:tb_1.find? (λq=>decide (q.1=("pieces_in":Str)))=some (("pieces_in":Str),1,F_28):=by rfl
def a8:tb_2.find? (λq=>decide (q.1=("steps_of":Str)))=some (("steps_of":Str),2,F_35):=by rfl
def Zg:tb_2.find? (λq=>decide (q.1=("weight_of":Str)))=some (("weight_of":Str),2,F_30):=by rfl
def iy(s:Sy):F_30 [.v s.t,.r (s.kids.map λk=>iT (k.wt:Int))]=some (.v (iT (s.wt:Int)),[]):=by
 have c2:∀ x,CMul 2 x:=λx=>.inl ⟨by decide,by decide⟩
 have c8:∀ x,CMul 8 x:=λx=>.inl ⟨by decide,by decide⟩
 have c12:∀ x,CMul 12 x:=λx=>.inl ⟨by decide,by decide⟩
 have c4:∀ x,CMul 4 x:=λx=>.inl ⟨by decide,by decide⟩
 cases s <;> simp[F_30,fnD,d_30,Sy.t,Sy.kids,Sy.wt,inS,atomsOf,flatV,inV,eqV,c2,c4,c8,c12]
def jd(s:Sy)(h:s.parts<=80000):F_38 [.v s.t]=some (.v (iT (s.wt:Int)),[]):=by
 have:=Ph Qu Zg (s.rs λk=>iT (k.wt)) (s.rs_in _) (s.rs_put _ iy) (by rw[Sy.rs_pre];exact h);rw[← PV,Sy.rs_e,Sy.rs_v]at this;simp[F_38,fnD,d_38,F_37,d_37,this]
def Y1(s:Sy) q most r (hq:0 < q) (h:s.qs q) (hr:Rg r) (hw:s.wt<=most) (hm:most<=128) (hd:s.down<=12) (hp:s.parts<=1000) :
  F_41 [.v s.t,.v (iT q),.v (tuT r),.v (iT most)]=some (.v (danT 5 q (s.spell.steps r)),[]):=by
 have e1:=jd s ⋯;have e2:=Z9 s ⋯;have pl:=LZ s;have hb:(s.spell.prs r).pre.length<=80000:=by
  have h1:=Mj s.spell r pl;rw[Lq]at h1;have h2:=L4 s;have h3:s.wt * s.spell.down<=128 * 84:=Nat.mul_le_mul ⋯ ⋯;lia
 have e3:=Ph fV a8 (s.spell.prs r) (Ml _ r pl hr) (M3 hq _ r pl (Le s h) (by rw[Lq];lia) hr) hb;rw[← PV,P4,OT _ _ pl]at e3;have e4:=hr.facts.2.2.2;have c:¬ most < (s.wt):=by lia
 have g3:3<=AD:=by decide
 unfold pcT at e3;have e5:F_39 [.v s.t,.v (tuT r),.v (iT most)]=some (.v (.a .non),[]):=by
  generalize tuT r=R at *;simp[F_39,fnD,d_39,e4,e1,c]
 show _=some (G.v (.t [iT (5),iT q,spT (s.spell.steps r)]),[]);generalize tuT r=R at *;simp[F_41,fnD,d_41,e5,e2,e3]
def Vv:((turns 5).all λt=>evB t == A5c.contains (encC t))=true:=↥4
def Qt(h:IsT 5 t):evB t=true ↔ encC t∈A5c:=by
 have:=beq_iff_eq.mp (AJ.mp Vv t (Lx h));rw[this,DG]
def t5_k:((turns 5).all λt=>decide (t.length=5) && (t.all λk=>decide (k < 5)) && decide t.Nodup)=true:=↥4
def Vs(h:t∈turns 5):IsT 5 t:=by
 have:=AJ.mp t5_k t h;simp at this;exact⟨this.1.1,this.1.2,this.2⟩
noncomputable def isBl (r:Option (G×List T)) (b:Bool):Bool:=match r with
 | some (.v (.a (.bl c)),[])=>c == b
 | _=>false
def ZP(h:isBl r b=true):r=some (.v (.a (.bl b)),[]):=by
 unfold isBl at h;split at h
 ·rw[beq_iff_eq.mp h]
 ·cases h
def allE45:((turns 5).all λt=>isBl (F_47 [.v (tuT t)]) (evB t))=true:=↥4
def XE(h:IsT 5 t):F_47 [.v (tuT t)]=some (.v (.a (.bl (evB t))),[]):=ZP (AJ.mp allE45 t (Lx h))
theorem UQ:∀ (Z:List (List Nat)) o,(∀ z∈Z,IsT 5 z)->∃ o',compD (gdName 0) Mt NI (Z.map tuT) [o]=some ((Z.filter evB).map tuT,[o'])
 | [],o,_=>⟨o,rfl⟩
 | t::r,o,h=>by
  obtain⟨o',e⟩:=UQ r (~~~(tuT t)) λz hz=>h z (AH _ hz)
  have e1:=XE (h t AG);refine⟨o',?_⟩;rw[Ad,LY];cases hb:evB t with
  | true =>
   rw[List.filter_cons_of_pos ‹_›,Ad];rw[hb]at e1;generalize tuT t=X at *;have hq:Mt [~~~X]=some (true,[~~~X]):=by simp[Mt,e1]
   have he:NI [~~~X]=some (.v X,[~~~X]):=by simp[NI]
   simp[hq,he,e]
  | false =>
   rw[List.filter_cons_of_neg (by simp[hb])];rw[hb]at e1;generalize tuT t=X at *;have hq:Mt [~~~X]=some (false,[~~~X]):=by simp[Mt,e1]
   simp[hq,e]
noncomputable def A5t:List (List Nat):=(turns 5).filter evB
def hG:(A5t.length == 60 && A5c.all λm=>A5t.any λt=>encC t == m)=true:=↥4
def kJ(h:∀ z∈Z,IsT 5 z)(nd:Z.Nodup):(Z.filter evB).length=60 ↔ Full Z:=by
 have k:=hG;rw[Ar,beq_iff_eq]at k;have sub:∀ x∈Z.filter evB,x∈A5t:=λx hx=>by
  have:=Bm.mp hx;exact Bm.mpr ⟨Lx (h x this.1),this.2⟩
 have le:=Md _ _ (nd.filter _) sub;constructor
 ·intro e m hm;refine DZ λnp=>?_
  obtain⟨t,ht,em⟩:=B8.mp (AJ.mp k.2 m hm);have:=Md (t::Z.filter evB) A5t (BL.mpr ⟨λhx=>np ⟨t,(Bm.mp hx).1,beq_iff_eq.mp em⟩,nd.filter _⟩) (λx hx=>by
   rcases AN.mp hx with q | q
   ·rw[q];exact ht
   ·exact sub x q)
  rw[Co,e,k.1]at this;lia
 ·intro f;have:=Md A5t (Z.filter evB) ↥4 λt ht=>by
   have q:=Bm.mp ht;have it:=Vs q.1;exact Bm.mpr ⟨PC.mem h it (f _ ((Qt it).mp q.2)),q.2⟩
  lia
noncomputable def some5:List (List Nat):=[[1,2,3,4,0],[1,2,0,3,4],[1,2,0,3,4],[1,0,3,2,4],[0,1,2,3,4]]
theorem U1:∀ its (ts:List (List Nat)) a b o2 o3 o4 o5,(∀ t∈ts,IsT 5 t)->its.length+ts.length<=100->∃ (ts':List (List Nat)) (a' b':Int) (o2' o3' o4' o5':Option G),(∀ t∈ts',IsT 5 t)/\ts'.length=ts.length+its.length /\
  forD (gdName 2) OJ its [~~~[iT a,iT b],some (.l (ts.map tuT)),o2,o3,o4,o5]=↥([~~~[iT a',iT b'],some (.l (ts'.map tuT)),o2',o3',o4',o5'])
 | [],ts,a,b,o2,o3,o4,o5,h,_=>⟨ts,a,b,o2,o3,o4,o5,h,rfl,by simp[MV]⟩
 | it::r,ts,a,b,o2,o3,o4,o5,h,hl=>by
  obtain⟨f,a1,b1,hf,e1⟩:=LS a b 8 ∅ ∅;obtain⟨t,a2,b2,ht,e2⟩:=eZ a1 b1 5 ∅;have e1':F_5 [.l [iT a,iT b],.v (⇑8)]=some (.v (iT f),[iT a1,iT b1]):=e1;have e2':F_6 [.l [iT a1,iT b1],.v (⇑5)]=some (.v (tuT t),[iT a2,iT b2]):=e2;obtain⟨m,hm,em⟩:∃ m:Nat,m < 5/\(if (3:Int) < f then (f:Int) - 3 else 0)=m:=by
   by_cases c:3 < (f:Int)
   ·exact⟨f - 3,by lia,by rw[if_pos c];lia⟩
   ·exact⟨0,by decide,by rw[if_neg c];rfl⟩
  obtain⟨s,hs,et⟩:∃ s,some5[m]?=some s/\IsT 5 s:=by
   have hm':m=0\/m=1\/m=2\/m=3\/m=4:=by lia
   rcases hm' with rfl | rfl | rfl | rfl | rfl
   ·exact⟨_,rfl,⟨rfl,by decide,by decide⟩⟩
   ·exact⟨_,rfl,⟨rfl,by decide,by decide⟩⟩
   ·exact⟨_,rfl,⟨rfl,by decide,by decide⟩⟩
   ·exact⟨_,rfl,⟨rfl,by decide,by decide⟩⟩
   ·exact⟨_,rfl,⟨rfl,by decide,by decide⟩⟩
  have e4:=P0 5 (backL t) s (LX ht) et ∅;have e5:=P0 5 (thenL (backL t) s) t (Lj (LX ht) et) ht ∅;obtain⟨ts',a',b',o2',o3',o4',o5',h1,h2,e6⟩:=U1 r (ts++[thenL (thenL (backL t) s) t]) a2 b2 (~~~it) (~~~(iT m)) (~~~(tuT t)) (some (.l (some5.map tuT))) (λx hx=>by
   rcases Aw.mp hx with q | q
   ·exact h x q
   ·rw[AC.mp q];exact (Lj (Lj (LX ht) et) ht)) (by simp at hl ⊢;lia)
  refine⟨ts',a',b',o2',o3',o4',o5',h1,by rw[h2];simp;lia,?_⟩;have i5:atI (some5.map tuT) m=some (tuT s):=OZ (by simp_all);have g5:5<=AD:=by decide
  have g1:(ts.map tuT).length < AD:=MF (by simp at hl ⊢;lia);simp only[Ba]at e6;have turn:OJ [~~~[iT a,iT b],some (.l (ts.map tuT)),~~~it,o3,o4,o5]=↥([~~~[iT a2,iT b2],some (.l (ts.map tuT++[tuT (thenL (thenL (backL t) s) t)])),~~~it,~~~(iT m),~~~(tuT t),some (.l (some5.map tuT))]):=by
   have s5:some5.map tuT=[.t [iT 1,iT 2,iT 3,iT 4,iT 0],.t [iT 1,iT 2,iT 0,iT 3,iT 4],.t [iT 1,iT 2,iT 0,iT 3,iT 4],.t [iT 1,iT 0,iT 3,iT 2,iT 4],.t [iT 0,iT 1,iT 2,iT 3,iT 4]]:=rfl;rw[s5]at i5 ⊢;generalize ts.map tuT=TS at *;simp[OJ,e1',e2',(V2 5 t ht ∅),e4,e5,em,i5,gd,g5,g1,(CJ g1)]
  exact Gc (L8 ↥1 turn) e6
def WM a b:∃ (ts:List (List Nat)) (a' b':Int),(∀ t∈ts,IsT 5 t)/\0 < ts.length/\ts.length<=2/\F_9 [.l [iT a,iT b]]=some (.v (.t (ts.map tuT)),[iT a',iT b']):=by
 obtain⟨f,a1,b1,hf,e1⟩:=LS a b 2 ∅ ∅;have e1':F_5 [.l [iT a,iT b],.v (⇑2)]=some (.v (iT f),[iT a1,iT b1]):=e1;have r1:=L6 (1+f) ⋯;have c1:((1+f:Nat):Int)=1+f:=by lia
 rw[c1]at r1;obtain⟨ts,a',b',o2,o3,o4,o5,h1,h2,e2⟩:=U1 (rngT 0 (1+f)) [] a1 b1 none none none none (λ_ z=>nomatch z) (by simp[rngT];lia);have hr:(rngT 0 (1+f)).length=1+f:=by simp[rngT]
 refine⟨ts,a',b',h1,by rw[h2,hr];simp;lia,by rw[h2,hr];simp;lia,?_⟩;simp at e2;simp[F_9,fnD,d_9,e1',r1,e2]
theorem UP:∀ its o a b,∃ (as:List Nat) (o':Option G) (a' b':Int),as.length=its.length/\(∀ x∈as,x < 2)/\compD (gdName 0) dYes NY its [o,~~~[iT a,iT b]]=some (tvT as,[o',~~~[iT a',iT b']])
 | [],o,a,b=>⟨[],o,a,b,rfl,(λx hx=>nomatch hx),rfl⟩
 | t::r,o,a,b=>by
  obtain⟨x,a1,b1,hx,e1⟩:=LS a b 2 ∅ ∅;have e1':F_5 [.l [iT a,iT b],.v (⇑2)]=some (.v (iT x),[iT a1,iT b1]):=e1;obtain⟨as,o',a',b',hl,hlt,e2⟩:=UP r (~~~t) a1 b1;refine⟨x::as,o',a',b',by simp[hl],λy hy=>(AN.mp hy).elim (λz=>z ▸ hx) (hlt y),?_⟩;have el:NY [~~~t,~~~[iT a,iT b]]=some (.v (iT x),[~~~t,~~~[iT a1,iT b1]]):=by
   simp[NY,e1']
  rw[LY];simp[el,e2]
def V0 a b qs (hq:qs<=10):∃ as a' b',AnsOk qs as/\F_42 [.l [iT a,iT b],.v (iT qs)]=some (.v (tuT as),[iT a',iT b']):=by
 obtain⟨as,o',a',b',hl,hlt,e⟩:=UP (rngT 0 qs) none a b;refine⟨as,a',b',⟨by rw[hl];simp[rngT],hlt⟩,?_⟩;simp[F_42,fnD,d_42,L6 qs ⋯,e]
def bp(n qs:Nat) s as (hs:s.1 < qs) (ha:AnsOk qs as):F_45 [.v (stT s),.v (tuT as)]=some (.v (tuT (pickT as s)),[]):=by
 have h0:=c7 ha hs;unfold pickT;generalize as.getD s.1 0=x at h0 ⊢;have h1:=N6 h0;by_cases hc:x=1
 ·subst hc;simp[F_45,fnD,d_45,h1]
 ·have hc':¬ (x:Int)=1:=by lia
  simp[F_45,fnD,d_45,h1,hc,hc']
theorem eA n qs (hn:n<=5) as (ha:AnsOk qs as) d:∀ st c told o4,IsT n c->StOk n qs st->st.length+told.length<=10000->∃ o4',forD (gdName 4) N1 (st.map stT) [~~~d,~~~(tuT as),some (.l told),~~~(tuT c),o4] =
  some (.nx [~~~d,~~~(tuT as),some (.l (told++(scanL as c st).map tuT)),~~~(tuT (doneL as c st)),o4']):=by
 intro st;induction st with
 | nil=>intro c told o4 _ _ _;exact⟨o4,by simp[MV,scanL,doneL]⟩
 | cons s r ih =>
  intro c told o4 hc hs hl;have h1:=hs s AG;have hp:=V8 (as:=as) h1;obtain⟨o4',e3⟩:=ih (thenL c (pickT as s)) (told++[tuT (thenL c (pickT as s))]) (~~~(stT s)) (Lj hc hp) (λx hx=>hs x (AH _ hx)) (by simp at hl ⊢;lia);refine⟨o4',?_⟩;have g1:told.length<=AD:=LI (by simp at hl;lia);have g2:told.length < AD:=MF (by simp at hl;lia);have turn:N1 [~~~d,~~~(tuT as),some (.l told),~~~(tuT c),~~~(stT s)]=↥([~~~d,~~~(tuT as),some (.l (told++[tuT (thenL c (pickT as s))])),~~~(tuT (thenL c (pickT as s))),~~~(stT s)]):=by
   simp[N1,(bp n qs s as h1.1 ha),(MZ n c (pickT as s) hc hp hn),gd,g1,g2]
  rw[Ad,Oc];simp;rw[turn];simp;rw[e3];simp[scanL,doneL]
def SL n qs (hn:n<=5) st as (ha:AnsOk qs as) (hs:StOk n qs st) (hl:st.length<=5000):F_46 [.v (danT n qs st),.v (tuT as)]=some (.l ((scanL as (AI n) st).map tuT),[]):=by
 obtain⟨o4',e⟩:=eA n qs hn as ha (danT n qs st) st (AI n) [] none (MN n) hs ↥2;have g:st.length<=AD:=LI ⋯;simp[F_46,fnD,d_46,(O4 n hn),gd,g,e]
def WdOk (q:Nat) (ts:List (List Nat)) (st:List Stp):Prop:=∀ s∈st,s.1 < q/\Rch 5 ts s.2.1/\Rch 5 ts s.2.2
section
variable {ts:List (List Nat)}(ht:∀ t∈ts,IsT 5 t)(h0:0 < ts.length)(h2:ts.length<=2)
include ht h0 h2
theorem RA o2 o3 o4 o5 o6:∀ its x a b o8,Rch 5 ts x->∃ (x':List Nat) (a' b':Int) (o8':Option G),Rch 5 ts x' /\
  forD (gdName 8) Nr its [~~~[iT a,iT b],~~~(.t (ts.map tuT)),o2,o3,o4,o5,o6,~~~(tuT x),o8]=↥([~~~[iT a',iT b'],~~~(.t (ts.map tuT)),o2,o3,o4,o5,o6,~~~(tuT x'),o8'])
 | [],x,a,b,o8,hx=>⟨x,a,b,o8,hx,by simp[MV]⟩
 | it::r,x,a,b,o8,hx=>by
  obtain⟨f,a1,b1,hf,e1⟩:=LS a b ts.length h0 ⋯;obtain⟨t,et⟩:∃ t,ts[f]?=some t:=⟨ts[f],by simp⟩
  have mt:=DQ et;have e2:=P0 5 x t (hx.isT ht) (ht t mt) ∅;obtain⟨x',a',b',o8',h1,e3⟩:=RA o2 o3 o4 o5 o6 r (thenL x t) a1 b1 (~~~it) (.more hx mt);refine⟨x',a',b',o8',h1,?_⟩;have i1:atI (ts.map tuT) f=some (tuT t):=OZ (by rw[Am,et];rfl);have turn:Nr [~~~[iT a,iT b],~~~(.t (ts.map tuT)),o2,o3,o4,o5,o6,~~~(tuT x),~~~it]=↥([~~~[iT a1,iT b1],~~~(.t (ts.map tuT)),o2,o3,o4,o5,o6,~~~(tuT (thenL x t)),~~~it]):=by
   generalize tuT (thenL x t)=Y at *;generalize tuT x=X at *;simp[Nr,e1,e2,i1]
  exact Gc (L8 ↥1 turn) e3
theorem UM o2 o3 o4:∀ its (xs:List (List Nat)) a b o6 o7 o8,(∀ x∈xs,Rch 5 ts x)->its.length+xs.length<=100->∃ (xs':List (List Nat)) (a' b':Int) (o6' o7' o8':Option G),(∀ x∈xs',Rch 5 ts x)/\xs'.length=xs.length+its.length /\
  forD (gdName 6) Nn its [~~~[iT a,iT b],~~~(.t (ts.map tuT)),o2,o3,o4,some (.l (xs.map tuT)),o6,o7,o8]=↥([~~~[iT a',iT b'],~~~(.t (ts.map tuT)),o2,o3,o4,some (.l (xs'.map tuT)),o6',o7',o8'])
 | [],xs,a,b,o6,o7,o8,h,_=>⟨xs,a,b,o6,o7,o8,h,rfl,by simp[MV]⟩
 | it::r,xs,a,b,o6,o7,o8,h,hl=>by
  obtain⟨m,a1,b1,hm,e1⟩:=LS a b 4 ∅ ∅;have e1':F_5 [.l [iT a,iT b],.v (⇑4)]=some (.v (iT m),[iT a1,iT b1]):=e1;have r5':rngS [.v (⇑5)]=some (rngT 0 5):=(L6 5 ⋯)
  have s5:T.t (rngT 0 5)=tuT (AI 5):=rfl;obtain⟨x,a2,b2,o8',hx,e2⟩:=RA ht h0 h2 o2 o3 o4 (some (.l (xs.map tuT))) (~~~it) (rngT 0 m) (AI 5) a1 b1 o8 .still;obtain⟨xs',a',b',o6',o7',o8'',h1,h3,e3⟩:=UM o2 o3 o4 r (xs++[x]) a2 b2 (~~~it) (~~~(tuT x)) o8' (λy hy=>by
   rcases Aw.mp hy with q | q
   ·exact h y q
   ·rw[AC.mp q];exact hx) (by simp at hl ⊢;lia)
  refine⟨xs',a',b',o6',o7',o8'',h1,by rw[h3];simp;lia,?_⟩;have gx:(xs.map tuT).length < AD:=MF (by simp at hl ⊢;lia);simp only[Ba]at e3;have turn:Nn [~~~[iT a,iT b],~~~(.t (ts.map tuT)),o2,o3,o4,some (.l (xs.map tuT)),~~~it,o7,o8]=↥([~~~[iT a2,iT b2],~~~(.t (ts.map tuT)),o2,o3,o4,some (.l (xs.map tuT++[tuT x])),~~~it,~~~(tuT x),o8']):=by
   rw[← s5]at e2;generalize xs.map tuT=XS at *;generalize tuT x=X at *;simp[Nn,e1',(L6 m ⋯),r5',gd,e2,gx,(CJ gx)]
  exact Gc (L8 ↥1 turn) e3
theorem RP q (hq0:0 < q) (hq:q<=10):∀ its st a b o4 o5 o6 o7 o8,WdOk q ts st->its.length+st.length<=100->∃ (st':List Stp) (a' b':Int) (o4' o5' o6' o7' o8':Option G),WdOk q ts st'/\st'.length=st.length+its.length /\
  forD (gdName 4) N7 its [~~~[iT a,iT b],~~~(.t (ts.map tuT)),~~~(iT q),some (.l (st.map stT)),o4,o5,o6,o7,o8]=↥([~~~[iT a',iT b'],~~~(.t (ts.map tuT)),~~~(iT q),some (.l (st'.map stT)),o4',o5',o6',o7',o8'])
 | [],st,a,b,o4,o5,o6,o7,o8,h,_=>⟨st,a,b,o4,o5,o6,o7,o8,h,rfl,by simp[MV]⟩
 | it::r,st,a,b,o4,o5,o6,o7,o8,h,hl=>by
  obtain⟨xs,a1,b1,o6',o7',o8',hx,lx,e1⟩:=UM ht h0 h2 (~~~(iT q)) (some (.l (st.map stT))) (~~~it) (rngT 0 2) [] a b o6 o7 o8 (λ_ z=>nomatch z) ∅;obtain⟨u,v,rfl⟩:∃ u v,xs=[u,v]:=by
   match xs,lx with
   | [u,v],_=>exact⟨u,v,rfl⟩
  obtain⟨k,a2,b2,hk,e2⟩:=LS a1 b1 q hq0 ⋯;obtain⟨st',a',b',o4',o5',o6'',o7'',o8'',h1,h3,e3⟩:=RP q hq0 hq r (st++[(k,u,v)]) a2 b2 (~~~it) (~~~[tuT u,tuT v]) o6' o7' o8' (λs hs=>by
   rcases Aw.mp hs with z | z
   ·exact h s z
   ·rw[AC.mp z];exact⟨hk,(hx u AG),(hx v (AH _ AG))⟩) (by simp at hl ⊢;lia)
  refine⟨st',a',b',o4',o5',o6'',o7'',o8'',h1,by rw[h3];simp;lia,?_⟩;have r2:rngS [.v (⇑2)]=some (rngT 0 2):=L6 2 ⋯;have g3:3<=AD:=by decide
  have gx:(st.map stT).length < AD:=MF (by simp at hl ⊢;lia);simp only[Ba,Ad,CH,stT]at e1 e3;have turn:N7 [~~~[iT a,iT b],~~~(.t (ts.map tuT)),~~~(iT q),some (.l (st.map stT)),~~~it,o5,o6,o7,o8]=↥([~~~[iT a2,iT b2],~~~(.t (ts.map tuT)),~~~(iT q),some (.l (st.map stT++[.t [iT k,tuT u,tuT v]])),~~~it,~~~[tuT u,tuT v],o6',o7',o8']):=by
   generalize st.map stT=ST at *;generalize tuT u=U at *;generalize tuT v=V' at *;simp[N7,r2,gd,g3,e1,e2,gx,(CJ gx)]
  exact Gc (L8 ↥1 turn) e3
def XI a b q (hq0:0 < q) (hq:q<=10):∃ (st:List Stp) (a' b':Int),WdOk q ts st/\st.length<=6/\F_43 [.l [iT a,iT b],.v (.t (ts.map tuT)),.v (iT q)]=some (.v (danT 5 q st),[iT a',iT b']):=by
 obtain⟨m,a1,b1,hm,e1⟩:=LS a b 7 ∅ ∅;have e1':F_5 [.l [iT a,iT b],.v (⇑7)]=some (.v (iT m),[iT a1,iT b1]):=e1;have r1:=L6 m ⋯;obtain⟨st,a',b',o4,o5,o6,o7,o8,h1,h3,e2⟩:=RP ht h0 h2 q hq0 hq (rngT 0 m) [] a1 b1 none none none none none (λ_ z=>nomatch z) (by simp[rngT];lia);have hr:(rngT 0 m).length=m:=by simp[rngT]
 have ls:st.length<=6:=by rw[h3,hr];simp;lia
 refine⟨st,a',b',h1,ls,?_⟩;simp at e2;unfold danT;simp[F_43,fnD,d_43,e1',r1,e2]
end
def S7 Γ (Z:List (List Nat)) t (h:t∈Z):inTS false Γ (.v (tuT t)) (.v (.t (Z.map tuT)))= ~~~(.a (.bl true)):=by
 have e:toD (tuT t)=some (.tuple (intsD t)):=by
  simp[toD,(QM t)]
 unfold inTS;dsimp only;rw[M5,An,e,An,if_pos ⟨Mn Z,by simp[B7];exact Pf t,by simp only[EA];rw[Pr];decide⟩];have:(Bw (λt=>PyData.tuple (intsD t)) Z).any (λz=>z.eqv (.tuple (intsD t)))=true:=B8.mpr ⟨_,Aq.mpr ⟨t,h,rfl⟩,by rw[R8];simp⟩;rw[this];rfl
theorem QO{de:DE}{GS}{Z:List (List Nat)}(step:∀ t,t∈Z->de [~~~(tuT t),~~~GS]=some (.v (.a (.bl true)),[~~~(tuT t),~~~GS])):∀ (ts:List (List Nat)) o,(∀ t∈ts,t∈Z)->∃ o',compD (gdName 0) dYes de (ts.map tuT) [o,~~~GS]=some (Ae ts.length (T.a (.bl true)),[o',~~~GS])
 | [],o,_=>⟨o,rfl⟩
 | t::r,o,h=>by
  obtain⟨o',e⟩:=QO step r (~~~(tuT t)) λx hx=>h x (AH _ hx)
  exact⟨o',j3 ↥1 (step t (h t AG)) e⟩
def step1 t (ht:t∈Z):OF [~~~(tuT t),~~~(.t ((Z::gs).map gT))]=some (.v (.a (.bl true)),[~~~(tuT t),~~~(.t ((Z::gs).map gT))]):=by
 have h:=λΓ=>S7 Γ Z t ht
 have a0:atI ((Z::gs).map gT) 0=some (gT Z):=OZ rfl;generalize (Z::gs).map gT=GS at *;unfold gT at a0;generalize tuT t=X at *;simp[OF,a0,h]
def step2{gs:List (List (List Nat))}{Z}(hg:gs.getLast?=some Z) t (ht:t∈Z):M6 [~~~(tuT t),~~~(.t (gs.map gT))]=some (.v (.a (.bl true)),[~~~(tuT t),~~~(.t (gs.map gT))]):=by
 have h:=λΓ=>S7 Γ Z t ht
 have a0:atI (gs.map gT) (-1)=some (gT Z):=by
  rw[List.getLast?_eq_some_iff]at hg;obtain⟨g,rfl⟩:=hg;rw[Ba];exact PN _ _
 generalize gs.map gT=GS at *;unfold gT at a0;generalize tuT t=X at *;simp[M6,a0,h]
noncomputable def sides (st:List Stp):List (List Nat):=st.flatMap λs=>[s.2.1,s.2.2]
theorem Sn o0 o1 o2 o3 o4 o5 o6 o7 o8 o9 o14:∀ st ts o11 o12 o13,ts.length+2 * st.length<=10000->∃ o11' o12' o13',
  forD (gdTup 3 (gdCons (gdName 11) (gdCons (gdName 12) (gdCons (gdName 13) gdNil)))) Nk (st.map stT) [o0,o1,o2,o3,o4,o5,o6,o7,o8,o9,some (.l (ts.map tuT)),o11,o12,o13,o14]=↥([o0,o1,o2,o3,o4,o5,o6,o7,o8,o9,some (.l ((ts++sides st).map tuT)),o11',o12',o13',o14])
 | [],ts,o11,o12,o13,_=>⟨o11,o12,o13,by simp[MV,sides]⟩
 | s::r,ts,o11,o12,o13,hl=>by
  obtain⟨o11',o12',o13',e⟩:=Sn o0 o1 o2 o3 o4 o5 o6 o7 o8 o9 o14 r (ts++[s.2.1,s.2.2]) (~~~(iT (s.1))) (~~~(tuT s.2.1)) (~~~(tuT s.2.2)) (by simp at hl ⊢;lia);refine⟨o11',o12',o13',?_⟩;have es:ts++[s.2.1,s.2.2]++sides r=ts++sides (s::r):=by simp[sides]
  rw[es]at e;have g2:2<=AD:=by decide
  have gx:(ts.map tuT).length+2<=AD:=LI (by simp at hl ⊢;lia);simp at e;simp;refine Gc (L8 rfl (by
   generalize ts.map tuT=TS at *;simp[Nk,gd,g2,gx])) e
theorem Om{P:List Nat->Prop}(hm:∀ a b,P a->P b->P (thenL a b)) as:∀ st c,P c->(∀ s∈st,P s.2.1/\P s.2.2)->∀ x∈scanL as c st,P x
 | [],_,_,_,_,h=>nomatch h
 | s::r,c,hc,hs,x,h=>by
  have h1:P (thenL c (pickT as s)):=hm _ _ hc (by
   unfold pickT;split
   ·exact (hs s AG).1
   ·exact (hs s AG).2)
  rcases AN.mp h with e | e
  ·rw[e];exact h1
  ·exact Om hm as r _ h1 (λy hy=>hs y (AH _ hy)) x e
def jx{P:List Nat->Prop}{st}(hs:∀ s∈st,P s.2.1/\P s.2.2):∀ x∈sides st,P x:=λx hx=>by
 obtain⟨s,h,e⟩:=FV.mp hx;rcases AN.mp e with z | z
 ·rw[z];exact (hs s h).1
 ·rw[AC.mp z];exact (hs s h).2
theorem Ro st:(sides st).length=2 * st.length:=by
 induction st with
 | nil=>rfl
 | cons s r ih =>
  have:sides (s::r)=s.2.1::s.2.2::sides r:=rfl;rw[this];simp;lia
def QJ Γ n:allS Γ [.l (Ae n (T.a (.bl true)))]= ~~~(.a (.bl true)):=↥1
def Ln(h:f Γ=some (.nx Γ'))(k:g Γ'=r):dSeq f g Γ=r:=by simp_all
def WE(h:ta Γ=some (false,Γ'))(k:g Γ'=r):dIf ta f g Γ=r:=by simp_all
def Y4:dCall ip F [v] da Γ=(da Γ).bind λp=>if onceS ip p.1=true then (argsG ip p.2 0 (p.1++[.v (.a v)])).bind λgs=>(F gs).map λq=>(toS q.1,backS ip p.2 p.1 q.2) else none:=rfl
def law_true(ns:List Int)(hns:ns.length<=63):Ma [.k (intsT ns)]=some (.v (.a (.bl true)),[]):=by
 obtain⟨a,b,e1⟩:=RQ ns 0 ∅ ∅;obtain⟨ts,a1,b1,ht,h0,h2,e2⟩:=WM a b;obtain⟨a2,b2,e3⟩:=RQ ns 1 ∅ ∅;obtain⟨c,a3,b3,hc,e4⟩:=LS a2 b2 4 ∅ ∅;obtain⟨q,hq⟩:∃ q:Nat,q=1+c:=⟨_,rfl⟩
 obtain⟨Z,more,wd,hZ,m1,m2,hcase,e5⟩:=Xz ts ⋯ ht;obtain⟨Z',hZ',e6⟩:=Ov 5 (AE 5) ts ⋯ ht;obtain rfl:Z'=Z:=hZ'.one hZ λ_=>Iff.rfl
 have gz:GpZ 5 Z':=⟨ts,ht,hZ⟩
 obtain⟨oe,e7⟩:=UQ Z' none gz.tr;have ef:=kJ gz.tr gz.nd;obtain⟨s,a4,b4,u1,u2,u3,u4,e8⟩:=XG q 20 24 ⋯ ⋯ ∅ ∅ ∅ ∅ a3 b3;obtain⟨row,a5,b5,_,hp,hr0,e9⟩:=kS a4 b4 5 ∅ ∅;have hr:Rg (ringOf 5 row):=by
  have:=AJ.mp allR5 row (Lx (Ol hp));simp at this;rcases this with z | z
  ·exact absurd hr0 z
  ·exact⟨by simpa using z⟩
 have e10:=Y1 s q 128 (ringOf 5 row) ⋯ u2 hr ⋯ ∅ ⋯ ⋯;have hst:=Me ⋯ s.spell _ (LZ s) (Le s u2) hr;have lst:(s.spell.steps (ringOf 5 row)).length<=24:=by rw[MG _ _ (LZ s),Lq];exact u3
 obtain⟨as,a6,b6,ha,e11⟩:=V0 a5 b5 q ⋯;obtain⟨st2,a7,b7,w1,w2,e13⟩:=XI ht h0 h2 a6 b6 q ⋯ ⋯;generalize s.spell.steps (ringOf 5 row)=st at *;have e12:=SL 5 q ∅ st as ha hst.ok ⋯;have w3:StOk 5 q st2:=λx hx=>⟨(w1 x hx).1,(w1 x hx).2.1.isT ht,(w1 x hx).2.2.isT ht⟩
 have e14:=SL 5 q ∅ st2 as ha w3 ⋯;have in2:=λx hx=>(hZ.mem x).mpr (Om (P:=Rch 5 ts) (λ_ _ p r=>p.mul ht r) as st2 _ .still (λy hy=>(w1 y hy).2) x hx)
 obtain⟨of',e15⟩:=QO (step1 (gs:=more)) (scanL as (AI 5) st2) none in2;rw[Mr]at e15;have at0:atI ((Z'::more).map gT) 0=some (gT Z'):=OZ (j:=0) rfl;have eqn:=λΓ=>W0 Γ Z' Z'
 have l2:((scanL as (AI 5) st2).map tuT).length=st2.length:=by simp[Mr]
 have lz:(Z'.map tuT).length<=AD:=LI (by rw[Af];have:=gz.len (AE 5);lia);have lf:((Z'.filter evB).map tuT).length=(Z'.filter evB).length:=by simp
 have gl2:st2.length<=AD:=LI ⋯;have cq:(1:Int)+(c:Int)=(q:Int):=by lia
 have al:=λΓ=>QJ Γ st2.length
 have g2:=sL 2;have e4':F_5 [.l [iT a2,iT b2],.v (⇑4)]=some (.v (iT (c:Int)),[iT a3,iT b3]):=e4;have e8':F_18 [.l [iT a3,iT b3],.v (iT (q:Int)),.v (⇑20),.v (⇑24)]=some (.v s.t,[iT a4,iT b4]):=e8;have e9':F_44 [.l [iT a4,iT b4],.v (⇑5)]=some (.v (tuT (ringOf 5 row)),[iT a5,iT b5]):=e9;have e10':F_41 [.v s.t,.v (iT (q:Int)),.v (tuT (ringOf 5 row)),.v (⇑128)]=some (.v (danT 5 q st),[]):=e10;have e5':F_17 [.v (⇑5),.v (.t (ts.map tuT))]=some (.v (.t [.a (.str wd),.t ((Z'::more).map gT)]),[]):=e5;have e6':F_13 [.v (⇑5),.v (.t (ts.map tuT))]=some (.v (.t (Z'.map tuT)),[]):=e6;have e1':=e1;have e3':=e3;have hwd:(wd="lasting"/\(Z'.filter evB).length=60)\/(wd="down"/\¬ (Z'.filter evB).length=60):=hcase.imp (λh=>⟨h.1,ef.mpr h.2.1⟩) λh=>⟨h.1,λz=>h.2 (ef.mp z)⟩
 have mid:∀ (o1 o14:Option G),∃ o10 o11 o12 o13,dIf (dTest (dOp eqS (jV 4) (dC (.str "lasting")))) (dSeq (dSet 10 (dCall none F_46 [] %[jV 8,jV 9|0]))
   (dSeq (dFor none (dSeqI (dOp ixS (jV 8) ↑2)) (gdTup 3 (gdCons (gdName 11) (gdCons (gdName 12) (gdCons (gdName 13) gdNil)))) (Nk))
   (dIf (dNot (dTru (dCB allS %[dComp none [none,some 5] (dSeqI (jV 10)) (gdName 0) dYes (M6)|0]))) (dRet (dC (.bl false))) dNext))) dNext
   [some (.k (intsT ns)),o1,~~~(.t (ts.map tuT)),~~~(iT (q:Int)),~~~(.a (.str wd)),~~~(.t ((Z'::more).map gT)),~~~(iT ((Z'.filter evB).length:Int)),~~~s.t,~~~(danT 5 q st),~~~(tuT as),none,none,none,none,o14] =
   some (.nx [some (.k (intsT ns)),o1,~~~(.t (ts.map tuT)),~~~(iT (q:Int)),~~~(.a (.str wd)),~~~(.t ((Z'::more).map gT)),~~~(iT ((Z'.filter evB).length:Int)),~~~s.t,~~~(danT 5 q st),~~~(tuT as),o10,o11,o12,o13,o14]):=by
  intro o1 o14;rcases hcase with ⟨rfl,full,L,hL,H5L,fL⟩ | ⟨rfl,nf⟩
  ·have inL:∀ t,Ev t->t∈L:=λt h=>PC.mem H5L.tr h.isT (fL _ ((Qt h.isT).mp h.ev))
   have in1:∀ x∈scanL as (AI 5) st++sides st,x∈L:=λx hx=>by
    rcases Aw.mp hx with z | z
    ·exact Om (P:=(·∈L)) (λp r hp hr=>H5L.mul p hp r hr) as st _ H5L.st (λy hy=>⟨inL _ (hst y hy).2.1,inL _ (hst y hy).2.2⟩) x z
    ·exact inL x (jx (P:=Ev) (λy hy=>(hst y hy).2) x z)
   obtain⟨og,e16⟩:=QO (step2 hL) (scanL as (AI 5) st++sides st) none in1;obtain⟨o11,o12,o13,e17⟩:=Sn (some (.k (intsT ns))) o1 (~~~(.t (ts.map tuT))) (~~~(iT (q:Int))) (~~~(.a (.str "lasting"))) (~~~(.t ((Z'::more).map gT))) (~~~(iT ((Z'.filter evB).length:Int))) (~~~s.t) (~~~(danT 5 q st)) (~~~(tuT as)) o14 st (scanL as (AI 5) st) none none none (by rw[Mr];lia);have l1:((scanL as (AI 5) st++sides st).map tuT).length=3 * st.length:=by simp[Mr,Ro];lia
   have l3:(scanL as (AI 5) st++sides st).length=3 * st.length:=by simp[Mr,Ro];lia
   rw[l3]at e16;have gl1:3 * st.length<=AD:=LI ⋯;have gst:(st.map stT).length<=AD:=LI (by rw[Af];lia);have al1:=λΓ=>QJ Γ (3 * st.length)
   refine⟨some (.l ((scanL as (AI 5) st++sides st).map tuT)),o11,o12,o13,?_⟩;unfold danT at *;generalize (Z'::more).map gT=GS at *;generalize (scanL as (AI 5) st++sides st).map tuT=D1 at *;generalize st.map stT=ST at *;generalize tuT as=AS at *;simp only[iT,show ((5:Nat):Int)=5 from rfl]at *;refine Ln (by simp[e12];rfl) ?_;refine Ln (by simp[gd,gst,e17];rfl) ?_;simp[gd,l1,gl1,e16,al1]
  ·refine⟨none,none,none,none,?_⟩;exact WE ↥1 rfl
 obtain⟨o10,o11,o12,o13,e18⟩:=mid (~~~[iT a6,iT b6]) none;clear mid hcase;have done:∃ Γ,P1 [some (.k (intsT ns)),none,none,none,none,none,none,none,none,none,none,none,none,none,none]=some (.rt (.v (.a (.bl true))) Γ):=by
  clear e1 e3 e4 e5 e6 e8 e9 e10 e12;unfold danT at *;generalize (Z'::more).map gT=GS at *;unfold gT at at0;generalize (Z'.filter evB).length=NE at *;generalize Z'.map tuT=ZV at *;generalize ts.map tuT=TV at *;generalize st.map stT=ST at *;generalize st2.map stT=ST2 at *;generalize tuT as=AS at *;generalize s.t=SS at *;generalize intsT ns=NS at *;simp only[iT,show ((5:Nat):Int)=5 from rfl]at *;refine⟨[some (.k NS),~~~[⇑a7,⇑b7],~~~(.t TV),~~~(⇑(q:Int)),~~~(.a (.str wd)),~~~(.t GS),~~~(⇑(NE:Int)),~~~SS,~~~(.t [⇑5,⇑(q:Int),.t ST]),~~~AS,o10,o11,o12,o13,~~~(.t [⇑5,⇑(q:Int),.t ST2])],?_⟩;unfold P1;refine Ln (by simp[e1'];rfl) ?_;refine Ln (by simp[e2];rfl) ?_;refine Ln (by simp[e3'];rfl) ?_;refine Ln (by simp[e4',cq];rfl) ?_;refine Ln (by simp[e5'];rfl) ?_;refine Ln (by simp[at0,e7,gd,lf,lz];rfl) ?_;refine Ln (Γ':=[some (.k NS),~~~[⇑a3,⇑b3],~~~(.t TV),~~~(⇑(q:Int)),~~~(.a (.str wd)),~~~(.t GS),~~~(⇑(NE:Int)),none,none,none,none,none,none,none,none]) (by
   rcases hwd with ⟨rfl,h60⟩ | ⟨rfl,h60⟩
   ·simp[h60,e6',at0,eqn,gd,g2]
   ·have h61:¬ (NE:Int)=60:=by lia
    simp[h61,e6',at0,eqn,gd,g2]) ?_
  refine Ln (by simp[e8'];rfl) ?_;refine Ln (by simp[Y4,e9',e10'];rfl) ?_;refine Ln (by simp[e11];rfl) ?_;refine Ln e18 ?_;refine Ln (by simp[e13];rfl) ?_;simp[e14,gd,l2,gl2,e15,al]
 obtain⟨Γ,e⟩:=done;simp[Ma,fnD,e]
noncomputable def visB (sc:Ea) (x:Str):Bool:=match sc.names.lookup x with | some .local=>true | some .cell=>true | some .free=>true | _=>false
def jn{sc:Ea}{x:Str}(h:visB sc x=true):Vis sc x:=by
 unfold visB at h;unfold Vis;split at h <;> simp_all
def ex_w{ι:Type}{K:Fg}{X:ι->Cx}{pos:Pos}(i:Nat){x:Str}(hN:∀ j,(X j).N[i]?=some x:=by intro _;kernel_rfl)(hv:∀ j,visB (X j).env.scope x=true:=by intro _;kernel_rfl)(hd:(x == ("__debug__":Str))=false:=by kernel_rfl)
  (hcd:(x == ("__classdict__":Str))=false:=by kernel_rfl):EX K X (.Name x pos) (jV i):=jZ i hN (λj=>jn (hv j)) hd hcd
def jN{ι:Type}{K:Fg}{X:ι->Cx}{ip:Option Nat}{x:Str}{pos:Pos}{N':List Str}{sc:Ea}(i:Nat)(S:N'.Nodup:=by decide +kernel)(hi:ip≠some i:=by decide)(hx':∀ j,(cxF X N' sc j).N[i]?=some x:=by intro _;rfl)(hx:∀ j,Loc (cxF X N' sc j).env.scope x:=by intro _;first | exact EV rfl | exact De rfl)
  (hf:∀ j,(cxF X N' sc j).fn x=true\/(cxF X N' sc j).env.scope.names.lookup x=some .local:=by intro _;first | exact .inl rfl | exact .inr rfl):GX K (cxF X N' sc) ip (.Name x pos) (gdName i):=SV i hi (λ_=>S) hx' hx hf
def Z7:B9 "int"=some (.type "int"):=↥4
noncomputable abbrev tblW:List (Str×Stmt):=[nmS "_law_box" st_4,nmS "_law_take" st_5,nmS "_law_turning" st_6,nmS "_law_then" st_7,nmS "_law_back" st_8,nmS "_law_few" st_9,nmS "still" Uh,nmS "then" S6,nmS "words_by" Ut,nmS "group" SF,nmS "back" R7,nmS "there_back" Qn,nmS "there_backs" TH,nmS "chain" RT,nmS "_law_saying" st_1,nmS "_law_weighed" st_2,nmS "_law_weight" st_3,nmS "_law_many_parts" st_0,nmS "_law_light" UK,nmS "is_turning" SC,nmS "row_from" Uq,nmS "rings_of" Sa,nmS "is_ring" Qh,nmS "is_ring_of_five" Uj,nmS "inner" Ss,nmS "leading" Uu,nmS "about" Us,nmS "apart" RM,nmS "pieces_in" To,nmS "all_within" S8,nmS "weight_of" S0,nmS "either_or_both" UO,nmS "spelled_of" Uz,nmS "last_followed" TY,nmS "bare_step" RU,nmS "steps_of" Qp,nmS "fold_within" Ui,nmS "folded" Ti,nmS "weight" Rk,nmS "look_at_making" Rw,nmS "spelled" Tu,nmS "_law_answers" TF,nmS "_law_of_words" SE,nmS "_law_ring" T6,nmS "turned_by" Ua,nmS "done_by_steps" Sz,nmS "_law_even" VD,nmS "law" Pw]
noncomputable abbrev tblZ:List Str:=["all","dict","enumerate","int","isinstance","len","list","max","min","range","reversed","sorted","sum","tuple","zip"]
structure Hy(P:Ai)(wd:A5)(base:Heap)(K:Ab)(mg:Str->Option AM):Prop where
 w:∀ i:Nat,WxO K mg tblW[i]?
 z:∀ x,tblZ.elem x=true->mg x=none
 z_KC:KC K []
 k_OVER:KV K mg "OVER" NU
 k_THERE:KV K mg "THERE" NJ
 e_p_made:∃ pT f fd ds,FunD K "made" "made" Mx pT f fd/\mg "made"=some (.ref f)/\Binds K fd ["saying","questions","ring","most"] []/\Binds K fd ["saying","questions","ring","most"] ds/\Vals [.int 128] ds
set_option hygiene false
local macro_rules | `(tactic| walk_at "a")=>`(tactic| first | with_reducible assumption | exact Y.z _ (by kernel_rfl))
local macro_rules | `(tactic| walk_at "b")=>`(tactic| (intro _ _ _ _ _ _ us hl;first | (obtain⟨_,h⟩:=len1 hl;subst h;exact rfl) | (obtain⟨_,_,h⟩:=len2 hl;subst h;exact rfl) | (obtain⟨_,_,_,h⟩:=len3 hl;subst h;exact rfl) | (obtain⟨_,_,_,_,h⟩:=len4 hl;subst h;exact rfl)))
local macro_rules | `(tactic| walk_at "m")=>`(tactic| first | exact M | exact B | exact M.comp | exact B.comp)
local macro_rules | `(↑0)=>`(by walk_at "m")
local macro_rules | `(↑1)=>`(by walk_at "a")
local macro_rules | `(tactic| walk_at "x")=>`(tactic| repeat' first
 | ((with_reducible show EX _ _ _ _);first | ((with_reducible show EX _ _ (.Name _ _) _);first | ((with_reducible show EX _ _ _ (jV _));exact ex_w _) | ((with_reducible show EX _ _ _ (dFn _));exact fh ↑0 ↑1) | ((with_reducible show EX _ _ _ (dC (.ty "tuple")));exact gn ↑0 ↑1 C9) | ((with_reducible show EX _ _ _ (dK _));exact ex_k NJ ↑0 ↑1) | ((with_reducible show EX _ _ _ (dK _));exact ex_k NU ↑0 ↑1)) | ((with_reducible show EX _ _ (.Constant _ _ _) _);first | ((with_reducible show EX _ _ _ (dC (.int _)));exact jJ) | ((with_reducible show EX _ _ _ (dC (.str _)));exact Wp) | ((with_reducible show EX _ _ _ (dC (.bl _)));exact gY)) | ((with_reducible show EX _ _ (.Call _ _ _ _) _);first | ((with_reducible show EX _ _ _ (dCB lenS _));refine Ly ↑0 (On ↑0) ↑1 Fx ?_) | ((with_reducible show EX _ _ _ (dMut _ _ _));refine Pc ↑0 PySem.F.slot_list_append PySem.F.type_list_append (λ_=>Vo) ZX (pv' _) ?_) | ((with_reducible show EX _ _ _ (dCB tupleS _));refine MJ ↑0 (MY ↑0) ↑1 C9 ?_) | ((with_reducible show EX _ _ _ (dCB intS _));refine MJ ↑0 kE ↑1 Z7 ?_) | ((with_reducible show EX _ _ _ (dListRng _));refine Ze ↑0 ↑1 ↑1 ?_) | ((with_reducible show EX _ _ _ (dMut _ _ _));refine Pc ↑0 Gd Ge (λ_=>fS) jz (pv' _) ?_) | ((with_reducible show EX _ _ _ (dIndex _ _));refine fI ↑0 ?_ ?_) | ((with_reducible show EX _ _ _ (dCB max2S _));refine Ly ↑0 (Zx ↑0) ↑1 boot_max ?_) | ((with_reducible show EX _ _ _ (dTupRng _));refine jK ↑0 ↑1 ↑1 ?_) | ((with_reducible show EX _ _ _ (dCB isiS _));refine Ly ↑0 (iI ↑0) ↑1 boot_isinstance ?_) | ((with_reducible show EX _ _ _ (dMut _ _ qQ));exact YT ↑0 Gd Ge (λ_=>jh) iE (pv' _)) | ((with_reducible show EX _ _ _ (dCB _ _));refine Ly ↑0 (gP ↑0) ↑1 boot_sorted ?_) | ((with_reducible show EX _ _ _ (dCB _ _));refine MJ ↑0 (Xh ↑0) ↑1 C9 ?_) | ((with_reducible show EX _ _ _ (dCB _ _));refine Ly ↑0 (jC ↑0) ↑1 boot_sorted ?_) | ((with_reducible show EX _ _ _ (dCB _ _));refine Ly ↑0 (Z0 ↑0) ↑1 boot_min ?_) | ((with_reducible show EX _ _ _ (dDZip _));refine fw ↑0 ↑1 ↑1 ?_) | ((with_reducible show EX _ _ _ (dLRev _));refine VX ↑0 ↑1 ↑1 ?_) | ((with_reducible show EX _ _ _ (dMut _ _ _));refine Pc ↑0 PySem.F.slot_list_extend PySem.F.type_list_extend (λ_=>g7) Vf (pv' _) ?_) | ((with_reducible show EX _ _ _ (dCall _ _ _ _));refine Yf ↑0 ↑0 ↑1 ?_) | ((with_reducible show EX _ _ _ (dCallV _ _ _));refine RS (k':=5) _ ↑0 ↑0 (NB D_24 (NB D_28 (RC))) ?_) | ((with_reducible show EX _ _ _ (dCallV _ _ _));refine RS (k':=3) _ ↑0 ↑0 (NB D_30 (NB D_32 (NB D_35 (RC)))) ?_) | ((with_reducible show EX _ _ _ (dCall _ _ _ _));refine Vp ↑0 ↑0 ↑1 ?_)) | ((with_reducible show EX _ _ (.Subscript _ _ _) _);first | ((with_reducible show EX _ _ _ (dOp ixS _ _));refine ZR ↑0 ?_ ?_) | ((with_reducible show EX _ _ _ (dSl _ _ _));refine ZI ↑0 ?_ ?_ ?_) | ((with_reducible show EX _ _ _ (dOp (getS _) _ _));refine VZ ↑0 ↑1 ?_ ?_) | ((with_reducible show EX _ _ _ (dOp getKS _ _));refine XY ↑0 ?_ ?_)) | ((with_reducible show EX _ _ (.BinOp _ _ _ _) _);first | ((with_reducible show EX _ _ _ (dOp addS _ _));refine QA ↑0 ?_ ?_) | ((with_reducible show EX _ _ _ (dOp subS _ _));refine Z8 ?_ ?_) | ((with_reducible show EX _ _ _ (dOp mulS _ _));refine Yy ?_ ?_) | ((with_reducible show EX _ _ _ (dOp modS _ _));refine Vc ?_ ?_) | ((with_reducible show EX _ _ _ (dOp fdivS _ _));refine YM ?_ ?_) | ((with_reducible show EX _ _ _ (dOp powS _ _));refine cZ ?_ ?_)) | ((with_reducible show EX _ _ (.Tuple _ _ _) _);first | refine jj ?_) | ((with_reducible show EX _ _ (.List _ _) _);first | refine X4 ?_) | ((with_reducible show EX _ _ (.UnaryOp _ _ _) _);first | refine eQ ?_) | ((with_reducible show EX _ _ (.Compare _ _ _ _) _);first | refine ex_c ?_ ?_ ?_) | ((with_reducible show EX _ _ (.IfExp _ _ _ _) _);first | refine fB ?_ ?_ ?_) | ((with_reducible show EX _ _ (.Dict _ _ _) _);first | ((with_reducible show EX _ _ _ (dDisp1 _ _ _));refine bA ↑0 ↑1 ?_ ?_) | ((with_reducible show EX _ _ _ (dDNew true));exact ik)) | ((with_reducible show EX _ _ (.BoolOp _ _ _) _);first | refine WW ?_ | ((with_reducible show EX _ _ _ (dAndV _ _));refine cA ?_ ?_)) )
 | ((with_reducible show AX _ _ _ _);first | refine jQ ?_ ?_ | exact jY)
 | ((with_reducible show BX _ _ _ _ _);first | refine LJ ?_ ?_ | refine Lr ?_ | exact PD)
 | ((with_reducible show SX _ _ _ _ _);first | refine QS _ ?_ (hN:=λ_=>S) | refine L0 ?_ | refine QG ?_ ?_ ?_ | refine WN ?_ | refine QL ↑0 (λ_=>Dv) ?_ ?_ ?_ | refine ZU fuelX (λ_=>Dv) ?_ ?_ | refine cV _ ?_ (pv' _) ?_ | refine Yl _ ↑0 ↑1 (pv' _) ?_ ?_ | refine YY _ _ ↑0 ?_ (hN:=λ_=>S) | exact ZW | refine iZ _ _ ?_ (hN:=λ_=>S) | refine aD _ _ _ ↑0 ?_ (hN:=λ_=>S) | refine ae ?_ ?_)
 | ((with_reducible show TX _ _ _ _);first | ((with_reducible show TX _ _ _ (dTest (dOp (dinS _ _) _ _)));refine cD ↑0 ↑1 ?_ ?_) | refine tx_c ?_ ?_ ?_ | refine tx_v ↑0 ?_ | refine Rv ?_ | refine tx_w ?_)
 | ((with_reducible show CmpR _ _ _ _);first | exact U8 ↑0 | exact a9 | exact fu | exact jq ↑0 | exact X3 ↑0 | exact bX ↑0 | exact cC)
 | ((with_reducible show IX _ _ _ _ _);first | refine cx ↑0 ?_ | refine jX ↑0 ↑1 ?_ | refine WO ↑0 ↑1 ?_ | refine Vl ↑0 ↑1 ?_ | refine dH ↑0 ↑1 ?_)
 | ((with_reducible show GX _ _ _ _ _);first | exact SV _ (hN:=λ_=>S) | refine fz _ ↑0 ?_ | exact jN _)
 | ((with_reducible show WX _ _ _ _);first | refine iG ?_ ?_ | refine cy ?_ | refine Zd ?_ ?_ | refine YF ?_)
 | refine g8 ?_ ?_
 | exact Xi
 | refine X6 ?_
 | exact ed
 | refine bg ?_
 | ((with_reducible show EX _ _ _ _);delta NY Og SW NL Ob OD OF M6 NI Nq RD Tq Qj Rl U4 OQ)
 )
local macro_rules | `(tactic| walk_at "d")=>`(tactic| (intro _ _ _ _ _ _ _ S M B;walk_at "x"))
section
variable {P:Ai}{wd:A5}{K:Ab}{mg:Str->Option AM}{base:Heap}
variable (Y:Hy P wd base K mg)
include Y
def ok_4:FD P wd K mg base (1) "_law_box" none 2 F_4:=fd_w (Y.w 0) sc_4
def ok_5:FD P wd K mg base (1) "_law_take" (some 0) 2 F_5:=fd_w (Y.w 1) sc_5
def ok_6:FD P wd K mg base (2) "_law_turning" (some 0) 2 F_6:=by
 have D_5:=ok_5 Y;exact fd_w (Y.w 2) sc_6
def ok_7:FD P wd K mg base (1) "_law_then" none 2 F_7:=fd_w (Y.w 3) sc_7 λ_ _ _ _ _ _ _ S M B=>Lr (L0 (MJ M (MY M) ↑1 C9 (jQ (Lp none (N':=["_law_place","_law_other"]) (ix:=[none,some 1]) M ↥5 ↥3 ↥3 Lz ↥3 (hix:=hix0)) jY)))
def ok_8:FD P wd K mg base (1) "_law_back" none 1 F_8:=fd_w (Y.w 4) sc_8 λ_ _ _ _ _ _ _ S M B=>Lr (L0 (MJ M (MY M) ↑1 C9 (jQ (Lp none (N':=["_law_place","_law_turning_here"]) (ix:=[none,some 0]) M ↥5 ↥3 ↥3 Lz ↥3 (hix:=hix0)) jY)))
def ok_9:FD P wd K mg base (3) "_law_few" (some 0) 1 F_9:=by
 have D_5:=ok_5 Y;have D_6:=ok_6 Y;have D_7:=ok_7 Y;have D_8:=ok_8 Y;exact fd_w (Y.w 5) sc_9
def PB:FD P wd K mg base (1) "still" none 1 F_10:=fd_w (Y.w 6) Vq
def NZ:FD P wd K mg base (1) "then" none 2 F_11:=fd_w (Y.w 7) ZN λ_ _ _ _ _ _ _ S M B=>Lr (L0 (MJ M (MY M) ↑1 C9 (jQ (Lp none (N':=["place","other"]) (ix:=[none,some 1]) M ↥5 ↥3 ↥3 Lz ↥3 (hix:=hix0)) jY)))
def gA:FD P wd K mg base (2) "words_by" none 2 F_12:=by
 have z_KC:=Y.z_KC;have D_10:=PB Y;have D_11:=NZ Y;exact fd_w (Y.w 8) Zk
def Py:FD P wd K mg base (3) "group" none 2 F_13:=by
 have D_12:=gA Y;exact fd_w (Y.w 9) VT
def Os:FD P wd K mg base (1) "back" none 1 F_14:=fd_w (Y.w 10) fR λ_ _ _ _ _ _ _ S M B=>Lr (L0 (MJ M (MY M) ↑1 C9 (jQ (Lp none (N':=["place","turning"]) (ix:=[none,some 0]) M ↥5 ↥3 ↥3 Lz ↥3 (hix:=hix0)) jY)))
def Sw:FD P wd K mg base (2) "there_back" none 2 F_15:=by
 have D_11:=NZ Y;have D_14:=Os Y;exact fd_w (Y.w 11) bh
def gE:FD P wd K mg base (4) "there_backs" none 2 F_16:=by
 have z_KC:=Y.z_KC;have D_13:=Py Y;have D_15:=Sw Y;exact fd_w (Y.w 12) fN
def gM:FD P wd K mg base (5) "chain" none 2 F_17:=by
 have D_13:=Py Y;have D_16:=gE Y;exact fd_w (Y.w 13) eC
def ok_1:∀ n,FD P wd K mg base (1+n) "_law_saying" (some 0) 4 (F_1 n):=by
 have D_5:=ok_5 Y;exact NA (Y.w 14) sc_1 rfl rfl λn Drec=>fd_w (Y.w 14) sc_1
def ok_2:∀ n,FD P wd K mg base (13+n) "_law_weighed" (some 0) 4 (F_2 n):=by
 have D_5:=ok_5 Y;have D_1:FD P wd K mg base (13) _ _ _ _:=ok_1 Y MP;exact NA (Y.w 15) sc_2 rfl rfl λn Drec=>fd_w (Y.w 15) sc_2
def ok_3:∀ n,FD P wd K mg base (0+n) "_law_weight" none 1 (F_3 n):=by
 exact NA (Y.w 16) sc_3 rfl rfl λn Drec=>fd_w (Y.w 16) sc_3 λ_ _ _ _ _ _ _ S M B=>LJ (PX 1 none (N':=["_law_one"]) (ix:=[none]) M ↥5 ↥3 ↥3 ↥3 ↥3 (hix:=hix0) (hN:=λ_=>sc_3.nd)) ↥3
def ok_0:∀ n,FD P wd K mg base (0+n) "_law_many_parts" none 1 (F_0 n):=by
 exact NA (Y.w 17) sc_0 rfl rfl λn Drec=>fd_w (Y.w 17) sc_0 λ_ _ _ _ _ _ _ S M B=>Lr (L0 (QA M jJ (Ly M (bR M) ↑1 boot_sum (jQ (Lp none (N':=["_law_one"]) (ix:=[none]) M ↥5 ↥3 ↥3 ↥3 ↥3 (hix:=hix0)) jY))))
def cg:FD P wd K mg base (26) "_law_light" (some 0) 4 F_18:=by
 have D_5:=ok_5 Y;have D_1:FD P wd K mg base (13) _ _ _ _:=ok_1 Y MP;have D_2:FD P wd K mg base (25) _ _ _ _:=ok_2 Y OW;have D_3:FD P wd K mg base (12) _ _ _ _:=ok_3 Y Pj;have D_0:FD P wd K mg base (12) _ _ _ _:=ok_0 Y P6;exact fd_w (Y.w 18) Xd
def YN:FD P wd K mg base (1) "is_turning" none 2 F_19:=fd_w (Y.w 19) Wi
def jR:FD P wd K mg base (1) "row_from" none 2 F_20:=fd_w (Y.w 20) YE
def SB:FD P wd K mg base (2) "rings_of" none 1 F_21:=by
 have D_20:=jR Y;exact fd_w (Y.w 21) UF λ_ _ _ _ _ _ _ S M B=>LJ (PX 1 none (N':=["place","turning"]) (ix:=[none,some 0]) M ↥5 ↥3 ↥3 Lz ↥3 (hix:=hix0) (hN:=λ_=>UF.nd)) (Lr (L0 (Lp none (N':=["row"]) (ix:=[none]) M ↥5 ↥3 ↥3 ↥3 (jZ 0) (hix:=hix0))))
def V7:FD P wd K mg base (3) "is_ring" none 1 F_22:=by
 have D_21:=SB Y;exact fd_w (Y.w 22) VW λ_ _ _ _ _ _ _ S M B=>Lr (L0 (ex_c (U8 M) (Lp none (N':=["ring"]) (ix:=[none]) M ↥5 ↥3 ↥3 Lz ↥3 (hix:=hix0)) ↥3))
def cu:FD P wd K mg base (4) "is_ring_of_five" none 1 F_23:=by
 have D_19:=YN Y;have D_22:=V7 Y;exact fd_w (Y.w 23) kY
def Ru:FD P wd K mg base (1) "inner" none 1 F_24:=fd_w (Y.w 24) cO
def iC:FD P wd K mg base (3) "leading" none 2 F_25:=by
 have D_21:=SB Y;exact fd_w (Y.w 25) aO λ_ _ _ _ _ _ _ S M B=>LJ ↥3 (Lr (L0 (MJ M (MY M) ↑1 C9 (jQ (Lp none (N':=["place","led"]) (ix:=[none,some 2]) M ↥5 ↥3 ↥3 Lz ↥3 (hix:=hix0)) jY))))
def gr:FD P wd K mg base (2) "about" none 2 F_26:=by
 have D_11:=NZ Y;have D_14:=Os Y;exact fd_w (Y.w 26) ZZ
def Zn:FD P wd K mg base (4) "apart" none 1 F_27:=by
 have k_OVER:=Y.k_OVER;have k_THERE:=Y.k_THERE;have D_15:=Sw Y;have D_25:=iC Y;have D_26:=gr Y;exact fd_w (Y.w 27) gW
def TC:FD P wd K mg base (5) "pieces_in" none 1 F_28:=by
 have D_14:=Os Y;have D_27:=Zn Y;exact fd_w (Y.w 28) cQ
def aP:FD P wd K mg base (6) "all_within" none 2 F_29:=by
 have D_24:=Ru Y;have D_28:=TC Y;exact fd_w (Y.w 29) jO
def jS:FD P wd K mg base (1) "weight_of" none 2 F_30:=fd_w (Y.w 30) aU
def aw:FD P wd K mg base (1) "either_or_both" none 2 F_31:=fd_w (Y.w 31) X5
def Zm:FD P wd K mg base (2) "spelled_of" none 2 F_32:=by
 have D_31:=aw Y;exact fd_w (Y.w 32) Yp
def Wj:FD P wd K mg base (2) "last_followed" none 2 F_33:=by
 have D_11:=NZ Y;exact fd_w (Y.w 33) jD
def Xg:FD P wd K mg base (2) "bare_step" none 2 F_34:=by
 have D_10:=PB Y;exact fd_w (Y.w 34) gH
def ZY:FD P wd K mg base (3) "steps_of" none 2 F_35:=by
 have D_33:=Wj Y;have D_34:=Xg Y;exact fd_w (Y.w 35) Zt
def Qo:FD P wd K mg base (7) "fold_within" none 3 F_36:=by
 have D_24:=Ru Y;have D_28:=TC Y;have D_29:=aP Y;have D_30:=jS Y;have D_32:=Zm Y;have D_35:=ZY Y;exact fd_w (Y.w 36) Tr λ_ _ _ _ _ _ _ S M B=>LJ ↥3 (LJ (QL M (λ_=>Dv) ↥3 ↥3 (LJ (PX 5 (some (1,3)) (N':=["one","told"]) (ix:=[none,some 3]) M ↥5 ↥3 ↥3 Lz ↥3 (hix:=hix1 ∅) (hN:=λ_=>Tr.nd)) ↥3)) ↥3)
def Tw:FD P wd K mg base (8) "folded" none 2 F_37:=by
 have n_inner:=(Y.w 24:WxO K mg tblW[24]?).nk;have D_36:=Qo Y;exact fd_w (Y.w 37) eU
def ai:FD P wd K mg base (9) "weight" none 1 F_38:=by
 have n_weight_of:=(Y.w 30:WxO K mg tblW[30]?).nk;have D_37:=Tw Y;exact fd_w (Y.w 38) dt
def fZ:FD P wd K mg base (10) "look_at_making" none 3 F_39:=by
 have D_23:=cu Y;have D_38:=ai Y;exact fd_w (Y.w 39) Z2
def YG:FD P wd K mg base (9) "spelled" none 1 F_40:=by
 have n_spelled_of:=(Y.w 32:WxO K mg tblW[32]?).nk;have D_37:=Tw Y;exact fd_w (Y.w 40) gQ
def jv:FD P wd K mg base (11) "made" none 4 F_41/\FDd P wd K mg base (11) "made" none 4 F_41 [.int 128]:=by
 obtain⟨pT,f,fd,ds,Fn,hm,hb,hb2,hv⟩:=Y.e_p_made;have n_pieces_in:=(Y.w 28:WxO K mg tblW[28]?).nk;have n_steps_of:=(Y.w 35:WxO K mg tblW[35]?).nk;have D_36:=Qo Y;have D_39:=fZ Y;have D_40:=YG Y;exact dg (k:=10) Fn Q8 hm hb hb2 hv λcdv A outer s H E M B=>(by have S:=Q8.nd;exact by walk_at "x")
def ay:FD P wd K mg base (2) "_law_answers" (some 0) 2 F_42:=by
 have D_5:=ok_5 Y;exact fd_w (Y.w 41) aF λ_ _ _ _ _ _ _ S M B=>Lr (L0 (MJ M (MY M) ↑1 C9 (jQ (Lp (some (1,0)) (N':=["_law_k","_law_box_here"]) (ix:=[none,some 0]) M ↥5 ↥3 ↥3 Lz ↥3 (hix:=hix1 ∅)) jY)))
def ic:FD P wd K mg base (2) "_law_of_words" (some 0) 3 F_43:=by
 have D_5:=ok_5 Y;have D_7:=ok_7 Y;exact fd_w (Y.w 42) kB
def Vk:FD P wd K mg base (2) "_law_ring" (some 0) 2 F_44:=by
 have D_5:=ok_5 Y;exact fd_w (Y.w 43) Wr
def bS:FD P wd K mg base (1) "turned_by" none 2 F_45:=fd_w (Y.w 44) YX
def bw:FD P wd K mg base (2) "done_by_steps" none 2 F_46:=by
 have D_10:=PB Y;have D_11:=NZ Y;have D_45:=bS Y;exact fd_w (Y.w 45) eu
def ig:FD P wd K mg base (1) "_law_even" none 1 F_47:=fd_w (Y.w 46) Uk λ_ _ _ _ _ _ _ S M B=>LJ ↥3 (LJ (QL M (λ_=>Dv) ↥3 ↥3 (Lr (QS 1 (QA M (jZ 1) (Ly M (On M) ↑1 Fx (jQ (Lp none (N':=["_law_y","_law_turning_here","_law_x"]) (ix:=[none,some 0,some 2]) M ↥5 ↥3 ↥3 ↥3 (jZ 0) (hix:=hix0)) jY))) (hN:=λ_=>Uk.nd)))) ↥3)
def aJ{f:Addr}{fd:Dg}(Fn:Fun K "law" "law" Pw f fd):FnOk P wd K mg base CX0 27 f fd ["_law_script"] (spD K none 1 Ma):=by
 have D_4:=ok_4 Y;have D_5:=ok_5 Y;have D_9:=ok_9 Y;have D_13:=Py Y;have D_17:=gM Y;have D_18:=cg Y;have D_42:=ay Y;have D_43:=ic Y;have D_44:=Vk Y;have D_46:=bw Y;have D_47:=ig Y;have Dd_41:=(jv Y).2;exact Xq Fn Pu λcdv A outer s H E M B=>(by have S:=Pu.nd;exact LJ ↥3 (LJ ↥3 (LJ ↥3 (LJ ↥3 (LJ ↥3 (LJ (QS 6 (Ly M (On M) ↑1 Fx (jQ (Lp none (N':=["_law_turning_here"]) (ix:=[none]) M ↥5 ↥3 ↥3 ↥3 (jZ 0) (hix:=hix0)) jY)) (hN:=λ_=>Pu.nd)) (LJ ↥3 (LJ ↥3 (LJ ↥3 (LJ ↥3 (LJ (QG ↥3 (LJ ↥3 (LJ ↥3 (Lr (QG (Rv (tx_v M (Ly M (Rb M) ↑1 boot_all (jQ (Lp none (N':=["_law_turning_here","_law_groups"]) (ix:=[none,some 5]) M ↥5 ↥3 ↥3 Lz ↥3 (hix:=hix0)) jY)))) ↥3 PD)))) PD) (LJ ↥3 (Lr (L0 (Ly M (Rb M) ↑1 boot_all (jQ (Lp none (N':=["_law_turning_here","_law_groups"]) (ix:=[none,some 5]) M ↥5 ↥3 ↥3 Lz ↥3 (hix:=hix0)) jY))))))))))))))))
end
def all_mk{l:D7}{w:A5}{K:Ab}{h:Heap}{mg:Str->Option AM}{fa:Addr}(X:K.In h)(G:h.Ns A4 mg)(hfa:mg "law"=some (.ref fa))(wT:AllK K tblW)(zT:ZK K tblZ)
  {f42:Addr} {od42 an42:Option Addr} {sl42:Array (Option AM)} {oc42 kV42 dc42 pm42 cd42 ct42:AM}
  {pdf42:Addr} {ndf42:Nat} {sdf42:Array (Option AM)} {tdf42:Tok} (dfl42:K.lookup pdf42=some ⟨.type "tuple",none,.seq [B0 128 tdf42].toArray ndf42,sdf42⟩)
  (a42:nsIn K A4 "made"=some (some (.ref f42))) (l42:K.lookup f42=some ⟨oc42,od42,.func (fnOf "made" "made" (defArgs Mx) (defBody Mx) (defScope Mx) (.ref pdf42) kV42 dc42 pm42 an42 cd42 ct42),sl42⟩) (c42:Cc K cd42 "made"=true) (k42:Bt K (.ref f42)=true)
  (kc:(K.all λq=>kcC [] q.2)=true)
  {pk1:Addr} {nk1:Nat} {slk1:Array (Option AM)} {t1_0 t1_1 t1_2 t1_3 t1_4:Tok} (ka1:nsIn K A4 "OVER"=some (some (.ref pk1))) (kl1:K.lookup pk1=some ⟨.type "tuple",none,.seq [B0 1 t1_0,B0 3 t1_1,B0 0 t1_2,B0 4 t1_3,B0 2 t1_4].toArray nk1,slk1⟩)
  {pk2:Addr} {nk2:Nat} {slk2:Array (Option AM)} {t2_0 t2_1 t2_2 t2_3 t2_4:Tok} (ka2:nsIn K A4 "THERE"=some (some (.ref pk2))) (kl2:K.lookup pk2=some ⟨.type "tuple",none,.seq [B0 1 t2_0,B0 2 t2_1,B0 3 t2_2,B0 4 t2_3,B0 0 t2_4].toArray nk2,slk2⟩) :
  ∃ fd:Dg,(∀ (s:AR) (v:AM),Fk s fd ⟨[v],[]⟩ [("_law_script",v)])/\∀ base:Heap,K.In base->base.Ns A4 mg->FnOk l.prog w K mg base CX0 27 fa fd ["_law_script"] (spD K none 1 Ma):=by
 have z_KC:=jP kc;have k_OVER:KV K mg "OVER" NU:=Sv [1,3,0,4,2] (mg_of X G ka1) kl1 (.cons ⟨_,rfl⟩ (.cons ⟨_,rfl⟩ (.cons ⟨_,rfl⟩ (.cons ⟨_,rfl⟩ (.cons ⟨_,rfl⟩ (.nil)))))) (by show 5<=AD;decide);have k_THERE:KV K mg "THERE" NJ:=Sv [1,2,3,4,0] (mg_of X G ka2) kl2 (.cons ⟨_,rfl⟩ (.cons ⟨_,rfl⟩ (.cons ⟨_,rfl⟩ (.cons ⟨_,rfl⟩ (.cons ⟨_,rfl⟩ (.nil)))))) (by show 5<=AD;decide);have F42:=X8 (st:=Mx) l42 c42 k42;have b42:=F42.binds (ps:=["saying","questions","ring","most"]) (ds:=[]) dfl42 rfl λ_ _ _ _ _ _ us hl=>by obtain⟨_,_,_,_,rfl⟩:=len4 (show us.length=4 by simpa using hl);exact⟨_,rfl,rfl⟩
 have bd42:=F42.binds (ps:=["saying","questions","ring","most"]) (ds:=[B0 128 tdf42]) dfl42 rfl λ_ _ _ _ _ _ us hl=>by obtain⟨_,_,_,rfl⟩:=len3 (show us.length=3 by simpa using hl);exact⟨_,rfl,rfl⟩
 have m42:=mg_of X G a42;have Y:∀ base,Hy l.prog w base K mg:=λ_=>{ w:=λi=>wT.at X G i,z:=λx e=>zT.at X G x e,z_KC:=z_KC,k_OVER:=k_OVER,k_THERE:=k_THERE,e_p_made:=⟨_,_,_,_,F42,m42,b42,bd42,.cons ⟨_,rfl⟩ .nil⟩ }
 exact Za ((Y h).w 47) hfa (λ_ _ _ _ _ _ _=>rfl) λf fd base Fn=>aJ (Y base) Fn
def walk{l:D7}{q:Ai}{loose:List Str}{XP:(Str->Option AM)->Heap->Prop}{YP:A5->Heap->Prop}{d:DefRec}{K:Params->Ab}(pure:∀ ns:List Int,ns.length<=63->Ma [.k (intsT ns)]=some (.v (.a (.bl true)),[]))(hn:l.most=some 63)(hdf:d.params.defaults=[])
  (hY:∀ (w:A5) (h:Heap),YP w h->(K w.params).In h)
  (F:∀ (w:A5) (mg:Str->Option AM) (fa:Addr) (h:Heap),(K w.params).In h->h.Ns A4 mg->mg d.name=some (.ref fa) ->
   ∃ fd:Dg,(∀ (s:AR) (u:AM),Fk s fd ⟨[u],[]⟩ [("_law_script",u)])/\∀ base:Heap,(K w.params).In base->base.Ns A4 mg->FnOk l.prog w (K w.params) mg base CX0 27 fa fd ["_law_script"] (spD (K w.params) none 1 Ma)) :
  H9 q loose XP YP l.row.toRowW d [] (λf vs=>HG f vs):=
 L2.walk_of (n:=63) (k:=27) (x:="_law_script") (CX:=λ_=>CX0) (sp:=λw=>spD (K w.params) none 1 Ma) hn ∅ hdf ⟨rfl,by decide,by decide,rfl⟩ hY F (λw H a ns hl hO hS=>aa hO hS (pure ns hl)) λ_ _ _ _ _ z=>z
end Lw
open PySem PySem.W PyProof.Rows
set_option maxRecDepth 100000 in
set_option maxHeartbeats 0 in
theorem PySem.W.Fast.tw15539904776455227931:True:=trivial
theorem PySem.W.Fast.tw12695562144090412647:True:=trivial
theorem PySem.W.Fast.tw5478511219148636634:True:=trivial
theorem PySem.W.Fast.tw7609316027283987523:True:=trivial
theorem PySem.W.Fast.tw11852218470477222049:True:=trivial
theorem PySem.W.Fast.tw8161928987797895563:True:=trivial
theorem PySem.W.Fast.tw4330118320651413114:True:=trivial
theorem PySem.W.Fast.tw10203214068061761565:True:=trivial
theorem PySem.W.Fast.tw4920489811856538316:True:=trivial
theorem PySem.W.Fast.tw8649450093342562474:True:=trivial
theorem PySem.W.Fast.tw8834058834336282405:True:=trivial
theorem PySem.W.Fast.tw7234723760992986634:True:=trivial
theorem PySem.W.Fast.tw452677366359132255:True:=trivial
theorem PySem.W.Fast.tw2692484801129735790:True:=trivial
theorem PySem.W.Fast.tw3004228294151937474:True:=trivial
theorem PySem.W.Fast.tw3279609699218021794:True:=trivial
theorem PySem.W.Fast.tw5714883806548074391:True:=trivial
theorem PySem.W.Fast.tw15914038921242428446:True:=trivial
theorem PySem.W.Fast.tw17934292514059463146:True:=trivial
theorem PySem.W.Fast.tw8589492880021427878:True:=trivial
theorem PySem.W.Fast.tw11103698366066385291:True:=trivial
theorem PySem.W.Fast.tw4316995406956164583:True:=trivial
theorem PySem.W.Fast.tw3941983769232924457:True:=trivial
theorem PySem.W.Fast.tw7189975705156535878:True:=trivial
theorem PySem.W.Fast.tw14293194336295923701:True:=trivial
theorem PySem.W.Fast.tw17800346360584702328:True:=trivial
theorem PySem.W.Fast.tw8587581657083193182:True:=trivial
theorem PySem.W.Fast.tw1731810247701016905:True:=trivial
theorem PySem.W.Fast.tw1973176544665475459:True:=trivial
theorem PySem.W.Fast.tw10863801366757206687:True:=trivial
theorem PySem.W.Fast.tw12572600523695299699:True:=trivial
theorem PySem.W.Fast.tw5825964958519764021:True:=trivial
theorem PySem.W.Fast.tw587367309722648603:True:=trivial
theorem PySem.W.Fast.tw1921697589420632644:True:=trivial
theorem PySem.W.Fast.tw8808052979818083047:True:=trivial
theorem PySem.W.Fast.tw8423509417175141506:True:=trivial
theorem PySem.W.Fast.tw1539178515813235524:True:=trivial
theorem PySem.W.Fast.tw6962117081954282365:True:=trivial
theorem PySem.W.Fast.tw17345697481613829688:True:=trivial
theorem PySem.W.Fast.tw7740615644759171246:True:=trivial
theorem PySem.W.Fast.tw4619582133078566757:True:=trivial
theorem PySem.W.Fast.tw16325520963187986658:True:=trivial
theorem PySem.W.Fast.tw6169765664525201283:True:=trivial
theorem PySem.W.Fast.tw15741898959364826575:True:=trivial
theorem PySem.W.Fast.tw6131038751360873779:True:=trivial
theorem PySem.W.Fast.tw12468425874722099607:True:=trivial
theorem PySem.W.Fast.tw12031636166203231225:True:=trivial
theorem PySem.W.Fast.tw13195176041550841421:True:=trivial
theorem PySem.W.Fast.tw618571046969364115:True:=trivial
theorem PySem.W.Fast.tw17983226642076754250:True:=trivial
theorem PySem.W.Fast.tw4890328475692189577:True:=trivial
theorem PySem.W.Fast.tw11127608810966006764:True:=trivial
theorem PySem.W.Fast.tw16009925208734046184:True:=trivial
theorem PySem.W.Fast.tw7372741635458234397:True:=trivial
theorem PySem.W.Fast.tw6477184471200771392:True:=trivial
theorem PySem.W.Fast.tw9880667256086115453:True:=trivial
theorem PySem.W.Fast.tw18400558581932405882:True:=trivial
theorem PySem.W.Fast.tw13020013627418950866:True:=trivial
theorem PySem.W.Fast.tw6674372428325659006:True:=trivial
theorem PySem.W.Fast.tw6322282020878749863:True:=trivial
theorem PySem.W.Fast.tw8906136106951551038:True:=trivial
theorem PySem.W.Fast.tw17843894929031864476:True:=trivial
theorem PySem.W.Fast.tw12995894254480697201:True:=trivial
theorem PySem.W.Fast.tw14524198979806820737:True:=trivial
theorem PySem.W.Fast.tw12310093757783049272:True:=trivial
theorem PySem.W.Fast.tw14028152928429912203:True:=trivial
theorem PySem.W.Fast.tw10933402073414011906:True:=trivial
theorem PySem.W.Fast.tw8944375551852811841:True:=trivial
theorem PySem.W.Fast.tw6556273698984684675:True:=trivial
theorem PySem.W.Fast.tw16586541869478380164:True:=trivial
theorem PySem.W.Fast.tw3906262261462967805:True:=trivial
theorem PySem.W.Fast.tw5516902751593141869:True:=trivial
theorem PySem.W.Fast.tw10181962206674962838:True:=trivial
theorem PySem.W.Fast.tw11135723350919055845:True:=trivial
theorem PySem.W.Fast.tw9732319984986373029:True:=trivial
theorem PySem.W.Fast.tw14742608506991236650:True:=trivial
theorem PySem.W.Fast.tw4907468428973803736:True:=trivial
theorem PySem.W.Fast.tw10022789604306151541:True:=trivial
theorem PySem.W.Fast.tw11679463146714826340:True:=trivial
theorem PySem.W.Fast.tw1384935039828019465:True:=trivial
theorem PySem.W.Fast.tw1599142208851419249:True:=trivial
theorem PySem.W.Fast.tw12025758606697725857:True:=trivial
theorem PySem.W.Fast.tw10253475727464421852:True:=trivial
theorem PySem.W.Fast.tw772346854151849400:True:=trivial
theorem PySem.W.Fast.tw4441337788065249125:True:=trivial
theorem PySem.W.Fast.tw1458376109509122648:True:=trivial
theorem PySem.W.Fast.tw11138312108719477400:True:=trivial
theorem PySem.W.Fast.tw6241749501957255370:True:=trivial
theorem PySem.W.Fast.tw509049818190973517:True:=trivial
theorem PySem.W.Fast.tw11909441744433942588:True:=trivial
theorem PySem.W.Fast.tw8733869771506317240:True:=trivial
theorem PySem.W.Fast.tw18395680820110658396:True:=trivial
theorem PySem.W.Fast.tw16693513952497098438:True:=trivial
theorem PySem.W.Fast.tw4367904420231712840:True:=trivial
theorem PySem.W.Fast.tw6024995588902481363:True:=trivial
theorem PySem.W.Fast.tw9660179134843046579:True:=trivial
theorem PySem.W.Fast.tw10812641545232956820:True:=trivial
theorem PySem.W.Fast.tw13498975786729624379:True:=trivial
theorem PySem.W.Fast.tw9391201932845062196:True:=trivial
theorem PySem.W.Fast.tw14838505467887329768:True:=trivial
theorem PySem.W.Fast.tw13906851937692372468:True:=trivial
theorem PySem.W.Fast.tw9181796505800602047:True:=trivial
theorem PySem.W.Fast.tw3737567246398822160:True:=trivial
theorem PySem.W.Fast.tw13180945841277143306:True:=trivial
theorem PySem.W.Fast.tw6072862734264141199:True:=trivial
theorem PySem.W.Fast.tw8084427644382025200:True:=trivial
theorem PySem.W.Fast.tw1604831079762587716:True:=trivial
theorem PySem.W.Fast.tw1510725473079682655:True:=trivial
theorem PySem.W.Fast.tw2929204364636902850:True:=trivial
theorem PySem.W.Fast.tw2703775999930964830:True:=trivial
theorem PySem.W.Fast.tw16508722680848538078:True:=trivial
theorem PySem.W.Fast.tw12180090465810707698:True:=trivial
theorem PySem.W.Fast.tw5546401096612097621:True:=trivial
theorem PySem.W.Fast.tw4993443436321572774:True:=trivial
theorem PySem.W.Fast.tw1303983922129070607:True:=trivial
theorem PySem.W.Fast.tw1178884381662600466:True:=trivial
theorem PySem.W.Fast.tw1543703782307390814:True:=trivial
theorem PySem.W.Fast.tw14685630908194456634:True:=trivial
theorem PySem.W.Fast.tw229185277925790828:True:=trivial
theorem PySem.W.Fast.tw1266438167723443043:True:=trivial
theorem PySem.W.Fast.tw18100900471403392708:True:=trivial
theorem PySem.W.Fast.tw5607219654400357775:True:=trivial
theorem PySem.W.Fast.tw13431566655224005742:True:=trivial
theorem PySem.W.Fast.tw424648514454880189:True:=trivial
theorem PySem.W.Fast.tw2508167504845157393:True:=trivial
theorem PySem.W.Fast.tw4365381462435064336:True:=trivial
theorem PySem.W.Fast.tw289229949968941226:True:=trivial
theorem PySem.W.Fast.tw6940026122947585915:True:=trivial
theorem PySem.W.Fast.tw17463721982454447047:True:=trivial
theorem PySem.W.Fast.tw8151765310827690295:True:=trivial
theorem PySem.W.Fast.tw2590065480903948185:True:=trivial
theorem PySem.W.Fast.tw16725265259498771897:True:=trivial
theorem PySem.W.Fast.tw14791232951239319006:True:=trivial
theorem PySem.W.Fast.tw15753213098594461978:True:=trivial
theorem PySem.W.Fast.tw1115516766155094156:True:=trivial
theorem PySem.W.Fast.tw2036795225088553496:True:=trivial
theorem PySem.W.Fast.tw16929252092674924953:True:=trivial
theorem PySem.W.Fast.tw5605712579447895766:True:=trivial
theorem PySem.W.Fast.tw15061907730645885685:True:=trivial
theorem PySem.W.Fast.tw766140951715382519:True:=trivial
theorem PySem.W.Fast.tw15070186736811395643:True:=trivial
theorem PySem.W.Fast.tw8842268984700018290:True:=trivial
theorem PySem.W.Fast.tw10948576823873647860:True:=trivial
theorem PySem.W.Fast.tw10502975929897358733:True:=trivial
theorem PySem.W.Fast.tw4767879703727930651:True:=trivial
theorem PySem.W.Fast.tw9557812722120699755:True:=trivial
theorem PySem.W.Fast.tw13311953382395692683:True:=trivial
theorem PySem.W.Fast.tw6207962033659049085:True:=trivial
theorem PySem.W.Fast.tw3848372932058085635:True:=trivial
theorem PySem.W.Fast.tw4635651001733458577:True:=trivial
theorem PySem.W.Fast.tw11982916691174160200:True:=trivial
theorem PySem.W.Fast.tw12341887370536443606:True:=trivial
theorem PySem.W.Fast.tw11275717780098684716:True:=trivial
theorem PySem.W.Fast.tw4308012425282062551:True:=trivial
theorem PySem.W.Fast.tw17085781064986687817:True:=trivial
theorem PySem.W.Fast.tw17356384109285471531:True:=trivial
theorem PySem.W.Fast.tw11601906850035332229:True:=trivial
theorem PySem.W.Fast.tw1936300629234744168:True:=trivial
theorem PySem.W.Fast.tw13951589473122896234:True:=trivial
theorem PySem.W.Fast.tw13657396165625670474:True:=trivial
theorem PySem.W.Fast.tw894024953950657912:True:=trivial
theorem PySem.W.Fast.tw11629470415600000964:True:=trivial
theorem PySem.W.Fast.tw1877506887067195135:True:=trivial
theorem PySem.W.Fast.tw15346391664291646924:True:=trivial
theorem PySem.W.Fast.tw6310597544834295126:True:=trivial
theorem PySem.W.Fast.tw17580221594089867658:True:=trivial
theorem PySem.W.Fast.tw14591782763522264751:True:=trivial
theorem PySem.W.Fast.tw17268367349559781770:True:=trivial
theorem PySem.W.Fast.tw6935006130753245162:True:=trivial
theorem PySem.W.Fast.tw1238882547936605143:True:=trivial
theorem PySem.W.Fast.tw10842466342122573038:True:=trivial
theorem PySem.W.Fast.tw1335070575832333992:True:=trivial
theorem PySem.W.Fast.tw3925207044480426744:True:=trivial
theorem PySem.W.Fast.tw5286685446951223071:True:=trivial
theorem PySem.W.Fast.tw16896136522952584129:True:=trivial
theorem PySem.W.Fast.tw18281691192780552480:True:=trivial
theorem PySem.W.Fast.tw4022963342815106137:True:=trivial
theorem PySem.W.Fast.tw669672482519521821:True:=trivial
theorem PySem.W.Fast.tw11679648468560158666:True:=trivial
theorem PySem.W.Fast.tw16151891023212090234:True:=trivial
theorem PySem.W.Fast.tw1260941029030408755:True:=trivial
theorem PySem.W.Fast.tw3504851502837938119:True:=trivial
theorem PySem.W.Fast.tw4972632018195229155:True:=trivial
theorem PySem.W.Fast.tw8143306754065819323:True:=trivial
theorem PySem.W.Fast.tw7334627091739660933:True:=trivial
theorem PySem.W.Fast.tw5535684075564563145:True:=trivial
theorem PySem.W.Fast.tw1441764508390613771:True:=trivial
theorem PySem.W.Fast.tw13731610692480227282:True:=trivial
theorem PySem.W.Fast.tw15841015922533846505:True:=trivial
theorem PySem.W.Fast.tw7159940942521976461:True:=trivial
theorem PySem.W.Fast.tw16379353667949226503:True:=trivial
theorem PySem.W.Fast.tw10785951411093853091:True:=trivial
theorem PySem.W.Fast.tw1807534176709357967:True:=trivial
theorem PySem.W.Fast.tw4619756581921311198:True:=trivial
theorem PySem.W.Fast.tw8798290262180897045:True:=trivial
theorem PySem.W.Fast.tw11538188271801630733:True:=trivial
theorem PySem.W.Fast.tw15924772112869536364:True:=trivial
theorem PySem.W.Fast.tw16373689876163297585:True:=trivial
theorem PySem.W.Fast.tw456161775203200468:True:=trivial
theorem PySem.W.Fast.tw4178968760791935980:True:=trivial
theorem PySem.W.Fast.tw13363095169666104693:True:=trivial
theorem PySem.W.Fast.tw16307594817671107664:True:=trivial
theorem PySem.W.Fast.tw15209736796335009809:True:=trivial
theorem PySem.W.Fast.tw18398025603368217811:True:=trivial
theorem PySem.W.Fast.tw12081427223514474387:True:=trivial
theorem PySem.W.Fast.tw15129585440982013986:True:=trivial
theorem PySem.W.Fast.tw14384868608455452388:True:=trivial
theorem PySem.W.Fast.tw15496573493107763810:True:=trivial
theorem PySem.W.Fast.tw6814876475495578763:True:=trivial
theorem PySem.W.Fast.tw14815110590829615401:True:=trivial
theorem PySem.W.Fast.tw687942623037560006:True:=trivial
theorem PySem.W.Fast.tw2808677855425213834:True:=trivial
theorem PySem.W.Fast.tw7248881397509775381:True:=trivial
theorem PySem.W.Fast.tw12625766412467926722:True:=trivial
theorem PySem.W.Fast.tw7824945916278450810:True:=trivial
theorem PySem.W.Fast.tw4637587231127924214:True:=trivial
theorem PySem.W.Fast.tw14761969059033348514:True:=trivial
theorem PySem.W.Fast.tw14977934945193687087:True:=trivial
theorem PySem.W.Fast.tw4097625655870004939:True:=trivial
theorem PySem.W.Fast.tw1000673618186643179:True:=trivial
theorem PySem.W.Fast.tw13849531196064906712:True:=trivial
theorem PySem.W.Fast.tw11754833240360214338:True:=trivial
theorem PySem.W.Fast.tw6812735886802955591:True:=trivial
theorem PySem.W.Fast.tw2714844017495171888:True:=trivial
theorem PySem.W.Fast.tw11350083106452924971:True:=trivial
theorem PySem.W.Fast.tw15597630859843265892:True:=trivial
theorem PySem.W.Fast.tw7184031149380943192:True:=trivial
theorem PySem.W.Fast.tw15493822843203654335:True:=trivial
theorem PySem.W.Fast.tw7021537840282808259:True:=trivial
theorem PySem.W.Fast.tw11320330415617413715:True:=trivial
theorem PySem.W.Fast.tw17388529911429309735:True:=trivial
theorem PySem.W.Fast.tw15700909126727472931:True:=trivial
theorem PySem.W.Fast.tw767917915987511044:True:=trivial
theorem PySem.W.Fast.tw13517260184866714451:True:=trivial
theorem PySem.W.Fast.tw9078680445504222014:True:=trivial
theorem PySem.W.Fast.tw11713849717730216847:True:=trivial
theorem PySem.W.Fast.tw9372208459772777483:True:=trivial
theorem PySem.W.Fast.tw7736864455233064266:True:=trivial
theorem PySem.W.Fast.tw15633958493021953707:True:=trivial
theorem PySem.W.Fast.tw3418047329022830618:True:=trivial
theorem PySem.W.Fast.tw5614205507785392187:True:=trivial
theorem PySem.W.Fast.tw1467705796547765971:True:=trivial
theorem PySem.W.Fast.tw7064657420051616011:True:=trivial
theorem PySem.W.Fast.tw13167091903582318683:True:=trivial
theorem PySem.W.Fast.tw17429601315488099642:True:=trivial
theorem PySem.Challenge.cw_fivecups_k45_whole_what_lasts_dances_holds : PySem.Challenge.rw_fivecups_k45_whole_what_lasts_dances.Holds := by
 w_on;o_law;k_head;(case hw=>w_witness2)
 k_fill
 refine Lw.walk (l:=PySem.Challenge.rw_fivecups_k45_whole_what_lasts_dances) Lw.law_true rfl rfl (λw h Y=>PySem.W.kIn_of Y) ?F
 case F =>
  intro w mg fa h KX G hmg;refine' Lw.all_mk KX G hmg ?wT ?zT ?dfl42 ?a42 ?l42 ?c42 ?k42 ?kc ?ka1 ?kl1 ?ka2 ?kl2
  (case wT=>repeat' (first | exact trivial | (refine' D.wrK ?a ?l ?c ?k;(case a=>k_is);(case l=>k_is);(case c=>k_is);(case k=>k_is)) | refine⟨?_,?_⟩))
  (case zT=>repeat' (first | exact trivial | refine⟨?_,?_⟩ | k_is))
  (case a42=>k_is);(case l42=>k_is);(case c42=>k_is);(case k42=>k_is)
  (case dfl42=>k_is)
  (case ka1=>k_is);(case kl1=>k_is)
  (case ka2=>k_is);(case kl2=>k_is)
  (case kc=>kernel_rfl)
