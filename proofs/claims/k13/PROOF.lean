import PyProof.Rows.All
import Wide.All
import OpenK.AllK
import Wide.FinOn
import Lean
import PyProof.EqAt
import PyProof.EqKinds
import PyProof.TupleCall
import PySem.Challenge.RW_fivecups_k13_texts_of_no_saying
open Array renaming length_toList->AN,getElem?_eq_some_iff->Cm,all_toList->DH,toList_extract->Gu,contains->Hr,toList->IB,ext'->JW
open Bool renaming false_ne_true->AQ,and_eq_true->Af,false_eq_true->CQ,not_true->Cd,not_false->Dm,not_eq_true'->D3,eq_iff_iff->ET,or_eq_true->EV,and_false->Fz,true_and->GR,noConfusion->He,and_true->IK
open Classical renaming propDecidable->Ds
open Except renaming error->GS,ok->JP
open False renaming elim->BN
open ForInStep renaming yield->Cs
open Iff renaming rfl->JS
open Int renaming toNat_natCast->D5,emod_lt_of_pos->FI,emod_nonneg->Fy
open List renaming mem_singleton->AD,mem_cons_self->AE,mem_cons->AF,mem_cons_of_mem->AG,not_mem_nil->AK,replicate->AM,getElem?_set_ne->AS,length_cons->AW,size_toArray->Ab,cons_ne_nil->Ae,mem_append_right->Ag,map_cons->Ah,getElem?_map->Ai,length_append->Am,getElem?_eq_some_iff->Ao,getElem?_set_self->Aq,mem_append->Aw,range->Az,all_eq_true->A4,append_assoc->A7,nodup_cons->A9,length_map->BA,replicate_succ->BD,getElem?_append_left->BH,lookup_cons->BR,cons_append->BS,append_nil->BV,count_append->Bd,length->Be,find?_cons->Bf,nil_append->Bo,mem_map->Br,take_of_length_le->Bs,getElem?_append_right->Bw,length_replicate->By,length_singleton->B0,getElem?_eq_none->B1,mem_of_getElem?->B8,any_cons->CA,count->CB,getElem?_replicate->CG,foldl_cons->CZ,map_append->Cb,flatten_cons->Cg,mem_append_left->Co,length_drop->Cr,getElem?_eq_getElem->Cy,sum_cons->Cz,length_eq_zero_iff->C5,foldl_append->C8,length_take->DK,forIn_cons->DQ,length_nil->DR,count_cons->DV,toList_toArray->DZ,drop_zero->Dl,drop_eq_getElem_cons->Dv,eq_of_mem_replicate->D9,headD_eq_head?_getD->EA,any_eq_true->ED,mem_filter->ER,of_mem_zip->EU,take_append_drop->Ea,mem_range->Ei,forIn_nil->Ej,drop_drop->El,mem_of_mem_take->Em,mem_of_mem_drop->Eo,filterMap_cons->Ew,takeWhile_cons->E4,all_cons->E8,Nodup->FA,map_nil->FJ,drop_length->FU,mem_eraseIdx_iff_getElem?->FV,getElem?_zip_eq_some->GD,getElem?_take_of_lt->GO,length_eq_one_iff->GY,map_map->GZ,reverse_replicate->Gb,range'->G0,reverse_append->G9,length_reverse->HA,mem_filterMap->HB,foldl->HH,append_of_mem->HM,count_eq_zero->HN,take_sublist->HQ,map_inj_left->HX,any_eq_false->HY,zipIdx_cons->Hd,mem_flatten->Hf,zipIdx_nil->Hi,take_left'->Hs,sum_append->Ht,all->Hz,extract->Ig,all_nil->Ih,all_map->Ii,any_map->Ij,lookup->JF
open List.Pairwise renaming nil->JD,map->JU
open List.cons renaming inj->BY
open Nat renaming le_refl->AL,lt_of_lt_of_le->AY,le_trans->As,ne_of_lt->BJ,lt_irrefl->BM,le_of_lt->Bk,zero_le->Cq,lt_or_ge->Cw,ne_of_gt->C9,add_comm->DC,le_add_left->Da,le_of_succ_le->D7,ble->D8,lt_succ_self->EI,le_of_ble_eq_true->Ec,lt_trans->FN,le_add_right->Ff,zero_add->Gq,sub_zero->Gr,ble_eq_true_of_le->Gy,le_succ->G8,lt_succ_of_lt->Hb,min_eq_right->Hl,min_eq_left->H9,le_of_eq->JE,pow_succ->JX,not_lt->J2,ble_eq->J6
open Ne renaming symm->Av
open Option renaming bind_some->AV,isSome_iff_exists->B7,mem_toList->Dr,isSome_some->Gx,getD_none->HG,getD_some->HI
open Option.some renaming injEq->Ak,inj->Ap
open Or renaming inl->CO,inr->Ez
open PyProof.Rows renaming slot_tuple_getitem->Ba,callWith_type1->CJ,kindOf->Dp,AllBare->Dw,slot_list_contains->Ed,envOfC->Ep,stripBy_eq->FQ,assignInOrder_cons->FZ,boot_tuple->Fj,subscriptTail->G6,subscriptTail_builtinR->HV,IntsAre->HW,entry_tuple_getitem->Hx,args_tuple_getitem->ID,Subscript_->IE,IsTup->IM,assignInOrder_nil->IQ,boot_bool->JV,callWith_builtin1->Jm,entry_list_contains->Jp,args_list_contains->Jq,In_slot->Jr,sliceIdx_lo_beyond->Ju,slicePart_none->Jz,tupleItemsOf_->KA
open PySem renaming wpAny_bind->AA,Value->AB,sizeLine->AC,Shared->AH,wpAny_pure->AO,starEach->AR,mainGlobals->AU,wpAny->AZ,Program->Ac,World->Al,FuncData->An,boot_len->Ay,mem_of_lookup->A0,Around->A5,wpAny_mono->BG,cellsFrom->BI,wpAny_field->BP,compareOp->BQ,backTo->Bg,wpAny_newObj_type->Bh,foldedSetIterable->Bi,sysModules->Bm,bootBuiltins->Bn,Paired->Bp,wpAny_callSpecial?_slot->Bq,Scope->Bv,assignEach->B4,wpAny_Call_Name_kw->B5,NameKind->B6,PyData->CC,wpAny_truthy_bool->CF,wpAny_holding->CH,attributeBase->CK,binaryOp->CU,wpAny_seqItems->CV,wpAny_setField_rec->Ci,behindInMarks->Cp,valueAt->Ct,wpAny_call_entry->C0,call_meets->DB,swapsWith->DG,builtinLookup_eq_fast->DU,typeLookup->DX,wpAny_standAt->De,sliceBounds->Dh,wpAny_execs_nil->Dn,wpAny_passesOwn->Do,codeAny_mono->Dx,DictEntry->D6,wpAny_setField->EC,sizeLine_eq->EL,codeAny->EM,getItem->EN,Keyword->EO,rawInt->ES,wpAny_onRaise->EW,wpAny_attempt->EY,pushCells->Eb,checkBuiltinCall->Ef,IsPart->Er,typeIs_str->Es,IsPair->Et,letOwnedTupleGo->Ex,pushCells_keeps->Ey,typeLookup_type->E3,keywordEach->FC,compEnvC->FE,wpAny_updateSeq_pair->FF,codeAny_call_builtin->FG,noteFrame->FK,stripLo->FL,swapsWithSole->FR,swappedStores->FS,wpAny_rule->Fc,wpAny_call->Fd,wpAny_pyIter_tuple->Fe,GenState->Fl,BindsTo->Fq,callerA->Fs,wpAny_loadPart_at->Fv,tupleKind->GA,wpAny_execs_cons->GB,noFill_tuple_add->GC,onTheHeap->GI,Model->GM,CmpOp->GN,IsZip->GQ,hashStr->GU,builtinsNs->Gc,isTrue->Gd,bindName->Ge,wpAny_bindName->Gf,recursionLimit->Gg,bindL->Gh,bindC->Gi,wpAny_newFunctionEnv_cells->Gk,typeOf->Gm,backToKw->Gn,isInstance->Gs,codeAny_call_builtin_code->Gz,assignInOrder->G4,seq_tuple_add->G5,call->G7,cLine->HD,seqIndex?->HF,standAt->HP,concat_meets->HR,wpAny_typeOf->HS,seqIndex_neg->HU,codeAny_call_function->HZ,seqIndex_of->Hh,wpAny_letGo->Hj,atKey->Hm,unbindBehindTheSuite->Hn,builtinKind->Ho,excClassObj->Hq,wpAny_Tuple_spliced->Hw,wpAny_Name->IA,pyNext->IC,typeIs_int->IF,tupleKind_room_in1->II,Drawn->IP,wpAny_Assign_Name->IR,wpAny_sequenceKey->IT,slot_list_getitem->IV,wpAny_pyIter_list->IZ,Reads->Ia,OsState->Ic,stripHi->Ie,Arguments->Iz,wpAny_pyIter_zip->JH,wpAny_getItem_of->JK,setFlight->JL,isSubtype->JM,callGetattribute->JN,wpAny_lookBehind->JQ,pastItsLine_dict->JR,strValues->JT,getAttrByItsOwn->Js,wpAny_Expr_any->Jv,pyIter->Jx,Params->J1,newFunctionEnv->J3,compPost->J4,firstArgMember->J5,getAttr?->J8,intBits_le_64->J9,evalPart_none->KB,AsSuiteRaised->KW,setItem->KZ,getAttr->Kb,name_of_addr->Kc,codeAny_func->Kd,call_meetsIn->Ki,wpAny_mkText->Kj,splitId->Kk,ExcBaseFacts->Km,OwnTail->Kn,setAttr->Ko,wpAny_nsSet1->Kp
open PySem.Around renaming under->E9,frames_deeper->GW
open PySem.AutoListH renaming list___mul___list_int_3->Kh
open PySem.Builtin.List renaming listTooLong->Cj
open PySem.Builtin.ObjectAttr renaming storeInDict->Bu,newKeyGuard->EF
open PySem.Builtin.Range renaming rangeSize->Ik
open PySem.Builtin.Slice renaming slicePlaces->CY,sliceAdjust->DN,sliceApplied->E6,slicePartIndex->JA,sliceFields->JB
open PySem.Builtin.SmallTypes renaming nextOf->BB,ownedTupleIsFree->Bj,ownedTupleHandOut->Dj
open PySem.Builtin.Str renaming strKind->B3,strSliceIndices->CP,occurrences->Di,partsBetween->FP
open PySem.Builtin.Tuple renaming tupleExact->Cf,tupleItemsOf->E7,tupleIsExact->JI
open PySem.Calls renaming spliced_cons->Dg,callWith_builtin->EH,Name_function_global->Fp,evalArgs_plain->Gp,spliced_nil->HE
open PySem.Code renaming builtin->Df,isFrame->GV,quiet_builtin->HL,isGuard->IS,frames->Iy
open PySem.Data renaming dict->FT,fields->Gv,seq->Gw,cell->Jy
open PySem.EntryCells renaming newEntry->GG
open PySem.EqMixed renaming eq_bool_str->Il,eq_int_str->Io,eq_str_bool->Ip,eq_str_int->Iq,ne_bool_str->Ir,ne_int_str->Iu,ne_str_bool->Iv,ne_str_int->Iw
open PySem.EqNone renaming eq_none_none->JY,eq_none_bool->JZ,eq_none_int->Ja,eq_none_str->Jb,eq_bool_none->Jc,eq_int_none->Jd,eq_str_none->Je,ne_none_none->Jf,ne_none_bool->Jg,ne_none_int->Jh,ne_none_str->Ji,ne_bool_none->Jj,ne_int_none->Jk,ne_str_none->Jl
open PySem.F renaming store_ValueError->B2,slot_str_split->CM,slot_tuple_iterator_next->Cv,slot_str_join->C6,type_str_join->C7,excAttr_ValueError->DY,args_tuple_add_2->Dq,args_str_split_2->Dt,entry_tuple_add->Dy,plainAttrs_list->Dz,entry_str_split->D4,slot_tuple_add->EB,slot_dict_get->EJ,slot_zip_next->Ek,slot_str_startswith->FW,type_str_startswith->FY,slot_dict_getitem->Fk,slot_list_append->Fw,type_list_append->Fx,args_dict_get_3->F0,args_tuple_iterator_next_1->GE,entry_dict_get->GF,type_str_split->GJ,entry_tuple_iterator_next->GP,args_zip_next_1->Hy,entry_zip_next->IG,slot_int_rmul->IW,entry_bexc_ga->Ib,args_bexc_ga->JO
open PySem.Flow renaming next->Jw,ret->KY
open PySem.Heap renaming get?_push_of_some->AI,lt_size->Aa,get?_push_size->Ad,get?_update_other->BO,size_push->Bx,get?_update_self->Bz,get?_none_of_le->Cn,SameBut->Dd,IsTuple->IY,ExtBut->JG
open PySem.Heap.DictOf renaming new->J7
open PySem.Heap.IsSliceOf renaming new->IU
open PySem.Heap.IsTuple renaming push->Jo
open PySem.Heap.SameBut renaming update->Ft
open PySem.IsL renaming update->Ke
open PySem.NameKind renaming free->BU,cell->BZ
open PySem.Obj renaming data_mapFields->C3,isFreed_of_fields->DL,mapSeq->FB,mapFields->GT,cls_mapFields->Hc
open PySem.Paired renaming length->Hg
open PySem.PassesOwn renaming never->Cu,leaving->Ga
open PySem.PyData renaming canLayAll0->Ax,eqv->BW,canLay0->CD
open PySem.SeqAt renaming EqAt->JC
open PySem.SeqAt.EqAt renaming int_str->GK,str_int->GL,same->KD,none_bool->KE,none_int->KG,none_str->KH,bool_none->KI,bool_bool->KJ,bool_int->KM,bool_str->KN,int_none->KO,int_bool->KP,int_int->KQ,str_none->KR,str_bool->KS,str_str->KU
open PySem.Shared renaming heap->IH
open PySem.Str renaming length_append->Au,join->BE,ofString->Bl,length->J0
open PySem.StrLaws renaming sliceText->BF,join_split->CN,sliceText_nat->CW,sliceIdx_none_hi->Du,glued_eq_join->EK
open PySem.Txt renaming split->Ar,rstripChars->BK,startswith->BL,contains->DD,join->DP,stripBy->Jt
open PySem.Value renaming ref->Aj,none->A6,type->Bc,builtin->B9,bool->EG,int->Eg,str->Eh,isStrOf->Hu,isInt->IL
open PySem.Value.ref renaming inj->Kl
open PySem.W renaming Frag->AJ,nsIn->A8,keepIn->BC,findIn->Bb,kitOne->Bt,cellsFrom_some->CL,subIn->CS,clsIn->CT,codeIn->Ce,fnOf->Ck,notCls->C4,callWith_K->DW,kitAny->EZ,looks_subIn->Ee,methodObj->E5,OpenLaw->FM,kia_one->FO,Looks->Fu,codeRec_of->Gj,kia_tup->HJ,findObj->HK,WalkO->Ha,KitX->Hk
open PySem.W.Looks renaming ld->GH
open PySem.Within renaming cons->IJ
open Sum renaming inr->C2,inl->Eu
open Sum.inr renaming inj->Hv
open True renaming intro->DM
set_option Elab.async false
set_option linter.all false
set_option maxRecDepth 100000
namespace L2
open PySem PySem.Spec PyProof.Rows
abbrev Key:=Sum Int Str
def keyIs:Key->AB->Bool
 | .inl k,v=>IL k v
 | .inr x,v=>Hu x v
def keyH(w:Al):Key->Int
 | .inl k=>hashInt k
 | .inr x=>GU w x
theorem zAQ:∀ {k:Key} {v:AB},keyIs k v=true->(∃ i t,k=Eu i/\v=Eg i t)\/(∃ x t,k=C2 x/\v=Eh x t)
 | .inl i,v,h=>by
  obtain⟨t,e⟩:=Value.isInt_shape (k:=i) (v:=v) h
  exact .inl ⟨i,t,rfl,e⟩
 | .inr x,v,h=>by
  obtain⟨t,e⟩:=Value.isStrOf_shape (x:=x) (v:=v) h
  exact .inr ⟨x,t,rfl,e⟩
theorem zGS(i:Int)(t:Tok):keyIs (.inl i) (.int i t)=true:=by simp[keyIs,IL]
theorem zHr(x:Str)(t:Tok):keyIs (.inr x) (.str x t)=true:=by simp[keyIs,Hu]
theorem zK1(a b:Int):decide ((Eu a:Key)=Eu b)=(a == b):=by
 by_cases e:a=b
 ·subst e; simp
 ·have h:¬ (Eu a:Key)=Eu b:=fun q=>e (Sum.inl.inj q)
  rw[decide_eq_false h]
  exact (beq_eq_false_iff_ne.mpr e).symm
theorem zLL(a b:Str):decide ((C2 a:Key)=C2 b)=decide (a=b):=by
 by_cases e:a=b
 ·subst e; simp
 ·have h:¬ (C2 a:Key)=C2 b:=fun q=>e (Hv q)
  rw[decide_eq_false h,decide_eq_false e]
theorem zKe(a:Int)(b:Str):decide ((Eu a:Key)=C2 b)=false:=decide_eq_false (fun q=>nomatch q)
theorem zKm(a:Str)(b:Int):decide ((C2 a:Key)=Eu b)=false:=decide_eq_false (fun q=>nomatch q)
def mixKind(prog:Ac)(w:Al):PySem.KeyKind prog w Key where
 is:=keyIs
 hash:=keyH w
 inj:=fun v a b ha hb=>by
  rcases zAQ ha with ⟨i,t,rfl,rfl⟩ | ⟨x,t,rfl,rfl⟩
  ·rcases zAQ hb with ⟨j,u,rfl,e⟩ | ⟨y,u,rfl,e⟩
   ·injection e with e1 _; rw[e1]
   ·exact nomatch e
  ·rcases zAQ hb with ⟨j,u,rfl,e⟩ | ⟨y,u,rfl,e⟩
   ·exact nomatch e
   ·injection e with e1 _; rw[e1]
 byValue:=fun k v h=>by
  rcases zAQ h with ⟨i,t,rfl,rfl⟩ | ⟨x,t,rfl,rfl⟩ <;> rfl
 pyHash:=fun hv h=>by
  rcases zAQ hv with ⟨i,t,rfl,rfl⟩ | ⟨x,t,rfl,rfl⟩
  ·exact wpAny_pyHash_int h
  ·exact wpAny_pyHash_str h
 eqBool:=fun hu hv h=>by
  rcases zAQ hu with ⟨i,t,rfl,rfl⟩ | ⟨x,t,rfl,rfl⟩
  ·rcases zAQ hv with ⟨j,u,rfl,rfl⟩ | ⟨y,u,rfl,rfl⟩
   ·rw[zK1]at h; exact wpAny_eqBool_int h
   ·rw[zKe]at h; exact GK i t y u _ _ _ _ h
  ·rcases zAQ hv with ⟨j,u,rfl,rfl⟩ | ⟨y,u,rfl,rfl⟩
   ·rw[zKm]at h; exact GL x t j u _ _ _ _ h
   ·rw[zLL]at h; exact wpAny_eqBool_str h
 «strs»:=fun k x t v h=>by
  rcases zAQ h with ⟨i,u,rfl,e⟩ | ⟨y,u,rfl,e⟩
  ·exact nomatch e
  ·injection e with e1 _
   subst e1
   cases v <;> rfl
theorem zEz(prog:Ac)(w:Al)(i:Int)(t:Tok):(mixKind prog w).is (.inl i) (.int i t)=true:=zGS i t
theorem zBK(prog:Ac)(w:Al)(x:Str)(t:Tok):(mixKind prog w).is (.inr x) (.str x t)=true:=zHr x t
inductive V where
 | non | bl (b:Bool) | int (i:Int) | str (x:Str) | byt (b:Array UInt8) | flt (b:UInt64) | ref (a:Addr) | ty (n:String)
 deriving DecidableEq
def RelV:V->AB->Prop
 | .non,u=>u=A6
 | .bl b,u=>u=EG b
 | .int i,u=>∃ t,u=Eg i t
 | .str x,u=>∃ t,u=Eh x t
 | .byt b,u=>∃ t,u=Value.bytes b t
 | .flt b,u=>∃ t,u=Value.float b t
 | .ref a,u=>u=Aj a
 | .ty n,u=>u=Bc n
abbrev Vals:List V->List AB->Prop:=Bp RelV
theorem Vals.length{xs:List V}{us:List AB}(r:Vals xs us):xs.length=us.length:=Hg r
theorem Vals.get:∀ {xs:List V} {us:List AB} {i:Nat} {x:V},Vals xs us->xs[i]?=some x->∃ u,us[i]?=some u/\RelV x u
 | _,_,_,_,.nil,e=>by simp at e
 | _,_,0,_,.cons r _,e=>by simp at e; subst e; exact⟨_,rfl,r⟩
 | _,_,i+1,x,.cons _ t,e=>by
  obtain⟨u,h1,h2⟩:=Vals.get (i:=i) (x:=x) t (by simpa using e)
  exact⟨u,by simpa using h1,h2⟩
theorem Vals.set{x:V}{u:AB}(r:RelV x u):∀ {xs:List V} {us:List AB} (i:Nat),Vals xs us->Vals (xs.set i x) (us.set i u)
 | _,_,_,.nil=>.nil
 | _,_,0,.cons _ t=>.cons r t
 | _,_,i+1,.cons q t=>.cons q (Vals.set r i t)
theorem Vals.append:∀ {xs ys:List V} {us ws:List AB},Vals xs us->Vals ys ws->Vals (xs++ys) (us++ws)
 | _,_,_,_,.nil,s=>s
 | _,_,_,_,.cons r t,s=>.cons r (Vals.append t s)
theorem Vals.take:∀ {xs:List V} {us:List AB} (n:Nat),Vals xs us->Vals (xs.take n) (us.take n)
 | _,_,0,_=>.nil
 | _,_,_+1,.nil=>.nil
 | _,_,n+1,.cons r t=>.cons r (Vals.take n t)
theorem Vals.drop:∀ {xs:List V} {us:List AB} (n:Nat),Vals xs us->Vals (xs.drop n) (us.drop n)
 | _,_,0,r=>r
 | _,_,_+1,.nil=>.nil
 | _,_,n+1,.cons _ t=>Vals.drop n t
def RelO:Option V->Option AB->Prop
 | some v,some u=>RelV v u
 | none,none=>True
 | _,_=>False
def KV{κ:Type}:List (κ×V)->List (κ×AB)->Prop:=Bp fun (p:κ×V) (q:κ×AB)=>p.1=q.1/\RelV p.2 q.2
def kV:Key->V
 | .inl i=>.int i
 | .inr x=>.str x
inductive HO where
 | lst (xs:List V)
 | tup (xs:List V)
 | dK (kvs:List (Key×V)) | dT (kvs:List (List Key×V))
 | set (S:Int->Bool) (n:Nat)
 | ins (C dx:Addr) (fs:List (Str×V))
 | own (x:Addr)
 | xd (fs:List (Str×V))
 | met (f x:Addr)
 | rng (lo hi:Int)
 | frz (o:Obj) (u:HO)
 | tbl (ps:Array AB)
 | ext (φ:Heap->Prop)
abbrev Hp:=Addr->Option HO
def upd(H:Hp)(a:Addr)(o:HO):Hp:=fun b=>if b=a then some o else H b
theorem zAG{H:Hp}{a:Addr}{o:HO}:upd H a o a=some o:=by unfold upd; rw[if_pos rfl]
theorem zAC{H:Hp}{a b:Addr}{o:HO}(h:b≠a):upd H a o b=H b:=by unfold upd; rw[if_neg h]
theorem zAH{H:Hp}{a b:Addr}{o:HO}(h:H a=some o)(h':H b=none):a≠b:=by
 intro e; subst e; rw[h]at h'; cases h'
def TupD(h:Heap)(a:Addr)(items:Array AB):Prop:=∃ o,h.get? a=some o/\o.cls=.type "tuple"/\(∃ n,o.data=.seq items n)/\o.dict=none
theorem TupD.tup{h:Heap}{a:Addr}{items:Array AB}(x:TupD h a items):IM h a items:=let ⟨o,e,c,d,_⟩:=x; ⟨o,e,c,d⟩
theorem TupD.lt{h:Heap}{a:Addr}{items:Array AB}(x:TupD h a items):a < h.objs.size:=let ⟨_,e,_⟩:=x; Aa e
theorem TupD.new(h:Heap)(items:Array AB):TupD (h.push { cls:=.type "tuple",data:=.seq items }) h.objs.size items:=⟨_,Ad _ rfl,rfl,⟨_,rfl⟩,rfl⟩
section
variable (P:Ac)(w:Al)
def ObjOk(H:Hp)(h:Heap)(a:Addr):HO->Prop
 | .lst xs=>xs.length<=AC/\∃ (its:List AB) (n:Nat),Vals xs its/\h.get? a=some { cls:=.type "list",data:=.seq its.toArray n }
 | .tup xs=>xs.length<=AC/\∃ its:List AB,Vals xs its/\TupD h a its.toArray
 | .dK kvs=>kvs.length<=AC/\(a == Bm)=false/\∃ vs,KV kvs vs/\h.DictOf (mixKind P w) a vs
 | .dT kvs=>kvs.length<=AC/\(a == Bm)=false/\∃ xs:List (List Key×Addr×AB),
   Bp (fun (p:List Key×V) (q:List Key×Addr×AB)=>p.1=q.1/\H q.2.1=some (.tup (p.1.map kV))/\RelV p.2 q.2.2) kvs xs /\
   ∃ o es ep,h.get? a=some o/\o.ExactDict/\o.data=.dict es ep/\es.toList=xs.map (entryOfKey (GA (mixKind P w)))/\(xs.map (·.1)).Nodup
 | .set S n=>h.SetOf (intKind P w) a S n
 | .ins C dx fs=>H dx=some (.own a)/\fs.length<=1000/\dx≠a/\h.get? a=some (PySem.W.instObj C dx) /\
   ∃ mA,h.Ns1 dx mA/\(∀ f,RelO (fs.lookup f) (mA f))/\PySem.Within mA (fs.map (·.1))
 | .own _=>∃ o,h.get? a=some o
 | .xd fs=>∃ mA,h.Ns1 a mA/\∀ f,RelO (fs.lookup f) (mA f)
 | .rng lo hi=>∃ t u v,h.get? a=some { cls:=.type "range",data:=.fields #[.int lo t,.int hi u,.int 1 v] }
 | .frz o u=>h.get? a=some o/\ObjOk H h a u
 | .tbl ps=>h.get? a=some { cls:=.none,data:=.fields ps }
 | .met f x=>h.get? a=some (E5 (.ref f) (.ref x))
 | .ext φ=>φ h/\(∃ o,h.get? a=some o)/\∀ h1 h2:Heap,φ h1->(∀ o,h1.get? a=some o->h2.get? a=some o)->φ h2
def HOk(H:Hp)(h:Heap):Prop:=∀ a o,H a=some o->ObjOk P w H h a o
end
section
variable {P:Ac}{w:Al}{H H':Hp}{h h':Heap}{a:Addr}{o:HO}
theorem ObjOk.lt(x:ObjOk P w H h a o):a < h.objs.size:=by
 cases o with
 | lst xs=>obtain⟨_,_,_,_,e⟩:=x; exact Aa e
 | tup xs=>obtain⟨_,_,_,p⟩:=x; exact p.lt
 | dK kvs=>obtain⟨_,_,_,_,o,_,_,e,_⟩:=x; exact Aa e
 | dT kvs=>obtain⟨_,_,_,_,o,_,_,e,_⟩:=x; exact Aa e
 | set S n=>obtain⟨o,_,_,_,e,_⟩:=x; exact Aa e
 | ins C dx fs=>obtain⟨_,_,_,e,_⟩:=x; exact Aa e
 | own y=>obtain⟨_,e⟩:=x; exact Aa e
 | xd fs=>obtain⟨_,⟨_,_,_,e,_⟩,_⟩:=x; exact Aa e
 | rng lo hi=>obtain⟨_,_,_,e⟩:=x; exact Aa e
 | frz ob u=>obtain⟨e,_⟩:=x; exact Aa e
 | tbl ps=>exact Aa (show h.get? a=some _ from x)
 | met f y=>exact Aa (show h.get? a=some _ from x)
 | ext φ=>obtain⟨_,⟨_,e⟩,_⟩:=x; exact Aa e
theorem Paired.mapP{α β:Type}{F G:α->β->Prop}:∀ {l₁:List α} {l₂:List β},Bp F l₁ l₂->(∀ a b,F a b->G a b)->Bp G l₁ l₂
 | _,_,.nil,_=>.nil
 | _,_,.cons r t,f=>.cons (f _ _ r) (Paired.mapP t f)
theorem ObjOk.stay(x:ObjOk P w H h a o)(k:∀ b u,(b=a\/H b=some (.own a))->h.get? b=some u->h'.get? b=some u)
  (ho:∀ b,H b=some (.own a)->H' b=some (.own a)) (ht:∀ b xs,H b=some (.tup xs)->H' b=some (.tup xs)):ObjOk P w H' h' a o:=by
 induction o with
 | lst xs=>obtain⟨z,its,n,r,e⟩:=x; exact⟨z,its,n,r,k _ _ (.inl rfl) e⟩
 | tup xs=>obtain⟨z,its,r,ob,e,c⟩:=x; exact⟨z,its,r,ob,k _ _ (.inl rfl) e,c⟩
 | dK kvs=>obtain⟨z,y,vs,r,ob,es,ep,e,c⟩:=x; exact⟨z,y,vs,r,ob,es,ep,k _ _ (.inl rfl) e,c⟩
 | dT kvs =>
  obtain⟨z,y,xs,r,ob,es,ep,e,c⟩:=x
  exact⟨z,y,xs,Paired.mapP r fun p q z=>⟨z.1,ht _ _ z.2.1,z.2.2⟩,ob,es,ep,k _ _ (.inl rfl) e,c⟩
 | set S n=>obtain⟨ob,es,ep,t,e,c⟩:=x; exact⟨ob,es,ep,t,k _ _ (.inl rfl) e,c⟩
 | ins C dx fs =>
  obtain⟨d,z,ne,e,mA,⟨od,es,ep,e2,c⟩,r⟩:=x
  exact⟨ho _ d,z,ne,k _ _ (.inl rfl) e,mA,⟨od,es,ep,k _ _ (.inr d) e2,c⟩,r⟩
 | own y=>obtain⟨ob,e⟩:=x; exact⟨ob,k _ _ (.inl rfl) e⟩
 | xd fs=>obtain⟨mA,⟨od,es,ep,e,c⟩,r⟩:=x; exact⟨mA,⟨od,es,ep,k _ _ (.inl rfl) e,c⟩,r⟩
 | rng lo hi=>obtain⟨t,u,v,e⟩:=x; exact⟨t,u,v,k _ _ (.inl rfl) e⟩
 | frz ob u ih=>obtain⟨e,q⟩:=x; exact⟨k _ _ (.inl rfl) e,ih q⟩
 | tbl ps =>
  have e:h.get? a=some { cls:=.none,data:=.fields ps }:=x
  show h'.get? a=some { cls:=.none,data:=.fields ps }
  exact k a _ (.inl rfl) e
 | met f y =>
  have e:h.get? a=some (E5 (.ref f) (.ref y)):=x
  show h'.get? a=some (E5 (.ref f) (.ref y))
  exact k a _ (.inl rfl) e
 | ext φ=>obtain⟨p,⟨o,e⟩,st⟩:=x; exact⟨st _ _ p fun o q=>k _ _ (.inl rfl) q,⟨o,k _ _ (.inl rfl) e⟩,st⟩
theorem HOk.lt(x:HOk P w H h)(e:H a=some o):a < h.objs.size:=(x a o e).lt
theorem HOk.fresh(x:HOk P w H h)(e:h.objs.size<=a):H a=none:=by
 cases q:H a with
 | none=>rfl
 | some u=>exact absurd (AY (x.lt q) e) (BM _)
theorem HOk.kept(x:HOk P w H h)(k:∀ b u,h.get? b=some u->h'.get? b=some u):HOk P w H h':=fun a o e =>
 (x a o e).stay (fun b u _ q=>k b u q) (fun _ q=>q) fun _ _ q=>q
theorem HOk.laid(x:HOk P w H h)(k:∀ b u,h.get? b=some u->h'.get? b=some u)(hp:h.objs.size<=a)(new:ObjOk P w (upd H a o) h' a o):HOk P w (upd H a o) h':=fun b u e=>by
 have hn:=x.fresh hp
 by_cases hb:b=a
 ·subst hb; rw[zAG]at e; cases e; exact new
 ·rw[zAC hb]at e
  exact (x b u e).stay (fun c v _ q=>k c v q) (fun c q=>by rw[zAC (zAH q hn)]; exact q) fun c xs q=>by rw[zAC (zAH q hn)]; exact q
end
def Rd(H:Hp)(a:Addr)(u:HO):Prop:=H a=some u\/∃ o,H a=some (.frz o u)
theorem Rd.ok{P:Ac}{w:Al}{H:Hp}{h:Heap}{a:Addr}{u:HO}(r:Rd H a u)(x:HOk P w H h):ObjOk P w H h a u:=by
 rcases r with r | ⟨o,r⟩
 ·exact x a u r
 ·obtain⟨_,q⟩:=x a _ r
  exact q
def Mut:Option HO->Prop
 | some (.lst _)=>True
 | some (.dK _)=>True
 | some (.dT _)=>True
 | some (.set _ _)=>True
 | some (.ins _ _ _)=>True
 | some (.ext _)=>True
 | _=>False
section
variable {P:Ac}{w:Al}{H:Hp}{h h':Heap}{x e:Addr}{o':HO}
theorem HOk.write(ok:HOk P w H h)(mu:Mut (H x))(he:e=x\/H e=some (.own x))(k:∀ b u,b≠e->h.get? b=some u->h'.get? b=some u)(heo:∃ u,h'.get? e=some u)
  (new:ObjOk P w (upd H x o') h' x o'):HOk P w (upd H x o') h':=fun b u q=>by
 have nown:∀ c y,H c=some (.own y)->c≠x:=fun c y r z=>by subst z; rw[r]at mu; exact mu
 have ntup:∀ c xs,H c=some (.tup xs)->c≠x:=fun c xs r z=>by subst z; rw[r]at mu; exact mu
 by_cases hb:b=x
 ·subst hb; rw[zAG]at q; cases q; exact new
 ·rw[zAC hb]at q
  by_cases hbe:b=e
  ·have q':H b=some (.own x):=by
    rcases he with z | z
    ·exact absurd (hbe.trans z) hb
    ·rw[hbe]; exact z
   rw[q]at q'; cases q'
   obtain⟨v,hv⟩:=heo
   exact⟨v,by rw[hbe]; exact hv⟩
  ·refine (ok b u q).stay (fun c v hc r=>k c v ?_ r) (fun c r=>by rw[zAC (nown c b r)]; exact r) fun c xs r=>by rw[zAC (ntup c xs r)]; exact r
   rcases hc with rfl | hc
   ·exact hbe
   ·rintro rfl
    rcases he with z | z
    ·exact nown c b hc z
    ·rw[hc]at z; cases z; exact hb rfl
end
structure Un(fs ex:List Addr)(H H':Hp)(h h':Heap):Prop where
 keep:∀ b o,h.get? b=some o->H b=none->b∉fs->b∉ex->h'.get? b=some o
 slot:∀ b o,h.get? b=some o->H b=none->b∈fs->b∉ex->∃ sl,h'.get? b=some { o with slots:=sl }
 free:∀ b o,h.get? b=some o->H b=none->b∉ex->H' b=none
 there:∀ b o,h.get? b=some o->b∉ex->∃ o',h'.get? b=some o'
 tups:∀ b xs,H b=some (.tup xs)->H' b=some (.tup xs)
 frzs:∀ b o u,H b=some (.frz o u)->H' b=some (.frz o u)
 tbls:∀ b ps,H b=some (.tbl ps)->∃ more,H' b=some (.tbl (ps++more))
section
variable {fs fs' ex ex':List Addr}{H H1 H2:Hp}{h h1 h2 h':Heap}{a x e:Addr}{o:HO}
theorem Un.any(u:Un fs ex H H1 h h1){b:Addr}{ob:Obj}(q:h.get? b=some ob)(n:H b=none)(hx:b∉ex):∃ sl,h1.get? b=some { ob with slots:=sl }:=by
 by_cases hb:b∈fs
 ·exact u.slot b ob q n hb hx
 ·exact⟨ob.slots,u.keep b ob q n hb hx⟩
theorem Un.kept(k:∀ b u,h.get? b=some u->h'.get? b=some u):Un fs ex H H h h' :=
 ⟨fun b ob q _ _ _=>k b ob q,fun b ob q _ _ _=>⟨ob.slots,k b ob q⟩,fun _ _ _ n _=>n,fun b ob q _=>⟨ob,k b ob q⟩,fun _ _ q=>q,fun _ _ _ q=>q,fun _ ps q=>⟨#[],by rw[q]; simp⟩⟩
theorem Un.refl:Un fs ex H H h h:=Un.kept fun _ _ q=>q
theorem Un.laid(k:∀ b u,h.get? b=some u->h'.get? b=some u)(hp:h.objs.size<=a)(hn:H a=none):Un fs ex H (upd H a o) h h' where
 keep:=fun b u q _ _ _=>k b u q
 slot:=fun b u q _ _ _=>⟨u.slots,k b u q⟩
 free:=fun b u q n _=>by rw[zAC (BJ (AY (Aa q) hp))]; exact n
 there:=fun b u q _=>⟨u,k b u q⟩
 tups:=fun b xs q=>by rw[zAC (zAH q hn)]; exact q
 frzs:=fun b u xs q=>by rw[zAC (zAH q hn)]; exact q
 tbls:=fun b ps q=>⟨#[],by rw[zAC (zAH q hn),q]; simp⟩
theorem Un.write(mu:Mut (H x))(he:e=x\/H e=some (.own x))(k:∀ b u,b≠e->h.get? b=some u->h'.get? b=some u)(heo:∃ u,h'.get? e=some u):Un fs ex H (upd H x o) h h':=by
 have hx:∀ b,H b=none->b≠x:=fun b n z=>by subst z; rw[n]at mu; exact mu
 have hb:∀ b,H b=none->b≠e:=fun b n z=>by
  subst z
  rcases he with r | r
  ·exact hx b n r
  ·rw[n]at r; cases r
 have hm:∀ b u,H b=some u->¬ Mut (some u)->b≠x:=fun b u q nm z=>by subst z; rw[q]at mu; exact nm mu
 refine⟨fun b u q n _ _=>k b u (hb b n) q,fun b u q n _ _=>⟨u.slots,k b u (hb b n) q⟩,fun b u q n _=>by rw[zAC (hx b n)]; exact n,fun b u q _=>?_,
  fun b xs q=>by rw[zAC (hm b _ q fun z=>z)]; exact q,fun b u xs q=>by rw[zAC (hm b _ q fun z=>z)]; exact q,fun b ps q=>⟨#[],by rw[zAC (hm b _ q fun z=>z),q]; simp⟩⟩
 by_cases hbe:b=e
 ·subst hbe; exact heo
 ·exact⟨u,k b u hbe q⟩
end
def trk(h:Heap)(H:Hp):List Addr:=(Az h.objs.size).filter fun a=>(H a).isSome
def hidT(h:Heap)(H:Hp):Heap:=PySem.W.hideAll h (trk h H)
theorem zG4(h:Heap)(H:Hp):(hidT h H).objs.size=h.objs.size:=PySem.W.hideAll_size _ _
theorem zIA{h:Heap}{H:Hp}{b:Addr}{o:Obj}(e:h.get? b=some o)(n:H b=none):(hidT h H).get? b=some o :=
 PySem.W.hideAll_get _ e fun hm=>by
  have q:(H b).isSome=true:=(ER.mp hm).2
  rw[n]at q; simp at q
theorem zJk{h:Heap}{H:Hp}{b:Addr}{o:Obj}(e:(hidT h H).get? b=some o):h.get? b=some o/\H b=none:=by
 have e':h.get? b=some o:=PySem.W.of_hideAll (trk h H) e
 refine⟨e',?_⟩
 cases q:H b with
 | none=>rfl
 | some x =>
  have hm:b∈trk h H:=ER.mpr ⟨Ei.mpr (Aa e'),by simp[q]⟩
  have z:(hidT h H).get? b=none:=PySem.W.hideAll_none (trk h H) hm
  rw[z]at e; cases e
def allNews(g h:Heap)(L:Addr):List (Addr×Obj):=(Az h.objs.size).filterMap fun a=>if a=L\/(g.get? a).isSome=true then none else (h.get? a).map fun o=>(a,o)
def rest(g h:Heap)(L d:Addr):List (Addr×Obj):=(allNews g h L).filter fun p=>decide (p.1≠d)
structure Mod(K:AJ)(mg:Str->Option AB)(base:Heap):Prop where
 kin:K.In base
 glob:base.Ns AU mg
 blt:∃ mb,base.Ns Gc mb/\∀ x:Str,x≠"__name__"->mb x=Bn x
 nolimit:base.NoLimit
structure Cx where
 prog:Ac
 w:Al
 K:AJ
 mg:Str->Option AB
 base:Heap
 A:A5
 N:List Str
 s₀:AH
 H₀:Hp
 env:Env
 outer:List Env
 stack:List Env
 ex:List Addr
 fn:Str->Bool
 calm:Bool
 pn:List (Addr×Obj)
 xe:AB->AH->Prop
def frs(l:List Env):List Addr:=l.filterMap (·.frame)
abbrev Cx.fs(X:Cx):List Addr:=frs X.outer
def Vis(sc:Bv)(x:Str):Prop:=sc.names.lookup x=some .local\/sc.names.lookup x=some .cell\/sc.names.lookup x=some .free
def Loc(sc:Bv)(x:Str):Prop:=sc.names.lookup x=some .local\/sc.names.lookup x=some .cell
def Look(env:Env)(h:Heap)(m:Str->Option AB)(x:Str)(u:AB):Prop :=
 (env.kindOf x=some .local/\m x=some u)\/((env.kindOf x=some .cell\/env.kindOf x=some .free)/\∃ c,env.cells.lookup x=some c/\h.IsCell c (some u))
structure Cx.Ok(X:Cx):Prop where
 mod:Mod X.K X.mg X.base
 kind:X.env.scope.kind=.function
 glob:X.env.globals=AU
 blt:X.env.builtins=Gc
 above:X.s₀.heap.objs.size<=X.env.locals
 inj:∀ x y c,X.env.cells.lookup x=some c->X.env.cells.lookup y=some c->x=y
 has:∀ x,(X.env.kindOf x=some .cell\/X.env.kindOf x=some .free)->∃ c,X.env.cells.lookup x=some c
 cab:∀ x c,X.fn x=true->X.env.cells.lookup x=some c->X.s₀.heap.objs.size<=c
 hd:X.calm=true->X.A.handled=none
 frames:X.A.frames=some X.stack
 stk:X.stack=X.outer\/(X.stack=X.env::X.outer/\X.env.frame=some X.env.locals)
 exf:∀ b∈X.ex,b≠X.env.locals/\∀ x c,X.env.cells.lookup x=some c->c≠b
 bs:∀ b o,X.base.get? b=some o->X.s₀.heap.get? b=some o/\X.H₀ b=none
 bsz:X.base.objs.size<=X.s₀.heap.objs.size
 noex:∀ b o,X.base.get? b=some o->b∉X.ex
 exfs:∀ b∈X.ex,b∉X.fs
 funs:X.s₀.heap.FunFrames X.base X.outer
 frf:∀ b∈X.fs,X.H₀ b=none
structure Inv(X:Cx)(pins:List (Addr×Obj))(σ:List (Option V))(H:Hp)(s:AH):Prop where
 ok:X.Ok
 os:s.os=X.s₀.os
 bare:Dw s.gens
 base:Un X.fs X.ex X.H₀ H X.s₀.heap s.heap
 loc:∃ m,s.heap.Ns X.env.locals m/\∀ (i:Nat) (x:Str) (v:V),X.N[i]?=some x->σ[i]?=some (some v)->Vis X.env.scope x->∃ u,RelV v u/\Look X.env s.heap m x u
 cell:∀ x c,X.env.cells.lookup x=some c->∃ v,s.heap.IsCell c v
 free:H X.env.locals=none
 freeC:∀ x c,X.env.cells.lookup x=some c->H c=none
 pin:∀ p∈X.pn++pins,s.heap.get? p.1=some p.2/\H p.1=none/\p.1≠X.env.locals/\p.1∉X.fs/\∀ v,p.2.data≠.cell v
 hok:HOk X.prog X.w H s.heap
 len:σ.length=X.N.length
section
variable {X:Cx}{pins:List (Addr×Obj)}{σ:List (Option V)}{H H':Hp}{s:AH}{h':Heap}
theorem Cx.Ok.nofr(ok:X.Ok){b:Addr}{o:Obj}(e:X.base.get? b=some o):b∉X.fs:=fun hb=>by
 have:=(ok.funs.mem hb).1
 rw[e]at this; cases this
theorem Inv.bs(I:Inv X pins σ H s):∀ b o,X.base.get? b=some o->s.heap.get? b=some o/\H b=none:=fun b o e =>
 ⟨I.base.keep b o (I.ok.bs b o e).1 (I.ok.bs b o e).2 (I.ok.nofr e) (I.ok.noex b o e),I.base.free b o (I.ok.bs b o e).1 (I.ok.bs b o e).2 (I.ok.noex b o e)⟩
theorem Inv.bk(I:Inv X pins σ H s):∀ b o,X.base.get? b=some o->s.heap.get? b=some o:=fun b o e=>(I.bs b o e).1
theorem Inv.mod(I:Inv X pins σ H s):Mod X.K X.mg X.base:=I.ok.mod
theorem Inv.kIn(I:Inv X pins σ H s):X.K.In s.heap:=I.ok.mod.kin.keeps I.bk
theorem Inv.lt(I:Inv X pins σ H s):X.env.locals < s.heap.objs.size:=let ⟨_,hn,_⟩:=I.loc; hn.lt
theorem Inv.sz(I:Inv X pins σ H s):X.s₀.heap.objs.size<=s.heap.objs.size:=As I.ok.above (Bk I.lt)
theorem Inv.nofs(I:Inv X pins σ H s){a:Addr}(h:s.heap.objs.size<=a):a∉X.fs:=fun hb=>by
 obtain⟨_,o,ho,_⟩:=I.ok.funs.mem hb
 exact absurd (AY (Aa ho) (As I.sz h)) (BM _)
theorem Inv.cne(I:Inv X pins σ H s):∀ x c,X.env.cells.lookup x=some c->c≠X.env.locals:=fun x c e z=>by
 obtain⟨v,o,ho,hd⟩:=I.cell x c e
 obtain⟨m,⟨o',es,ep,ho',hd',_⟩,_⟩:=I.loc
 rw[z,ho']at ho; cases ho; rw[hd']at hd; cases hd
theorem Inv.funs(I:Inv X pins σ H s):s.heap.FunFrames X.base X.outer:=by
 have all:∀ (l:List Env),(∀ b∈frs l,b∈X.fs)->X.s₀.heap.FunFrames X.base l->s.heap.FunFrames X.base l:=by
  intro l
  induction l with
  | nil=>intro _ _; trivial
  | cons env r ih =>
   intro hs hl
   obtain⟨hk,⟨L,o,hf,hn,ho,hd⟩,hr⟩:=hl
   have hL:L∈X.fs:=hs L (by unfold frs; rw[Ew,hf]; exact AE)
   obtain⟨sl,e⟩:=I.base.slot L o ho (I.ok.frf L hL) hL fun z=>I.ok.exfs L z hL
   exact⟨hk,⟨L,_,hf,hn,e,hd⟩,ih (fun b hb=>hs b (by unfold frs; rw[Ew,hf]; exact AG _ hb)) hr⟩
 exact all X.outer (fun _ hb=>hb) I.ok.funs
theorem Inv.stack(I:Inv X pins σ H s):s.heap.FunFrames X.base X.stack:=by
 rcases I.ok.stk with e | ⟨e,hf⟩
 ·rw[e]; exact I.funs
 ·rw[e]
  obtain⟨m,hn,_⟩:=I.loc
  refine .cons (by rw[I.ok.kind]; decide) hf hn ?_ I.funs
  exact Cn (As I.ok.bsz I.ok.above)
theorem Inv.stkSub(I:Inv X pins σ H s):∀ b∈frs X.stack,b∈X.env.locals::X.fs:=fun b hb=>by
 rcases I.ok.stk with e | ⟨e,hf⟩
 ·rw[e]at hb; exact AG _ hb
 ·rw[e]at hb
  unfold frs at hb
  rw[Ew,hf]at hb
  exact hb
theorem Inv.stkFree(I:Inv X pins σ H s):∀ b∈frs X.stack,H b=none:=fun b hb=>by
 rcases AF.mp (I.stkSub b hb) with e | hb
 ·rw[e]; exact I.free
 ·obtain⟨_,o,ho,_⟩:=I.ok.funs.mem hb
  exact I.base.free b o ho (I.ok.frf b hb) fun z=>I.ok.exfs b z hb
theorem Inv.step{g':Array Fl}{t':Nat}{d':IP}{ch:List Addr}(I:Inv X pins σ H s)
  (hch:∀ b∈ch,(b∈X.ex\/X.s₀.heap.objs.size<=b)/\b≠X.env.locals/\(∀ x c,X.env.cells.lookup x=some c->c≠b)/\∀ p∈X.pn++pins,p.1≠b)
  (keep:∀ b o,b≠X.env.locals->b∉X.fs->b∉ch->s.heap.get? b=some o->H b=none->h'.get? b=some o)
  (slot:∀ b o,b≠X.env.locals->b∈X.fs->b∉ch->s.heap.get? b=some o->H b=none->∃ sl,h'.get? b=some { o with slots:=sl }) (free:∀ b o,b∉ch->s.heap.get? b=some o->H b=none->H' b=none)
  (there:∀ b o,b∉ch->s.heap.get? b=some o->∃ o',h'.get? b=some o')
  (tups:∀ b xs,H b=some (.tup xs)->H' b=some (.tup xs)) (frzs:∀ b o u,H b=some (.frz o u)->H' b=some (.frz o u)) (tbls:∀ b ps,H b=some (.tbl ps)->∃ more,H' b=some (.tbl (ps++more)))
  (ns:∀ m,s.heap.Ns X.env.locals m->h'.Ns X.env.locals m) (hok:HOk X.prog X.w H' h') (hg:Dw g') :
  Inv X pins σ H' { s with heap:=h',gens:=g',drawn:=d',toks:=t' }:=by
 have neL:∀ b o,X.s₀.heap.get? b=some o->b≠X.env.locals:=fun b o e=>BJ (AY (Aa e) I.ok.above)
 have neC:∀ b o,X.s₀.heap.get? b=some o->b∉X.ex->b∉ch:=fun b o e hx hb=>by
  rcases (hch b hb).1 with z | z
  ·exact hx z
  ·exact absurd (AY (Aa e) z) (BM _)
 have cellK:∀ x c,X.env.cells.lookup x=some c->∀ v,s.heap.IsCell c v->h'.IsCell c v:=fun x c e v ⟨o,ho,hd⟩=>by
  have nch:c∉ch:=fun z=>(hch c z).2.2.1 x c e rfl
  by_cases hc:c∈X.fs
  ·obtain⟨sl,q⟩:=slot c o (I.cne x c e) hc nch ho (I.freeC x c e)
   exact⟨_,q,hd⟩
  ·exact⟨o,keep c o (I.cne x c e) hc nch ho (I.freeC x c e),hd⟩
 refine⟨I.ok,I.os,hg,⟨fun b o e n hb hx=>?_,fun b o e n hb hx=>?_,fun b o e n hx=>?_,fun b o e hx=>?_,fun b xs e=>tups b xs (I.base.tups b xs e),fun b o xs e=>frzs b o xs (I.base.frzs b o xs e),fun b ps e=>?_⟩,?_,fun x c e=>?_,?_,fun x c e=>?_,fun p hp=>?_,hok,I.len⟩
 ·exact keep b o (neL b o e) hb (neC b o e hx) (I.base.keep b o e n hb hx) (I.base.free b o e n hx)
 ·obtain⟨sl,e1⟩:=I.base.slot b o e n hb hx
  obtain⟨sl',e2⟩:=slot b _ (neL b o e) hb (neC b o e hx) e1 (I.base.free b o e n hx)
  exact⟨sl',e2⟩
 ·obtain⟨o',e1⟩:=I.base.there b o e hx
  exact free b o' (neC b o e hx) e1 (I.base.free b o e n hx)
 ·obtain⟨o',e1⟩:=I.base.there b o e hx
  exact there b o' (neC b o e hx) e1
 ·obtain⟨m1,e1⟩:=I.base.tbls b ps e
  obtain⟨m2,e2⟩:=tbls b _ e1
  exact⟨m1++m2,by rw[e2,Array.append_assoc]⟩
 ·obtain⟨m,hn,hl⟩:=I.loc
  refine⟨m,ns m hn,fun i x v e1 e2 e3=>?_⟩
  obtain⟨u,r,l⟩:=hl i x v e1 e2 e3
  refine⟨u,r,?_⟩
  rcases l with l | ⟨k,c,e,z⟩
  ·exact .inl l
  ·exact .inr ⟨k,c,e,cellK x c e _ z⟩
 ·obtain⟨v,z⟩:=I.cell x c e
  exact⟨v,cellK x c e v z⟩
 ·obtain⟨m,⟨o,_,_,ho,_⟩,_⟩:=I.loc
  exact free _ o (fun z=>(hch _ z).2.1 rfl) ho I.free
 ·obtain⟨v,o,ho,hd⟩:=I.cell x c e
  exact free c o (fun z=>(hch c z).2.2.1 x c e rfl) ho (I.freeC x c e)
 ·obtain⟨e,n,ne,nf,d⟩:=I.pin p hp
  have nch:p.1∉ch:=fun z=>(hch p.1 z).2.2.2 p hp rfl
  exact⟨keep p.1 p.2 ne nf nch e n,free p.1 p.2 nch e n,ne,nf,d⟩
theorem Inv.un{t':Nat}(I:Inv X pins σ H s)(u:Un X.fs [] H H' s.heap h')(hok:HOk X.prog X.w H' h'):Inv X pins σ H' { s with heap:=h',toks:=t' }:=by
 obtain⟨m,⟨o,es,ep,ho,r⟩,_⟩:=id I.loc
 obtain⟨sl,hL⟩:=u.any ho I.free (by simp)
 exact I.step (g':=s.gens) (d':=s.drawn) (ch:=[]) (fun _ z=>nomatch z) (fun b o _ hb _ e n=>u.keep b o e n hb (by simp)) (fun b o _ hb _ e n=>u.slot b o e n hb (by simp)) (fun b o _ e n=>u.free b o e n (by simp)) (fun b o _ e=>u.there b o e (by simp)) u.tups u.frzs u.tbls (fun m' hm=>by
  obtain⟨o',es',ep',ho',r'⟩:=hm
  rw[ho]at ho'; cases ho'
  exact⟨_,es',ep',hL,r'⟩) hok I.bare
theorem Inv.call{g':Array Fl}{t':Nat}{d':IP}{ch:List Addr}(I:Inv X pins σ H s)(u:Un (frs X.stack) ch H H' s.heap h')(hok:HOk X.prog X.w H' h')(hg:Dw g')
  (hch:∀ b∈ch,(b∈X.ex\/X.s₀.heap.objs.size<=b)/\b≠X.env.locals/\(∀ x c,X.env.cells.lookup x=some c->c≠b)/\∀ p∈X.pn++pins,p.1≠b) :
  Inv X pins σ H' { s with heap:=h',gens:=g',drawn:=d',toks:=t' }:=by
 obtain⟨m,⟨o,es,ep,ho,r⟩,_⟩:=id I.loc
 obtain⟨sl,hL⟩:=u.any ho I.free fun z=>(hch _ z).2.1 rfl
 exact I.step (ch:=ch) hch (fun b o hL hb hc e n=>u.keep b o e n (fun z=>(AF.mp (I.stkSub b z)).elim hL hb) hc) (fun b o _ _ hc e n=>u.any e n hc) (fun b o hc e n=>u.free b o e n hc) (fun b o hc e=>u.there b o e hc) u.tups u.frzs u.tbls (fun m' hm=>by
  obtain⟨o',es',ep',ho',r'⟩:=hm
  rw[ho]at ho'; cases ho'
  exact⟨_,es',ep',hL,r'⟩) hok hg
theorem Inv.turned{t':Nat}{it:Addr}(I:Inv X pins σ H s)(k:∀ b o,b≠it->s.heap.get? b=some o->h'.get? b=some o)(hn:H it=none)(hL:it≠X.env.locals)
  (h1:it∈X.ex\/X.s₀.heap.objs.size<=it) (h2:∀ x c,X.env.cells.lookup x=some c->c≠it) (h3:∀ p∈X.pn++pins,p.1≠it):Inv X pins σ H { s with heap:=h',toks:=t' }:=by
 have nit:∀ b u,H b=some u->b≠it:=fun b u e z=>by rw[z,hn]at e; cases e
 refine I.step (g':=s.gens) (d':=s.drawn) (ch:=[it]) (fun b hb=>?_) (fun b o _ _ hc e _=>k b o (fun z=>hc (by simp[z])) e) (fun b o _ _ hc e _=>⟨o.slots,k b o (fun z=>hc (by simp[z])) e⟩) (fun _ _ _ _ n=>n)
  (fun b o hc e=>⟨o,k b o (fun z=>hc (by simp[z])) e⟩) (fun _ _ e=>e) (fun _ _ _ e=>e) (fun b ps e=>⟨#[],by rw[e]; simp⟩) (fun m hm=>?_) (fun b u e=>?_) I.bare
 ·have e:b=it:=by simpa using hb
  subst e
  exact⟨h1,hL,h2,h3⟩
 ·obtain⟨o,es,ep,ho,r⟩:=hm
  exact⟨o,es,ep,k _ o (Av hL) ho,r⟩
 ·refine (I.hok b u e).stay (fun c v hc q=>k c v ?_ q) (fun _ q=>q) fun _ _ q=>q
  rcases hc with z | z
  ·rw[z]; exact nit b u e
  ·exact nit c _ z
theorem Inv.tok(I:Inv X pins σ H s)(t:Nat):Inv X pins σ H { s with toks:=t }:=I.un (h':=s.heap) (t':=t) Un.refl I.hok
theorem Inv.kept{t':Nat}(I:Inv X pins σ H s)(k:∀ b u,s.heap.get? b=some u->h'.get? b=some u):Inv X pins σ H { s with heap:=h',toks:=t' }:=I.un (Un.kept k) (I.hok.kept k)
theorem Inv.laid{a:Addr}{o:HO}{t':Nat}(I:Inv X pins σ H s)(k:∀ b u,s.heap.get? b=some u->h'.get? b=some u)(hp:s.heap.objs.size<=a)(new:ObjOk X.prog X.w (upd H a o) h' a o) :
  Inv X pins σ (upd H a o) { s with heap:=h',toks:=t' }:=I.un (Un.laid k hp (I.hok.fresh hp)) (I.hok.laid k hp new)
theorem Inv.write{x e:Addr}{o:HO}{t':Nat}(I:Inv X pins σ H s)(mu:Mut (H x))(he:e=x\/H e=some (.own x))(k:∀ b u,b≠e->s.heap.get? b=some u->h'.get? b=some u)(heo:∃ u,h'.get? e=some u)
  (new:ObjOk X.prog X.w (upd H x o) h' x o):Inv X pins σ (upd H x o) { s with heap:=h',toks:=t' }:=I.un (Un.write mu he k heo) (I.hok.write mu he k heo new)
theorem Inv.pins_of{pins':List (Addr×Obj)}(I:Inv X pins σ H s)(h:∀ p∈pins',s.heap.get? p.1=some p.2/\H p.1=none/\p.1≠X.env.locals/\p.1∉X.fs/\∀ v,p.2.data≠.cell v):Inv X pins' σ H s :=
 ⟨I.ok,I.os,I.bare,I.base,I.loc,I.cell,I.free,I.freeC,fun p hp=>(Aw.mp hp).elim (fun z=>I.pin p (Co _ z)) (h p),I.hok,I.len⟩
theorem zCN{N:List Str}(hN:N.Nodup){i j:Nat}{x:Str}(a:N[i]?=some x)(b:N[j]?=some x):i=j:=by
 obtain⟨h1,e1⟩:=Ao.mp a
 obtain⟨h2,e2⟩:=Ao.mp b
 exact (List.getElem_inj hN).mp (e1.trans e2.symm)
theorem zDM{M:GM}{A:A5}{E:AB->AH->Prop}{i:Nat}{x:Str}{v:V}{u:AB}{Q:Unit->AH->Prop}(I:Inv X pins σ H s)(hN:X.N.Nodup)(hi:X.N[i]?=some x)(hx:Loc X.env.scope x)(r:RelV v u)
  (h:∀ s',Inv X pins (σ.set i (some v)) H s'->(∃ a,Dd a s.heap s'.heap/\(a=X.env.locals\/X.env.cells.lookup x=some a))->Q () s') (hf:X.fn x=true\/X.env.scope.names.lookup x=some .local:=by first | exact .inl rfl | exact .inr rfl | assumption):AZ M A (storeName X.env x u) Q E s:=by
 obtain⟨m,hn,hl⟩:=id I.loc
 have hcls:(X.env.scope.kind == .class || (X.env.scope.kind == .module && X.env.locals != X.env.globals))=false:=by rw[I.ok.kind]; rfl
 have hiσ:i < σ.length:=by rw[I.len]; exact (Ao.mp hi).1
 have cne:=I.cne
 have tracked:∀ {a:Addr} {h':Heap},(∃ o,s.heap.get? a=some o/\H a=none)->Dd a s.heap h'->HOk X.prog X.w H h':=fun {a h'} ha hs b ob e=>by
  obtain⟨_,_,hfree⟩:=ha
  refine (I.hok b ob e).stay (fun c w' hc q=>(hs.2 c ?_).trans q) (fun _ q=>q) fun _ _ q=>q
  rintro rfl
  rcases hc with rfl | hc
  ·rw[hfree]at e; cases e
  ·rw[hfree]at hc; cases hc
 rcases hx with hk | hk
 ·refine wpAny_storeName_local hk hn (fun h' hn' hs=>?_) hcls
  obtain⟨oL,_,_,hoL,_⟩:=id hn
  refine h _ ⟨I.ok,I.os,I.bare,⟨fun b o e n hb hx=>?_,fun b o e n hb hx=>?_,I.base.free,fun b o e hx=>?_,I.base.tups,I.base.frzs,I.base.tbls⟩,⟨_,hn',fun j y v' e1 e2 e3=>?_⟩,fun y c e=>?_,I.free,I.freeC,fun p hp=>?_,tracked ⟨oL,hoL,I.free⟩ hs,by simpa using I.len⟩ ⟨_,hs,.inl rfl⟩
  ·exact (hs.2 b (BJ (AY (Aa e) I.ok.above))).trans (I.base.keep b o e n hb hx)
  ·obtain⟨sl,e1⟩:=I.base.slot b o e n hb hx
   exact⟨sl,(hs.2 b (BJ (AY (Aa e) I.ok.above))).trans e1⟩
  ·obtain⟨o',e1⟩:=I.base.there b o e hx
   exact⟨o',(hs.2 b (BJ (AY (Aa e) I.ok.above))).trans e1⟩
  ·by_cases hj:j=i
   ·subst hj
    rw[hi]at e1; cases e1
    rw[Aq hiσ]at e2
    cases e2
    exact⟨u,r,.inl ⟨hk,by simp⟩⟩
   ·rw[AS (Av hj)]at e2
    obtain⟨u',r',q⟩:=hl j y v' e1 e2 e3
    refine⟨u',r',?_⟩
    rcases q with ⟨k,e⟩ | ⟨k,c,e,z⟩
    ·refine .inl ⟨k,?_⟩
     have:y≠x:=fun e=>hj (zCN hN e1 (e ▸ hi))
     simp[this,e]
    ·exact .inr ⟨k,c,e,z.sameBut hs (cne y c e)⟩
  ·obtain⟨w',z⟩:=I.cell y c e
   exact⟨w',z.sameBut hs (cne y c e)⟩
  ·obtain⟨e,n,ne,nf,d⟩:=I.pin p hp
   exact⟨(hs.2 p.1 ne).trans e,n,ne,nf,d⟩
 ·have hfn:X.fn x=true:=by
   rcases hf with z | z
   ·exact z
   ·rw[z]at hk; cases hk
  obtain⟨c,hc⟩:=I.ok.has x (.inl hk)
  obtain⟨w',z⟩:=I.cell x c hc
  refine wpAny_storeName_cell I.ok.kind hk hc z (fun h' hc' hs=>?_)
  obtain⟨oc,hoc,hocd⟩:=id z
  refine h { s with heap:=h' } ⟨I.ok,I.os,I.bare,⟨fun b o e n hb hx=>?_,fun b o e n hb hx=>?_,I.base.free,fun b o e hx=>?_,I.base.tups,I.base.frzs,I.base.tbls⟩,⟨m,hn.sameBut hs (Av (cne x c hc)),fun j y v' e1 e2 e3=>?_⟩,fun y c' e=>?_,I.free,I.freeC,fun p hp=>?_,tracked ⟨oc,hoc,I.freeC x c hc⟩ hs,by simpa using I.len⟩ ⟨c,hs,.inr hc⟩
  ·exact (hs.2 b (BJ (AY (Aa e) (I.ok.cab x c hfn hc)))).trans (I.base.keep b o e n hb hx)
  ·obtain⟨sl,e1⟩:=I.base.slot b o e n hb hx
   exact⟨sl,(hs.2 b (BJ (AY (Aa e) (I.ok.cab x c hfn hc)))).trans e1⟩
  ·obtain⟨o',e1⟩:=I.base.there b o e hx
   exact⟨o',(hs.2 b (BJ (AY (Aa e) (I.ok.cab x c hfn hc)))).trans e1⟩
  ·by_cases hj:j=i
   ·subst hj
    rw[hi]at e1; cases e1
    rw[Aq hiσ]at e2
    cases e2
    exact⟨u,r,.inr ⟨.inl hk,c,hc,hc'⟩⟩
   ·rw[AS (Av hj)]at e2
    obtain⟨u',r',q⟩:=hl j y v' e1 e2 e3
    refine⟨u',r',?_⟩
    rcases q with q | ⟨k,c',e,z'⟩
    ·exact .inl q
    ·refine .inr ⟨k,c',e,z'.sameBut hs ?_⟩
     rintro rfl
     exact hj (zCN hN e1 (I.ok.inj _ _ _ e hc ▸ hi))
  ·by_cases hcc:c'=c
   ·subst hcc; exact⟨_,hc'⟩
   ·obtain⟨w2,z2⟩:=I.cell y c' e
    exact⟨w2,z2.sameBut hs hcc⟩
  ·obtain⟨e,n,ne,nf,d⟩:=I.pin p hp
   refine⟨(hs.2 p.1 ?_).trans e,n,ne,nf,d⟩
   intro q
   rw[q,hoc]at e
   have q':oc=p.2:=Ap e
   exact d w' (by rw[← q']; exact hocd)
theorem zAv{M:GM}{A:A5}{E:AB->AH->Prop}{i:Nat}{x:Str}{v:V}{u:AB}{Q:Unit->AH->Prop}(I:Inv X pins σ H s)(hN:X.N.Nodup)(hi:X.N[i]?=some x)(hx:Loc X.env.scope x)(r:RelV v u)
  (h:∀ s',Inv X pins (σ.set i (some v)) H s'->Q () s') (hf:X.fn x=true\/X.env.scope.names.lookup x=some .local:=by first | exact .inl rfl | exact .inr rfl | assumption):AZ M A (storeName X.env x u) Q E s :=
 zDM I hN hi hx r (fun s' I' _=>h s' I') hf
theorem Inv.call'{s':AH}{ch:List Addr}(I:Inv X pins σ H s)(ho:s'.os=s.os)(u:Un (frs X.stack) ch H H' s.heap s'.heap)(hok:HOk X.prog X.w H' s'.heap)(hg:Dw s'.gens)
  (hch:∀ b∈ch,(b∈X.ex\/X.s₀.heap.objs.size<=b)/\b≠X.env.locals/\(∀ x c,X.env.cells.lookup x=some c->c≠b)/\∀ p∈X.pn++pins,p.1≠b):Inv X pins σ H' s':=by
 obtain⟨h',g',d',t',o'⟩:=s'
 have e:o'=s.os:=ho
 subst e
 exact I.call (g':=g') (t':=t') (d':=d') u hok hg hch
end
abbrev XK:=AB->Option Addr->Hp->Prop
abbrev St:=List (Option V)
abbrev VK:=V->Hp->Prop
abbrev TE:=St->Hp->VK->Prop
abbrev TT:=St->Hp->(Bool->Hp->Prop)->Prop
abbrev TA:=St->Hp->(List V->Hp->Prop)->Prop
structure Ends where
 nx:St->Hp->Prop
 rt:VK
 bk:St->Hp->Prop:=fun _ _=>False
 ct:St->Hp->Prop:=fun _ _=>False
abbrev TS:=Ends->St->Hp->Prop
def EP(X:Cx)(pins:List (Addr×Obj))(σ:St)(Q:VK)(u:AB)(s':AH):Prop:=∃ v H',Inv X pins σ H' s'/\RelV v u/\Q v H'
def TP(X:Cx)(pins:List (Addr×Obj))(σ:St)(Q:Bool->Hp->Prop)(b:Bool)(s':AH):Prop:=∃ H',Inv X pins σ H' s'/\Q b H'
def AP(X:Cx)(pins:List (Addr×Obj))(σ:St)(Q:List V->Hp->Prop)(us:List AB)(s':AH):Prop:=∃ vs H',Inv X pins σ H' s'/\Vals vs us/\Q vs H'
def SP(X:Cx)(pins:List (Addr×Obj))(D:Ends)(f:Flow)(s':AH):Prop :=
 match f with
 | .next=>∃ σ' H',Inv X pins σ' H' s'/\D.nx σ' H'
 | .brk=>∃ σ' H',Inv X pins σ' H' s'/\D.bk σ' H'
 | .cont=>∃ σ' H',Inv X pins σ' H' s'/\D.ct σ' H'
 | .ret u=>∃ v σ' H',Inv X pins σ' H' s'/\RelV v u/\D.rt v H'
def PE(X:Cx)(e:Expr)(t:TE):Prop :=
 ∀ (pins:List (Addr×Obj)) (s:AH) (σ:St) (H:Hp) (Q:VK),Inv X pins σ H s->t σ H Q->AZ (model X.prog X.w) X.A (eval e X.env) (EP X pins σ Q) X.xe s
def PT(X:Cx)(e:Expr)(t:TT):Prop :=
 ∀ (pins:List (Addr×Obj)) (s:AH) (σ:St) (H:Hp) (Q:Bool->Hp->Prop),Inv X pins σ H s->t σ H Q->AZ (model X.prog X.w) X.A (Gd e X.env (eval e X.env)) (TP X pins σ Q) X.xe s
def PW(X:Cx)(e:Expr)(t:TT):Prop :=
 ∀ (whole:Sem AB) (pins:List (Addr×Obj)) (s:AH) (σ:St) (H:Hp) (Q:Bool->Hp->Prop),Inv X pins σ H s->t σ H Q->AZ (model X.prog X.w) X.A (Gd e X.env whole) (TP X pins σ Q) X.xe s
theorem PW.pt{X:Cx}{e:Expr}{t:TT}(h:PW X e t):PT X e t:=h _
def PA(X:Cx)(es:List Expr)(t:TA):Prop :=
 ∀ (pos:Pos) (pins:List (Addr×Obj)) (s:AH) (σ:St) (H:Hp) (Q:List V->Hp->Prop),Inv X pins σ H s->t σ H Q->AZ (model X.prog X.w) X.A (spliced (Bg pos (AR es X.env))) (AP X pins σ Q) X.xe s
def PS(X:Cx)(st:Stmt)(t:TS):Prop :=
 ∀ (pins:List (Addr×Obj)) (s:AH) (σ:St) (H:Hp) (D:Ends),Inv X pins σ H s->t D σ H->AZ (model X.prog X.w) X.A (exec st X.env) (SP X pins D) X.xe s
def PSs(X:Cx)(st:List Stmt)(t:TS):Prop :=
 ∀ (pins:List (Addr×Obj)) (s:AH) (σ:St) (H:Hp) (D:Ends),Inv X pins σ H s->t D σ H->AZ (model X.prog X.w) X.A (execs st X.env) (SP X pins D) X.xe s
theorem thn{α:Type}{t:Sem α}{Q Q':α->AH->Prop}{M:GM}{A:A5}{E:AB->AH->Prop}{s:AH}(h:AZ M A t Q E s)(hQ:∀ a s,Q a s->Q' a s):AZ M A t Q' E s:=BG h hQ fun _ _ x=>x
section
variable {X:Cx}
theorem bin{a b:Expr}{ta tb:TE}(ha:PE X a ta)(hb:PE X b tb){pins:List (Addr×Obj)}{s:AH}{σ:St}{H:Hp}{R:V->V->Hp->Prop}(I:Inv X pins σ H s)(h:ta σ H fun x H1=>tb σ H1 fun y H2=>R x y H2)
  {α:Type} {Q:α->AH->Prop} {f:AB->AB->Sem α}
  (hf:∀ v u s2 x y H2,Inv X pins σ H2 s2->RelV x v->RelV y u->R x y H2->AZ (model X.prog X.w) X.A (f v u) Q X.xe s2) :
  AZ (model X.prog X.w) X.A (eval a X.env) (fun v s₁=>AZ (model X.prog X.w) X.A (eval b X.env) (fun u s₂=>AZ (model X.prog X.w) X.A (f v u) Q X.xe s₂) X.xe s₁) X.xe s:=by
 refine thn (ha pins s σ H _ I h) fun v s1 ⟨x,H1,I1,r1,q1⟩=>?_
 refine thn (hb pins s1 σ H1 _ I1 q1) fun u s2 ⟨y,H2,I2,r2,q2⟩=>?_
 exact hf v u s2 x y H2 I2 r1 r2 q2
def tVar(i:Nat):TE:=fun σ H Q=>∃ v,σ[i]?=some (some v)/\Q v H
def tC(v:V):TE:=fun _ H Q=>Q v H
theorem pe_var{i:Nat}{x:Str}{pos:Pos}(hN:X.N[i]?=some x)(hv:Vis X.env.scope x)(hd:(x == ("__debug__":Str))=false:=by decide)(hcd:(x == ("__classdict__":Str))=false:=by decide):PE X (.Name x pos) (tVar i):=by
 intro pins s σ H Q I h
 obtain⟨v,e,h⟩:=h
 obtain⟨m,hn,hl⟩:=I.loc
 obtain⟨u,r,l⟩:=hl i x v hN e hv
 have fin:EP X pins σ Q u s:=⟨v,H,I,r,h⟩
 rcases l with ⟨hk,hm⟩ | ⟨hk,c,hc,hcell⟩
 ·exact IA (wpAny_loadName_local I.ok.kind hk hn hm fin) hd
 ·rcases hk with hk | hk
  ·exact IA (wpAny_loadName_cell I.ok.kind hk hc hcell fin) hd
  ·exact IA (wpAny_loadName_free I.ok.kind hk hc hcell fin hcd) hd
theorem pe_int{i j pos}:PE X (.Constant (.int i) j pos) (tC (.int i)):=fun _ _ _ H _ I h=>wpAny_Constant_int ⟨.int i,H,I.tok _,⟨_,rfl⟩,h⟩
theorem zLs{b j pos}:PE X (.Constant (.bool b) j pos) (tC (.bl b)):=fun _ _ _ H _ I h=>Constant_bool ⟨.bl b,H,I,rfl,h⟩
theorem zKy{j pos}:PE X (.Constant .none j pos) (tC .non):=fun _ _ _ H _ I h=>Constant_none ⟨.non,H,I,rfl,h⟩
theorem zHJ{x j pos}:PE X (.Constant (.str x) j pos) (tC (.str x)):=fun _ _ _ H _ I h=>Calls.Constant_str ⟨.str x,H,I.tok _,⟨_,rfl⟩,h⟩
def Gl(X:Cx)(x:Str):Prop:=X.env.kindOf x=some .globalImplicit
theorem zAu{E:AB->AH->Prop}{pins:List (Addr×Obj)}{s:AH}{σ:St}{H:Hp}{x:Str}{u:AB}{pos:Pos}{Q:AB->AH->Prop}(I:Inv X pins σ H s)(hg:Gl X x)(hm:X.mg x=some u)(h:Q u s)
  (hd:(x == ("__debug__":Str))=false:=by decide):AZ (model X.prog X.w) X.A (eval (.Name x pos) X.env) Q E s :=
 Fp I.ok.kind hg (Calls.loadGlobal_global (by rw[I.ok.glob]; exact I.mod.glob.keeps I.bk) hm h) hd
theorem zBQ{E:AB->AH->Prop}{pins:List (Addr×Obj)}{s:AH}{σ:St}{H:Hp}{x:Str}{u:AB}{pos:Pos}{Q:AB->AH->Prop}(I:Inv X pins σ H s)(hg:Gl X x)(hm:X.mg x=none)(hv:Bn x=some u)(h:Q u s)
  (hn:x≠"__name__":=by decide) (hd:(x == ("__debug__":Str))=false:=by decide):AZ (model X.prog X.w) X.A (eval (.Name x pos) X.env) Q E s:=by
 obtain⟨mb,h1,h2⟩:=I.mod.blt
 exact Fp I.ok.kind hg (Calls.loadGlobal_builtin (by rw[I.ok.glob]; exact I.mod.glob.keeps I.bk) hm (by rw[I.ok.blt]; exact h1.keeps I.bk) ((h2 x hn).trans hv) h) hd
theorem zC4{x:Str}{v:V}{u:AB}{pos:Pos}(hg:Gl X x)(hm:X.mg x=some u)(r:RelV v u)(hd:(x == ("__debug__":Str))=false:=by decide):PE X (.Name x pos) (tC v) :=
 fun _ _ _ H _ I h=>zAu I hg hm ⟨v,H,I,r,h⟩ hd
theorem zJr{x:Str}{v:V}{u:AB}{pos:Pos}(hg:Gl X x)(hm:X.mg x=none)(hv:Bn x=some u)(r:RelV v u)(hn:x≠"__name__":=by decide)(hd:(x == ("__debug__":Str))=false:=by decide):PE X (.Name x pos) (tC v) :=
 fun _ _ _ H _ I h=>zBQ I hg hm hv ⟨v,H,I,r,h⟩ hn hd
variable {a b:Expr}{ta tb:TE}{pos:Pos}
variable {tA tB':TT}{rest:List Expr}
def tAnd(t u:TT):TT:=fun σ H Q=>t σ H fun c H1=>if c=true then u σ H1 Q else Q false H1
def tOr(t u:TT):TT:=fun σ H Q=>t σ H fun c H1=>if c=true then Q true H1 else u σ H1 Q
def tNot(t:TT):TT:=fun σ H Q=>t σ H fun c H1=>Q (!c) H1
theorem zJo(ha:PT X a tA):PW X (.BoolOp .And [a] pos) tA:=by
 intro wh pins s σ H Q I h
 refine isTrue_and (thn (ha pins s σ H Q I h) fun c s1 e=>?_)
 cases c with
 | true=>exact isTrue_and_nil e
 | false=>exact e
theorem zDr(ha:PT X a tA):PW X (.BoolOp .Or [a] pos) tA:=by
 intro wh pins s σ H Q I h
 refine isTrue_or (thn (ha pins s σ H Q I h) fun c s1 e=>?_)
 cases c with
 | false=>exact isTrue_or_nil e
 | true=>exact e
theorem zKY(ha:PT X a tA)(hb:PW X (.BoolOp .And (b::rest) pos) tB'):PW X (.BoolOp .And (a::b::rest) pos) (tAnd tA tB'):=by
 intro wh pins s σ H Q I h
 refine isTrue_and (thn (ha pins s σ H _ I h) fun c s1 ⟨H1,I1,q1⟩=>?_)
 cases c with
 | true=>exact hb wh pins s1 σ H1 Q I1 q1
 | false=>exact⟨H1,I1,q1⟩
theorem zFr(ha:PT X a tA)(hb:PW X (.BoolOp .Or (b::rest) pos) tB'):PW X (.BoolOp .Or (a::b::rest) pos) (tOr tA tB'):=by
 intro wh pins s σ H Q I h
 refine isTrue_or (thn (ha pins s σ H _ I h) fun c s1 ⟨H1,I1,q1⟩=>?_)
 cases c with
 | true=>exact⟨H1,I1,q1⟩
 | false=>exact hb wh pins s1 σ H1 Q I1 q1
theorem zKt(ha:PT X a tA):PT X (.UnaryOp .Not a pos) (tNot tA):=by
 intro pins s σ H Q I h
 exact isTrue_not (ha pins s σ H (fun c H1=>Q (!c) H1) I h)
def tAndV(ta tb:TE):TE:=fun σ H Q=>ta σ H fun x H1=>∃ c,x=.bl c/\if c=true then tb σ H1 Q else Q (.bl false) H1
theorem zKj{op}{t:TE}(h:PE X a t):PE X (.BoolOp op [a] pos) t:=fun pins s σ H Q I hw=>BoolOp_one (h pins s σ H Q I hw)
theorem zLR(ha:PE X a ta)(hb:PE X (.BoolOp .And (b::rest) pos) tb):PE X (.BoolOp .And (a::b::rest) pos) (tAndV ta tb):=by
 intro pins s σ H Q I h
 refine BoolOp_and (thn (ha pins s σ H _ I h) fun v s1 ⟨x,H1,I1,r1,q1⟩=>?_)
 obtain⟨c,rfl,q1⟩:=q1
 cases r1
 refine CF ?_
 cases c with
 | true=>exact hb pins s1 σ H1 Q I1 q1
 | false=>exact⟨.bl false,H1,I1,rfl,q1⟩
end
def SqL(K:AJ)(H:Hp)(a:Addr)(xs:List V):Prop :=
 Rd H a (.lst xs) \/
  ∃ (o:Obj) (its:Array AB) (n:Nat),K.lookup a=some o/\o.cls=.type "list"/\o.dict=none/\o.data=.seq its n/\its.size<=AC/\Vals xs its.toList
def SqT(K:AJ)(H:Hp)(a:Addr)(xs:List V):Prop :=
 Rd H a (.tup xs) \/
  ∃ (o:Obj) (its:Array AB) (n:Nat),K.lookup a=some o/\o.cls=.type "tuple"/\o.data=.seq its n/\its.size<=AC/\Vals xs its.toList
def absV:AB->Option V
 | .none=>some .non
 | .bool b=>some (.bl b)
 | .int i _=>some (.int i)
 | .str x _=>some (.str x)
 | .bytes b _=>some (.byt b)
 | .float b _=>some (.flt b)
 | .ref a=>some (.ref a)
 | .type n=>some (.ty n)
 | _=>none
theorem RelV.abs{x:V}{u:AB}(r:RelV x u):absV u=some x:=by
 cases x with
 | non=>cases r; rfl
 | bl _=>cases r; rfl
 | int _=>obtain⟨t,rfl⟩:=r; rfl
 | str _=>obtain⟨t,rfl⟩:=r; rfl
 | byt _=>obtain⟨t,rfl⟩:=r; rfl
 | flt _=>obtain⟨t,rfl⟩:=r; rfl
 | ref _=>cases r; rfl
 | ty _=>cases r; rfl
theorem RelV.inj{x y:V}{u:AB}(r:RelV x u)(q:RelV y u):x=y:=Ap (r.abs.symm.trans q.abs)
theorem Vals.inj:∀ {xs ys:List V} {us:List AB},Vals xs us->Vals ys us->xs=ys
 | _,_,_,.nil,.nil=>rfl
 | _,_,_,.cons r t,.cons r' t'=>by rw[r.inj r',Vals.inj t t']
section
variable {X:Cx}{pins:List (Addr×Obj)}{σ:St}{H:Hp}{s:AH}{a:Addr}{xs ys:List V}
theorem SqL.of{K:AJ}(h:H a=some (.lst xs)):SqL K H a xs:=.inl (.inl h)
theorem SqT.of{K:AJ}(h:H a=some (.tup xs)):SqT K H a xs:=.inl (.inl h)
theorem Inv.list(I:Inv X pins σ H s)(h:SqL X.K H a xs):∃ its:List AB,Vals xs its/\PlainL s.heap a its.toArray/\xs.length<=AC:=by
 rcases h with h | ⟨o,its,n,hk,hc,hd,hs,hz,r⟩
 ·obtain⟨z,its,n,r,e⟩:=h.ok I.hok
  exact⟨its,r,⟨_,n,e,rfl,rfl,rfl⟩,z⟩
 ·refine⟨its.toList,r,⟨o,n,I.kIn a o hk,hc,hd,by simpa using hs⟩,?_⟩
  have e:=r.length
  simp only[AN]at e
  omega
theorem Inv.tuple(I:Inv X pins σ H s)(h:SqT X.K H a xs):∃ its:List AB,Vals xs its/\IM s.heap a its.toArray/\xs.length<=AC:=by
 rcases h with h | ⟨o,its,n,hk,hc,hs,hz,r⟩
 ·obtain⟨z,its,r,p⟩:=h.ok I.hok
  exact⟨its,r,p.tup,z⟩
 ·refine⟨its.toList,r,⟨o,I.kIn a o hk,hc,n,by simpa using hs⟩,?_⟩
  have e:=r.length
  simp only[AN]at e
  omega
theorem Inv.list_inj(I:Inv X pins σ H s)(h:SqL X.K H a xs)(h':SqL X.K H a ys):xs=ys:=by
 obtain⟨its,r,⟨o,n,e,_,_,d⟩,_⟩:=I.list h
 obtain⟨its',r',⟨o',n',e',_,_,d'⟩,_⟩:=I.list h'
 rw[e]at e'; cases e'
 rw[d]at d'
 injection d' with d1 _
 have:its=its':=by simpa using congrArg IB d1
 subst this
 exact r.inj r'
theorem Inv.tuple_inj(I:Inv X pins σ H s)(h:SqT X.K H a xs)(h':SqT X.K H a ys):xs=ys:=by
 obtain⟨its,r,⟨o,e,_,n,d⟩,_⟩:=I.tuple h
 obtain⟨its',r',⟨o',e',_,n',d'⟩,_⟩:=I.tuple h'
 rw[e]at e'; cases e'
 rw[d]at d'
 injection d' with d1 _
 have:its=its':=by simpa using congrArg IB d1
 subst this
 exact r.inj r'
end
abbrev Cx.wish(X:Cx)(E:AB->AH->Prop):Cx:={ X with xe:=E }
abbrev Cx.nox(X:Cx):Cx:=X.wish fun _ _=>False
theorem Cx.Ok.wish{X:Cx}(ok:X.Ok)(E:AB->AH->Prop):(X.wish E).Ok :=
 ⟨ok.mod,ok.kind,ok.glob,ok.blt,ok.above,ok.inj,ok.has,ok.cab,ok.hd,ok.frames,ok.stk,ok.exf,ok.bs,ok.bsz,ok.noex,ok.exfs,ok.funs,ok.frf⟩
theorem Cx.Ok.unwish{X:Cx}{E:AB->AH->Prop}(ok:(X.wish E).Ok):X.Ok :=
 ⟨ok.mod,ok.kind,ok.glob,ok.blt,ok.above,ok.inj,ok.has,ok.cab,ok.hd,ok.frames,ok.stk,ok.exf,ok.bs,ok.bsz,ok.noex,ok.exfs,ok.funs,ok.frf⟩
section
variable {X:Cx}{pins:List (Addr×Obj)}{σ:St}{H:Hp}{s:AH}{E:AB->AH->Prop}
theorem Inv.wish(I:Inv X pins σ H s)(E:AB->AH->Prop):Inv (X.wish E) pins σ H s:=⟨I.ok.wish E,I.os,I.bare,I.base,I.loc,I.cell,I.free,I.freeC,I.pin,I.hok,I.len⟩
theorem Inv.unwish(I:Inv (X.wish E) pins σ H s):Inv X pins σ H s:=⟨I.ok.unwish,I.os,I.bare,I.base,I.loc,I.cell,I.free,I.freeC,I.pin,I.hok,I.len⟩
theorem SP.unwish{D:Ends}{f:Flow}{s':AH}(h:SP (X.wish E) pins D f s'):SP X pins D f s':=by
 cases f with
 | next=>obtain⟨σ',H',I,q⟩:=h; exact⟨σ',H',I.unwish,q⟩
 | brk=>obtain⟨σ',H',I,q⟩:=h; exact⟨σ',H',I.unwish,q⟩
 | cont=>obtain⟨σ',H',I,q⟩:=h; exact⟨σ',H',I.unwish,q⟩
 | ret u=>obtain⟨v,σ',H',I,r,q⟩:=h; exact⟨v,σ',H',I.unwish,r,q⟩
theorem PSs.nox{st:List Stmt}{t:TS}(h:PSs X.nox st t):PSs X st t:=fun pins s σ H D I hw =>
 BG (h pins s σ H D (I.wish _) hw) (fun _ _ q=>q.unwish) fun _ _ z=>BN z
end
section
variable {X:Cx}{st:Stmt}{rest:List Stmt}{t u:TS}{e:Expr}{te:TE}{pos:Pos}
def tNext:TS:=fun D σ H=>D.nx σ H
def tSeq(t u:TS):TS:=fun D σ H=>t { D with nx:=u D } σ H
theorem zBy:PSs X [] tNext:=fun _ _ σ H _ I h=>Dn ⟨σ,H,I,h⟩
theorem zAc(h1:PS X st t)(h2:PSs X rest u):PSs X (st::rest) (tSeq t u):=by
 intro pins s σ H D I h
 refine GB (thn (h1 pins s σ H { D with nx:=u D } I h) fun f s1 q=>?_)
 cases f with
 | next =>
  obtain⟨σ',H',I',q⟩:=q
  exact h2 pins s1 σ' H' D I' q
 | ret v=>exact q
 | brk=>exact q
 | cont=>exact q
theorem zAk(h1:PS X st t):PSs X [st] t:=by
 intro pins s σ H D I h
 refine GB (thn (h1 pins s σ H D I h) fun f s1 q=>?_)
 cases f with
 | next=>exact Dn q
 | ret v=>exact q
 | brk=>exact q
 | cont=>exact q
theorem Inv.quiet{pins:List (Addr×Obj)}{σ:St}{H:Hp}{s:AH}(I:Inv X pins σ H s):interactive X.env=false:=by simp[interactive,I.ok.kind]
def tDrop(te:TE):TS:=fun D σ H=>te σ H fun _ H1=>D.nx σ H1
theorem ps_expr(he:PE X e te)(hs:DG e none pos.line X.env=pure false:=by rfl):PS X (.Expr e pos) (tDrop te):=by
 intro pins s σ H D I h
 exact Jv (thn (he pins s σ H _ I h) fun v s1 ⟨x,H1,I1,r1,q1⟩=>⟨σ,H1,I1,q1⟩) I.quiet hs
def tRet(te:TE):TS:=fun D σ H=>te σ H D.rt
theorem ps_ret(he:PE X e te):PS X (.Return (some e) pos) (tRet te):=by
 intro pins s σ H D I h
 exact wpAny_Return_some (thn (he pins s σ H _ I h) fun v s1 ⟨x,H1,I1,r1,q1⟩=>⟨x,σ,H1,I1,r1,q1⟩)
def tIfS(c:TT)(t u:TS):TS:=fun D σ H=>c σ H fun b H1=>if b=true then t D σ H1 else u D σ H1
theorem zCp{c:Expr}{a b:List Stmt}{tc:TT}(hc:PT X c tc)(ha:PSs X a t)(hb:PSs X b u):PS X (.If c a b pos) (tIfS tc t u):=by
 intro pins s σ H D I h
 refine wpAny_If (thn (hc pins s σ H _ I h) fun d s1 ⟨H1,I1,q1⟩=>?_)
 cases d with
 | true=>exact ha pins s1 σ H1 D I1 q1
 | false=>exact hb pins s1 σ H1 D I1 q1
end
abbrev TG:=V->St->Hp->(St->Hp->Prop)->Prop
abbrev TGs:=List V->St->Hp->(St->Hp->Prop)->Prop
def PG(X:Cx)(target:Expr)(t:TG):Prop :=
 ∀ (pins:List (Addr×Obj)) (s:AH) (σ:St) (H:Hp) (v:V) (u:AB) (Q:St->Hp->Prop),Inv X pins σ H s->RelV v u->t v σ H Q ->
  AZ (model X.prog X.w) X.A (assign target X.env u) (fun _ s'=>∃ σ' H',Inv X pins σ' H' s'/\Q σ' H') X.xe s
def PGs(X:Cx)(ts:List Expr)(t:TGs):Prop :=
 ∀ (pins:List (Addr×Obj)) (s:AH) (σ:St) (H:Hp) (vs:List V) (us:List AB) (Q:St->Hp->Prop),Inv X pins σ H s->Vals vs us->t vs σ H Q ->
  AZ (model X.prog X.w) X.A (G4 ((B4 ts X.env).map (·.2)) us) (fun _ s'=>∃ σ' H',Inv X pins σ' H' s'/\Q σ' H') X.xe s
abbrev TSet:=V->V->V->Hp->(Hp->Prop)->Prop
def PSet(X:Cx)(t:TSet):Prop :=
 ∀ (pins:List (Addr×Obj)) (s:AH) (σ:St) (H:Hp) (o i v:V) (ov iv u:AB) (Q:Hp->Prop),Inv X pins σ H s->RelV o ov->RelV i iv->RelV v u->t o i v H Q ->
  AZ (model X.prog X.w) X.A (KZ ov iv u) (fun _ s'=>∃ H',Inv X pins σ H' s'/\Q H') X.xe s
section
variable {X:Cx}{pos:Pos}
def gName(i:Nat):TG:=fun v σ H Q=>Q (σ.set i (some v)) H
theorem pg_name{i:Nat}{x:Str}(hN:X.N.Nodup)(hi:X.N[i]?=some x)(hx:Loc X.env.scope x)(hf:X.fn x=true\/X.env.scope.names.lookup x=some .local:=by first | exact .inl rfl | exact .inr rfl | assumption):PG X (.Name x pos) (gName i):=by
 intro pins s σ H v u Q I r h
 exact wpAny_assign_Name (zAv I hN hi hx r (fun s' I'=>⟨_,H,I',h⟩) hf)
def gNil:TGs:=fun vs σ H Q=>vs=[]/\Q σ H
def gCons(t:TG)(u:TGs):TGs:=fun vs σ H Q=>∃ v r,vs=v::r/\t v σ H fun σ' H'=>u r σ' H' Q
theorem zJz:PGs X [] gNil:=by
 intro pins s σ H vs us Q I r h
 obtain⟨e,h⟩:=h
 subst e
 cases r
 exact IQ ⟨σ,H,I,h⟩
theorem zIa{e:Expr}{es:List Expr}{t:TG}{u:TGs}(h1:PG X e t)(h2:PGs X es u)
  (hs:(B4 (e::es) X.env).map (·.2)=assign e X.env::(B4 es X.env).map (·.2):=by rfl):PGs X (e::es) (gCons t u):=by
 intro pins s σ H vs us Q I r h
 obtain⟨v,vr,e1,h⟩:=h
 subst e1
 cases r with
 | cons r rr =>
  rw[hs]
  refine FZ (thn (h1 pins s σ H _ _ _ I r h) fun _ s1 ⟨σ1,H1,I1,q1⟩=>?_)
  exact h2 pins s1 σ1 H1 _ _ Q I1 rr q1
def gTup(K:AJ)(n:Nat)(t:TGs):TG:=fun v σ H Q=>∃ a xs,v=.ref a/\SqT K H a xs/\xs.length=n/\t xs σ H Q
theorem zKZ{es:List Expr}{k:Nat}{t:TGs}{n:Nat}(hc:X.calm=true)(h:PGs X es t)
  (hn:(B4 es X.env).length=n:=by rfl) (hst:(B4 es X.env).findIdx? (·.1)=none:=by rfl):PG X (.Tuple es k pos) (gTup X.K n t):=by
 intro pins s σ H v u Q I r hw
 obtain⟨a,xs,e1,hq,hl,hw⟩:=hw
 subst e1
 cases r
 obtain⟨its,rv,ht,hz⟩:=I.tuple hq
 refine assign_Tuple_tuple (I.ok.hd hc) ht (by simp[hn,← hl,rv.length]) hst fun h' hx=>?_
 have I1:Inv X pins σ H { s with heap:=h' }:=I.kept (t':=s.toks) fun b o e=>hx b o (BJ (Aa e)) e
 exact h pins _ σ H xs _ Q I1 (by simpa using rv) hw
def gSub(to ti:TE)(t:TSet):TG:=fun v σ H Q=>to σ H fun o H1=>ti σ H1 fun i H2=>t o i v H2 fun H3=>Q σ H3
theorem zKv{o i:Expr}{to ti:TE}{t:TSet}(ho:PE X o to)(hi:PE X i ti)(hs:PSet X t)
  (ha:∀ v,assign (.Subscript o i pos) X.env v=(do
   let ov ← holding [v] (eval o X.env)
   let iv ← holding [v,ov] (eval i X.env)
   HP pos
   holding [v,ov,iv] (KZ ov iv v)
   release [v,ov,iv] []):=by intro _; rfl):PG X (.Subscript o i pos) (gSub to ti t):=by
 intro pins s σ H v u Q I r h
 rw[ha]
 refine AA (CH (thn (ho pins s σ H _ I h) fun ov s1 ⟨x,H1,I1,r1,q1⟩=>?_))
 refine AA (CH (thn (hi pins s1 σ H1 _ I1 q1) fun iv s2 ⟨y,H2,I2,r2,q2⟩=>?_))
 refine AA (De (AA (CH (thn (hs pins s2 σ H2 x y v ov iv u _ I2 r1 r2 r q2) fun _ s3 ⟨H3,I3,q3⟩=>?_))))
 exact wpAny_release ⟨σ,H3,I3,q3⟩
def tAsg(te:TE)(g:TG):TS:=fun D σ H=>te σ H fun x H1=>g x σ H1 D.nx
theorem zLQ{tg e:Expr}{te:TE}{g:TG}(he:PE X e te)(hg:PG X tg g)(hs:FR [tg] e pos.line X.env=pure false:=by rfl)(hw:FS [tg] e X.env=pure none:=by rfl)
  (h1:(B4 [tg] X.env).map (·.2)=[assign tg X.env]:=by rfl):PS X (.Assign [tg] e pos) (tAsg te g):=by
 intro pins s σ H D I h
 refine wpAny_Assign_stores (thn (he pins s σ H _ I h) fun v s1 ⟨x,H1,I1,r1,q1⟩=>?_) hs hw
 rw[h1]
 exact thn (hg pins s1 σ H1 x v _ I1 r1 q1) fun _ s2 q=>q
theorem ps_set{i:Nat}{x:Str}{e:Expr}{te:TE}{pos':Pos}(hN:X.N.Nodup)(hi:X.N[i]?=some x)(hx:Loc X.env.scope x)(he:PE X e te)(hs:DG e (some (.Name x pos')) pos.line X.env=pure false:=by rfl)(hf:X.fn x=true\/X.env.scope.names.lookup x=some .local:=by first | exact .inl rfl | exact .inr rfl | assumption) :
  PS X (.Assign [.Name x pos'] e pos) (tAsg te (gName i)):=by
 intro pins s σ H D I h
 refine IR (thn (he pins s σ H _ I h) fun v s1 ⟨y,H1,I1,r1,q1⟩=>?_) hs
 exact zAv I1 hN hi hx r1 (fun s2 I2=>⟨_,H1,I2,q1⟩) hf
def tPar(i j:Nat)(ta:TA):TS:=fun D σ H=>ta σ H fun vs H1=>∃ v w,vs=[v,w]/\D.nx ((σ.set i (some v)).set j (some w)) H1
theorem zKl{i j:Nat}{x y:Str}{a b:Expr}{ta:TA}{px py pt:Pos}{kt k2 pt2}(hc:X.calm=true)(hN:X.N.Nodup)(hi:X.N[i]?=some x)(hj:X.N[j]?=some y)(hij:i≠j)
  (hx:X.env.scope.names.lookup x=some .local) (hy:X.env.scope.names.lookup y=some .local) (ha:PA X [a,b] ta)
  (hw:FS [.Tuple [.Name x px,.Name y py] kt pt] (.Tuple [a,b] k2 pt2) X.env=pure (some [x,y]))
  (hs:FR [.Tuple [.Name x px,.Name y py] kt pt] (.Tuple [a,b] k2 pt2) pos.line X.env=pure false:=by rfl) :
  PS X (.Assign [.Tuple [.Name x px,.Name y py] kt pt] (.Tuple [a,b] k2 pt2) pos) (tPar i j ta):=by
 intro pins s σ H D I h
 rw[exec_Assign_arm]
 refine AA (De ?_)
 rw[hs]
 refine AA (AO ?_)
 rw[if_neg (by decide)]
 refine AA (Tuple_ (thn (ha _ pins s σ H _ I h) fun us s1 ⟨vs,H1,I1,r1,q1⟩=>?_))
 obtain⟨v,w,e1,q1⟩:=q1
 subst e1
 obtain⟨u1,u2,rfl,rv,rw'⟩:∃ u1 u2,us=[u1,u2]/\RelV v u1/\RelV w u2:=by
  cases r1 with
  | cons p q =>
   cases q with
   | cons p' q' =>
    cases q'
    exact⟨_,_,rfl,p,p'⟩
 refine Bh ?_ (by show 2<=AC; decide)
 have I2:Inv X pins σ H1 { s1 with heap:=s1.heap.push { cls:=.type "tuple",data:=.seq [u1,u2].toArray } }:=I1.kept (t':=s1.toks) fun b o e=>AI _ e
 rw[hw]
 refine AA (AO ?_)
 show AZ (model X.prog X.w) X.A (do rule "assign.swapped-stores"; let items ← unpackItems (.ref s1.heap.objs.size) 2 none; G4 [fun v=>Ge X.env y v,fun v=>Ge X.env x v] items.reverse; pure Jw) _ _ _
 refine AA (Fc (AA (unpackItems_tuple (items:=#[u1,u2]) (I.ok.hd hc) (IsTup.new s1.heap _) fun h' hx'=>?_)))
 have I3:=I2.kept (h':=h') (t':=s1.toks) fun b o e=>hx' b o (BJ (Aa e)) e
 show AZ _ _ (G4 [fun v=>Ge X.env y v,fun v=>Ge X.env x v] [u2,u1] >>= fun _=>pure Jw) _ _ _
 refine AA (FZ (Gf (zAv I3 hN hj (.inl hy) rw' (fun s2 I4=>?_) (.inr hy))))
 refine FZ (Gf (zAv I4 hN hi (.inl hx) rv (fun s3 I5=>IQ (AO ?_)) (.inr hx)))
 rw[List.set_comm _ _ (Av hij)]at I5
 exact⟨_,H1,I5,q1⟩
end
structure It where
 go:Nat->Hp->Prop
 yld:Nat->Hp->V->Hp->Prop
 stop:Nat->Hp->Prop
def FpOk(X:Cx)(pins:List (Addr×Obj))(H:Hp)(b:Addr):Prop :=
 H b=none/\b≠X.env.locals/\b∉X.fs/\(b∈X.ex\/X.s₀.heap.objs.size<=b)/\(∀ x c,X.env.cells.lookup x=some c->c≠b)/\∀ p∈X.pn++pins,p.1≠b
theorem Inv.fpOk{X:Cx}{pins:List (Addr×Obj)}{σ:St}{H H':Hp}{s:AH}{b:Addr}(I:Inv X pins σ H s)(hb:s.heap.objs.size<=b)(hn:H' b=none):FpOk X pins H' b:=by
 refine⟨hn,C9 (AY I.lt hb),I.nofs hb,.inr (As I.sz hb),fun x c e z=>?_,fun p hp z=>?_⟩
 ·obtain⟨v,q⟩:=I.cell x c e
  exact absurd (AY q.lt (by rw[z]; exact hb)) (BM _)
 ·exact absurd (AY (Aa (I.pin p hp).1) (by rw[z]; exact hb)) (BM _)
structure Turn(P:Ac)(w:Al)(K:AJ)(tg:Expr)(J:It)(fp:List Addr)(it:Addr)(tn:Nat->Heap->Prop):Prop where
 mem:it∈fp
 obj:∀ i h,tn i h->∀ b∈fp,∃ o,h.get? b=some o/\∀ v,o.data≠.cell v
 keep:∀ i h h',tn i h->(∀ b∈fp,∀ o,h.get? b=some o->h'.get? b=some o)->tn i h'
 item:∀ (X:Cx),X.prog=P->X.w=w->X.K=K->X.calm=true->∀ (i:Nat) (pins:List (Addr×Obj)) (s:AH) (σ:St) (H:Hp) (E:AB->AH->Prop),Inv X pins σ H s->(∀ b∈fp,FpOk X pins H b)->tn i s.heap->J.go i H ->
  AZ (model P w) X.A (IC (.ref it)) (fun r s1=>∃ u,r=some u /\
   AZ (model P w) X.A (Ex tg (.ref it) u) (fun _ s2=>∃ x H',Inv X pins σ H' s2/\RelV x u/\J.yld i H x H'/\tn (i+1) s2.heap/\∀ b∈fp,H' b=none) E s1) E s
 done:∀ (X:Cx),X.prog=P->X.w=w->X.K=K->X.calm=true->∀ (i:Nat) (pins:List (Addr×Obj)) (s:AH) (σ:St) (H:Hp) (E:AB->AH->Prop),Inv X pins σ H s->(∀ b∈fp,FpOk X pins H b)->tn i s.heap->J.stop i H ->
  AZ (model P w) X.A (IC (.ref it)) (fun r s1=>r=none/\Inv X pins σ H s1) E s
 self:∀ (A:A5) (i:Nat) (s:AH) (Q:AB->AH->Prop) (E:AB->AH->Prop),tn i s.heap->Q (.ref it) s->AZ (model P w) A (Jx (.ref it)) Q E s
abbrev TI:=St->Hp->(It->Hp->Prop)->Prop
def PIE(X:Cx)(pins:List (Addr×Obj))(σ:St)(tg:Expr)(R:It->Hp->Prop)(itv:AB)(s2:AH):Prop :=
 ∃ (it:Addr) (fp:List Addr) (tn:Nat->Heap->Prop) (J:It) (H':Hp),itv=.ref it/\Inv X pins σ H' s2/\Turn X.prog X.w X.K tg J fp it tn/\tn 0 s2.heap/\(∀ b∈fp,FpOk X pins H' b)/\R J H'
def PI(X:Cx)(tg iter:Expr)(wi:TI):Prop :=
 ∀ (pins:List (Addr×Obj)) (s:AH) (σ:St) (H:Hp) (R:It->Hp->Prop),Inv X pins σ H s->wi σ H R ->
  AZ (model X.prog X.w) X.A (eval iter X.env) (fun v s1=>AZ (model X.prog X.w) X.A (Jx v) (PIE X pins σ tg R) X.xe s1) X.xe s
theorem zDm{M:GM}{A:A5}{E:AB->AH->Prop}{s:AH}{tg:Expr}{it:Addr}{u:AB}{o:Obj}{n:String}{vs:Array AB}{Q:Unit->AH->Prop}(ho:s.heap.get? it=some o)(hc:o.cls=.type n)(hd:o.data=.fields vs)
  (hn:["enumerate","zip","dict_itemiterator","dict_reverseitemiterator","odict_iterator","itertools.zip_longest","itertools.pairwise"].contains n=false) (hQ:Q () s):AZ M A (Ex tg (.ref it) u) Q E s:=by
 unfold Ex
 cases tg <;> first
  | exact AO hQ
  | (cases u <;> first
    | exact AO hQ
    | (
      refine AA (wpAny_load ho ?_)
      rw[hc,hd]
      show AZ M A (if (["enumerate","zip","dict_itemiterator","dict_reverseitemiterator","odict_iterator","itertools.zip_longest","itertools.pairwise"].contains n && vs[0]? == some (ES _))=true then _ else _) Q E s
      rw[if_neg (by intro h; rw[hn,Bool.false_and]at h; cases h)]
      exact AO hQ))
def Itl(K:AJ)(a:Addr):It :=
 ⟨fun i H=>∃ xs x,SqL K H a xs/\xs[i]?=some x,fun i H x H'=>H'=H/\∀ xs,SqL K H a xs->xs[i]?=some x,fun i H=>∃ xs,SqL K H a xs/\xs.length<=i⟩
def Itt(K:AJ)(a:Addr):It :=
 ⟨fun i H=>∃ xs x,SqT K H a xs/\xs[i]?=some x,fun i H x H'=>H'=H/\∀ xs,SqT K H a xs->xs[i]?=some x,fun i H=>∃ xs,SqT K H a xs/\xs.length<=i⟩
def Itr(lo:Int)(n:Nat):It:=⟨fun i _=>i < n,fun i H x H'=>H'=H/\x=.int (lo+i),fun i _=>n<=i⟩
theorem zHo{P:Ac}{w:Al}{K:AJ}{tg:Expr}(a it:Addr):Turn P w K tg (Itl K a) [it] it (fun i h=>h.IsListIter it a i) where
 mem:=by simp
 obj:=fun i h st b hb=>by
  have e:b=it:=by simpa using hb
  subst e
  obtain⟨o,e,c,d⟩:=st
  exact⟨o,e,fun v z=>by rw[d]at z; cases z⟩
 keep:=fun i h h' st k=>st.at fun o e=>k it (by simp) o e
 item:=by
  intro X hP hw hK hc i pins s σ H E I hf st hg
  subst hP hw hK
  obtain⟨xs,x,hq,hx⟩:=hg
  obtain⟨its,rv,p,hz⟩:=I.list hq
  obtain⟨u,hu,ru⟩:=rv.get hx
  obtain⟨f0,f1,f2,f3,f4,f5⟩:=hf it (by simp)
  refine wpAny_pyNext_list_item st p.isList (x:=u) (by simpa using hu) fun h' st' sb=>?_
  have I1:Inv X pins σ H { s with heap:=h' }:=I.turned (t':=s.toks) (fun b o hb e=>(sb.2 b hb).trans e) f0 f1 f3 f4 f5
  obtain⟨o,e,c,d⟩:=id st'
  exact⟨u,rfl,zDm (s:={ s with heap:=h' }) e c d (by decide) ⟨x,H,I1,ru,⟨rfl,fun ys hy=>by rw[I.list_inj hy hq]; exact hx⟩,st',fun b hb=>(hf b hb).1⟩⟩
 done:=by
  intro X hP hw hK hc i pins s σ H E I hf st hg
  subst hP hw hK
  obtain⟨xs,hq,hx⟩:=hg
  obtain⟨its,rv,p,hz⟩:=I.list hq
  obtain⟨f0,f1,f2,f3,f4,f5⟩:=hf it (by simp)
  have hl:=rv.length
  exact wpAny_pyNext_list_end (I.ok.hd hc) st p.isList (by simp; omega) fun h' eb=>⟨rfl,I.turned (t':=s.toks) (fun b o hb e=>eb b o hb e) f0 f1 f3 f4 f5⟩
 self:=fun _ _ _ _ _ st h=>wpAny_pyIter_listiter st h
theorem zFs{P:Ac}{w:Al}{K:AJ}{tg:Expr}(a it:Addr):Turn P w K tg (Itt K a) [it] it (fun i h=>h.IsTupleIter it a i) where
 mem:=by simp
 obj:=fun i h st b hb=>by
  have e:b=it:=by simpa using hb
  subst e
  obtain⟨o,e,c,d⟩:=st
  exact⟨o,e,fun v z=>by rw[d]at z; cases z⟩
 keep:=fun i h h' st k=>st.at fun o e=>k it (by simp) o e
 item:=by
  intro X hP hw hK hc i pins s σ H E I hf st hg
  subst hP hw hK
  obtain⟨xs,x,hq,hx⟩:=hg
  obtain⟨its,rv,p,hz⟩:=I.tuple hq
  obtain⟨u,hu,ru⟩:=rv.get hx
  obtain⟨f0,f1,f2,f3,f4,f5⟩:=hf it (by simp)
  refine wpAny_pyNext_tuple_item st (show s.heap.IsTuple a its.toArray from p) (x:=u) (by simpa using hu) fun h' st' sb=>?_
  have I1:Inv X pins σ H { s with heap:=h' }:=I.turned (t':=s.toks) (fun b o hb e=>(sb.2 b hb).trans e) f0 f1 f3 f4 f5
  obtain⟨o,e,c,d⟩:=id st'
  exact⟨u,rfl,zDm (s:={ s with heap:=h' }) e c d (by decide) ⟨x,H,I1,ru,⟨rfl,fun ys hy=>by rw[I.tuple_inj hy hq]; exact hx⟩,st',fun b hb=>(hf b hb).1⟩⟩
 done:=by
  intro X hP hw hK hc i pins s σ H E I hf st hg
  subst hP hw hK
  obtain⟨xs,hq,hx⟩:=hg
  obtain⟨its,rv,p,hz⟩:=I.tuple hq
  obtain⟨f0,f1,f2,f3,f4,f5⟩:=hf it (by simp)
  have hl:=rv.length
  exact wpAny_pyNext_tuple_end (I.ok.hd hc) st (show s.heap.IsTuple a its.toArray from p) (by simp; omega) fun h' eb=>⟨rfl,I.turned (t':=s.toks) (fun b o hb e=>eb b o hb e) f0 f1 f3 f4 f5⟩
 self:=fun _ _ _ _ _ st h=>wpAny_pyIter_tupleiter st h
theorem zFm{P:Ac}{w:Al}{K:AJ}{tg:Expr}(it:Addr)(lo:Int)(n:Nat):Turn P w K tg (Itr lo n) [it] it (fun i h=>IsRangeIter h it (lo+(i:Nat) * 1) ((n:Int) - (i:Nat)) 1) where
 mem:=by simp
 obj:=fun i h st b hb=>by
  have e:b=it:=by simpa using hb
  subst e
  exact⟨_,st,fun v z=>by
   have z':Gv _=Jy v:=z
   cases z'⟩
 keep:=fun i h h' st k=>k it (by simp) _ st
 item:=by
  intro X hP hw hK hc i pins s σ H E I hf st hg
  subst hP hw hK
  obtain⟨f0,f1,f2,f3,f4,f5⟩:=hf it (by simp)
  have W:=Walks.range (prog:=X.prog) (w:=X.w) (I.ok.hd hc) it lo 1 n
  refine W.item i s _ _ hg st fun v h' tk hv st' kk=>?_
  obtain⟨t,rfl⟩:=hv
  have I1:Inv X pins σ H { s with heap:=h',toks:=tk }:=I.turned (fun b o hb e=>kk b o (by simpa using hb) e) f0 f1 f3 f4 f5
  refine⟨_,rfl,zDm (s:={ s with heap:=h',toks:=tk }) (n:="range_iterator") st' rfl rfl (by decide) ⟨.int (lo+i),H,I1,⟨t,?_⟩,⟨rfl,rfl⟩,st',fun b hb=>(hf b hb).1⟩⟩
  rw[Int.mul_one]
 done:=by
  intro X hP hw hK hc i pins s σ H E I hf st hg
  subst hP hw hK
  obtain⟨f0,f1,f2,f3,f4,f5⟩:=hf it (by simp)
  exact wpAny_pyNext_range_end (I.ok.hd hc) st (by have:n<=i:=hg; omega) fun h' eb=>⟨rfl,I.turned (t':=s.toks) (fun b o hb e=>eb b o hb e) f0 f1 f3 f4 f5⟩
 self:=fun _ _ _ _ _ st h=>wpAny_pyIter_rangeiter st h
section
variable {X:Cx}{tg:Expr}
theorem zEN{pins:List (Addr×Obj)}{σ:St}{H:Hp}{s:AH}{R:It->Hp->Prop}{E:AB->AH->Prop}{lo hi:Int}{t u v:Tok}{tk:Nat}(I:Inv X pins σ H s)(h1:-(2 ^ 62)<=lo)(h2:lo < 2 ^ 62)(h3:-(2 ^ 62)<=hi)(h4:hi < 2 ^ 62)
  (q:R (Itr lo (hi - lo).toNat) H):AZ (model X.prog X.w) X.A (Jx (.ref s.heap.objs.size)) (PIE X pins σ tg R) E { s with heap:=s.heap.push { cls:=.type "range",data:=.fields #[.int lo t,.int hi u,.int 1 v] },toks:=tk }:=by
 refine wpAny_pyIter_range (IsRange.new ..) (small_one h1 h2 h3 h4) ?_
 have I1:Inv X pins σ H { s with heap:=s.heap.push { cls:=.type "range",data:=.fields #[.int lo t,.int hi u,.int 1 v] },toks:=tk }:=I.kept fun b o e=>AI _ e
 refine⟨(s.heap.push { cls:=.type "range",data:=.fields #[.int lo t,.int hi u,.int 1 v] }).objs.size,[(s.heap.push { cls:=.type "range",data:=.fields #[.int lo t,.int hi u,.int 1 v] }).objs.size],_,_,H,rfl,
  I1.kept (t':=tk) fun b o e=>AI _ e,zFm _ lo (hi - lo).toNat,?_,fun b hb=>?_,q⟩
 ·have e1:lo+((0:Nat):Int) * 1=lo:=by simp
  have e2:(((hi - lo).toNat:Nat):Int) - ((0:Nat):Int)=Ik lo hi 1:=by rw[rangeSize_one]; split <;> omega
  show IsRangeIter _ _ (lo+((0:Nat):Int) * 1) ((((hi - lo).toNat:Nat):Int) - ((0:Nat):Int)) 1
  rw[e1,e2]
  exact Ad _ rfl
 ·have e:b=(s.heap.push { cls:=.type "range",data:=.fields #[.int lo t,.int hi u,.int 1 v] }).objs.size:=by simpa using hb
  subst e
  exact I1.fpOk (AL _) (I1.hok.fresh (AL _))
def iRng1(ta:TA):TI:=fun σ H R=>ta σ H fun vs H1=>∃ j:Int,vs=[.int j]/\-(2 ^ 62)<=j/\j < 2 ^ 62/\R (Itr 0 j.toNat) H1
def iRng2(ta:TA):TI:=fun σ H R=>ta σ H fun vs H1=>∃ i j:Int,vs=[.int i,.int j]/\(-(2 ^ 62)<=i/\i < 2 ^ 62/\-(2 ^ 62)<=j/\j < 2 ^ 62)/\R (Itr i (j - i).toNat) H1
theorem zGu{a:Expr}{ta:TA}{p pos:Pos}(hg:Gl X "range")(hm:X.mg "range"=none)(ha:PA X [a] ta)(hs:AR [a] X.env=[(false,eval a X.env)]:=by rfl):PI X tg (.Call (.Name "range" p) [a] [] pos) (iRng1 ta):=by
 intro pins s σ H R I h
 refine Call_ (zBQ I hg hm boot_range (CJ (thn (ha pos pins s σ H _ I h) fun us s1 ⟨vs,H1,I1,r1,q1⟩=>?_) hs rfl))
 obtain⟨j,e,q1,q2,q⟩:=q1
 subst e
 cases r1 with
 | cons r rr =>
  cases rr
  obtain⟨t,rfl⟩:=r
  exact call_range_1 (zEN I1 (by omega) (by omega) q1 q2 (by simpa using q))
theorem zGd{a b:Expr}{ta:TA}{p pos:Pos}(hg:Gl X "range")(hm:X.mg "range"=none)(ha:PA X [a,b] ta)(hs:AR [a,b] X.env=[(false,eval a X.env),(false,eval b X.env)]:=by rfl)(hs2:AR [b] X.env=[(false,eval b X.env)]:=by rfl) :
  PI X tg (.Call (.Name "range" p) [a,b] [] pos) (iRng2 ta):=by
 intro pins s σ H R I h
 refine Call_ (zBQ I hg hm boot_range (CJ (thn (ha pos pins s σ H _ I h) fun us s1 ⟨vs,H1,I1,r1,q1⟩=>?_) (by rw[hs,hs2]) (by rw[hs2]; rfl)))
 obtain⟨i,j,e,⟨q1,q2,q3,q4⟩,q⟩:=q1
 subst e
 cases r1 with
 | cons r rr =>
  cases rr with
  | cons r' rr =>
   cases rr
   obtain⟨t,rfl⟩:=r
   obtain⟨t',rfl⟩:=r'
   exact call_range_2 (zEN I1 q1 q2 q3 q4 q)
def tFor(wi:TI)(g:TG)(tb:TS):TS:=fun D σ H=>wi σ H fun J H1=>∃ W:Nat->Nat->St->Hp->Prop,(∃ m,W 0 m σ H1)/\∀ i m σ H,W i m σ H ->
 (J.stop i H/\D.nx σ H)\/(J.go i H/\∃ N:St->Hp->Prop,(∀ σ' H',N σ' H'->∃ m',m' < m/\W (i+1) m' σ' H')/\∀ x H',J.yld i H x H'->g x σ H' fun σ2 H2=>tb { D with nx:=N,ct:=N,bk:=D.nx } σ2 H2)
def pinsAt(fp:List Addr)(h:Heap):List (Addr×Obj):=fp.filterMap fun b=>(h.get? b).map fun o=>(b,o)
theorem zBV{fp:List Addr}{h:Heap}{b:Addr}{o:Obj}(hb:b∈fp)(e:h.get? b=some o):(b,o)∈pinsAt fp h:=HB.mpr ⟨b,hb,by rw[e]; rfl⟩
theorem zHb{fp:List Addr}{h:Heap}{p:Addr×Obj}(hp:p∈pinsAt fp h):p.1∈fp/\h.get? p.1=some p.2:=by
 obtain⟨b,hb,e⟩:=HB.mp hp
 cases q:h.get? b with
 | none=>rw[q]at e; cases e
 | some o =>
  rw[q]at e
  have e':(b,o)=p:=Ap e
  subst e'
  exact⟨hb,q⟩
theorem Inv.pinned{pins:List (Addr×Obj)}{σ:St}{H:Hp}{s:AH}{fp:List Addr}(I:Inv X pins σ H s)(hf:∀ b∈fp,FpOk X pins H b)(ho:∀ b∈fp,∃ o,s.heap.get? b=some o/\∀ v,o.data≠.cell v):Inv X (pins++pinsAt fp s.heap) σ H s :=
 I.pins_of fun p hp=>(Aw.mp hp).elim (fun z=>I.pin p (Ag _ z)) fun z=>by
  obtain⟨hb,e⟩:=zHb z
  obtain⟨f0,f1,f2,_⟩:=hf p.1 hb
  obtain⟨o,e',d⟩:=ho p.1 hb
  rw[e]at e'; cases e'
  exact⟨e,f0,f1,f2,d⟩
theorem Inv.unpinned{pins pl:List (Addr×Obj)}{σ:St}{H:Hp}{s:AH}(I:Inv X (pins++pl) σ H s):Inv X pins σ H s:=I.pins_of fun p hp=>I.pin p (Ag _ (Co _ hp))
theorem zEE{iter:Expr}{body:List Stmt}{wi:TI}{g:TG}{tb:TS}{pos:Pos}(hp:PassesOwn (model X.prog X.w) X.A X.env X.xe)(hc:X.calm=true)(hi:PI X tg iter wi)(hg:PG X tg g)(hb:PSs X body tb)
  (hs:∀ x,Bi iter X.env x=pure x:=by intro _; rfl):PS X (.For tg iter body [] pos) (tFor wi g tb):=by
 intro pins s σ H D I h
 refine wpAny_For (thn (hi pins s σ H _ I h) fun v s1 h1=>thn h1 fun itv s2 h2=>?_) hs
 obtain⟨it,fp,tn,J,H2,e,I2,T,st2,f2,W,⟨m0,w0⟩,turn⟩:=h2
 subst e
 have stat:∀ {H':Hp},(∀ b∈fp,H' b=none)->∀ b∈fp,FpOk X pins H' b:=fun hn b hb=>⟨hn b hb,(f2 b hb).2⟩
 refine codeAny_forLoop_any (fun n s'=>∃ i σ' H',Inv X pins σ' H' s'/\tn i s'.heap/\(∀ b∈fp,H' b=none)/\W i n σ' H') ?_ m0 ⟨0,σ,H2,I2,st2,fun b hb=>(f2 b hb).1,w0⟩
 rintro n s3 ⟨i,σ3,H3,I3,st3,fr3,w3⟩
 rcases turn i n σ3 H3 w3 with ⟨stop,qn⟩ | ⟨go,N,hN,step⟩
 ·refine Do hp (thn (T.done X rfl rfl rfl hc i pins s3 σ3 H3 X.xe I3 (stat fr3) st3 stop) fun r s4 ⟨hr,I4⟩=>?_)
  subst hr
  exact Dn ⟨σ3,H3,I4,qn⟩
 ·refine Do hp (thn (T.item X rfl rfl rfl hc i pins s3 σ3 H3 X.xe I3 (stat fr3) st3 go) fun r s4 ⟨u,hr,h4⟩=>?_)
  subst hr
  refine Do hp (thn h4 fun _ s5 ⟨x,H5,I5,r5,y5,st5,fr5⟩=>?_)
  have I5':=I5.pinned (stat fr5) (T.obj _ _ st5)
  refine Do hp (thn (hg _ s5 σ3 H5 x u _ I5' r5 (step x H5 y5)) fun _ s6 ⟨σ6,H6,I6,q6⟩=>?_)
  refine Do hp (thn (hb _ s6 σ6 H6 _ I6 q6) fun f s7 q7=>?_)
  have again:∀ {σ7:St} {H7:Hp},Inv X (pins++pinsAt fp s5.heap) σ7 H7 s7->N σ7 H7->∃ m,m < n/\∃ i σ' H',Inv X pins σ' H' s7/\tn i s7.heap/\(∀ b∈fp,H' b=none)/\W i m σ' H':=fun {σ7 H7} I7 n7=>by
   obtain⟨m',hm,w7⟩:=hN σ7 H7 n7
   refine⟨m',hm,i+1,σ7,H7,I7.unpinned,T.keep _ _ _ st5 fun b hb o e=>(I7.pin (b,o) (Ag _ (Ag _ (zBV hb e)))).1,fun b hb=>?_,w7⟩
   obtain⟨o,e,d⟩:=T.obj _ _ st5 b hb
   exact (I7.pin (b,o) (Ag _ (Ag _ (zBV hb e)))).2.1
  cases f with
  | next=>obtain⟨σ7,H7,I7,n7⟩:=q7; exact again I7 n7
  | cont=>obtain⟨σ7,H7,I7,n7⟩:=q7; exact again I7 n7
  | brk=>obtain⟨σ7,H7,I7,q7⟩:=q7; exact⟨σ7,H7,I7.unpinned,q7⟩
  | ret v=>obtain⟨x7,σ7,H7,I7,r7,q7⟩:=q7; exact⟨x7,σ7,H7,I7.unpinned,r7,q7⟩
end
abbrev R2:=V->V->Hp->VK->Prop
def OpR(X:Cx)(f:AB->AB->Sem AB)(r:R2):Prop :=
 ∀ (pins:List (Addr×Obj)) (s:AH) (σ:St) (H:Hp) (x y:V) (v u:AB) (Q:VK),Inv X pins σ H s->RelV x v->RelV y u->r x y H Q ->
  AZ (model X.prog X.w) X.A (f v u) (EP X pins σ Q) X.xe s
def UnR(X:Cx)(f:AB->Sem AB)(r:V->Hp->VK->Prop):Prop :=
 ∀ (pins:List (Addr×Obj)) (s:AH) (σ:St) (H:Hp) (x:V) (v:AB) (Q:VK),Inv X pins σ H s->RelV x v->r x H Q ->
  AZ (model X.prog X.w) X.A (f v) (EP X pins σ Q) X.xe s
def CallR(X:Cx)(f:AB)(r:List V->Hp->VK->Prop):Prop :=
 ∀ (pins:List (Addr×Obj)) (s:AH) (σ:St) (H:Hp) (xs:List V) (us:List AB) (Q:VK),Inv X pins σ H s->Vals xs us->r xs H Q ->
  AZ (model X.prog X.w) X.A (call f us) (EP X pins σ Q) X.xe s
def TruR(X:Cx)(r:V->Hp->(Bool->Hp->Prop)->Prop):Prop :=
 ∀ (pins:List (Addr×Obj)) (s:AH) (σ:St) (H:Hp) (x:V) (v:AB) (Q:Bool->Hp->Prop),Inv X pins σ H s->RelV x v->r x H Q ->
  AZ (model X.prog X.w) X.A (truthy v) (TP X pins σ Q) X.xe s
def tOp(r:R2)(ta tb:TE):TE:=fun σ H Q=>ta σ H fun x H1=>tb σ H1 fun y H2=>r x y H2 Q
def tUn(r:V->Hp->VK->Prop)(ta:TE):TE:=fun σ H Q=>ta σ H fun x H1=>r x H1 Q
def rI(C:Int->Int->Prop)(g:Int->Int->V):R2:=fun x y H Q=>∃ i j,x=.int i/\y=.int j/\C i j/\Q (g i j) H
def rI0(g:Int->Int->V):R2:=fun x y H Q=>∃ i j,x=.int i/\y=.int j/\Q (g i j) H
def rU(g:Int->V):V->Hp->VK->Prop:=fun x H Q=>∃ i,x=.int i/\Q (g i) H
section
variable {X:Cx}{a b c:Expr}{ta tb tc:TE}{pos:Pos}
theorem binT(ha:PE X a ta)(hb:PE X b tb){pins:List (Addr×Obj)}{s:AH}{σ:St}{H:Hp}{R:V->V->Hp->Prop}(I:Inv X pins σ H s)
  (h:ta σ H fun x H1=>tb σ H1 fun y H2=>R x y H2) {Q:AB->AH->Prop} {f:AB->AB->Sem AB}
  (hf:∀ v u s2 x y H2,Inv X pins σ H2 s2->RelV x v->RelV y u->R x y H2->AZ (model X.prog X.w) X.A (f v u) Q X.xe s2) :
  AZ (model X.prog X.w) X.A (eval a X.env) (fun v s₁=>AZ (model X.prog X.w) X.A (eval b X.env) (fun u s₂=>AZ (model X.prog X.w) X.A (f v u) Q X.xe s₂) X.xe s₁) X.xe s:=by
 refine thn (ha pins s σ H _ I h) fun v s1 ⟨x,H1,I1,r1,q1⟩=>?_
 refine thn (hb pins s1 σ H1 _ I1 q1) fun u s2 ⟨y,H2,I2,r2,q2⟩=>?_
 exact hf v u s2 x y H2 I2 r1 r2 q2
theorem zLp{op:Operator}{r:R2}(ho:OpR X (CU op) r)(ha:PE X a ta)(hb:PE X b tb):PE X (.BinOp a op b pos) (tOp r ta tb):=by
 intro pins s σ H Q I h
 exact wpAny_BinOp (binT ha hb I h fun v u s2 x y H2 I2 rx ry q=>ho pins s2 σ H2 x y v u Q I2 rx ry q)
theorem pe_un{op:UnaryOp}{r:V->Hp->VK->Prop}(ho:UnR X (unaryOp op) r)(ha:PE X a ta):PE X (.UnaryOp op a pos) (tUn r ta):=by
 intro pins s σ H Q I h
 exact UnaryOp_ (thn (ha pins s σ H _ I h) fun v s1 ⟨x,H1,I1,r1,q1⟩=>ho pins s1 σ H1 x v Q I1 r1 q1)
theorem opI{f:AB->AB->Sem AB}{C:Int->Int->Prop}{g:Int->Int->Int}
  (rule:∀ (i j:Int) (t u:Tok) (s:AH) (Q:AB->AH->Prop) (E:AB->AH->Prop),C i j->Q (.int (g i j) s.toks) { s with toks:=s.toks+1 }->AZ (model X.prog X.w) X.A (f (.int i t) (.int j u)) Q E s) :
  OpR X f (rI C fun i j=>.int (g i j)):=by
 intro pins s σ H x y v u Q I rx ry h
 obtain⟨i,j,rfl,rfl,hc,q⟩:=h
 obtain⟨t,rfl⟩:=rx
 obtain⟨t',rfl⟩:=ry
 exact rule i j t t' s _ _ hc ⟨.int (g i j),H,I.tok _,⟨_,rfl⟩,q⟩
theorem opI0{f:AB->AB->Sem AB}{g:Int->Int->Int}
  (rule:∀ (i j:Int) (t u:Tok) (s:AH) (Q:AB->AH->Prop) (E:AB->AH->Prop),Q (.int (g i j) s.toks) { s with toks:=s.toks+1 }->AZ (model X.prog X.w) X.A (f (.int i t) (.int j u)) Q E s) :
  OpR X f (rI0 fun i j=>.int (g i j)):=by
 intro pins s σ H x y v u Q I rx ry h
 obtain⟨i,j,rfl,rfl,q⟩:=h
 obtain⟨t,rfl⟩:=rx
 obtain⟨t',rfl⟩:=ry
 exact rule i j t t' s _ _ ⟨.int (g i j),H,I.tok _,⟨_,rfl⟩,q⟩
theorem opB0{f:AB->AB->Sem AB}{g:Int->Int->Bool}
  (rule:∀ (i j:Int) (t u:Tok) (s:AH) (Q:AB->AH->Prop) (E:AB->AH->Prop),Q (.bool (g i j)) s->AZ (model X.prog X.w) X.A (f (.int i t) (.int j u)) Q E s) :
  OpR X f (rI0 fun i j=>.bl (g i j)):=by
 intro pins s σ H x y v u Q I rx ry h
 obtain⟨i,j,rfl,rfl,q⟩:=h
 obtain⟨t,rfl⟩:=rx
 obtain⟨t',rfl⟩:=ry
 exact rule i j t t' s _ _ ⟨.bl (g i j),H,I,rfl,q⟩
def CDiv(i j:Int):Prop:=0 < j/\j < 1073741824
def CPow(i j:Int):Prop:=0<=j/\j<=1000000/\i.natAbs < 2 ^ 64
def CMul(i j:Int):Prop:=(-(2 ^ 64) < i/\i < 2 ^ 64)\/(-(2 ^ 64) < j/\j < 2 ^ 64)
theorem CMul.ok{i j:Int}(h:CMul i j):IntMulOk i j:=by
 rcases h with ⟨h1,h2⟩ | ⟨h1,h2⟩
 ·exact .of_left (J9 h1 h2)
 ·exact .of_right (J9 h1 h2)
theorem zLb:OpR X (CU .Add) (rI0 fun i j=>.int (i+j)):=opI0 fun _ _ _ _ _ _ _ q=>add_int q
theorem zKi:OpR X (CU .Sub) (rI0 fun i j=>.int (i - j)):=opI0 fun _ _ _ _ _ _ _ q=>sub_int q
theorem zLD:OpR X (CU .Mult) (rI CMul fun i j=>.int (i * j)):=opI fun _ _ _ _ _ _ _ hc q=>mul_int q hc.ok
theorem zKJ:OpR X (CU .FloorDiv) (rI CDiv fun i j=>.int (i / j)):=opI fun i j _ _ _ _ _ hc q=>by
 have h1:(0:Int) < j:=hc.1
 have h2:j < 1073741824:=hc.2
 exact floordiv_int (by omega) (by rw[Int.fdiv_eq_ediv_of_nonneg i (by omega)]; exact q) (.inl (PyProof.noPylong_small (by omega)))
theorem zK9:OpR X (CU .Mod) (rI (fun _ j=>0 < j) fun i j=>.int (i % j)):=opI fun i j _ _ _ _ _ hc q=>by
 have h1:(0:Int) < j:=hc
 exact mod_int' (by omega) (by rw[Int.fmod_eq_emod_of_nonneg i (by omega)]; exact q)
theorem zLW:OpR X (CU .Pow) (rI CPow fun i j=>.int (i ^ j.toNat)):=opI fun _ _ _ _ _ _ _ hc q=>pow_int_small hc.1 hc.2.1 hc.2.2 q
theorem unI{f:AB->Sem AB}{g:Int->Int}
  (rule:∀ (i:Int) (t:Tok) (s:AH) (Q:AB->AH->Prop) (E:AB->AH->Prop),Q (.int (g i) s.toks) { s with toks:=s.toks+1 }->AZ (model X.prog X.w) X.A (f (.int i t)) Q E s) :
  UnR X f (rU fun i=>.int (g i)):=by
 intro pins s σ H x v Q I rx h
 obtain⟨i,rfl,q⟩:=h
 obtain⟨t,rfl⟩:=rx
 exact rule i t s _ _ ⟨.int (g i),H,I.tok _,⟨_,rfl⟩,q⟩
theorem un_neg:UnR X (unaryOp .USub) (rU fun i=>.int (-i)):=unI fun _ _ _ _ _ q=>neg_int q
end
def scal:V->V->Bool
 | .non,.non=>true | .non,.int _=>true | .int _,.non=>true | .non,.bl _=>true | .bl _,.non=>true | .non,.str _=>true | .str _,.non=>true
 | .int _,.int _=>true | .bl _,.bl _=>true | .str _,.str _=>true | .byt _,.byt _=>true
 | .int _,.str _=>true | .str _,.int _=>true | .bl _,.str _=>true | .str _,.bl _=>true
 | _,_=>false
def rEq:R2:=fun x y H Q=>scal x y=true/\Q (.bl (decide (x=y))) H
def rNe:R2:=fun x y H Q=>scal x y=true/\Q (.bl (!decide (x=y))) H
theorem zFS{i j:Int}:decide (V.int i=V.int j)=(i == j):=by
 rw[ET]
 simp
theorem zHi{i j:Bool}:decide (V.bl i=V.bl j)=(i == j):=by
 rw[ET]
 simp
theorem zE6{i j:Str}:decide (V.str i=V.str j)=(i == j):=by
 rw[ET]
 simp
theorem zFW{i j:Array UInt8}:decide (V.byt i=V.byt j)=(i.toList == j.toList):=by
 rw[ET]
 cases i
 cases j
 simp
section
variable {X:Cx}{a b c:Expr}{ta tb tc:TE}{pos:Pos}
theorem zAF{pins:List (Addr×Obj)}{σ:St}{H:Hp}{s:AH}{Q:VK}{k k':Bool}(I:Inv X pins σ H s)(q:Q (.bl k) H)(e:k=k'):EP X pins σ Q (.bool k') s:=by
 subst e
 exact⟨.bl k,H,I,rfl,q⟩
theorem op_eq:OpR X (BQ .Eq) rEq:=by
 intro pins s σ H x y v u Q I rx ry h
 obtain⟨hs,q⟩:=h
 cases x with
 | non =>
  cases rx
  cases y with
  | non=>cases ry; exact JY (zAF I q (by simp))
  | bl j=>cases ry; exact JZ (zAF I q (by simp))
  | int j=>obtain⟨t',rfl⟩:=ry; exact Ja (zAF I q (by simp))
  | str j=>obtain⟨t',rfl⟩:=ry; exact Jb (zAF I q (by simp))
  | _=>exact absurd (show false=true from hs) AQ
 | bl i =>
  cases rx
  cases y with
  | non=>cases ry; exact Jc (zAF I q (by simp))
  | bl j=>cases ry; exact eq_bool (zAF I q zHi)
  | str j=>obtain⟨t',rfl⟩:=ry; exact Il (zAF I q (by simp))
  | _=>exact absurd (show false=true from hs) AQ
 | int i =>
  obtain⟨t,rfl⟩:=rx
  cases y with
  | non=>cases ry; exact Jd (zAF I q (by simp))
  | int j=>obtain⟨t',rfl⟩:=ry; exact eq_int (zAF I q zFS)
  | str j=>obtain⟨t',rfl⟩:=ry; exact Io (zAF I q (by simp))
  | _=>exact absurd (show false=true from hs) AQ
 | str i =>
  obtain⟨t,rfl⟩:=rx
  cases y with
  | non=>cases ry; exact Je (zAF I q (by simp))
  | bl j=>cases ry; exact Ip (zAF I q (by simp))
  | int j=>obtain⟨t',rfl⟩:=ry; exact Iq (zAF I q (by simp))
  | str j=>obtain⟨t',rfl⟩:=ry; exact eq_str (zAF I q zE6)
  | _=>exact absurd (show false=true from hs) AQ
 | byt i =>
  obtain⟨t,rfl⟩:=rx
  cases y with
  | byt j=>obtain⟨t',rfl⟩:=ry; exact PySem.W.eq_bytes (zAF I q zFW)
  | _=>exact absurd (show false=true from hs) AQ
 | _=>cases y <;> exact absurd (show false=true from hs) AQ
theorem op_ne:OpR X (BQ .NotEq) rNe:=by
 intro pins s σ H x y v u Q I rx ry h
 obtain⟨hs,q⟩:=h
 cases x with
 | non =>
  cases rx
  cases y with
  | non=>cases ry; exact Jf (zAF I q (by simp))
  | bl j=>cases ry; exact Jg (zAF I q (by simp))
  | int j=>obtain⟨t',rfl⟩:=ry; exact Jh (zAF I q (by simp))
  | str j=>obtain⟨t',rfl⟩:=ry; exact Ji (zAF I q (by simp))
  | _=>exact absurd (show false=true from hs) AQ
 | bl i =>
  cases rx
  cases y with
  | non=>cases ry; exact Jj (zAF I q (by simp))
  | bl j=>cases ry; exact ne_bool (zAF I q (congrArg not zHi))
  | str j=>obtain⟨t',rfl⟩:=ry; exact Ir (zAF I q (by simp))
  | _=>exact absurd (show false=true from hs) AQ
 | int i =>
  obtain⟨t,rfl⟩:=rx
  cases y with
  | non=>cases ry; exact Jk (zAF I q (by simp))
  | int j=>obtain⟨t',rfl⟩:=ry; exact ne_int (zAF I q (congrArg not zFS))
  | str j=>obtain⟨t',rfl⟩:=ry; exact Iu (zAF I q (by simp))
  | _=>exact absurd (show false=true from hs) AQ
 | str i =>
  obtain⟨t,rfl⟩:=rx
  cases y with
  | non=>cases ry; exact Jl (zAF I q (by simp))
  | bl j=>cases ry; exact Iv (zAF I q (by simp))
  | int j=>obtain⟨t',rfl⟩:=ry; exact Iw (zAF I q (by simp))
  | str j=>obtain⟨t',rfl⟩:=ry; exact ne_str (zAF I q (congrArg not zE6))
  | _=>exact absurd (show false=true from hs) AQ
 | byt i =>
  obtain⟨t,rfl⟩:=rx
  cases y with
  | byt j=>obtain⟨t',rfl⟩:=ry; exact PySem.W.ne_bytes (zAF I q (congrArg not zFW))
  | _=>exact absurd (show false=true from hs) AQ
 | _=>cases y <;> exact absurd (show false=true from hs) AQ
theorem zL5:OpR X (BQ .Lt) (rI0 fun i j=>.bl (decide (i < j))):=opB0 fun _ _ _ _ _ _ _ q=>lt_int q
theorem zLw:OpR X (BQ .Gt) (rI0 fun i j=>.bl (decide (j < i))):=opB0 fun _ _ _ _ _ _ _ q=>gt_int q
theorem zL1:OpR X (BQ .GtE) (rI0 fun i j=>.bl (decide (j<=i))):=opB0 fun _ _ _ _ _ _ _ q=>ge_int q
theorem zLN:OpR X (BQ .Is) (fun x y H Q=>y=.non/\Q (.bl (decide (x=.non))) H):=by
 intro pins s σ H x y v u Q I rx ry h
 obtain⟨rfl,q⟩:=h
 cases ry
 refine is_none_gen (zAF I q ?_)
 cases x <;> first
  | (cases rx; rfl)
  | (obtain⟨t,rfl⟩:=rx; rfl)
theorem OpR.or{f:AB->AB->Sem AB}{r r':R2}(h:OpR X f r)(h':OpR X f r'):OpR X f (fun x y H Q=>r x y H Q\/r' x y H Q):=by
 intro pins s σ H x y v u Q I rx ry q
 rcases q with q | q
 ·exact h pins s σ H x y v u Q I rx ry q
 ·exact h' pins s σ H x y v u Q I rx ry q
theorem nomark(b:Expr){op:GN}(h:op≠.In:=by decide)(h2:op≠.NotIn:=by decide):Cp op b=false:=by
 have e1:(op == CmpOp.In)=false:=by cases op <;> first | rfl | exact absurd rfl h
 have e2:(op == CmpOp.NotIn)=false:=by cases op <;> first | rfl | exact absurd rfl h2
 cases b <;> simp[Cp,e1,e2]
theorem zE7{op:GN}{r:R2}(ho:OpR X (BQ op) r)(ha:PE X a ta)(hb:PE X b tb)(hm:Cp op b=false):PE X (.Compare a [op] [b] pos) (tOp r ta tb):=by
 intro pins s σ H Q I h
 exact wpAny_Compare1 (binT ha hb I h fun v u s2 x y H2 I2 rx ry q=>ho pins s2 σ H2 x y v u Q I2 rx ry q) hm
def tTest(t:TE):TT:=fun σ H Q=>t σ H fun x H'=>∃ k,x=.bl k/\Q k H'
theorem pt_cmpR{op:GN}{r:R2}(ho:OpR X (BQ op) r)(ha:PE X a ta)(hb:PE X b tb)(hm:Cp op b=false):PT X (.Compare a [op] [b] pos) (tTest (tOp r ta tb)):=by
 intro pins s σ H Q I h
 refine wpAny_isTrue_Compare1 (thn (ha pins s σ H _ I h) fun v s1 ⟨x,H1,I1,r1,q1⟩=>thn (hb pins s1 σ H1 _ I1 q1) fun u s2 ⟨y,H2,I2,r2,q2⟩ =>
  thn (ho pins s2 σ H2 x y v u _ I2 r1 r2 q2) fun c s3 ⟨z,H3,I3,r3,k,e,q3⟩=>?_) hm
 subst e
 cases r3
 exact CF ⟨H3,I3,q3⟩
def tChain(r r':R2)(ta tb tc:TE):TE:=fun σ H Q=>ta σ H fun x H1=>tb σ H1 fun y H2=>r x y H2 fun z H3=>∃ k,z=.bl k /\
 (if k=true then tc σ H3 fun w' H4=>r' y w' H4 Q else Q (.bl false) H3)
theorem zIo{op op':GN}{r r':R2}(ho:OpR X (BQ op) r)(ho':OpR X (BQ op') r')(ha:PE X a ta)(hb:PE X b tb)(hc:PE X c tc)
  (hm:lastMarks [op,op'] [b,c]=false:=by with_unfolding_all rfl):PT X (.Compare a [op,op'] [b,c] pos) (tTest (tChain r r' ta tb tc)):=by
 intro pins s σ H Q I h
 refine isTrue_chain (thn (ha pins s σ H _ I h) fun v s1 ⟨x,H1,I1,r1,q1⟩=>test_link (thn (hb pins s1 σ H1 _ I1 q1) fun u s2 ⟨y,H2,I2,r2,q2⟩ =>
  thn (ho pins s2 σ H2 x y v u _ I2 r1 r2 q2) fun d s3 ⟨z,H3,I3,r3,k,e,q3⟩=>?_)) hm
 subst e
 cases r3
 refine CF ?_
 cases k with
 | false =>
  obtain⟨k',e',q'⟩:=q3
  cases e'
  exact ite_ff ⟨H3,I3,q'⟩
 | true =>
  refine ite_tt (test_last (thn (hc pins s3 σ H3 _ I3 q3) fun w' s4 ⟨z',H4,I4,r4,q4⟩=>thn (ho' pins s4 σ H4 y z' u w' _ I4 r2 r4 q4) fun d' s5 ⟨z2,H5,I5,r5,k2,e2,q5⟩=>?_))
  subst e2
  cases r5
  exact CF ⟨H5,I5,q5⟩
def TruV(K:AJ)(x:V)(H:Hp)(k:Bool):Prop :=
 match x with
 | .non=>k=false
 | .bl b=>k=b
 | .int i=>k=(i != 0)
 | .str y=>y.length<=AC/\k=((y.length:Int) != 0)
 | .byt y=>y.size<=AC/\k=((y.size:Int) != 0)
 | .ref p=>(∃ xs,SqL K H p xs/\k=!xs.isEmpty)\/(∃ xs,SqT K H p xs/\k=!xs.isEmpty)\/∃ kvs,H p=some (.dK kvs)/\k=!kvs.isEmpty
 | _=>False
theorem zFp{κ:Type}{kvs:List (κ×V)}{vs:List (κ×AB)}(r:KV kvs vs):(!vs.isEmpty)=!kvs.isEmpty:=by
 cases r <;> rfl
theorem zCa{xs:List V}{its:List AB}(r:Vals xs its):(!its.toArray.isEmpty)=!xs.isEmpty:=by
 cases r <;> simp
theorem line63:(AC:Nat) < 2 ^ 63:=by rw[EL]; decide
theorem zKs:TruR X (fun x H Q=>∃ k,TruV X.K x H k/\Q k H):=by
 intro pins s σ H x v Q I rx h
 obtain⟨k,e,q⟩:=h
 have hl:=line63
 have hs:AC=16777216:=EL
 cases x with
 | non =>
  cases rx
  have e':k=false:=e
  subst e'
  exact truthy_none ⟨H,I,q⟩
 | bl b =>
  cases rx
  have e':k=b:=e
  subst e'
  exact CF ⟨H,I,q⟩
 | int i =>
  obtain⟨t,rfl⟩:=rx
  have e':k=(i != 0):=e
  subst e'
  exact PySem.P.truthy_int ⟨H,I,q⟩
 | str y =>
  obtain⟨t,rfl⟩:=rx
  obtain⟨hy,e'⟩:y.length<=AC/\k=((y.length:Int) != 0):=e
  subst e'
  exact PySem.P.truthy_str (by omega) ⟨H,I.tok _,q⟩
 | byt y =>
  obtain⟨t,rfl⟩:=rx
  obtain⟨hy,e'⟩:y.size<=AC/\k=((y.size:Int) != 0):=e
  subst e'
  exact PySem.W.truthy_bytes (by omega) ⟨H,I.tok _,q⟩
 | ref p =>
  cases rx
  have e':(∃ xs,SqL X.K H p xs/\k=!xs.isEmpty)\/(∃ xs,SqT X.K H p xs/\k=!xs.isEmpty)\/∃ kvs,H p=some (.dK kvs)/\k=!kvs.isEmpty:=e
  rcases e' with ⟨xs,hx,e'⟩ | ⟨xs,hx,e'⟩ | ⟨kvs,hx,e'⟩
  ·subst e'
   obtain⟨its,r,pl,hz⟩:=I.list hx
   have hlen:=r.length
   exact wpAny_truthy_list pl.isList (by simp only[Ab]; omega) ⟨H,I.tok _,by rw[zCa r]; exact q⟩
  ·subst e'
   obtain⟨its,r,pl,hz⟩:=I.tuple hx
   have hlen:=r.length
   exact truthy_tuple pl (by simp only[Ab]; omega) ⟨H,I.tok _,by rw[zCa r]; exact q⟩
  ·subst e'
   obtain⟨hz,hS,vs,r,m⟩:kvs.length<=AC/\(p == Bm)=false/\∃ vs,KV kvs vs/\s.heap.DictOf (mixKind X.prog X.w) p vs:=I.hok p _ hx
   have hlen:kvs.length=vs.length:=Hg r
   exact wpAny_truthy_dict hS m (by omega) ⟨H,I.tok _,by rw[zFp r]; exact q⟩
 | _=>exact (show False from e).elim
theorem zER(ha:PE X a ta)(he:∀ whole,Gd a X.env whole=(do let v ← whole; HP a.pos; holding [v] (truthy v))) :
  PT X a (fun σ H Q=>ta σ H fun x H'=>∃ k,TruV X.K x H' k/\Q k H'):=by
 intro pins s σ H Q I h
 exact isTrue_plain (thn (ha pins s σ H _ I h) fun v s1 ⟨x,H1,I1,r1,q1⟩=>zKs pins s1 σ H1 x v Q I1 r1 q1) (he _)
theorem zFz:OpR X (CU .Add) (fun x y H Q=>∃ i j,x=.str i/\y=.str j/\i.length+j.length<=AC/\Q (.str (i++j)) H):=by
 intro pins s σ H x y v u Q I rx ry h
 obtain⟨i,j,rfl,rfl,hz,q⟩:=h
 obtain⟨t,rfl⟩:=rx
 obtain⟨t',rfl⟩:=ry
 exact add_str (fun t' tk=>⟨.str (i++j),H,I.tok _,⟨_,rfl⟩,q⟩) hz
theorem vals1{x:V}{us:List AB}(r:Vals [x] us):∃ u,us=[u]/\RelV x u:=by
 cases r with
 | cons r1 r2=>cases r2; exact⟨_,rfl,r1⟩
theorem vals2{x y:V}{us:List AB}(r:Vals [x,y] us):∃ u w',us=[u,w']/\RelV x u/\RelV y w':=by
 cases r with
 | cons r1 r2 =>
  cases r2 with
  | cons r3 r4=>cases r4; exact⟨_,_,rfl,r1,r3⟩
theorem zHT(hc:X.calm=true):CallR X (.builtin "max") (fun xs H Q=>∃ i j,xs=[.int i,.int j]/\Q (.int (if j > i then j else i)) H):=by
 intro pins s σ H xs us Q I r h
 obtain⟨i,j,rfl,q⟩:=h
 obtain⟨u,w',rfl,⟨t,rfl⟩,⟨t',rfl⟩⟩:=vals2 r
 refine max_two_ints (I.ok.hd hc) fun h' tk k=>⟨_,H,I.kept k,?_,q⟩
 by_cases hj:j > i
 ·rw[if_pos hj,if_pos hj]; exact⟨_,rfl⟩
 ·rw[if_neg hj,if_neg hj]; exact⟨_,rfl⟩
theorem zGV:CallR X (.type "int") (fun xs H Q=>(∃ i,xs=[.int i]/\Q (.int i) H)\/∃ k,xs=[.bl k]/\Q (.int (if k then 1 else 0)) H):=by
 intro pins s σ H xs us Q I r h
 rcases h with ⟨i,rfl,q⟩ | ⟨k,rfl,q⟩
 ·obtain⟨u,rfl,t,rfl⟩:=vals1 r
  exact call_int_int ⟨.int i,H,I,⟨_,rfl⟩,q⟩
 ·obtain⟨u,rfl,r1⟩:=vals1 r
  cases r1
  exact call_int_bool ⟨.int (if k then 1 else 0),H,I.tok _,⟨_,rfl⟩,q⟩
end
theorem RelO.some_of{v:V}{o:Option AB}(r:RelO (some v) o):∃ u,o=some u/\RelV v u:=by
 cases o with
 | none=>exact (show False from r).elim
 | some u=>exact⟨u,rfl,r⟩
section
variable {X:Cx}{pins:List (Addr×Obj)}{σ:St}{H:Hp}{s:AH}{a C dx:Addr}{fs:List (Str×V)}{f:Str}{v:V}{A:A5}{E:AB->AH->Prop}
theorem zJs{prog:Ac}{w:Al}{env:Env}{e:Expr}{f:Str}{pos:Pos}{s:AH}{Q:AB->AH->Prop}(hb:CK e f env (eval e env)=eval e env)
  (h:AZ (model prog w) A (eval e env) (fun o s₁=>AZ (model prog w) A (Kb o f true) Q E s₁) E s):AZ (model prog w) A (eval (.Attribute e f pos) env) Q E s :=
 Attribute_any_ h (by rw[arm_eval_Attribute,hb])
end
structure Room(k:Nat)(A:A5):Prop where
 hd:A.handled=none
 dp:A.depth+3 * k+5 < Gg
 un:A.units+16 * k+200 < HD
 gd:A.guards=some []
theorem Room.mono{j k:Nat}{A:A5}(r:Room k A)(h:j<=k):Room j A:=⟨r.hd,by have:=r.dp; omega,by have:=r.un; omega,r.gd⟩
theorem Room.deeper{k:Nat}{A:A5}(r:Room (k+1) A)(env:Env):Room k (A.deeper env) :=
 ⟨r.hd,by have:=r.dp; show A.depth+1+3 * k+5 < _; omega,by have:=r.un; show A.units+3+16 * k+200 < _; omega,r.gd⟩
theorem zGB{A:A5}{C:Addr}{us:List AB}{kw:List (Str×AB)}:(A.under (.builtin "type.__call__" ⟨.ref C::us,kw⟩)).depth=A.depth+1:=by
 first | rfl | simp[E9,Code.weight,Code.isCreation,IS,Code.isCaller,Iy,GV,guardIds]
theorem zGG{A:A5}{C:Addr}{us:List AB}{kw:List (Str×AB)}:(A.under (.builtin "type.__call__" ⟨.ref C::us,kw⟩)).units=A.units+1:=by
 first | rfl | simp[E9,Code.cUnits,Iy,GV]
theorem Room.depth{k:Nat}{A:A5}(r:Room k A):A.depth < Gg:=by have:=r.dp; omega
def tNil:TA:=fun _ H Q=>Q [] H
def tCons(ta:TE)(tr:TA):TA:=fun σ H Q=>ta σ H fun x H1=>tr σ H1 fun xs H2=>Q (x::xs) H2
section
variable {X:Cx}{e:Expr}{es:List Expr}{te:TE}{t:TA}{pos:Pos}
theorem pa_nil:PA X [] tNil:=fun _ _ _ _ H Q I h=>HE ⟨[],H,I,.nil,h⟩
theorem pa_cons(ha:PE X e te)(hr:PA X es t)(hs:AR (e::es) X.env=(false,eval e X.env)::AR es X.env:=by rfl):PA X (e::es) (tCons te t):=by
 intro pos pins s σ H Q I h
 rw[hs]
 show AZ _ _ (spliced ((false,eval e X.env)::Bg pos (AR es X.env))) _ _ s
 refine Dg (thn (ha pins s σ H _ I h) fun u s1 ⟨x,H1,I1,r1,q1⟩=>?_)
 exact thn (hr pos pins s1 σ H1 _ I1 q1) fun us s2 ⟨xs,H2,I2,r2,q2⟩=>⟨x::xs,H2,I2,.cons r1 r2,q2⟩
def tTup(t:TA):TE:=fun σ H Q=>t σ H fun xs H1=>xs.length<=AC/\∀ p,H1 p=none->Q (.ref p) (upd H1 p (.tup xs))
def tLst(t:TA):TE:=fun σ H Q=>t σ H fun xs H1=>xs.length<=AC/\∀ p,H1 p=none->Q (.ref p) (upd H1 p (.lst xs))
theorem zLB{x1}(h:PA X es t):PE X (.Tuple es x1 pos) (tTup t):=by
 intro pins s σ H Q I hq
 refine Hw (thn (h pos pins s σ H _ I hq) fun us s1 ⟨xs,H1,I1,r,z,q⟩=>⟨by rw[← r.length]; exact z,?_⟩)
 have hf:H1 s1.heap.objs.size=none:=I1.hok.fresh (AL _)
 refine⟨.ref s1.heap.objs.size,upd H1 s1.heap.objs.size (.tup xs),I1.laid (t':=s1.toks) (fun b u e=>AI _ e) (AL _) ?_,rfl,q _ hf⟩
 exact⟨z,us,r,⟨_,Ad _ rfl,rfl,⟨_,rfl⟩,rfl⟩⟩
theorem pe_lst(h:PA X es t):PE X (.List es pos) (tLst t):=by
 intro pins s σ H Q I hq
 refine wpAny_List_spliced (thn (h pos pins s σ H _ I hq) fun us s1 ⟨xs,H1,I1,r,z,q⟩=>⟨by rw[← r.length]; exact z,?_⟩)
 have hf:H1 s1.heap.objs.size=none:=I1.hok.fresh (AL _)
 refine⟨.ref s1.heap.objs.size,upd H1 s1.heap.objs.size (.lst xs),I1.laid (t':=s1.toks) (fun b u e=>AI _ e) (AL _) ?_,rfl,q _ hf⟩
 exact⟨z,us,0,r,Ad _ rfl⟩
end
abbrev Sp:=List V->Hp->VK->XK->Prop
abbrev CXT:=List Env->Hp->AH->XK->AB->AH->Prop
structure Env0(P:Ac)(w:Al)(K:AJ)(mg:Str->Option AB)(base:Heap)(A:A5)(outer:List Env)(s:AH)(H:Hp):Prop where
 frames:A.frames=some outer
 mod:Mod K mg base
 bs:∀ b o,base.get? b=some o->s.heap.get? b=some o/\H b=none
 bsz:base.objs.size<=s.heap.objs.size
 funs:s.heap.FunFrames base outer
 frf:∀ b∈frs outer,H b=none
 hok:HOk P w H s.heap
 bare:Dw s.gens
def CE(outer:List Env)(P:Ac)(w:Al)(H:Hp)(s:AH)(Q:VK)(u:AB)(s':AH):Prop :=
 ∃ v H',s'.os=s.os/\Dw s'.gens/\Un (frs outer) [] H H' s.heap s'.heap/\HOk P w H' s'.heap/\RelV v u/\Q v H'
def CR(CX:CXT)(outer:List Env)(P:Ac)(w:Al)(H:Hp)(s:AH)(Q:VK)(E:XK)(r:Result)(s':AH):Prop :=
 match r with
 | .ok (.ret u)=>CE outer P w H s Q u s'
 | .ok _=>False
 | .error e=>CX outer H s E e s'
structure FnOk(P:Ac)(w:Al)(K:AJ)(mg:Str->Option AB)(base:Heap)(CX:CXT)(k:Nat)(f:Addr)(fd:An)(ps:List Str)(sp:Sp):Prop where
 len:∀ vs H Q E,sp vs H Q E->vs.length=ps.length
 run:∀ (A:A5) (outer:List Env) (s:AH) (H:Hp) (args:Args) (us:List AB) (vs:List V) (Q:VK) (E:XK),Room k A->Env0 P w K mg base A outer s H->Fq s fd args (ps.zip us)->Vals vs us->sp vs H Q E ->
  EM (model P w) A (.call (.ref f) args) (CR CX outer P w H s Q E) s
section
variable {X:Cx}{pins:List (Addr×Obj)}{σ:St}{H:Hp}{s s':AH}
theorem Inv.env0(I:Inv X pins σ H s):Env0 X.prog X.w X.K X.mg X.base X.A X.stack s H :=
 ⟨I.ok.frames,I.ok.mod,I.bs,As I.ok.bsz I.sz,I.stack,I.stkFree,I.hok,I.bare⟩
theorem Inv.after{Q:VK}{u:AB}(I:Inv X pins σ H s)(h:CE X.stack X.prog X.w H s Q u s'):EP X pins σ Q u s':=by
 obtain⟨v,H',os,bare,un,hok,r,q⟩:=h
 obtain⟨hh,g,d,t,os'⟩:=s'
 obtain rfl:os'=s.os:=os
 exact⟨v,H',I.call (h':=hh) (g':=g) (d':=d) (t':=t) (ch:=[]) un hok bare (fun b z=>absurd z (by simp)),r,q⟩
end
def tCall(sp:Sp)(dvs:List V)(E:XK)(t:TA):TE:=fun σ H Q=>t σ H fun vs H1=>sp (vs++dvs) H1 Q E
def Binds(K:AJ)(fd:An)(ps:List Str)(ds:List AB):Prop :=
 ∀ (s:AH) (us:List AB),K.In s.heap->(us++ds).length=ps.length->Fq s fd ⟨us,[]⟩ (ps.zip (us++ds))
theorem Binds.all{K:AJ}{fd:An}{ps:List Str}(h:∀ us:List AB,us.length=ps.length->bindArgs fd ⟨us,[]⟩=pure (ps.zip us)):Binds K fd ps []:=fun s us _ hl=>by
 rw[BV]at hl ⊢
 exact .of_eq (h us hl)
def Passes(CX:CXT)(X:Cx)(E:XK):Prop:=∀ (pins:List (Addr×Obj)) (σ:St) (H:Hp) (s:AH) (e:AB) (s':AH),Inv X pins σ H s->CX X.stack H s E e s'->X.xe e s'
section
variable {X:Cx}{CX:CXT}{k:Nat}{f C:Addr}{fd:An}{ps:List Str}{sp:Sp}{dvs:List V}{ds:List AB}{E:XK}{x m:Str}{p pos apos:Pos}{e o:Expr}{es:List Expr}{ta:TE}{t:TA}
theorem zG7{pins:List (Addr×Obj)}{σ:St}{H:Hp}{s:AH}{Q:VK}{us:List AB}{vs:List V}(F:FnOk X.prog X.w X.K X.mg X.base CX k f fd ps sp)(hr:Room k X.A)(hb:Binds X.K fd ps ds)(hd:Vals dvs ds)(hx:Passes CX X E)
  (I:Inv X pins σ H s) (r:Vals vs us) (h:sp (vs++dvs) H Q E):AZ (model X.prog X.w) X.A (call (.ref f) us) (EP X pins σ Q) X.xe s:=by
 have r2:Vals (vs++dvs) (us++ds):=r.append hd
 have hl:(us++ds).length=ps.length:=by rw[← r2.length]; exact F.len _ _ _ _ h
 refine Fd (Dx (F.run X.A X.stack s H ⟨us,[]⟩ (us++ds) (vs++dvs) Q E hr I.env0 (hb s us I.kIn hl) r2 h) fun r s' hq=>?_)
 cases r with
 | error e=>exact hx pins σ H s e s' I hq
 | ok fl =>
  cases fl with
  | ret u=>exact I.after hq
  | next=>exact BN hq
  | brk=>exact BN hq
  | cont=>exact BN hq
theorem zJd(F:FnOk X.prog X.w X.K X.mg X.base CX k f fd ps sp)(hr:Room k X.A)(hg:Gl X x)(hm:X.mg x=some (.ref f))(hk:BC X.K (.ref f)=true)(hb:Binds X.K fd ps ds)(hd:Vals dvs ds)(hx:Passes CX X E)
  (ha:PA X (e::es) t) (hdb:(x == ("__debug__":Str))=false:=by decide) (he:AR (e::es) X.env=(false,eval e X.env)::AR es X.env:=by rfl) (hpl:(Bg pos (AR es X.env)).any (·.1)=false:=by rfl) :
  PE X (.Call (.Name x p) (e::es) [] pos) (tCall sp dvs E t):=by
 intro pins s σ H Q I h
 refine B5 (zAu I hg hm ?_ hdb)
 refine DW (h₀:=X.base) I.ok.mod.kin hk (thn (ha pos pins s σ H _ I h) fun us s1 ⟨vs,H1,I1,r,q⟩=>⟨I1.kIn,?_⟩) he hpl
 exact zG7 F hr hb hd hx I1 r q
theorem zIg(F:FnOk X.prog X.w X.K X.mg X.base CX k f fd ps sp)(hr:Room k X.A)(hg:Gl X x)(hm:X.mg x=some (.ref f))(hk:BC X.K (.ref f)=true)(hb:Binds X.K fd ps ds)(hd:Vals dvs ds)(hx:Passes CX X E)
  (hdb:(x == ("__debug__":Str))=false:=by decide):PE X (.Call (.Name x p) [] [] pos) (tCall sp dvs E tNil):=by
 intro pins s σ H Q I h
 refine B5 (zAu I hg hm ?_ hdb)
 exact PySem.W.callWith_K0 I.kIn hk (zG7 (us:=[]) F hr hb hd hx I .nil h)
end
structure FnScope(N P:List Str)(sc:Bv):Prop where
 kind:sc.kind=.function
 co:sc.isCoroutine=false
 gen:sc.isGenerator=false
 nd:N.Nodup
 pre:N.take P.length=P
 par:∀ x∈P,sc.names.lookup x=some .local\/sc.names.lookup x=some .cell
 nofree:∀ y∈sc.names,y.2≠.free
theorem zDG{Dp:Str->Option B6}{x:Str}:∀ {binds:List (Str×AB)} {m:Str->Option AB},(∀ v,(x,v)∉binds)->Gh Dp binds m x=m x
 | [],_,_=>rfl
 | (n,v)::r,m,h=>by
  unfold Gh
  rw[zDG fun w hw=>h w (AG _ hw)]
  split
  ·have:x≠n:=by rintro rfl; exact h v AE
   simp[this]
  ·rfl
theorem zDV{Dp:Str->Option B6}{x:Str}:∀ {binds:List (Str×AB)} {m:Str->Option AB},(∀ v,(x,v)∉binds)->Gi Dp binds m x=m x
 | [],_,_=>rfl
 | (n,v)::r,m,h=>by
  unfold Gi
  rw[zDV fun w hw=>h w (AG _ hw)]
  split
  ·rfl
  ·have:x≠n:=by rintro rfl; exact h v AE
   simp[this]
theorem zBx{Dp:Str->Option B6}{x:Str}{v:AB}:∀ {P:List Str} {vs:List AB} {i:Nat} {m:Str->Option AB},P.Nodup->P[i]?=some x->vs[i]?=some v->Dp x=some .local ->
  Gh Dp (P.zip vs) m x=some v
 | [],_,_,_,_,h,_,_=>by simp at h
 | _::_,[],_,_,_,_,h,_=>by simp at h
 | p::P,w::vs,0,m,nd,h1,h2,hk=>by
  simp at h1 h2; subst h1; subst h2
  show Gh Dp ((p,w)::P.zip vs) m p=_
  unfold Gh
  rw[zDG fun v hv=>(A9.mp nd).1 (EU hv).1,if_pos hk]
  simp
 | p::P,w::vs,i+1,m,nd,h1,h2,hk=>by
  show Gh Dp ((p,w)::P.zip vs) m x=_
  unfold Gh
  exact zBx (i:=i) (A9.mp nd).2 (by simpa using h1) (by simpa using h2) hk
theorem zBo{Dp:Str->Option B6}{x:Str}{v:AB}:∀ {P:List Str} {vs:List AB} {i:Nat} {m:Str->Option AB},P.Nodup->P[i]?=some x->vs[i]?=some v->Dp x≠some .local ->
  Gi Dp (P.zip vs) m x=some v
 | [],_,_,_,_,h,_,_=>by simp at h
 | _::_,[],_,_,_,_,h,_=>by simp at h
 | p::P,w::vs,0,m,nd,h1,h2,hk=>by
  simp at h1 h2; subst h1; subst h2
  show Gi Dp ((p,w)::P.zip vs) m p=_
  unfold Gi
  rw[zDV fun v hv=>(A9.mp nd).1 (EU hv).1,if_neg hk]
  simp
 | p::P,w::vs,i+1,m,nd,h1,h2,hk=>by
  show Gi Dp ((p,w)::P.zip vs) m x=_
  unfold Gi
  exact zBo (i:=i) (A9.mp nd).2 (by simpa using h1) (by simpa using h2) hk
def start(N:List Str)(vs:List V):St:=vs.map some++AM (N.length - vs.length) none
def cxOf(CX:CXT)(P:Ac)(w:Al)(K:AJ)(mg:Str->Option AB)(base:Heap)(N:List Str)(qual:Str)(scope:Bv)(f:Addr)(cd:AB)(A:A5)(outer:List Env)(s:AH)(H:Hp)(E:XK):Cx where
 prog:=P
 w:=w
 K:=K
 mg:=mg
 base:=base
 A:=A.deeper (Ep qual scope s.heap.objs.size f cd)
 N:=N
 s₀:=s
 H₀:=H
 env:=Ep qual scope s.heap.objs.size f cd
 outer:=outer
 stack:=Ep qual scope s.heap.objs.size f cd::outer
 ex:=[]
 calm:=true
 fn:=fun _=>true
 pn:=[]
 xe:=fun e s'=>AZ (model P w) (A.deeper (Ep qual scope s.heap.objs.size f cd)) (leaving (Ep qual scope s.heap.objs.size f cd) e) (fun _ s''=>CX outer H s E e s'') (fun e' s''=>CX outer H s E e' s'') s'
theorem zBe{sc:Bv}{n:Nat}{x:Str}(h:sc.names.lookup x=some .cell):∃ c,(BI n sc.names []).lookup x=some c:=by
 have q:=CL sc.names n [] (.inl h)
 exact B7.mp q
theorem zHg{CX:CXT}{P:Ac}{w:Al}{K:AJ}{mg:Str->Option AB}{base:Heap}{N ps:List Str}{qual:Str}{scope:Bv}{f:Addr}{cd:AB}{A:A5}{outer:List Env}{s s1:AH}{H:Hp}{E:XK}{us:List AB}{vs:List V}
  (S:FnScope N ps scope) (hd:A.handled=none) (e0:Env0 P w K mg base A outer s H) (hl:vs.length=ps.length) (r:Vals vs us)
  (x:InCallC s s.heap.objs.size (Gh (Ep qual scope s.heap.objs.size f cd).kindOf (ps.zip us) fun _=>none) (BI (s.heap.objs.size+1) scope.names []) (Gi (Ep qual scope s.heap.objs.size f cd).kindOf (ps.zip us) fun _=>none) s1) :
  Inv (cxOf CX P w K mg base N qual scope f cd A outer s H E) [] (start N vs) H s1:=by
 have hpl:ps.length<=N.length:=by have:=congrArg Be S.pre; rw[DK]at this; omega
 obtain⟨h1,tk,rfl,hk⟩:=x.done
 have noA:∀ b:Addr,b∉(cxOf CX P w K mg base N qual scope f cd A outer s H E).ex:=fun b z=>absurd (show b∈([]:List Addr) from z) (by simp)
 refine⟨⟨e0.mod,S.kind,rfl,rfl,AL _,fun y z c h1 h2=>?_,fun y hy=>?_,fun y c _ h=>?_,fun _=>hd,GW e0.frames,.inr ⟨rfl,rfl⟩,fun b z=>absurd z (noA b),e0.bs,e0.bsz,fun b _ _=>noA b,fun b z=>absurd z (noA b),e0.funs,e0.frf⟩,
  rfl,e0.bare,Un.kept hk,⟨_,x.toInCall.ns,fun i y v h1 h2 h3=>?_⟩,fun y c h=>⟨_,x.cell y c h⟩,e0.hok.fresh (AL _),fun y c h=>?_,fun p hp=>absurd (show p∈([]:List (Addr×Obj)) from hp) (by simp),e0.hok.kept hk,?_⟩
 ·exact Kc x.apart (A0 h1) (A0 h2)
 ·have hy:scope.names.lookup y=some .cell\/scope.names.lookup y=some .free:=hy
  rcases hy with hy | hy
  ·exact zBe hy
  ·exact absurd rfl (S.nofree _ (A0 hy))
 ·exact Bk (x.above y c (A0 h))
 ·have hi:i < vs.length:=by
   unfold start at h2
   by_cases hi:i < vs.length
   ·exact hi
   ·rw[Bw (by simpa using hi)]at h2
    rw[CG]at h2
    split at h2 <;> cases h2
  have ha:vs[i]?=some v:=by
   unfold start at h2
   rw[BH (by simpa using hi),Ai]at h2
   cases e:vs[i]? with
   | none=>rw[e]at h2; cases h2
   | some a=>rw[e]at h2; cases h2; rfl
  obtain⟨u,hu,rv⟩:=r.get ha
  have hp:ps[i]?=some y:=by
   rw[← S.pre,GO (by omega)]; exact h1
  have ndP:ps.Nodup:=by rw[← S.pre]; exact S.nd.sublist (HQ _ _)
  refine⟨u,rv,?_⟩
  rcases S.par y (B8 hp) with k | k
  ·exact .inl ⟨k,zBx ndP hp hu k⟩
  ·obtain⟨c,e⟩:=zBe (n:=s.heap.objs.size+1) k
   refine .inr ⟨.inl k,c,e,?_⟩
   have q:=x.cell y c e
   rw[zBo ndP hp hu (by show scope.names.lookup y≠_; rw[k]; decide)]at q
   exact q
 ·exact e0.hok.fresh (Bk (x.above y c (A0 h)))
 ·unfold start
  show _=N.length
  rw[Am,BA,By]
  omega
theorem fn_of{CX:CXT}{P:Ac}{w:Al}{K:AJ}{mg:Str->Option AB}{base:Heap}{k:Nat}{f:Addr}{name qual:Str}{params:Iz}{body:List Stmt}{scope:Bv}{dV kV doc pm cdv ct oc:AB}{an od:Option Addr}
  {osl:Array (Option AB)} {N ps:List Str} {sp:Sp} (lk:K.lookup f=some ⟨oc,od,.func (Ck name qual params body scope dV kV doc pm an cdv ct),osl⟩) (hcd:Ce K cdv qual=true) (S:FnScope N ps scope)
  (len:∀ vs H Q E,sp vs H Q E->vs.length=ps.length)
  (hbody:∀ (A:A5) (outer:List Env) (s:AH) (H:Hp) (vs:List V) (Q:VK) (E:XK),Room k (A.deeper (Ep qual scope s.heap.objs.size f cdv))->sp vs H Q E ->
   ∃ t,PSs (cxOf CX P w K mg base N qual scope f cdv A outer s H E) body t/\t { nx:=fun _ H'=>Q .non H',rt:=Q } (start N vs) H) :
  FnOk P w K mg base CX (k+1) f (Ck name qual params body scope dV kV doc pm an cdv ct) ps sp:=by
 refine⟨len,fun A outer s H args us vs Q E hr e0 hb r hsp=>?_⟩
 have hl:=len _ _ _ _ hsp
 have KX:K.In s.heap:=e0.mod.kin.keeps fun b o e=>(e0.bs b o e).1
 have lim:s.heap.NoLimit:=e0.mod.nolimit.keeps fun b o e=>(e0.bs b o e).1
 have hkind:∀ y∈ps.zip us,scope.names.lookup y.1=some .local\/(scope.names.lookup y.1=some .cell/\((BI (s.heap.objs.size+1) scope.names []).lookup y.1).isSome=true):=fun ⟨n,v⟩ hy=>by
  rcases S.par n (EU hy).1 with q | q
  ·exact .inl q
  ·exact .inr ⟨q,CL _ _ _ (.inl q)⟩
 refine HZ hr.depth (KX _ _ lk) rfl S.co S.gen rfl (Gj KX hcd) (hb _ _ _ _ ?_)
 refine Gk S.kind hkind fun env he s1 x=>?_
 subst he
 refine⟨lim.keeps x.toInCall.keep,Kd ?_⟩
 obtain⟨t,ht,hq⟩:=hbody A outer s H vs Q E (hr.deeper _) hsp
 have I:Inv (cxOf CX P w K mg base N qual scope f cdv A outer s H E) [] (start N vs) H s1:=zHg S hr.hd e0 hl r x
 refine BG (ht [] s1 (start N vs) H _ I hq) (fun fl s' hs=>?_) fun e s' hs=>hs
 have fin:∀ {σ':St} {H':Hp} {v:V} {u:AB},Inv (cxOf CX P w K mg base N qual scope f cdv A outer s H E) [] σ' H' s'->RelV v u->Q v H'->CE outer P w H s Q u s' :=
  fun {σ' H' v u} J rv q=>⟨v,H',J.os,J.bare,J.base,J.hok,rv,q⟩
 cases fl with
 | ret u =>
  obtain⟨v,σ',H',J,rv,q⟩:=hs
  exact fin J rv q
 | next =>
  obtain⟨σ',H',J,q⟩:=hs
  exact fin (v:=V.non) (u:=A6) J rfl q
 | brk =>
  obtain⟨_,_,_,q⟩:=hs
  exact BN q
 | cont =>
  obtain⟨_,_,_,q⟩:=hs
  exact BN q
section
variable {X:Cx}{x:Str}{p pos:Pos}{e:Expr}{es:List Expr}{t:TA}{id T:String}{r:List V->Hp->VK->Prop}
def tCB(r:List V->Hp->VK->Prop)(t:TA):TE:=fun σ H Q=>t σ H fun vs H1=>r vs H1 Q
theorem pe_callB(hc:CallR X (.builtin id) r)(hg:Gl X x)(hm:X.mg x=none)(hv:Bn x=some (.builtin id))(ha:PA X (e::es) t)(hn:x≠"__name__":=by decide)(hdb:(x == ("__debug__":Str))=false:=by decide)
  (he:AR (e::es) X.env=(false,eval e X.env)::AR es X.env:=by rfl) (hpl:(Bg pos (AR es X.env)).any (·.1)=false:=by rfl):PE X (.Call (.Name x p) (e::es) [] pos) (tCB r t):=by
 intro pins s σ H Q I h
 refine B5 (zBQ I hg hm hv ?_ hn hdb)
 exact Jm (thn (ha pos pins s σ H _ I h) fun us s1 ⟨vs,H1,I1,r1,q1⟩=>hc pins s1 σ H1 vs us Q I1 r1 q1) he hpl
theorem zHs(hc:CallR X (.type T) r)(hg:Gl X x)(hm:X.mg x=none)(hv:Bn x=some (.type T))(ha:PA X (e::es) t)(hn:x≠"__name__":=by decide)(hdb:(x == ("__debug__":Str))=false:=by decide)
  (he:AR (e::es) X.env=(false,eval e X.env)::AR es X.env:=by rfl) (hpl:(Bg pos (AR es X.env)).any (·.1)=false:=by rfl):PE X (.Call (.Name x p) (e::es) [] pos) (tCB r t):=by
 intro pins s σ H Q I h
 refine B5 (zBQ I hg hm hv ?_ hn hdb)
 exact CJ (thn (ha pos pins s σ H _ I h) fun us s1 ⟨vs,H1,I1,r1,q1⟩=>hc pins s1 σ H1 vs us Q I1 r1 q1) he hpl
end
end L2
namespace HT
open PySem PyProof.Rows
def lexLt:List Int->List Int->Bool
 | [],[]=>false
 | [],_::_=>true
 | _::_,[]=>false
 | x::xs,y::ys=>if x=y then lexLt xs ys else decide (x < y)
section
open PySem.SeqAt
open PySem.AutoSeq1 (wpAny_loadPart')
open PySem.MeetsSeq PySem.MeetsSeq2 PySem.MeetsSeq3
end
section
variable {prog:Ac}{w:Al}{A:A5}{E:AB->AH->Prop}{s:AH}
theorem cat_tup{t b:Addr}{vs ws:List AB}{Q:AB->AH->Prop}(ht:IM s.heap t vs.toArray)(hb:IM s.heap b ws.toArray)(hv:vs≠[])
  (h1:ws=[]->Q (.ref t) s) (h2:ws≠[]->Q (.ref s.heap.objs.size) { s with heap:=s.heap.push { cls:=.type "tuple",data:=.seq (vs++ws).toArray } })
  (hsz:vs.length+ws.length<=AC):AZ (model prog w) A (CU .Add (.ref t) (.ref b)) Q E s:=by
 obtain⟨⟨cls,dd,data,sl⟩,ho,hc,n,hd⟩:=id ht
 obtain⟨⟨cls2,dd2,data2,sl2⟩,ho2,hc2,n2,hd2⟩:=id hb
 simp only at hc hd hc2 hd2
 subst hc hd hc2 hd2
 have e:vs.toArray++ws.toArray=(vs++ws).toArray:=by simp
 by_cases hw:ws=[]
 ·exact HR ⟨_,ho,rfl⟩ ⟨_,ho2,rfl⟩ GC G5 EB Dy (Dq _ _)
   (tuple_addW1 t b vs.toArray ws.toArray n n2 dd dd2 sl sl2 (by simpa using hv) (by simp[hw])) ⟨ho,ho2,h1 hw⟩
 ·refine HR ⟨_,ho,rfl⟩ ⟨_,ho2,rfl⟩ GC G5 EB Dy (Dq _ _)
   (tuple_addW2 t b vs.toArray ws.toArray n n2 dd dd2 sl sl2 (by simpa using hv) (by simpa using hw) (by rw[Ab,Ab]; exact hsz)) ⟨ho,ho2,?_⟩
  rw[e]
  exact h2 hw
def sIx(n d:Nat):Option Int->Nat
 | none=>d
 | some v=>if v < 0 then (v+(n:Int)).toNat else min v.toNat n
theorem sIx_none(n d:Nat):sIx n d none=d:=rfl
theorem sIx_nat(n d k:Nat):sIx n d (some (k:Int))=min k n:=by
 show (if (k:Int) < 0 then ((k:Int)+(n:Int)).toNat else min (k:Int).toNat n)=min k n
 rw[if_neg (by omega),D5]
theorem zLM(n d:Nat)(hd:d<=n)(o:Option Int):sIx n d o<=n:=by
 cases o with
 | none=>exact hd
 | some v =>
  show (if v < 0 then (v+(n:Int)).toNat else min v.toNat n)<=n
  by_cases hv:v < 0
  ·rw[if_pos hv]; omega
  ·rw[if_neg hv]; exact Nat.min_le_right _ _
theorem zFY(v:Int)(n d:Nat):(if v < 0 then max (v+(n:Int)) 0 else min v (n:Int))=((sIx n d (some v):Nat):Int):=by
 show (if v < 0 then max (v+(n:Int)) 0 else min v (n:Int))=(((if v < 0 then (v+(n:Int)).toNat else min v.toNat n):Nat):Int)
 by_cases hv:v < 0
 ·simp only[if_pos hv]; omega
 ·simp only[if_neg hv]; omega
theorem zFq(lo hi:Option Int)(n:Nat):DN lo hi 1 (n:Int)=(((sIx n 0 lo:Nat):Int),((sIx n n hi:Nat):Int)):=by
 have h1:¬ ((1:Int) < 0):=by omega
 unfold DN
 simp only[h1,if_false]
 refine Prod.ext ?_ ?_
 ·cases lo with
  | none=>rfl
  | some v=>exact zFY v n 0
 ·cases hi with
  | none=>rfl
  | some v=>exact zFY v n n
theorem zGO(i j:Nat):CY (i:Int) (j:Int) 1=j - i:=by
 unfold CY
 have h1:(1:Int) > 0:=by omega
 simp only[h1,if_true,Int.ediv_one]
 split <;> omega
theorem zCb{v:AB}{o:Option Int}{Q:Option Int->AH->Prop}(p:Er v o)(h:Q o s):AZ (model prog w) A (JA v) Q E s:=by
 cases p with
 | none=>exact Jz h
 | int i t=>exact slicePart_int h
theorem sliceApplied_gen{sl:Addr}{vl vu:AB}{lo hi:Option Int}{n:Nat}{Q:Int×Int×Nat->AH->Prop}(hs:s.heap.IsSliceOf sl vl vu .none)(pl:Er vl lo)(pu:Er vu hi)
  (h:Q (((sIx n 0 lo:Nat):Int),1,sIx n n hi - sIx n 0 lo) s):AZ (model prog w) A (E6 (.ref sl) (pure (n:Int))) Q E s:=by
 obtain⟨os,hos,hcs,hds⟩:=id hs
 unfold E6 JB
 refine AA (AA (BP hos hds (x:=vl) rfl (AA (BP hos hds (x:=vu) rfl (AA (BP hos hds (x:=.none) rfl (AO ?_)))))))
 refine AA (Jz ?_)
 show AZ _ _ (if ((1:Int) == 0)=true then _ else _) _ _ s
 rw[if_neg (by decide)]
 refine AA (zCb pl (AA (zCb pu (AA (AO ?_)))))
 show AZ _ _ (match DN lo hi 1 (n:Int) with | (lo,hi)=>pure (lo,(1:Int),CY lo hi 1)) _ _ s
 rw[zFq lo hi n]
 show AZ _ _ (pure (((sIx n 0 lo:Nat):Int),(1:Int),CY ((sIx n 0 lo:Nat):Int) ((sIx n n hi:Nat):Int) 1)) _ _ s
 rw[zGO]
 exact AO h
theorem zIY(xs:Array AB)(i k:Nat):((Az k).filterMap fun (m:Nat)=>xs[((i:Int)+(m:Int) * 1).toNat]?).toArray=((xs.toList.drop i).take k).toArray:=by
 have e:(fun (m:Nat)=>xs[((i:Int)+(m:Int) * 1).toNat]?)=fun m=>xs[i+m]?:=by
  funext m
  have:((i:Int)+(m:Int) * 1).toNat=i+m:=by omega
  rw[this]
 rw[e]
 have:=pick_run xs i k
 rw[List.filterMap_map]at this
 have e2:((fun x=>xs[x]?) ∘ fun x=>i+x)=fun m=>xs[i+m]?:=rfl
 rw[e2]at this
 rw[this]
theorem qY{t sl:Addr}{items:Array AB}{vl vu:AB}{lo hi:Option Int}{Q:AB->AH->Prop}(ht:IM s.heap t items)(hs:s.heap.IsSliceOf sl vl vu .none)(pl:Er vl lo)(pu:Er vu hi)
  (hw:¬ (sIx items.size 0 lo=0/\sIx items.size items.size hi=items.size))
  (h:Q (.ref s.heap.objs.size) { s with heap:=s.heap.push { cls:=.type "tuple",data:=.seq ((items.toList.drop (sIx items.size 0 lo)).take (sIx items.size items.size hi - sIx items.size 0 lo)).toArray } })
  (hsz:items.size<=AC):AZ (model prog w) A (EN (.ref t) (.ref sl)) Q E s:=by
 have htake:sizeOk (.seq ((items.toList.drop (sIx items.size 0 lo)).take (sIx items.size items.size hi - sIx items.size 0 lo)).toArray):=by
  show ((items.toList.drop (sIx items.size 0 lo)).take (sIx items.size items.size hi - sIx items.size 0 lo)).toArray.size<=AC
  rw[Ab,DK,Cr,AN]
  omega
 have hj:sIx items.size items.size hi<=items.size:=zLM _ _ (AL _) hi
 obtain⟨os,hos,hcs,hds⟩:=id hs
 have hTs:s.TypeIs (.ref sl) "slice":=⟨os,hos,hcs⟩
 unfold EN
 try with_reducible refine CH ?_
 first | refine AA (AO ?_) | skip
 refine AA (IT ht.typeIs (by decide) ?_)
 refine AA (Bq (name:=Bl "__getitem__") ht.typeIs Ba
  (C0 Ba ht.typeIs Hx ?_ (ID _ _)))
 show AZ _ _ (E7 (.ref t) >>= _) _ _ s
 refine AA (KA ht ?_)
 refine AA (HS hTs ?_)
 rw[if_pos (by decide)]
 refine AA (sliceApplied_gen hs pl pu ?_)
 have hno:¬ ((((sIx items.size 0 lo:Nat):Int) == 0 && (1:Int) == 1 && (sIx items.size items.size hi - sIx items.size 0 lo) == items.size)=true):=by
  intro q
  rw[Af,Af]at q
  have q1:((sIx items.size 0 lo:Nat):Int)=0:=eq_of_beq q.1.1
  have q2:sIx items.size items.size hi - sIx items.size 0 lo=items.size:=eq_of_beq q.2
  exact hw ⟨by omega,by omega⟩
 show AZ _ _ (if (((sIx items.size 0 lo:Nat):Int) == 0 && (1:Int) == 1 && (sIx items.size items.size hi - sIx items.size 0 lo) == items.size)=true then _ else _) _ _ s
 rw[if_neg hno,zIY]
 first
  | exact AA (m:=Cf _) (Bh (AO ⟨_,rfl,AO h⟩) htake)
  | exact AA (m:=Cf _) (Bh (AA (AO (AO ⟨_,rfl,AO h⟩))) htake)
  | exact AA (AA (m:=Cf _) (Bh (AO (AO ⟨_,rfl,AO h⟩)) htake))
  | exact AA (AA (m:=Cf _) (Bh (AO ⟨_,rfl,AO h⟩) htake))
end
end HT
namespace L2
open PySem PySem.Spec PyProof.Rows
abbrev TO:=St->Hp->(Option Int->Hp->Prop)->Prop
def PO(X:Cx)(e:Option Expr)(t:TO):Prop :=
 ∀ (pins:List (Addr×Obj)) (s:AH) (σ:St) (H:Hp) (Q:Option Int->Hp->Prop),Inv X pins σ H s->t σ H Q ->
  AZ (model X.prog X.w) X.A (evalPart e X.env) (fun u s'=>∃ o H',Inv X pins σ H' s'/\Er u o/\Q o H') X.xe s
def tNoPart:TO:=fun _ H Q=>Q none H
def tPart(t:TE):TO:=fun σ H Q=>t σ H fun x H1=>∃ i,x=.int i/\Q (some i) H1
section
variable {X:Cx}{e:Expr}{te:TE}{lo hi:Option Expr}{tl th:TO}{pos p2:Pos}
theorem zKC:PO X none tNoPart:=by
 intro pins s σ H Q I h
 rw[KB]
 exact AO ⟨none,H,I,.none,h⟩
theorem zJN(h:PE X e te):PO X (some e) (tPart te):=by
 intro pins s σ H Q I hw
 rw[evalPart_some]
 refine thn (h pins s σ H _ I hw) fun u s1 ⟨x,H1,I1,r1,q1⟩=>?_
 obtain⟨i,rfl,q⟩:=q1
 obtain⟨t,rfl⟩:=r1
 exact⟨some i,H1,I1,.int i t,q⟩
def SlR(X:Cx)(r:V->Option Int->Option Int->Hp->VK->Prop):Prop :=
 ∀ (pins:List (Addr×Obj)) (s:AH) (σ:St) (H:Hp) (x:V) (v vl vu:AB) (lo hi:Option Int) (sl:Addr) (Q:VK),Inv X pins σ H s->RelV x v->s.heap.IsSliceOf sl vl vu .none->Er vl lo->Er vu hi->r x lo hi H Q ->
  ∃ T id,DX (.type T) "__getitem__"=pure (some (.builtin id))/\s.TypeIs v T/\AZ (model X.prog X.w) X.A (EN v (.ref sl)) (EP X pins σ Q) X.xe s
theorem SlR.or{r r':V->Option Int->Option Int->Hp->VK->Prop}(h:SlR X r)(h':SlR X r'):SlR X (fun x lo hi H Q=>r x lo hi H Q\/r' x lo hi H Q):=by
 intro pins s σ H x v vl vu lo hi sl Q I rx hs pl pu q
 rcases q with q | q
 ·exact h pins s σ H x v vl vu lo hi sl Q I rx hs pl pu q
 ·exact h' pins s σ H x v vl vu lo hi sl Q I rx hs pl pu q
def tSl(r:V->Option Int->Option Int->Hp->VK->Prop)(te:TE)(tl th:TO):TE:=fun σ H Q=>te σ H fun x H1=>tl σ H1 fun l H2=>th σ H2 fun u H3=>r x l u H3 Q
theorem zEn{r:V->Option Int->Option Int->Hp->VK->Prop}(hr:SlR X r)(he:PE X e te)(hl:PO X lo tl)(hu:PO X hi th):PE X (.Subscript e (.Slice lo hi none p2) pos) (tSl r te tl th):=by
 intro pins s σ H Q I h
 refine IE (thn (he pins s σ H _ I h) fun v s1 ⟨x,H1,I1,r1,q1⟩=>?_)
 refine wpAny_Slice (thn (hl pins s1 σ H1 _ I1 q1) fun vl s2 ⟨l,H2,I2,pl,q2⟩=>thn (hu pins s2 σ H2 _ I2 q2) fun vu s3 ⟨u,H3,I3,pu,q3⟩=>?_)
 rw[KB]
 refine AO ?_
 have I4:Inv X pins σ H3 { s3 with heap:=s3.heap.push { cls:=.type "slice",data:=.fields #[vl,vu,.none] } }:=I3.kept (t':=s3.toks) fun b ob q=>AI _ q
 obtain⟨T,id,hT,ht,hg⟩:=hr pins { s3 with heap:=s3.heap.push { cls:=.type "slice",data:=.fields #[vl,vu,.none] } } σ H3 x v vl vu l u s3.heap.objs.size Q I4 r1 (IU ..) pl pu q3
 show AZ (model X.prog X.w) X.A (G6 e (.Slice lo hi none p2) v (.ref s3.heap.objs.size)) (EP X pins σ Q) X.xe { s3 with heap:=s3.heap.push { cls:=.type "slice",data:=.fields #[vl,vu,.none] } }
 exact tail_any (ops:=[.ref s3.heap.objs.size,v]) ht hT hg (by with_unfolding_all rfl)
def cutV(xs:List V)(lo hi:Option Int):List V:=(xs.drop (HT.sIx xs.length 0 lo)).take (HT.sIx xs.length xs.length hi - HT.sIx xs.length 0 lo)
theorem zCA(xs:List V)(lo hi:Option Int):(cutV xs lo hi).length<=xs.length:=by
 unfold cutV
 rw[DK,Cr]
 omega
end
def ixN(n:Nat)(i:Int):Option Nat:=if 0<=i then (if i < n then some i.toNat else none) else if -(n:Int)<=i then some (i+n).toNat else none
def atI{α:Type}(xs:List α)(i:Int):Option α:=(ixN xs.length i).bind fun j=>xs[j]?
theorem zFe{n:Nat}{i:Int}{j:Nat}(h:ixN n i=some j):HF i n=some j/\j < n/\-(n:Int)<=i/\i < n:=by
 unfold ixN at h
 by_cases h0:0<=i
 ·rw[if_pos h0]at h
  by_cases h1:i < n
  ·rw[if_pos h1]at h
   have e:i.toNat=j:=Ap h
   exact⟨by rw[Hh h0 h1,e],by omega,by omega,h1⟩
  ·rw[if_neg h1]at h; cases h
 ·rw[if_neg h0]at h
  by_cases h1:-(n:Int)<=i
  ·rw[if_pos h1]at h
   have e:(i+n).toNat=j:=Ap h
   exact⟨by rw[HU (by omega) h1,e],by omega,h1,by omega⟩
  ·rw[if_neg h1]at h; cases h
theorem zCs{α:Type}{xs:List α}{i:Int}{v:α}(h:atI xs i=some v):∃ j,HF i xs.length=some j/\xs[j]?=some v/\j < xs.length/\-(xs.length:Int)<=i/\i < xs.length:=by
 unfold atI at h
 cases e:ixN xs.length i with
 | none=>rw[e]at h; cases h
 | some j =>
  rw[e]at h
  obtain⟨h1,h2,h3,h4⟩:=zFe e
  exact⟨j,h1,h,h2,h3,h4⟩
theorem atI_last{α:Type}(xs:List α)(v:α):atI (xs++[v]) (-1)=some v:=by
 have hl:(xs++[v]).length=xs.length+1:=by simp
 have e:ixN (xs++[v]).length (-1)=some xs.length:=by
  unfold ixN
  rw[hl,if_neg (by decide),if_pos (by omega)]
  congr 1
  omega
 unfold atI
 rw[e]
 show (xs++[v])[xs.length]?=some v
 simp
def PlainIx(b:Expr):Prop:=∀ o i,subscripted b false o i=operate [o,i] (EN o i)
def IxR(X:Cx)(r:R2):Prop :=
 ∀ (value slice:Expr) (pins:List (Addr×Obj)) (s:AH) (σ:St) (H:Hp) (x y:V) (v u:AB) (Q:VK),Inv X pins σ H s->RelV x v->RelV y u->r x y H Q ->
  subscripted slice false v u=operate [v,u] (EN v u)->AZ (model X.prog X.w) X.A (G6 value slice v u) (EP X pins σ Q) X.xe s
def MtR(X:Cx)(id:String)(r:V->List V->Hp->VK->Prop):Prop :=
 ∀ (pins:List (Addr×Obj)) (s:AH) (σ:St) (H:Hp) (x:V) (xs:List V) (v:AB) (us:List AB) (Q:VK),Inv X pins σ H s->RelV x v->Vals xs us->r x xs H Q ->
  AZ (model X.prog X.w) X.A (call (.builtin id) (v::us)) (EP X pins σ Q) X.xe s
section
variable {X:Cx}{a b:Expr}{ta tb:TE}{pos:Pos}
theorem IxR.or{r r':R2}(h:IxR X r)(h':IxR X r'):IxR X (fun x y H Q=>r x y H Q\/r' x y H Q):=by
 intro value slice pins s σ H x y v u Q I rx ry q hs
 rcases q with q | q
 ·exact h value slice pins s σ H x y v u Q I rx ry q hs
 ·exact h' value slice pins s σ H x y v u Q I rx ry q hs
theorem pe_ix{r:R2}(hr:IxR X r)(ha:PE X a ta)(hb:PE X b tb)(hs:PlainIx b):PE X (.Subscript a b pos) (tOp r ta tb):=by
 intro pins s σ H Q I h
 exact IE (binT ha hb I h fun v u s2 x y H2 I2 rx ry q=>hr a b pins s2 σ H2 x y v u Q I2 rx ry q (hs _ _))
def rIxL(K:AJ):R2:=fun x y H Q=>∃ p xs i v,x=.ref p/\y=.int i/\SqL K H p xs/\atI xs i=some v/\Q v H
def rIxT(K:AJ):R2:=fun x y H Q=>∃ p xs i v,x=.ref p/\y=.int i/\SqT K H p xs/\atI xs i=some v/\Q v H
def rIxS:R2:=fun x y H Q=>∃ z i c,x=.str z/\y=.int i/\z.length<=AC/\atI z.cps.toList i=some c/\Q (.str ⟨#[c]⟩) H
theorem ix_list:IxR X (rIxL X.K):=by
 intro value slice pins s σ H x y v u Q I rx ry h hs
 obtain⟨p,xs,i,z,rfl,rfl,hq,he,q⟩:=h
 cases rx
 obtain⟨t,rfl⟩:=ry
 obtain⟨its,r,pl,hz⟩:=I.list hq
 obtain⟨j,h1,h2,h3,h4,h5⟩:=zCs he
 obtain⟨w,ew,rw'⟩:=r.get h2
 have hl:=r.length
 have hn:=line63
 have fin:EP X pins σ Q w s:=⟨z,H,I,rw',q⟩
 by_cases h0:0<=i
 ·have hj:i.toNat=j:=by
   rw[Hh h0 h5]at h1
   exact Ap h1
  exact item_listR pl.isList h0 (by omega) (by rw[hj]; simpa using ew) fin hs
 ·have hj:(i+(its.toArray.size:Int)).toNat=j:=by
   rw[HU (by omega) h4]at h1
   rw[Ab,← hl]
   exact Ap h1
  exact HV (x:=w) pl.isList.typeIs IV.lookup
   (wpAny_getItem_list_neg (Q:=fun r s'=>r=w/\EP X pins σ Q r s') pl.isList (by omega) (by rw[Ab] <;> omega) (by omega) (by rw[hj]; simpa using ew) ⟨rfl,fin⟩) hs
theorem zLC:IxR X (rIxT X.K):=by
 intro value slice pins s σ H x y v u Q I rx ry h hs
 obtain⟨p,xs,i,z,rfl,rfl,hq,he,q⟩:=h
 cases rx
 obtain⟨t,rfl⟩:=ry
 obtain⟨its,r,pl,hz⟩:=I.tuple hq
 obtain⟨j,h1,h2,h3,h4,h5⟩:=zCs he
 obtain⟨w,ew,rw'⟩:=r.get h2
 have hl:=r.length
 have hn:=line63
 have fin:EP X pins σ Q w s:=⟨z,H,I,rw',q⟩
 exact HV (x:=w) pl.typeIs slot_tuple_getitem.lookup
  (getItem_tuple (j:=j) (Q:=fun r s'=>r=w/\EP X pins σ Q r s') pl (by omega) (by omega) (by rw[Ab,← hl]; exact h1) (by simpa using ew) ⟨rfl,fin⟩) hs
theorem zK6:IxR X rIxS:=by
 intro value slice pins s σ H x y v u Q I rx ry h hs
 obtain⟨z,i,c,rfl,rfl,hz,he,q⟩:=h
 obtain⟨t,rfl⟩:=rx
 obtain⟨t',rfl⟩:=ry
 obtain⟨j,h1,h2,h3,h4,h5⟩:=zCs he
 have hl:z.cps.toList.length=z.length:=by simp[J0]
 rw[hl]at h1 h4 h5
 have hn:=line63
 exact tail_any (Es s z t) slot_str_getitem.lookup (getItem_str (c:=c) (by
  have e1:decide (i < -(2 ^ 63:Int))=false:=decide_eq_false (by omega)
  have e2:decide (i ≥ 2 ^ 63)=false:=decide_eq_false (by omega)
  rw[e1,e2,Bool.or_false]) (by rw[h1]; simpa using h2) ⟨.str ⟨#[c]⟩,H,I.tok _,⟨_,rfl⟩,q⟩) hs
def rIx(K:AJ):R2:=fun x y H Q=>rIxL K x y H Q\/rIxT K x y H Q\/rIxS x y H Q
theorem zK3:IxR X (rIx X.K):=ix_list.or (zLC.or zK6)
theorem zGN(its:List AB)(n j:Nat)(u:AB):FB (·.setIfInBounds j u) { cls:=.type "list",data:=.seq its.toArray n }={ cls:=.type "list",data:=.seq (its.set j u).toArray n }:=by
 simp[FB]
theorem Inv.lst{pins:List (Addr×Obj)}{σ:St}{H:Hp}{s:AH}{p:Addr}{xs:List V}(I:Inv X pins σ H s)(h:H p=some (.lst xs)) :
  ∃ (its:List AB) (n:Nat),Vals xs its/\s.heap.get? p=some { cls:=.type "list",data:=.seq its.toArray n }/\xs.length<=AC:=by
 obtain⟨z,its,n,r,e⟩:=I.hok p _ h
 exact⟨its,n,r,e,z⟩
theorem Inv.lstUpd{pins:List (Addr×Obj)}{σ:St}{H:Hp}{s:AH}{p:Addr}{xs ys:List V}{its its':List AB}{n n':Nat}{f:Obj->Obj}(I:Inv X pins σ H s)(h:H p=some (.lst xs))
  (ho:s.heap.get? p=some { cls:=.type "list",data:=.seq its.toArray n }) (hf:f { cls:=.type "list",data:=.seq its.toArray n }={ cls:=.type "list",data:=.seq its'.toArray n' }) (r:Vals ys its') (hz:ys.length<=AC) (t:Nat) :
  Inv X pins σ (upd H p (.lst ys)) { s with heap:=s.heap.update p f,toks:=t }:=by
 have e:(s.heap.update p f).get? p=some { cls:=.type "list",data:=.seq its'.toArray n' }:=by
  rw[Bz f ho (by rw[hf] <;> rfl),hf]
 refine I.write (x:=p) (e:=p) (by rw[h]; trivial) (.inl rfl) (fun b u hb q=>(BO _ _ (Av hb)).trans q) ⟨_,e⟩ ?_
 exact⟨hz,its',n',r,e⟩
def rSetL:V->V->V->Hp->(Hp->Prop)->Prop:=fun o i v H Q=>∃ p xs k j,o=.ref p/\i=.int k/\H p=some (.lst xs)/\ixN xs.length k=some j/\Q (upd H p (.lst (xs.set j v)))
theorem zIn:PSet X rSetL:=by
 intro pins s σ H o i v ov iv u Q I ro ri rv h
 obtain⟨p,xs,k,j,rfl,rfl,hp,hj,q⟩:=h
 cases ro
 obtain⟨t,rfl⟩:=ri
 obtain⟨its,n,r,ho,hz⟩:=I.lst hp
 obtain⟨h1,h2,h3,h4⟩:=zFe hj
 have hl:=r.length
 have hn:=line63
 have I':Inv X pins σ (upd H p (.lst (xs.set j v))) { s with heap:=s.heap.update p (FB (·.setIfInBounds j u)) } :=
  I.lstUpd hp ho (zGN its n j u) (r.set rv j) (by rw[List.length_set]; exact hz) s.toks
 by_cases h0:0<=k
 ·have hk:k.toNat=j:=by
   rw[Hh h0 h4]at h1
   exact Ap h1
  exact PySem.W.ki_setAt ho h0 (by omega) (by rw[Ab,← hl]; exact h4) (by rw[hk]; exact⟨_,I',q⟩)
 ·have hk:(k+(its.toArray.size:Int)).toNat=j:=by
   rw[HU (by omega) h3]at h1
   rw[Ab,← hl]
   exact Ap h1
  exact PySem.W.ki_setBack ho (by omega) (by rw[Ab,← hl]; exact h3) (by omega) (by rw[hk]; exact⟨_,I',q⟩)
theorem zED(lo hi:Option Int)(n:Nat):(Dh lo hi none n).1=((HT.sIx n 0 lo:Nat):Int)/\(Dh lo hi none n).2.1=((HT.sIx n n hi:Nat):Int)/\(Dh lo hi none n).2.2=1:=by
 refine⟨?_,?_,rfl⟩
 ·cases lo with
  | none=>simp[Dh,HT.sIx]
  | some i =>
   simp only[Dh,HT.sIx,HG,show (1:Int) > 0 by decide,if_true]
   by_cases h:i < 0
   ·simp only[h,if_true] <;> omega
   ·simp only[h,if_false] <;> omega
 ·cases hi with
  | none=>simp[Dh,HT.sIx]
  | some i =>
   simp only[Dh,HT.sIx,HG,show (1:Int) > 0 by decide,if_true]
   by_cases h:i < 0
   ·simp only[h,if_true] <;> omega
   ·simp only[h,if_false] <;> omega
theorem zDi(its:List AB)(lo hi:Option Int):slicePick its.toArray lo hi none=((its.drop (HT.sIx its.length 0 lo)).take (HT.sIx its.length its.length hi - HT.sIx its.length 0 lo)).toArray:=by
 obtain⟨h1,h2,h3⟩:=zED lo hi its.toArray.size
 unfold slicePick
 rw[h1,h2,h3]
 simp only[sliceRange_one,pick_run,Ab] <;> rfl
def rSlL(K:AJ):V->Option Int->Option Int->Hp->VK->Prop:=fun x lo hi H Q=>∃ a xs,x=.ref a/\SqL K H a xs/\∀ p,H p=none->Q (.ref p) (upd H p (.lst (cutV xs lo hi)))
theorem zJC:SlR X (rSlL X.K):=by
 intro pins s σ H x v vl vu lo hi sl Q I rx hs pl pu h
 obtain⟨a,xs,rfl,hx,q⟩:=h
 cases rx
 obtain⟨its,r,ht,hz⟩:=I.list hx
 have hlen:=r.length
 refine⟨"list",_,IV.lookup,ht.isList.typeIs,?_⟩
 refine wpAny_getItem_list_slice ht.isList hs pl pu .none (by simp) ?_ (by rw[Ab] <;> omega)
 rw[zDi,← hlen]
 refine⟨.ref s.heap.objs.size,_,I.laid (t':=s.toks) (o:=.lst (cutV xs lo hi)) (fun b ob q=>AI _ q) (AL _) ?_,rfl,q _ (I.hok.fresh (AL _))⟩
 exact⟨As (zCA xs lo hi) hz,_,0,(r.drop (HT.sIx xs.length 0 lo)).take (HT.sIx xs.length xs.length hi - HT.sIx xs.length 0 lo),Ad _ rfl⟩
def flatV:V->Bool
 | .non=>true
 | .bl _=>true
 | .int _=>true
 | .str _=>true
 | _=>false
def eqV:V->V->Bool
 | .non,.non=>true
 | .bl a,.bl b=>a == b
 | .bl a,.int b=>(if a then 1 else 0) == b
 | .int a,.bl b=>a == (if b then 1 else 0)
 | .int a,.int b=>a == b
 | .str a,.str b=>a == b
 | _,_=>false
theorem zKw{A:A5}{s:AH}{y x:V}{u v:AB}(ry:RelV y u)(rx:RelV x v)(fy:flatV y=true)(fx:flatV x=true):JC A s u v (eqV y x):=by
 cases y with
 | non =>
  cases ry
  cases x with
  | non=>cases rx; exact KD _
  | bl b=>cases rx; exact KE b
  | int b=>obtain⟨t,rfl⟩:=rx; exact KG b t
  | str b=>obtain⟨t,rfl⟩:=rx; exact KH b t
  | _=>exact absurd (show false=true from fx) AQ
 | bl a =>
  cases ry
  cases x with
  | non=>cases rx; exact KI a
  | bl b=>cases rx; exact KJ a b
  | int b=>obtain⟨t,rfl⟩:=rx; exact KM a b t
  | str b=>obtain⟨t,rfl⟩:=rx; exact KN a b t
  | _=>exact absurd (show false=true from fx) AQ
 | int a =>
  obtain⟨t',rfl⟩:=ry
  cases x with
  | non=>cases rx; exact KO a t'
  | bl b=>cases rx; exact KP a t' b
  | int b=>obtain⟨t,rfl⟩:=rx; exact KQ a t' b t
  | str b=>obtain⟨t,rfl⟩:=rx; exact GK a t' b t
  | _=>exact absurd (show false=true from fx) AQ
 | str a =>
  obtain⟨t',rfl⟩:=ry
  cases x with
  | non=>cases rx; exact KR a t'
  | bl b=>cases rx; exact KS a t' b
  | int b=>obtain⟨t,rfl⟩:=rx; exact GL a t' b t
  | str b=>obtain⟨t,rfl⟩:=rx; exact KU a t' b t
  | _=>exact absurd (show false=true from fx) AQ
 | _=>exact absurd (show false=true from fy) AQ
def eqU(x:V)(u:AB):Bool:=match u with
 | .none=>eqV .non x
 | .bool b=>eqV (.bl b) x
 | .int i _=>eqV (.int i) x
 | .str z _=>eqV (.str z) x
 | _=>false
theorem zHO{x y:V}{u:AB}(r:RelV y u)(f:flatV y=true):eqU x u=eqV y x:=by
 cases y with
 | non=>cases r; rfl
 | bl b=>cases r; rfl
 | int i=>obtain⟨t,rfl⟩:=r; rfl
 | str z=>obtain⟨t,rfl⟩:=r; rfl
 | _=>exact absurd (show false=true from f) AQ
theorem zC8{x:V}:∀ {xs:List V} {us:List AB},Vals xs us->xs.all flatV=true->us.any (eqU x)=xs.any fun y=>eqV y x
 | _,_,.nil,_=>rfl
 | y::xs,u::us,.cons r t,f=>by
  rw[E8,Af]at f
  rw[CA,CA,zHO r f.1,zC8 t f.2]
theorem zCG{A:A5}{s:AH}{x:V}{v:AB}(rx:RelV x v)(fx:flatV x=true):∀ {xs:List V} {us:List AB},Vals xs us->xs.all flatV=true->∀ u∈us,JC A s u v (eqU x u)
 | _,_,.nil,_=>fun u hu=>by cases hu
 | y::xs,u::us,.cons r t,f=>fun u' hu=>by
  rw[E8,Af]at f
  rcases AF.mp hu with rfl | hu
  ·rw[zHO r f.1]; exact zKw r rx f.1 fx
  ·exact zCG rx fx t f.2 u' hu
def inV(x:V)(xs:List V):Bool:=xs.any fun y=>eqV y x
def rIn(K:AJ)(neg:Bool):R2:=fun x y H Q=>∃ p xs,y=.ref p/\(SqL K H p xs\/SqT K H p xs)/\flatV x=true/\xs.all flatV=true/\Q (.bl (if neg then !inV x xs else inV x xs)) H
theorem zGf:OpR X (BQ .In) (rIn X.K false):=by
 intro pins s σ H x y v u Q I rx ry h
 obtain⟨p,xs,rfl,hq,fx,fs,q⟩:=h
 cases ry
 rcases hq with hq | hq
 ·obtain⟨its,r,pl,hz⟩:=I.list hq
  refine SeqAt.in_listAt (eqU x) pl.isList (fun w hw=>zCG rx fx r fs w (by simpa using hw)) ⟨.bl _,H,I,rfl,?_⟩
  rw[show its.toArray.any (eqU x)=its.any (eqU x) by simp,zC8 r fs]
  exact q
 ·obtain⟨its,r,pl,hz⟩:=I.tuple hq
  refine SeqAt.in_tupleAt (eqU x) pl (fun w hw=>zCG rx fx r fs w (by simpa using hw)) ⟨.bl _,H,I,rfl,?_⟩
  rw[show its.toArray.any (eqU x)=its.any (eqU x) by simp,zC8 r fs]
  exact q
theorem call_len_seq:CallR X (.builtin "len") (fun xs H Q=>∃ p ys,xs=[.ref p]/\(SqL X.K H p ys\/SqT X.K H p ys)/\Q (.int ys.length) H):=by
 intro pins s σ H xs us Q I r h
 obtain⟨p,ys,rfl,hq,q⟩:=h
 obtain⟨u,rfl,rx⟩:=vals1 r
 cases rx
 have hn:=line63
 rcases hq with hq | hq
 ·obtain⟨its,r',pl,hz⟩:=I.list hq
  have hlen:=r'.length
  exact Calls.call_len_list pl.isList (by simp only[Ab] <;> omega) ⟨.int ys.length,H,I.tok _,⟨s.toks+1,by rw[Ab,hlen]⟩,q⟩
 ·obtain⟨its,r',pl,hz⟩:=I.tuple hq
  have hlen:=r'.length
  exact len_tuple pl (by simp only[Ab] <;> omega) ⟨.int ys.length,H,I.tok _,⟨s.toks+1,by rw[Ab,hlen]⟩,q⟩
theorem zEU:CallR X (.builtin "len") (fun xs H Q=>∃ z,xs=[.str z]/\z.length<=AC/\Q (.int z.length) H):=by
 intro pins s σ H xs us Q I r h
 obtain⟨z,rfl,hz,q⟩:=h
 obtain⟨u,rfl,t,rfl⟩:=vals1 r
 have hn:=line63
 exact len_str (by omega) ⟨.int z.length,H,I.tok _,⟨_,rfl⟩,q⟩
theorem CallR.or{f:AB}{r r':List V->Hp->VK->Prop}(h:CallR X f r)(h':CallR X f r'):CallR X f (fun xs H Q=>r xs H Q\/r' xs H Q):=by
 intro pins s σ H xs us Q I rs q
 rcases q with q | q
 ·exact h pins s σ H xs us Q I rs q
 ·exact h' pins s σ H xs us Q I rs q
theorem zDk:CallR X (.type "tuple") (fun xs H Q=>∃ p ys,xs=[.ref p]/\((SqL X.K H p ys/\∀ l,H l=none->Q (.ref l) (upd H l (.tup ys)))\/(SqT X.K H p ys/\Q (.ref p) H))):=by
 intro pins s σ H xs us Q I r h
 obtain⟨p,ys,rfl,h⟩:=h
 obtain⟨u,rfl,rx⟩:=vals1 r
 cases rx
 rcases h with ⟨hq,q⟩ | ⟨hq,q⟩
 ·obtain⟨its,r',pl,hz⟩:=I.list hq
  have hlen:=r'.length
  refine call_tuple_list pl.isList (fun h' kp=>?_) (by simp only[Ab] <;> omega)
  have I1:Inv X pins σ H { s with heap:=h' }:=I.kept (t':=s.toks) kp
  have I2:Inv X pins σ (upd H h'.objs.size (.tup ys)) { s with heap:=h'.push { cls:=.type "tuple",data:=.seq its.toArray } } :=
   I1.laid (t':=s.toks) (fun b o e=>AI _ e) (AL _) (show ObjOk X.prog X.w _ _ _ (.tup ys) from ⟨hz,its,r',TupD.new _ _⟩)
  exact⟨.ref h'.objs.size,_,I2,rfl,q _ (I1.hok.fresh (AL _))⟩
 ·obtain⟨its,r',pl,hz⟩:=I.tuple hq
  exact call_tuple_same pl ⟨.ref p,H,I,rfl,q⟩
def tyV(K:AJ)(T:String)(x:V)(H:Hp):Prop:=match x with
 | .str _=>T="str"
 | .int _=>T="int"
 | .ref p=>(T="list"/\∃ xs,SqL K H p xs)\/(T="tuple"/\∃ o,K.lookup p=some o/\o.cls=.type "tuple"/\o.dict=none) \/
   (T="dict"/\((∃ kvs,H p=some (.dK kvs))\/∃ kvs,H p=some (.dT kvs)))\/(T="set"/\∃ S n,H p=some (.set S n))
 | _=>False
theorem zGp{pins:List (Addr×Obj)}{σ:St}{H:Hp}{s:AH}{T:String}{x:V}{v:AB}(I:Inv X pins σ H s)(r:RelV x v)(ty:tyV X.K T x H) :
  s.TypeIs v T/\∀ a,v=.ref a->∃ ob,s.heap.get? a=some ob/\ob.dict=none:=by
 cases x with
 | str z =>
  obtain⟨t,rfl⟩:=r
  cases (show T="str" from ty)
  exact⟨Es s z t,fun _ e=>nomatch e⟩
 | int i =>
  obtain⟨t,rfl⟩:=r
  cases (show T="int" from ty)
  exact⟨IF s i t,fun _ e=>nomatch e⟩
 | ref p =>
  cases r
  rcases ty with ⟨rfl,xs,hq⟩ | ⟨rfl,o,hk,hc,hd⟩ | ⟨rfl,hk⟩ | ⟨rfl,S,n,hk⟩
  ·obtain⟨its,_,pl,_⟩:=I.list hq
   refine⟨pl.isList.typeIs,fun a e=>?_⟩
   cases e
   obtain⟨o,n,e,c,hd,_⟩:=pl
   exact⟨o,e,hd⟩
  ·refine⟨⟨o,I.kIn p o hk,hc⟩,fun a e=>?_⟩
   cases e
   exact⟨o,I.kIn _ o hk,hd⟩
  ·have z:∃ o,s.heap.get? p=some o/\o.ExactDict:=by
    rcases hk with ⟨kvs,hk⟩ | ⟨kvs,hk⟩
    ·obtain⟨_,_,_,_,o,_,_,e,ex,_⟩:=I.hok p _ hk
     exact⟨o,e,ex⟩
    ·obtain⟨_,_,_,_,o,_,_,e,ex,_⟩:=I.hok p _ hk
     exact⟨o,e,ex⟩
   obtain⟨o,e,ex⟩:=z
   refine⟨⟨o,e,ex.1⟩,fun a e2=>?_⟩
   cases e2
   exact⟨o,e,ex.2.1⟩
  ·obtain⟨o,_,_,_,e,ex,_⟩:=I.hok p _ hk
   refine⟨⟨o,e,ex.1⟩,fun a e2=>?_⟩
   cases e2
   exact⟨o,e,ex.2.1⟩
 | _=>exact BN ty
def tBM0(K:AJ)(T:String)(r:V->List V->Hp->VK->Prop)(to:TE):TE:=fun σ H Q=>to σ H fun x H1=>tyV K T x H1/\r x [] H1 Q
def tBM(K:AJ)(T:String)(r:V->List V->Hp->VK->Prop)(to:TE)(t:TA):TE:=fun σ H Q=>to σ H fun x H1=>tyV K T x H1/\t σ H1 fun xs H2=>r x xs H2 Q
variable {o e:Expr}{es:List Expr}{to:TE}{t:TA}{name:Str}{apos cpos:Pos}{T id:String}{r:V->List V->Hp->VK->Prop}
theorem pe_bm0(pa:PlainAttrs T)(slot:Slot T name id)(hty:Gm (.builtin id)=pure (.type "method_descriptor"))(hm:MtR X id r)(ho:PE X o to)
  (hbase:CK o name X.env (eval o X.env)=eval o X.env:=by rfl) (hline:(apos.endLine == cpos.line)=true:=by rfl):PE X (.Call (.Attribute o name apos) [] [] cpos) (tBM0 X.K T r to):=by
 intro pins s σ H Q I h
 refine wpAny_Call_method0_late hbase hline (thn (ho pins s σ H _ I h) fun v s1 ⟨x,H1,I1,r1,ty,q1⟩=>?_)
 obtain⟨h1,h2⟩:=zGp I1 r1 ty
 exact⟨T,id,pa,slot,hty,h1,h2,EH rfl (PySem.evalArgs_none (hm pins s1 σ H1 x [] v [] Q I1 r1 .nil q1))⟩
theorem zGL(pa:PlainAttrs T)(slot:Slot T name id)(hty:Gm (.builtin id)=pure (.type "method_descriptor"))(hm:MtR X id r)(ho:PE X o to)(ha:PA X (e::es) t)
  (hbase:CK o name X.env (eval o X.env)=eval o X.env:=by rfl)
  (hfew:((Bg cpos (AR (e::es) X.env)).all (fun x=>!x.1) && (Gn cpos (FC [] X.env)).all (fun x=>x.1.isSome)
   && decide ((e::es).length+([]:List EO).length+(if ([]:List EO).isEmpty then 0 else 1) < 30))=true:=by rfl)
  (hline:(apos.endLine == cpos.line)=true:=by rfl) (hs:AR (e::es) X.env=(false,eval e X.env)::AR es X.env:=by rfl) (hplain:(Bg cpos (AR es X.env)).any (·.1)=false:=by rfl) :
  PE X (.Call (.Attribute o name apos) (e::es) [] cpos) (tBM X.K T r to t):=by
 intro pins s σ H Q I h
 refine wpAny_Call_method_late hbase hfew hline rfl (thn (ho pins s σ H _ I h) fun v s1 ⟨x,H1,I1,r1,ty,q1⟩=>?_)
 obtain⟨h1,h2⟩:=zGp I1 r1 ty
 refine⟨T,id,pa,slot,hty,h1,h2,?_⟩
 have hA:=ha cpos pins s1 σ H1 _ I1 q1
 rw[hs]at hA ⊢
 refine EH (by show (false || (Bg cpos (AR es X.env)).any (·.1))=false; rw[hplain] <;> rfl) (Gp ?_)
 exact thn hA fun us s2 ⟨vs,H2,I2,r2,q2⟩=>hm pins s2 σ H2 x vs v us Q I2 r1 r2 q2
end
def MtM(X:Cx)(id:String)(r:V->List V->Hp->VK->Prop):Prop :=
 ∀ (pins:List (Addr×Obj)) (s:AH) (σ:St) (H:Hp) (x:V) (xs:List V) (v:AB) (us:List AB) (Q:VK),Inv X pins σ H s->RelV x v->Vals xs us->r x xs H Q ->
  AZ (model X.prog X.w) X.A (call (.builtin id) (v::us)) (EP X pins σ Q) X.xe s
theorem Vals.one:∀ {x:V} {us:List AB},Vals [x] us->∃ u,us=[u]/\RelV x u
 | _,_,.cons r .nil=>⟨_,rfl,r⟩
theorem Vals.zero:∀ {us:List AB},Vals [] us->us=[]
 | _,.nil=>rfl
theorem Vals.dropLast{xs:List V}{us:List AB}(h:Vals xs us):Vals xs.dropLast us.dropLast:=by
 induction h with
 | nil=>exact .nil
 | cons r t ih =>
  cases t with
  | nil=>exact .nil
  | cons q t'=>exact .cons r ih
theorem Vals.rep{xs:List V}{us:List AB}(h:Vals xs us):∀ k:Nat,Vals (AM k xs).flatten (AM k us).flatten
 | 0=>.nil
 | k+1=>by
  rw[BD,BD,Cg,Cg]
  exact Vals.append h (Vals.rep h k)
theorem zFi{α:Type}(l:List α):l.eraseIdx (l.length - 1)=l.dropLast:=by
 induction l with
 | nil=>rfl
 | cons a r ih =>
  cases r with
  | nil=>rfl
  | cons b r =>
   have e:(a::b::r).length - 1=((b::r).length - 1)+1:=by
    have h1:(a::b::r).length=r.length+2:=rfl
    have h2:(b::r).length=r.length+1:=rfl
    omega
   rw[e,List.eraseIdx_cons_succ,ih]
   all_goals rfl
theorem zDS(its:List AB):∀ (k:Nat) (acc:List AB),
  HH (fun x1 x2=>x1++x2) acc.toArray (AM k its.toArray)=(acc++(AM k its).flatten).toArray
 | 0,acc=>by simp
 | k+1,acc=>by
  have e:acc.toArray++its.toArray=(acc++its).toArray:=by simp
  have e2:(acc++its)++(AM k its).flatten=acc++(AM (k+1) its).flatten:=by
   rw[BD,Cg,A7]
  rw[← e2,← zDS its k (acc++its),← e,BD,CZ]
section
variable {X:Cx}{pins:List (Addr×Obj)}{σ:St}{H:Hp}{s:AH}{l b:Addr}{xs ys zs:List V}
theorem Inv.lset{its its':List AB}{n:Nat}{f:Array AB->Array AB}{t':Nat}(I:Inv X pins σ H s)(hH:H l=some (.lst xs))
  (e:s.heap.get? l=some { cls:=.type "list",data:=.seq its.toArray n }) (hf:f its.toArray=its'.toArray) (hv:Vals ys its') (hz:ys.length<=AC) :
  Inv X pins σ (upd H l (.lst ys)) { s with heap:=s.heap.update l (FB f),toks:=t' }:=by
 have q:=Ke e f
 rw[hf]at q
 refine I.write (x:=l) (e:=l) (by rw[hH]; exact trivial) (.inl rfl) (fun b' u hb hu=>(BO s.heap (FB f) (Av hb)).trans hu) ⟨_,q⟩ ?_
 exact⟨hz,its',_,hv,q⟩
theorem Inv.lnew{its:List AB}{t':Nat}(I:Inv X pins σ H s)(hv:Vals ys its)(hz:ys.length<=AC) :
  Inv X pins σ (upd H s.heap.objs.size (.lst ys)) { s with heap:=s.heap.push { cls:=.type "list",data:=.seq its.toArray },toks:=t' } :=
 I.laid (fun _ _ q=>AI _ q) (AL _) ⟨hz,its,0,hv,Ad _ rfl⟩
theorem Inv.fresh(I:Inv X pins σ H s):H s.heap.objs.size=none:=I.hok.fresh (AL _)
theorem Inv.lstM(I:Inv X pins σ H s)(hH:H l=some (.lst xs)):xs.length<=AC/\∃ (its:List AB) (n:Nat),Vals xs its/\xs.length=its.length/\s.heap.get? l=some { cls:=.type "list",data:=.seq its.toArray n }:=by
 obtain⟨z,its,n,r,e⟩:=I.hok l _ hH
 exact⟨z,its,n,r,r.length,e⟩
theorem notLongL{n:Nat}(h:n<=AC):Cj n=false:=by
 unfold Cj
 exact decide_eq_false (by omega)
end
section
variable {X:Cx}
def rAppend:V->List V->Hp->VK->Prop:=fun x vs H Q=>∃ l xs y,x=.ref l/\vs=[y]/\H l=some (.lst xs)/\xs.length < AC/\Q .non (upd H l (.lst (xs++[y])))
theorem mt_append:MtM X "list.append" rAppend:=by
 intro pins s σ H x vs v us Q I rx rv h
 obtain⟨l,xs,y,rfl,rfl,hH,hz,q⟩:=h
 cases rx
 obtain⟨u,rfl,ru⟩:=rv.one
 obtain⟨z,its,n,r,hl,e⟩:=I.lstM hH
 refine DB F.slot_list_append ⟨_,e,rfl⟩ F.entry_list_append (F.args_list_append_2 _ _) (PySem.list_append l its.toArray n u (by rw[Ab]; omega)) ⟨e,?_⟩
 refine⟨.non,_,I.lset (its':=its++[u]) hH e (by simp) (r.append (.cons ru .nil)) ?_,rfl,q⟩
 rw[Am,B0]
 omega
def rExtend:V->List V->Hp->VK->Prop:=fun x vs H Q=>∃ l b xs zs,x=.ref l/\vs=[.ref b]/\H l=some (.lst xs)/\H b=some (.lst zs)/\xs.length+zs.length<=AC/\Q .non (upd H l (.lst (xs++zs)))
theorem zMN:MtM X "list.extend" rExtend:=by
 intro pins s σ H x vs v us Q I rx rv h
 obtain⟨l,b,xs,zs,rfl,rfl,hH,hB,hz,q⟩:=h
 cases rx
 obtain⟨u,rfl,ru⟩:=rv.one
 cases ru
 obtain⟨z,its,n,r,hl,e⟩:=I.lstM hH
 obtain⟨z2,its2,n2,r2,hl2,e2⟩:=I.lstM hB
 have hsz:its.toArray.size+its2.toArray.size<=AC:=by rw[Ab,Ab]; omega
 have hlong:¬ (!its.toArray.isEmpty && Cj (its.toArray.size+its2.toArray.size))=true:=by
  rw[notLongL hsz,Fz]
  exact AQ
 refine DB F.slot_list_extend ⟨_,e,rfl⟩ F.entry_list_extend (F.args_list_extend_2 _ _)
  (AutoSeq1.list_extend_list_list_0 l its.toArray n b its2.toArray n2 hlong (by rw[Ab]; omega) (by omega)) ⟨e,e2,?_⟩
 refine⟨.non,_,I.lset (its':=its++its2) hH e (by simp) (r.append r2) ?_,rfl,q⟩
 rw[Am]
 omega
def rPop:V->List V->Hp->VK->Prop:=fun x vs H Q=>∃ l xs y,x=.ref l/\vs=[]/\H l=some (.lst xs)/\xs[xs.length - 1]?=some y/\Q y (upd H l (.lst xs.dropLast))
theorem mt_pop:MtM X "list.pop" rPop:=by
 intro pins s σ H x vs v us Q I rx rv h
 obtain⟨l,xs,y,rfl,rfl,hH,hy,q⟩:=h
 cases rx
 have hus:=rv.zero
 subst hus
 obtain⟨z,its,n,r,hl,e⟩:=I.lstM hH
 obtain⟨u,hu,ru⟩:=r.get hy
 have hy':its.toArray[its.toArray.size - 1]?=some u:=by
  show its.toArray[its.length - 1]?=some u
  rw[← Array.getElem?_toList,← hl]
  exact hu
 refine DB F.slot_list_pop ⟨_,e,rfl⟩ F.entry_list_pop (F.args_list_pop_1 _) (MeetsSeq.list_pop_last l its.toArray n u hy' (by rw[Ab]; omega)) ⟨e,?_⟩
 refine⟨y,_,I.lset (its':=its.dropLast) hH e ?_ r.dropLast ?_,ru,q⟩
 ·show its.toArray.eraseIdxIfInBounds (its.toArray.size - 1)=its.dropLast.toArray
  rw[Ab,List.eraseIdxIfInBounds_toArray,zFi]
 ·rw[List.length_dropLast]
  omega
def rCat:R2:=fun x y H Q=>∃ l b xs zs,x=.ref l/\y=.ref b/\H l=some (.lst xs)/\H b=some (.lst zs)/\xs.length+zs.length<=AC/\∀ p,H p=none->Q (.ref p) (upd H p (.lst (xs++zs)))
theorem zKu:OpR X (CU .Add) rCat:=by
 intro pins s σ H x y v u Q I rx ry h
 obtain⟨l,b,xs,zs,rfl,rfl,hH,hB,hz,q⟩:=h
 cases rx
 cases ry
 obtain⟨z,its,n,r,hl,e⟩:=I.lstM hH
 obtain⟨z2,its2,n2,r2,hl2,e2⟩:=I.lstM hB
 refine PySem.P.add_list e e2 ?_ (by rw[Ab,Ab]; omega)
 have ea:its.toArray++its2.toArray=(its++its2).toArray:=by simp
 rw[ea]
 exact⟨.ref _,_,I.lnew (t':=s.toks) (r.append r2) (by rw[Am]; omega),rfl,q _ I.fresh⟩
def rRep:R2:=fun x y H Q=>∃ l k xs,x=.ref l/\y=.int k/\H l=some (.lst xs)/\-(2 ^ 63)<=k/\k < 2 ^ 63/\xs.length * k.toNat<=AC /\
 ∀ p,H p=none->Q (.ref p) (upd H p (.lst (AM k.toNat xs).flatten))
theorem zKF{α:Type}(xs:List α)(k:Nat):(AM k xs).flatten.length=k * xs.length:=by
 induction k with
 | zero=>simp
 | succ k ih=>rw[BD,Cg,Am,ih,Nat.succ_mul,DC]
theorem zK5:OpR X (CU .Mult) rRep:=by
 intro pins s σ H x y v u Q I rx ry h
 obtain⟨l,k,xs,rfl,rfl,hH,h1,h2,hz,q⟩:=h
 cases rx
 obtain⟨t,rfl⟩:=ry
 obtain⟨z,its,n,r,hl,e⟩:=I.lstM hH
 have hlen:its.toArray.size * k.toNat<=AC:=by rw[Ab,← hl]; exact hz
 have hcap:¬ its.toArray.size * k.toNat > (2 ^ 63 - 1) / 8:=by
  have:(AC:Nat)<=(2 ^ 63 - 1) / 8:=by decide
  omega
 have hfit:¬ (!Builtin.List.listFitsIndex k)=true:=by
  rw[fitsIndex_both h1 h2]
  exact AQ
 have hlong:¬ Cj (its.toArray.size * k.toNat)=true:=by
  rw[notLongL hlen]
  exact AQ
 have hnew:HH (fun x1 x2=>x1++x2) #[] (AM (if its.toArray.isEmpty=true then 0 else k.toNat) its.toArray)=(AM k.toNat its).flatten.toArray:=by
  have f0:∀ m:Nat,HH (fun x1 x2=>x1++x2) #[] (AM m its.toArray)=(AM m its).flatten.toArray:=fun m=>by
   have:=zDS its m []
   rw[Bo]at this
   exact this
  rw[f0]
  cases its with
  | nil=>simp
  | cons a r'=>rw[if_neg (by simp)]
 refine wpAny_binaryOp_repeat_ref (T:="list") (U:="int") (by decide) ⟨_,e,rfl⟩ (fun s'=>IF s' k t) noFill_list_mul F.fills_int_mul IW repeat_list F.slot_int_index.lookup
  (DB IW (IF s k t) F.entry_int_rmul (F.args_int_rmul_2 _ _) (int___rmul___int_list k t l its.toArray n)
   ⟨e,rfl,⟨_,e,rfl⟩,DB F.slot_list_mul ⟨_,e,rfl⟩ F.entry_list_mul (F.args_list_mul_2 _ _) (Kh l its.toArray n k t hfit hcap hlong) ⟨e,?_⟩⟩)
 rw[hnew]
 exact⟨.ref _,_,I.lnew (t':=s.toks) (r.rep k.toNat) (by rw[zKF,Nat.mul_comm]; exact hz),rfl,q _ I.fresh⟩
end
end L2
namespace Att
open PySem PySem.W PySem.Calls PyProof.Rows
theorem zCk{P:J1}{h:Heap}:∀ (ns:List Int) (vs:List AB),WellAll P h vs (ns.map WData.int)->HW vs ns:=by
 intro ns
 induction ns with
 | nil =>
  intro vs w
  rw[FJ]at w
  cases w
  exact .nil
 | cons n ns ih =>
  intro vs w
  rw[Ah]at w
  cases w with
  | cons a b =>
   cases a
   exact .cons _ _ (ih _ b)
theorem zHM{l:OpenLaw}{n:Nat}(hn:l.most=some n){P:J1}{h:Heap}{args:List WData}{vals:List AB}
  (hpre:l.row.toRowW.claim.pre args=true) (hwl:WellAll P h vals args) :
  ∃ a vs ns,vals=[Aj a]/\args=[WData.list (ns.map WData.int)]/\h.get? a=some { cls:=.type "list",data:=.seq vs.toArray }/\HW vs ns/\ns.length<=n:=by
 have hsh:WShape.hasAll [] args [.list .int]=true:=(pre_splitW hpre).1
 have hc:l.pre.holds [] { args:=args }=true:=(pre_splitW hpre).2
 obtain⟨d,r,rfl,h1,h2⟩:=hasAllW_cons hsh
 obtain rfl:=hasAllW_nil h2
 obtain⟨xs,rfl,h3⟩:=hasW_list h1
 obtain⟨ns,rfl⟩:=items_int h3
 have hlen:ns.length<=n:=by
  unfold OpenLaw.pre at hc
  have h4:(WTm.not (.lt (.lit (.int (n:Int))) (.len (.arg 0)))).holds [] { args:=[.list (ns.map .int)] }=true:=by
   have h4:=(holds_andW hc).1
   rw[hn]at h4
   exact h4
  have h5:=condW_of h4 (w_not (w_lt w_lit (w_len_list (w_arg rfl))))
  rw[BA]at h5
  refine Nat.le_of_not_lt fun q=>?_
  have q':(n:Int) < ((ns.length:Nat):Int):=by omega
  first
   | (rw[decide_eq_true q']at h5; exact absurd h5 (by decide))
   | (simp at h5; omega)
 cases hwl with
 | cons w1 w2 =>
  cases w2
  cases w1 with
  | list ho hall=>exact⟨_,_,ns,rfl,rfl,ho,zCk ns _ hall,hlen⟩
theorem zHH(l:OpenLaw)(args:List WData):l.row.toRowW.claim.post args (.bool true) args=true :=
 postW_of (r:=l.row.toRowW) (X:=(true == true))
  (show WShape.has [] (.bool true) .bool=true by first | rfl | decide | simp[WShape.has,WShape.arms,WShape.armsAll])
  (show (WTm.eq .res (.lit (.bool true))).value [] { args:=args,res:=some (.bool true),after:=args }=some (.bool (true == true)) from w_eq_bool (w_res rfl) w_lit) rfl
theorem attach_call{l:OpenLaw}{n:Nat}{q:Ac}{loose:List Str}{XP:(Str->Option AB)->Heap->Prop}{YP:Al->Heap->Prop}{d:DefRec}
  (hn:l.most=some n) (hdf:d.params.defaults=[])
  (call:∀ (w:Al) (s₀ s₁:AH) (mg mb:Str->Option AB) (fa:Addr) (o:Obj) (pm cd doc:AB) (a:Addr) (vs:List AB) (ns:List Int),
   Ground q loose [] XP w s₀ mg mb s₁.heap->YP w s₁.heap ->
   s₁.heap.get? fa=some o->o.data=.func (docDef d.name d.params d.body d.scope pm cd doc)->s₁.heap.CodeRec cd d.name->mg d.name=some (.ref fa) ->
   s₁.heap.get? a=some { cls:=.type "list",data:=.seq vs.toArray }->HW vs ns->ns.length<=n->s₁.gens=#[] ->
   EM (model l.prog w) Fs (.call (.ref fa) ⟨[.ref a],[]⟩) (fun r s'=>r=.ok (.ret (.bool true))/\OldK s₁.heap s'.heap/\s'.os=s₁.os/\Dw s'.gens) s₁) :
  WalkO q loose XP YP l.row.toRowW d [] (fun f vs=>G7 f vs):=by
 intro w s₀ s₁ mg mb G Y fa o pm cd doc dV kV ho hd hcd hD hmg hg args vals as hpre hlay hrd hwl hlo
 obtain rfl:dV=.none:=Dflts.none hD hdf
 obtain rfl:kV=.none:=Dflts.noKw hD
 obtain⟨a,vs,ns,rfl,rfl,hobj,hints,hlen⟩:=zHM hn hpre hwl
 refine enter_call (Dx (call w s₀ s₁ mg mb fa o pm cd doc a vs ns G Y ho (fd_plain hd) hcd hmg hobj hints hlen hg) fun r s' hq=>?_)
 obtain⟨rfl,h2,h3,h4⟩:=hq
 exact⟨.inl ⟨.bool true,.bool true,[],rfl,fun _=>rfl,.bool true,zHH l _,fun _=>⟨JD,fun _ hm=>(nomatch hm)⟩⟩,h2,h3,h4⟩
end Att
namespace L2
open PySem PySem.Spec PyProof.Rows
theorem zDA:∀ {vs:List AB} {ns:List Int},HW vs ns->Vals (ns.map V.int) vs
 | _,_,.nil=>.nil
 | _,_,.cons n t h=>.cons ⟨t,rfl⟩ (zDA h)
def Only(H:Hp):Prop:=∀ b,H b=none\/∃ o xs,H b=some (.frz o (.lst xs))
theorem zIN{P:Ac}{w:Al}{K:AJ}{mg mb:Str->Option AB}{CX:CXT}{k:Nat}{fa a:Addr}{fd:An}{x:Str}{sp:Sp}{s₁:AH}{vs:List AB}{ns:List Int}
  (KX:K.In s₁.heap) (hns:s₁.heap.Ns AU mg) (hb:s₁.heap.Ns Gc mb) (hbb:∀ x:Str,x≠"__name__"->mb x=Bn x) (hlim:s₁.heap.NoLimit) (hg:s₁.gens=#[])
  (ha:s₁.heap.get? a=some { cls:=.type "list",data:=.seq vs.toArray }) (hi:HW vs ns) (hl:ns.length<=AC) (hr:Room k Fs)
  (F:∀ base:Heap,K.In base->base.Ns AU mg->FnOk P w K mg base CX k fa fd [x] sp) (hbind:∀ (s:AH) (u:AB),Fq s fd ⟨[u],[]⟩ [(x,u)])
  (hsp:∀ H:Hp,Only H->SqL K H a (ns.map V.int)->sp [.ref a] H (fun v _=>v=.bl true) fun _ _ _=>False)
  (hCX:∀ H e s',CX [] H s₁ (fun _ _ _=>False) e s'->False) :
  EM (model P w) Fs (.call (.ref fa) ⟨[.ref a],[]⟩) (fun r s'=>r=.ok (.ret (.bool true))/\OldK s₁.heap s'.heap/\s'.os=s₁.os/\Dw s'.gens) s₁:=by
 have rv:=zDA hi
 have lenV:=hi.length
 have core:∀ H:Hp,Only H->SqL K H a (ns.map V.int)->HOk P w H s₁.heap->(∀ b,H b≠none->b=a)->(H a≠none->K.lookup a=none) ->
   EM (model P w) Fs (.call (.ref fa) ⟨[.ref a],[]⟩) (fun r s'=>r=.ok (.ret (.bool true))/\OldK s₁.heap s'.heap/\s'.os=s₁.os/\Dw s'.gens) s₁:=by
  intro H hO hS hok hA hK
  have base_of:∀ {b:Addr} {o:Obj},s₁.heap.get? b=some o->H b=none->(hidT s₁.heap H).get? b=some o:=fun e n=>zIA e n
  have noA:∀ {b:Addr} {o:Obj} {es:Array D6} {ep:Nat},s₁.heap.get? b=some o->o.data=.dict es ep->H b=none:=fun {b o es ep} e d=>by
   cases q:H b with
   | none=>rfl
   | some u =>
    have e':b=a:=hA b (by rw[q]; simp)
    subst e'
    rw[ha]at e; cases e
    have d':Gw vs.toArray _=FT es ep:=d
    cases d'
  have nsK:∀ {b:Addr} {m:Str->Option AB},s₁.heap.Ns b m->(hidT s₁.heap H).Ns b m:=fun {b m} ⟨o,es,ep,e,d,r⟩=>⟨o,es,ep,base_of e (noA e d),d,r⟩
  have hKb:K.In (hidT s₁.heap H):=fun b o e=>base_of (KX b o e) (by
   cases q:H b with
   | none=>rfl
   | some u =>
    have e':b=a:=hA b (by rw[q]; simp)
    subst e'
    rw[hK (by rw[q]; simp)]at e; cases e)
  have hM:Mod K mg (hidT s₁.heap H):=⟨hKb,nsK hns,⟨mb,nsK hb,hbb⟩,let ⟨mc,h1,h2⟩:=hlim; ⟨mc,nsK h1,h2⟩⟩
  have e0:Env0 P w K mg (hidT s₁.heap H) Fs [] s₁ H:=⟨rfl,hM,fun b o e=>zJk e,JE (zG4 _ _),trivial,fun b hb=>absurd (show b∈([]:List Addr) from hb) (by simp),hok,.of_eq hg⟩
  refine Dx ((F _ hKb (nsK hns)).run Fs [] s₁ H ⟨[.ref a],[]⟩ [.ref a] [.ref a] _ _ hr e0 (hbind s₁ (.ref a)) (.cons rfl .nil) (hsp H hO hS)) fun r s' h=>?_
  cases r with
  | error e=>exact (hCX H e s' h).elim
  | ok fl =>
   cases fl with
   | next=>exact BN h
   | brk=>exact BN h
   | cont=>exact BN h
   | ret u =>
    obtain⟨v,H',os,bare,un,hok',r',q⟩:=h
    have q':v=.bl true:=q
    subst q'
    obtain rfl:u=EG true:=r'
    refine⟨rfl,OldK.of_keep fun b o e=>?_,os,bare⟩
    cases q:H b with
    | none=>exact un.keep b o e q (by intro z; exact absurd (show b∈([]:List Addr) from z) (by simp)) (by simp)
    | some u =>
     rcases hO b with z | ⟨ob,xs,z⟩
     ·rw[q]at z; cases z
     ·have z2:=un.frzs b ob _ z
      obtain⟨e1,_⟩:=hok b _ z
      obtain⟨e2,_⟩:=hok' b _ z2
      rw[e]at e1; cases e1
      exact e2
 cases hk:K.lookup a with
 | some o =>
  have e:=KX a o hk
  rw[ha]at e
  cases e
  refine core (fun _=>none) (fun _=>.inl rfl) (.inr ⟨_,vs.toArray,_,hk,rfl,rfl,rfl,by rw[Ab,lenV]; exact hl,by simpa using rv⟩) (fun b u z=>by have z':(none:Option HO)=some u:=z; cases z') (fun b z=>absurd rfl z) fun z=>absurd rfl z
 | none =>
  refine core (fun b=>if b=a then some (.frz { cls:=.type "list",data:=.seq vs.toArray } (.lst (ns.map V.int))) else none) (fun b=>?_) (.inl (.inr ⟨{ cls:=.type "list",data:=.seq vs.toArray },if_pos rfl⟩)) (fun b u z=>?_) (fun b z=>?_) fun _=>hk
  ·by_cases hb:b=a
   ·exact .inr ⟨_,_,if_pos hb⟩
   ·exact .inl (if_neg hb)
  ·by_cases hb:b=a
   ·have z':=(if_pos hb).symm.trans z
    cases z'
    subst hb
    exact⟨ha,by rw[BA]; exact hl,vs,_,rv,ha⟩
   ·have z':=(if_neg hb).symm.trans z
    cases z'
  ·by_cases hb:b=a
   ·exact hb
   ·exact absurd (if_neg hb) z
theorem walk_of{l:FM}{n k:Nat}{q:Ac}{loose:List Str}{XP:(Str->Option AB)->Heap->Prop}{YP:Al->Heap->Prop}{d:DefRec}{K:J1->AJ}{CX:Al->CXT}{sp:Al->Sp}{x:Str}
  (hn:l.most=some n) (hn2:n<=AC) (hdf:d.params.defaults=[]) (hr:Room k Fs)
  (hY:∀ (w:Al) (h:Heap),YP w h->(K w.params).In h)
  (F:∀ (w:Al) (mg:Str->Option AB) (fa:Addr) (h:Heap),(K w.params).In h->h.Ns AU mg->mg d.name=some (.ref fa) ->
   ∃ fd:An,(∀ (s:AH) (u:AB),Fq s fd ⟨[u],[]⟩ [(x,u)]) /\
    ∀ base:Heap,(K w.params).In base->base.Ns AU mg->FnOk l.prog w (K w.params) mg base (CX w) k fa fd [x] (sp w))
  (hsp:∀ (w:Al) (H:Hp) (a:Addr) (ns:List Int),ns.length<=n->Only H->SqL (K w.params) H a (ns.map V.int)->sp w [.ref a] H (fun v _=>v=.bl true) fun _ _ _=>False)
  (hCX:∀ (w:Al) (H:Hp) (s:AH) (e:AB) (s':AH),CX w [] H s (fun _ _ _=>False) e s'->False) :
  Ha q loose XP YP l.row.toRowW d [] (fun f vs=>G7 f vs):=by
 refine Att.attach_call hn hdf fun w s₀ s₁ mg mb fa o pm cd doc a vs ns G Y ho hd hcd hmg hobj hints hlen hg=>?_
 have KX:=hY w _ Y
 obtain⟨fd,hb,hF⟩:=F w mg fa _ KX G.T.g hmg
 exact zIN KX G.T.g G.T.b G.T.builtins G.T.nolimit hg hobj hints (As hlen hn2) hr hF hb (fun H hO hS=>hsp w H a ns hlen hO hS) fun H e s'=>hCX w H s₁ e s'
def defArgs(s:Stmt):Iz:=match s with
 | .FunctionDef _ a _ _ _ _ _ _ _ _=>a
 | _=>{ posonlyargs:=[],args:=[],vararg:=none,kwonlyargs:=[],kw_defaults:=[],kwarg:=none,defaults:=[] }
def defBody(s:Stmt):List Stmt:=match s with
 | .FunctionDef _ _ b _ _ _ _ _ _ _=>b
 | _=>[]
def defScope(s:Stmt):Bv:=match s with
 | .FunctionDef _ _ _ _ _ _ sc _ _ _=>sc
 | _=>{ kind:=.function,names:=[],isGenerator:=false,isCoroutine:=false }
abbrev CX0:CXT:=fun _ _ _ _ _ _=>False
abbrev E0:XK:=fun _ _ _=>False
theorem pass0{X:Cx}:Passes CX0 X E0:=fun _ _ _ _ _ _ _ h=>h.elim
structure Fun(K:AJ)(x qual:Str)(st:Stmt)(f:Addr)(fd:An):Prop where
 ex:∃ (oc:AB) (od:Option Addr) (kV doc pm:AB) (an:Option Addr) (cdv ct:AB) (osl:Array (Option AB)),
  fd=Ck x qual (defArgs st) (defBody st) (defScope st) .none kV doc pm an cdv ct/\K.lookup f=some ⟨oc,od,.func fd,osl⟩/\Ce K cdv qual=true
 kp:BC K (.ref f)=true
section
variable {P:Ac}{w:Al}{K:AJ}{mg:Str->Option AB}{base:Heap}
theorem Fun.ok{x qual:Str}{st:Stmt}{f:Addr}{fd:An}{N ps:List Str}{k:Nat}{sp:Sp}(F:Fun K x qual st f fd)(S:FnScope N ps (defScope st))(len:∀ vs H Q E,sp vs H Q E->vs.length=ps.length)
  (hbody:∀ (cdv:AB) (A:A5) (outer:List Env) (s:AH) (H:Hp) (vs:List V) (Q:VK) (E:XK),Room k (A.deeper (Ep qual (defScope st) s.heap.objs.size f cdv))->sp vs H Q E ->
   ∃ t,PSs (cxOf CX0 P w K mg base N qual (defScope st) f cdv A outer s H E).nox (defBody st) t/\t { nx:=fun _ H'=>Q .non H',rt:=Q } (start N vs) H):FnOk P w K mg base CX0 (k+1) f fd ps sp:=by
 obtain⟨oc,od,kV,doc,pm,an,cdv,ct,osl,rfl,lk,hcd⟩:=F.ex
 refine fn_of lk hcd S len fun A outer s H vs Q E hr hsp=>?_
 obtain⟨t,h,q⟩:=hbody cdv A outer s H vs Q E hr hsp
 exact⟨t,h.nox,q⟩
theorem Fun.binds{x qual:Str}{st:Stmt}{f:Addr}{fd:An}{ps:List Str}(F:Fun K x qual st f fd)
  (h:∀ (kV doc pm:AB) (an:Option Addr) (cdv ct:AB) (us:List AB),us.length=ps.length->bindArgs (Ck x qual (defArgs st) (defBody st) (defScope st) .none kV doc pm an cdv ct) ⟨us,[]⟩=pure (ps.zip us)):Binds K fd ps []:=by
 obtain⟨oc,od,kV,doc,pm,an,cdv,ct,osl,rfl,lk,hcd⟩:=F.ex
 exact .all (h kV doc pm an cdv ct)
theorem zDv{x qual:Str}{st:Stmt}{f:Addr}{oc:AB}{od an:Option Addr}{osl:Array (Option AB)}{kV doc pm cdv ct:AB}(l:K.lookup f=some ⟨oc,od,.func (Ck x qual (defArgs st) (defBody st) (defScope st) .none kV doc pm an cdv ct),osl⟩)
  (c:Ce K cdv qual=true) (k:BC K (.ref f)=true):Fun K x qual st f (Ck x qual (defArgs st) (defBody st) (defScope st) .none kV doc pm an cdv ct):=⟨⟨oc,od,kV,doc,pm,an,cdv,ct,osl,rfl,l,c⟩,k⟩
end
def Same(H H':Hp):Prop:=∀ b o,H b=some o->H' b=some o
theorem Same.refl(H:Hp):Same H H:=fun _ _ h=>h
end L2
set_option maxHeartbeats 4000000
namespace L2
open PySem PySem.Spec PyProof.Rows
def cloOf(cells:List (Str×Addr)):List (Str×B6)->List (Str×Addr)->List (Str×Addr)
 | [],acc=>acc
 | (n,k)::r,acc=>if k == .free then cloOf cells r ((n,(cells.lookup n).getD 0)::acc) else cloOf cells r acc
theorem zDe{scope:Bv}{env:Env}(h:∀ x∈scope.names,x.2=.free->∃ c,env.cells.lookup x.1=some c):closureFor scope env=pure (cloOf env.cells scope.names []):=by
 have go:∀ (names:List (Str×B6)) (acc:List (Str×Addr)),(∀ x∈names,x.2=.free->∃ c,env.cells.lookup x.1=some c) ->
   (forIn names acc fun (x:Str×B6) (cs:List (Str×Addr))=>if (x.2 == BU)=true then (do let c ← cellOf env x.1; pure (Cs ((x.1,c)::cs))) else (pure (Cs cs):Sem _))=(pure (cloOf env.cells names acc):Sem _):=by
  intro names
  induction names with
  | nil=>intro acc _; rfl
  | cons x r ih =>
   intro acc hx
   obtain⟨n,k⟩:=x
   rw[DQ]
   have hr:=fun acc=>ih acc fun y hy=>hx y (AG _ hy)
   unfold cloOf
   by_cases hk:(k == BU)=true
   ·obtain⟨c,hc⟩:=hx (n,k) AE (by simpa using hk)
    have hc':env.cells.lookup n=some c:=hc
    have e:cellOf env n=pure c:=by unfold cellOf; rw[hc']
    simp only[hk,if_true,e,hc',HI,pure_bind]
    exact hr _
   ·simp only[hk,if_false,pure_bind]
    exact hr _
 unfold closureFor
 have:=go scope.names [] h
 simp only[bind_pure]
 exact this
theorem zAr{cells:List (Str×Addr)}{x:Str}{c:Addr}:∀ (names:List (Str×B6)) (acc:List (Str×Addr)),(cloOf cells names acc).lookup x=some c->((x,BU)∈names/\c=(cells.lookup x).getD 0)\/acc.lookup x=some c
 | [],acc,h=>.inr h
 | (n,k)::r,acc,h=>by
  unfold cloOf at h
  by_cases hk:(k == BU)=true
  ·rw[if_pos hk]at h
   have hk':k=.free:=by simpa using hk
   subst hk'
   rcases zAr r _ h with ⟨a,b⟩ | h'
   ·exact .inl ⟨AG _ a,b⟩
   ·clear h
    rw[BR]at h'
    cases e:x == n with
    | true =>
         rw[e]at h'; have q:x=n:=by simpa using e
         subst q
         have q2:(cells.lookup x).getD 0=c:=Ap h'
         exact .inl ⟨AE,q2.symm⟩
    | false=>rw[e]at h'; exact .inr h'
  ·rw[if_neg hk]at h
   rcases zAr r _ h with ⟨a,b⟩ | h
   ·exact .inl ⟨AG _ a,b⟩
   ·exact .inr h
theorem zBb{cells:List (Str×Addr)}{x:Str}:∀ (names:List (Str×B6)) (acc:List (Str×Addr)),((x,BU)∈names\/(acc.lookup x).isSome=true)->((cloOf cells names acc).lookup x).isSome=true
 | [],acc,h=>h.elim (fun z=>nomatch z) id
 | (n,k)::r,acc,h=>by
  unfold cloOf
  by_cases hk:(k == BU)=true
  ·rw[if_pos hk]
   refine zBb r _ ?_
   by_cases e:x=n
   ·subst e; exact .inr (by simp)
   ·rcases h with h | h
    ·rcases AF.mp h with h | h
     ·cases h; exact absurd rfl e
     ·exact .inl h
    ·refine .inr ?_
     rw[BR]
     have:(x == n)=false:=by simpa using e
     rw[this]; exact h
  ·rw[if_neg hk]
   refine zBb r _ ?_
   rcases h with h | h
   ·rcases AF.mp h with h | h
    ·cases h; exact absurd rfl hk
    ·exact .inl h
   ·exact .inr h
theorem zA1{x:Str}{c:Addr}:∀ (names:List (Str×B6)) (n:Nat) (acc:List (Str×Addr)),(BI n names acc).lookup x=some c->(n<=c/\(x,BZ)∈names)\/acc.lookup x=some c
 | [],_,acc,h=>.inr h
 | (y,k)::r,n,acc,h=>by
  unfold BI at h
  by_cases hk:(k == BZ)=true
  ·rw[if_pos hk]at h
   have hk':k=.cell:=by simpa using hk
   subst hk'
   rcases zA1 r _ _ h with ⟨a,b⟩ | h'
   ·exact .inl ⟨by omega,AG _ b⟩
   ·clear h
    rw[BR]at h'
    cases e:x == y with
    | true =>
         rw[e]at h'; have q:x=y:=by simpa using e
         have q2:n=c:=Ap h'
         subst q q2; exact .inl ⟨AL _,AE⟩
    | false=>rw[e]at h'; exact .inr h'
  ·rw[if_neg hk]at h
   rcases zA1 r _ _ h with ⟨a,b⟩ | h
   ·exact .inl ⟨a,AG _ b⟩
   ·exact .inr h
theorem zEc{x:Str}{c:Addr}:∀ (names:List (Str×B6)) (n:Nat) (acc:List (Str×Addr)),(x,c)∈BI n names acc->n<=c\/(x,c)∈acc
 | [],_,acc,h=>.inr h
 | (y,k)::r,n,acc,h=>by
  unfold BI at h
  by_cases hk:(k == BZ)=true
  ·rw[if_pos hk]at h
   rcases zEc r _ _ h with a | h
   ·exact .inl (by omega)
   ·rcases AF.mp h with h | h
    ·cases h; exact .inl (AL _)
    ·exact .inr h
  ·rw[if_neg hk]at h
   exact zEc r _ _ h
theorem zD2{x y:Str}{c:Addr}:∀ (names:List (Str×B6)) (n:Nat) (acc:List (Str×Addr)),(∀ p∈acc,p.2 < n)->n<=c->(x,c)∈BI n names acc->(y,c)∈BI n names acc->x=y
 | [],n,acc,ha,hc,h1,_=>by have q:c < n:=ha _ h1; exact absurd (AY q hc) (BM _)
 | (z,k)::r,n,acc,ha,hc,h1,h2=>by
  unfold BI at h1 h2
  by_cases hk:(k == BZ)=true
  ·rw[if_pos hk]at h1 h2
   have ha':∀ p∈(z,n)::acc,p.2 < n+1:=fun p hp=>by
    rcases AF.mp hp with h | h
    ·subst h; exact EI _
    ·exact Hb (ha p h)
   by_cases hcn:n+1<=c
   ·exact zD2 r _ _ ha' hcn h1 h2
   ·have hcn':c=n:=Nat.le_antisymm (J2.mp hcn) hc
    subst hcn'
    have g:∀ w,(w,c)∈BI (c+1) r ((z,c)::acc)->w=z:=fun w hw=>by
     rcases zEc r _ _ hw with a | a
     ·exact absurd a (Nat.not_succ_le_self _)
     ·rcases AF.mp a with a | a
      ·cases a; rfl
      ·have:=ha _ a; exact absurd this (BM _)
    rw[g x h1,g y h2]
  ·rw[if_neg hk]at h1 h2
   exact zD2 r _ _ ha hc h1 h2
theorem zCx{x:Str}{c:Addr}:∀ (names:List (Str×B6)) (h:Heap) (acc:List (Str×Addr)),(∀ p∈acc,∃ v,h.IsCell p.2 v)->(x,c)∈BI h.objs.size names acc->∃ v,(Eb h names).IsCell c v
 | [],_,acc,ha,hm=>ha _ hm
 | (z,k)::r,h,acc,ha,hm=>by
  unfold BI at hm
  unfold Eb
  by_cases hk:(k == BZ)=true
  ·rw[if_pos hk]at hm ⊢
   refine zCx r (h.push { cls:=.type "cell",data:=.cell none }) ((z,h.objs.size)::acc) (fun p hp=>?_) (by rw[Bx]; exact hm)
   rcases AF.mp hp with e | e
   ·subst e; exact⟨none,_,Ad _ rfl,rfl⟩
   ·obtain⟨v,q⟩:=ha p e
    exact⟨v,q.keeps fun b o e=>AI _ e⟩
  ·rw[if_neg hk]at hm ⊢
   exact zCx r h acc ha hm
theorem zEv{M:GM}{A:A5}{E:AB->AH->Prop}{s:AH}{scope:Bv}{globals:Addr}{cl:List (Str×Addr)}{qual:Str}{env:Env}{Q:Env->AH->Prop}
  (hQ:Q (newEnv scope s.heap.objs.size globals (BI (s.heap.objs.size+1) scope.names cl) qual none .none (some env) Gc) { s with heap:=Eb (s.heap.push { cls:=.type "dict",data:=.dict #[] }) scope.names }) :
  AZ M A (J3 scope globals cl [] qual none .none (some env)) Q E s:=by
 simp only[J3,Gx,if_true]
 refine AA (wpAny_alloc ?_)
 refine AA (wpAny_layCells _ (fun name kind cells=>by cases hkc:kind == BZ <;> simp[hkc]) _ _ _ _ ?_)
 rw[show ({ s with heap:=s.heap.push { cls:=.type "dict",data:=.dict #[] } }:AH).heap.objs.size=s.heap.objs.size+1 from Bx ..]
 refine AA ?_
 rw[Ej]
 exact AO (AO hQ)
def compOk(N N':List Str)(ix:List (Option Nat))(outer names:List (Str×B6)):Bool :=
 decide (N'.length=ix.length) && ((N'.zip ix).all fun p=>match p.2 with | none=>true | some j=>decide (N[j]?=some p.1) && names.contains (p.1,BU)) &&
 (names.all fun p=>(p.2 != .free || outer.lookup p.1 == some .cell || outer.lookup p.1 == some .free) && (p.2 != .local || names.lookup p.1 == some .local) && (p.2 != .cell || names.lookup p.1 == some .cell) && (p.2 != .free || names.lookup p.1 == some .free))
def frm(ix:List (Option Nat))(σ:St):St:=ix.map fun o=>o.bind fun j=>(σ[j]?).join
def cxC(X:Cx)(N:List Str)(scope:Bv)(C:Addr)(cs:List (Str×Addr))(s:AH)(H:Hp)(ex:List Addr):Cx where
 prog:=X.prog
 w:=X.w
 K:=X.K
 mg:=X.mg
 base:=X.base
 A:=X.A
 N:=N
 s₀:=s
 H₀:=H
 env:=FE scope cs C X.env
 outer:=X.stack
 stack:=X.stack
 ex:=ex
 fn:=fun x=>scope.names.lookup x == some .cell
 calm:=X.calm
 pn:=[]
 xe:=fun _ _=>False
structure CompOk(X:Cx)(N':List Str)(ix:List (Option Nat))(scope:Bv):Prop where
 kind:scope.kind=.function
 ok:compOk X.N N' ix X.env.scope.names scope.names=true
section
variable {X:Cx}{N':List Str}{ix:List (Option Nat)}{scope:Bv}
theorem CompOk.len(S:CompOk X N' ix scope):N'.length=ix.length:=by
 have h:=S.ok; unfold compOk at h; simp only[Af,decide_eq_true_eq]at h; exact h.1.1
theorem CompOk.name(S:CompOk X N' ix scope){p:Str×B6}(hp:p∈scope.names) :
  (p.2=.free->X.env.scope.names.lookup p.1=some .cell\/X.env.scope.names.lookup p.1=some .free)/\(p.2=.local->scope.names.lookup p.1=some .local)/\(p.2=.cell->scope.names.lookup p.1=some .cell)/\(p.2=.free->scope.names.lookup p.1=some .free):=by
 have h:=S.ok; unfold compOk at h; simp only[Af]at h
 have q:=A4.mp h.2 p hp
 simp only[Af,EV,bne_iff_ne,beq_iff_eq,ne_eq]at q
 obtain⟨⟨⟨a,b⟩,c⟩,d⟩:=q
 refine⟨fun e=>?_,fun e=>?_,fun e=>?_,fun e=>?_⟩
 ·rcases a with (a | a) | a
  ·exact absurd e a
  ·exact .inl a
  ·exact .inr a
 ·exact b.resolve_left fun z=>z e
 ·exact c.resolve_left fun z=>z e
 ·exact d.resolve_left fun z=>z e
theorem CompOk.at(S:CompOk X N' ix scope){i j:Nat}{x:Str}(h1:N'[i]?=some x)(h2:ix[i]?=some (some j)):X.N[j]?=some x/\(x,BU)∈scope.names:=by
 have h:=S.ok; unfold compOk at h; simp only[Af]at h
 have hz:(x,some j)∈N'.zip ix:=by
  have:(N'.zip ix)[i]?=some (x,some j):=by rw[GD]; exact⟨h1,h2⟩
  exact B8 this
 have q:=A4.mp h.1.2 _ hz
 simp only[Af,decide_eq_true_eq,List.contains_iff_mem]at q
 exact q
theorem zKh{σ:St}{i:Nat}{v:V}(h:(frm ix σ)[i]?=some (some v)):∃ j,ix[i]?=some (some j)/\σ[j]?=some (some v):=by
 unfold frm at h
 rw[Ai]at h
 cases e:ix[i]? with
 | none=>rw[e]at h; cases h
 | some o =>
  rw[e]at h
  cases o with
  | none=>cases h
  | some j =>
   have h':(σ[j]?).join=some v:=Ap h
   refine⟨j,rfl,?_⟩
   cases e2:σ[j]? with
   | none=>rw[e2]at h'; cases h'
   | some w=>rw[e2]at h'; rw[show w=some v from h']
theorem zBN{env:Env}:∀ (names:List (Str×B6)) (x:Str),
  (names.map fun (n,k)=>if (k == BU && env.scope.kind == .function && env.kindOf n == some .cell) then (n,BZ) else (n,k)).lookup x =
   match names.lookup x with
   | some .free=>if (env.scope.kind == .function && env.kindOf x == some .cell) then some BZ else some .free
   | o=>o
 | [],_=>rfl
 | (n,k)::r,x=>by
  have ih:=zBN (env:=env) r x
  rw[Ah]
  show JF x ((if (k == BU && env.scope.kind == .function && env.kindOf n == some .cell)=true then (n,BZ) else (n,k))::_)=_
  cases hx:x == n with
  | true =>
   have e:x=n:=by simpa using hx
   subst e
   simp only[BR,beq_self_eq_true]
   cases k <;> by_cases hc:(env.scope.kind == .function && env.kindOf x == some .cell)=true <;> simp[BR,hc] <;> simp_all
  | false =>
   simp only[BR,hx]
   rw[← ih]
   split <;> simp only[BR,hx]
theorem kindC{cs:List (Str×Addr)}{C:Addr}(x:Str):(FE scope cs C X.env).kindOf x =
   match scope.names.lookup x with
   | some .free=>if (X.env.scope.kind == .function && X.env.kindOf x == some .cell) then some BZ else some .free
   | o=>o:=zBN scope.names x
end
theorem zH0{X:Cx}{N':List Str}{ix:List (Option Nat)}{scope:Bv}(S:CompOk X N' ix scope){pins:List (Addr×Obj)}{σ:St}{H:Hp}{s:AH}{fp:List Addr}{D:Addr}{o:Obj}
  (I:Inv X pins σ H s) (hf:∀ b∈fp,FpOk X pins H b) (ho:∀ b∈fp,∃ o,s.heap.get? b=some o) (hc:X.calm=true) {h3:Heap} {C:Addr} (hk3:∀ b u,s.heap.get? b=some u->h3.get? b=some u) (hC:C=h3.objs.size) (hs3:s.heap.objs.size<=h3.objs.size) {h4:Heap}
  (h4e:h4=Eb (h3.push { cls:=.type "dict",data:=.dict #[] }) scope.names) {t4:Nat} :
  Inv (cxC X N' scope C (BI (C+1) scope.names (cloOf X.env.cells scope.names [])) s H fp) [] (frm ix σ) H { s with heap:=h4,toks:=t4 }:=by
 have hsz:s.heap.objs.size<=C:=by rw[hC]; exact hs3
 have hk4:∀ b u,h3.get? b=some u->h4.get? b=some u:=fun b u e=>by rw[h4e]; exact Ey _ _ b u (AI _ e)
 have hk:∀ b u,s.heap.get? b=some u->h4.get? b=some u:=fun b u e=>hk4 b u (hk3 b u e)
 have hpC:(h3.push { cls:=.type "dict",data:=.dict #[] }).objs.size=C+1:=by rw[hC,Bx]
 have clo:∀ x c,(cloOf X.env.cells scope.names []).lookup x=some c->X.env.cells.lookup x=some c:=fun x c h=>by
  rcases zAr scope.names [] h with ⟨hm,e⟩ | h
  ·obtain⟨c',hc'⟩:=I.ok.has x ((S.name hm).1 rfl)
   rw[hc']at e ⊢
   rw[e]; rfl
  ·cases h
 have cloM:∀ p∈cloOf X.env.cells scope.names [],∃ x,(x,BU)∈scope.names/\p.1=x/\X.env.cells.lookup x=some p.2:=by
  have go:∀ (names:List (Str×B6)) (acc:List (Str×Addr)),(∀ q∈names,q∈scope.names)->(∀ p∈acc,∃ x,(x,BU)∈scope.names/\p.1=x/\X.env.cells.lookup x=some p.2) ->
    ∀ p∈cloOf X.env.cells names acc,∃ x,(x,BU)∈scope.names/\p.1=x/\X.env.cells.lookup x=some p.2:=by
   intro names
   induction names with
   | nil=>intro acc _ ha; exact ha
   | cons q r ih =>
    intro acc hn ha
    obtain⟨n,k⟩:=q
    unfold cloOf
    by_cases hkf:(k == BU)=true
    ·rw[if_pos hkf]
     have e:k=.free:=by simpa using hkf
     subst e
     refine ih _ (fun q hq=>hn q (AG _ hq)) fun p hp=>?_
     rcases AF.mp hp with e | hp
     ·subst e
      have hm:=hn (n,.free) AE
      obtain⟨c',hc'⟩:=I.ok.has n ((S.name hm).1 rfl)
      refine⟨n,hm,rfl,?_⟩
      show JF n X.env.cells=some ((X.env.cells.lookup n).getD 0)
      rw[hc']; rfl
     ·exact ha p hp
    ·rw[if_neg hkf]
     exact ih _ (fun q hq=>hn q (AG _ hq)) ha
  exact go scope.names [] (fun _ h=>h) fun p hp=>nomatch hp
 have cellLt:∀ x c,X.env.cells.lookup x=some c->c < s.heap.objs.size:=fun x c h=>by
  obtain⟨v,q⟩:=I.cell x c h; exact q.lt
 have split:∀ x c,(BI (C+1) scope.names (cloOf X.env.cells scope.names [])).lookup x=some c->(C+1<=c/\(x,BZ)∈scope.names)\/X.env.cells.lookup x=some c:=fun x c h=>by
  rcases zA1 scope.names _ _ h with h | h
  ·exact .inl h
  ·exact .inr (clo x c h)
 have cells4:∀ x c,(BI (C+1) scope.names (cloOf X.env.cells scope.names [])).lookup x=some c->∃ v,h4.IsCell c v:=fun x c h=>by
  rw[h4e]
  refine zCx (x:=x) scope.names _ (cloOf X.env.cells scope.names []) (fun p hp=>?_) (by rw[hpC]; exact A0 h)
  obtain⟨y,_,_,e⟩:=cloM p hp
  obtain⟨v,q⟩:=I.cell y p.2 e
  exact⟨v,q.keeps fun b u e=>AI _ (hk3 b u e)⟩
 have bLt:∀ b∈fp,b < s.heap.objs.size:=fun b hb=>by obtain⟨u,e⟩:=ho b hb; exact Aa e
 have nfree:∀ b,s.heap.objs.size<=b->H b=none:=fun b hb=>I.hok.fresh hb
 have HC:C < h4.objs.size:=by
  have:h4.get? C=some { cls:=.type "dict",data:=.dict #[] }:=by
   rw[h4e]; refine Ey _ _ _ _ ?_
   rw[hC]; exact Ad _ rfl
  exact Aa this
 refine⟨⟨I.ok.mod,?_,I.ok.glob,I.ok.blt,hsz,fun x y c h1 h2=>?_,fun x hx=>?_,fun x c hx h=>?_,fun h=>I.ok.hd hc,I.ok.frames,.inl rfl,fun b hb=>⟨?_,fun x c h=>?_⟩,fun b u e=>I.bs b u e,As I.ok.bsz I.sz,fun b u e hb=>?_,fun b hb hz=>?_,I.stack,I.stkFree⟩,
  rfl,I.bare,Un.kept hk,⟨fun _=>none,?_,fun i x v h1 h2 h3=>?_⟩,cells4,?_,fun x c h=>?_,fun p hp=>absurd (show p∈([]:List (Addr×Obj)) from hp) (by simp),I.hok.kept hk,?_⟩
 ·exact S.kind
 ·-- injective
  have m1:=A0 h1
  have m2:=A0 h2
  rcases split x c h1 with ⟨a,_⟩ | a
  ·exact zD2 scope.names (C+1) _ (fun p hp=>by obtain⟨y,_,_,e⟩:=cloM p hp; exact Hb (AY (cellLt y _ e) hsz)) a m1 m2
  ·rcases split y c h2 with ⟨b,_⟩ | b
   ·exact absurd (AY (cellLt x c a) (As hsz (D7 b))) (BM _)
   ·exact I.ok.inj x y c a b
 ·-- has
  have hx':(FE scope (BI (C+1) scope.names (cloOf X.env.cells scope.names [])) C X.env).kindOf x=some .cell\/(FE scope (BI (C+1) scope.names (cloOf X.env.cells scope.names [])) C X.env).kindOf x=some .free:=hx
  rw[kindC]at hx'
  have key:scope.names.lookup x=some .cell\/scope.names.lookup x=some .free:=by
   cases e:scope.names.lookup x with
   | none=>rw[e]at hx'; rcases hx' with z | z <;> cases z
   | some k =>
    rw[e]at hx'
    cases k <;> first | exact .inl rfl | exact .inr rfl | (rcases hx' with z | z <;> cases z)
  refine B7.mp (CL scope.names _ _ ?_)
  rcases key with k | k
  ·exact .inl k
  ·exact .inr (zBb scope.names [] (.inl (A0 k)))
 ·-- own cells are new
  have hx':(scope.names.lookup x == some BZ)=true:=hx
  have hx'':scope.names.lookup x=some .cell:=by simpa using hx'
  rcases zA1 scope.names _ _ h with ⟨a,_⟩ | a
  ·exact As hsz (D7 a)
  ·rcases zAr scope.names [] a with ⟨hm,_⟩ | z
   ·have:=(S.name hm).2.2.2 rfl
    rw[hx'']at this; cases this
   ·cases z
 ·exact BJ (AY (bLt b hb) hsz)
 ·rcases split x c h with ⟨a,_⟩ | a
  ·exact C9 (AY (bLt b hb) (As hsz (D7 a)))
  ·exact (hf b hb).2.2.2.2.1 x c a
 ·rcases (hf b hb).2.2.2.1 with z | z
  ·exact I.ok.noex b u e z
  ·exact absurd (AY (Aa e) (As I.ok.bsz z)) (BM _)
 ·rcases AF.mp (I.stkSub b hz) with e | e
  ·exact (hf b hb).2.1 e
  ·exact (hf b hb).2.2.1 e
 ·-- the block's names
  rw[h4e]
  show (Eb (h3.push { cls:=.type "dict",data:=.dict #[] }) scope.names).Ns C (fun _=>none)
  rw[hC]
  exact (Heap.Ns.new h3 (.type "dict")).keeps (Ey _ _)
 ·obtain⟨j,e1,e2⟩:=zKh h2
  obtain⟨hn,hm⟩:=S.at h1 e1
  have hkx:=(S.name hm).2.2.2 rfl
  have hox:=(S.name hm).1 rfl
  obtain⟨m,hns,hl⟩:=I.loc
  have vis:Vis X.env.scope x:=by rcases hox with z | z; exact .inr (.inl z); exact .inr (.inr z)
  obtain⟨u,r,l⟩:=hl j x v hn e2 vis
  refine⟨u,r,.inr ⟨?_,?_⟩⟩
  ·show (FE scope _ C X.env).kindOf x=some .cell\/(FE scope _ C X.env).kindOf x=some .free
   rw[kindC,hkx]
   dsimp only
   split
   ·exact .inl rfl
   ·exact .inr rfl
  ·rcases l with ⟨k,_⟩ | ⟨_,c,hc',hcell⟩
   ·have k':X.env.scope.names.lookup x=some .local:=k
    rcases hox with z | z <;> rw[z]at k' <;> cases k'
   ·have hs:((BI (C+1) scope.names (cloOf X.env.cells scope.names [])).lookup x).isSome=true:=CL scope.names _ _ (.inr (zBb scope.names [] (.inl hm)))
    obtain⟨c',e'⟩:=B7.mp hs
    have:c'=c:=by
     rcases split x c' e' with ⟨_,q⟩ | q
     ·have:=(S.name q).2.2.1 rfl
      rw[show scope.names.lookup x=some .free from hkx]at this; cases this
     ·rw[hc']at q; exact (Ap q).symm
    subst this
    exact⟨c',e',hcell.keeps hk⟩
 ·exact nfree C hsz
 ·rcases split x c h with ⟨a,_⟩ | a
  ·exact nfree c (As hsz (D7 a))
  ·exact I.freeC x c a
 ·show (frm ix σ).length=N'.length
  unfold frm; rw[BA,S.len]
theorem zD7{prog:Ac}{w:Al}{A:A5}{R:Result->AH->Prop}{s:AH}{elt target iter:Expr}{ifs:List Expr}{scope:Bv}{pos:Pos}{it acc:AB}{env:Env}(I:Nat->AH->Prop)
  (turn:∀ n s,I n s->AZ (model prog w) A (IC it) (fun r s₁=>match r with
   | none=>R (.ok .next) s₁
   | some v=>AZ (model prog w) A (Ex target it v) (fun _ s₁'=>AZ (model prog w) A (assign target env v) (fun _ s₂ =>
     AZ (model prog w) A (forIn ifs true fun c r=>if r=true then do let ok ← Gd c env (eval c env); pure (Cs ok) else pure (Cs r)) (fun ok s₃ =>
      if ok=true then AZ (model prog w) A (eval elt env) (fun x s₄ =>
       AZ (model prog w) A (call (.builtin "list.append") [acc,x]) (fun _ s₅=>∃ m,m < n/\I m s₅) (fun _ _=>False) s₄) (fun _ _=>False) s₃
      else ∃ m,m < n/\I m s₃) (fun _ _=>False) s₂) (fun _ _=>False) s₁') (fun _ _=>False) s₁) (fun _ _=>False) s)
  (n:Nat) (h:I n s) :
  EM (model prog w) A (.compLoop (.ListComp elt [⟨target,iter,ifs,0⟩] scope pos) 0 it acc env) R s:=by
 refine codeAny_loop rfl I (fun n s hI=>?_) n h
 show AZ _ A ((compTurn (.ListComp elt [⟨target,iter,ifs,0⟩] scope pos) 0 it acc env).onRaise (fun x=>do FK x env; theTreesLotGoes x)) _ _ s
 refine wpAny_noted ?_
 rw[compTurn_list]
 refine AA (De (AA (BG (turn n s hI) (fun r s₁ h₁=>?_) fun _ _ h'=>h'.elim)))
 cases r with
 | none=>exact AO h₁
 | some v =>
  refine AA (BG h₁ (fun _ s₁' h₁'=>?_) fun _ _ h'=>h'.elim)
  refine AA (BG h₁' (fun _ s₂ h₂=>AA (BG h₂ (fun ok s₃ h₃=>?_) fun _ _ h'=>h'.elim)) fun _ _ h'=>h'.elim)
  cases ok with
  | false=>exact AO ⟨rfl,h₃⟩
  | true =>
   exact AA (AA (BG h₃ (fun x s₄ h₄=>AA (BG h₄ (fun _ s₅ h₅=>AO (AO ⟨rfl,h₅⟩)) fun _ _ h'=>h'.elim)) fun _ _ h'=>h'.elim))
def PTs(X:Cx)(ifs:List Expr)(t:TT):Prop :=
 ∀ (pins:List (Addr×Obj)) (s:AH) (σ:St) (H:Hp) (Q:Bool->Hp->Prop),Inv X pins σ H s->t σ H Q ->
  AZ (model X.prog X.w) X.A (forIn ifs true fun c r=>if r=true then do let ok ← Gd c X.env (eval c X.env); pure (Cs ok) else pure (Cs r)) (TP X pins σ Q) X.xe s
def tYes:TT:=fun _ H Q=>Q true H
theorem zI9{X:Cx}:PTs X [] tYes:=fun _ _ _ H _ I h=>wpAny_tests_nil ⟨H,I,h⟩
theorem zJU{X:Cx}{c:Expr}{t:TT}(h:PT X c t):PTs X [c] t:=fun pins s σ H Q I hw=>wpAny_tests_one (h pins s σ H Q I hw)
def CompW(J:It)(ix:List (Option Nat))(g:TG)(tc:TT)(te:TE)(σ:St)(H1:Hp)(Q:VK):Prop:=∃ W:Nat->Nat->List V->St->Hp->Prop,(∃ m,W 0 m [] (frm ix σ) H1) /\
 ∀ i m ys σ' H',W i m ys σ' H' ->
  (J.stop i H'/\ys.length<=AC/\∀ D,H' D=none->Q (.ref D) (upd H' D (.lst ys))) \/
  (J.go i H'/\ys.length < AC/\∃ N:List V->St->Hp->Prop,(∀ ys' σ2 H2,N ys' σ2 H2->∃ m',m' < m/\W (i+1) m' ys' σ2 H2) /\
   ∀ x H2,J.yld i H' x H2->g x σ' H2 fun σ2 H3=>tc σ2 H3 fun b H4=>if b=true then te σ2 H4 fun v H5=>N (ys++[v]) σ2 H5 else N ys σ2 H4)
def tComp(wi:TI)(ix:List (Option Nat))(g:TG)(tc:TT)(te:TE):TE:=fun σ H Q=>wi σ H fun J H1=>CompW J ix g tc te σ H1 Q
theorem HOk.adopt{P:Ac}{w:Al}{H:Hp}{h:Heap}{a:Addr}{o:HO}(x:HOk P w H h)(hn:H a=none)(new:ObjOk P w (upd H a o) h a o):HOk P w (upd H a o) h:=fun b u e=>by
 by_cases hb:b=a
 ·subst hb; rw[zAG]at e; cases e; exact new
 ·rw[zAC hb]at e
  exact (x b u e).stay (fun c v _ q=>q) (fun c q=>by rw[zAC (zAH q hn)]; exact q) fun c xs q=>by rw[zAC (zAH q hn)]; exact q
section
variable {X:Cx}{N':List Str}{ix:List (Option Nat)}{scope:Bv}{elt tg iter:Expr}{ifs:List Expr}{pos:Pos}{wi:TI}{g:TG}{tc:TT}{te:TE}
theorem zDQ{use:Option (AB->Sem Unit)}{QQ:AB->AH->Prop}(S:CompOk X N' ix scope)(hc:X.calm=true)(hi:PI X tg iter wi)
  (hg:∀ C cs s H ex,PG (cxC X N' scope C cs s H ex) tg g) (ht:∀ C cs s H ex,PTs (cxC X N' scope C cs s H ex) ifs tc) (he:∀ C cs s H ex,PE (cxC X N' scope C cs s H ex) elt te)
  {pins:List (Addr×Obj)} {s:AH} {σ:St} {H:Hp} {Q:VK} (I:Inv X pins σ H s) (hw:tComp wi ix g tc te σ H Q)
  (fin:∀ (D C:Addr) (o:Obj) (H':Hp) (s':AH),Inv X (pins++[(C,o)]) σ H' s'->(∃ m,s'.heap.Ns C m)->(X.s₀.heap.objs.size<=C)->(∀ x c,X.env.cells.lookup x=some c->c≠C)->(∀ p∈X.pn++pins,p.1≠C)->Q (.ref D) H'->J4 (model X.prog X.w) X.A X.xe use QQ (.ref D) C (.ok .next) s')
  (hs:∀ x,Bi iter X.env x=pure x:=by intro _; rfl) :
  AZ (model X.prog X.w) X.A (comprehension (.ListComp elt [⟨tg,iter,ifs,0⟩] scope pos) scope X.env (firstIterPos [⟨tg,iter,ifs,0⟩] pos) (newList []) false (eval iter X.env) use) QQ X.xe s:=by
 refine wpAny_comprehension_free (cl:=cloOf X.env.cells scope.names []) rfl hs (zDe fun x hx hk=>I.ok.has x.1 ((S.name hx).1 hk)) S.kind (fun x hx hl=>(S.name hx).2.1 hl) ?_
 refine thn (hi pins s σ H _ I hw) fun v s1 h1=>thn h1 fun itv s2 h2=>?_
 obtain⟨it,fp,tn,J,H2,e,I2,T,st2,f2,W,⟨m0,w0⟩,turn⟩:=h2
 subst e
 refine Bh ?_
 refine zEv ?_
 generalize hH3:s2.heap.push { cls:=.type "list",dict:=none,data:=.seq ([]:List AB).toArray }=h3
 have hD3:h3.get? s2.heap.objs.size=some { cls:=.type "list",dict:=none,data:=.seq ([]:List AB).toArray }:=by rw[← hH3]; exact Ad _ rfl
 have hk3:∀ b u,s2.heap.get? b=some u->h3.get? b=some u:=fun b u e=>by rw[← hH3]; exact AI _ e
 have hz3:h3.objs.size=s2.heap.objs.size+1:=by rw[← hH3,Bx]
 have ho2:∀ b∈fp,∃ o,s2.heap.get? b=some o:=fun b hb=>by obtain⟨o,e,_⟩:=T.obj _ _ st2 b hb; exact⟨o,e⟩
 show EM (model X.prog X.w) X.A (.compStart (.ListComp elt [⟨tg,iter,ifs,0⟩] scope pos) 0 (.ref it) (.ref s2.heap.objs.size) (FE scope (BI (h3.objs.size+1) scope.names (cloOf X.env.cells scope.names [])) h3.objs.size X.env)) (J4 (model X.prog X.w) X.A X.xe use QQ (.ref s2.heap.objs.size) h3.objs.size) { s2 with heap:=Eb (h3.push { cls:=.type "dict",data:=.dict #[] }) scope.names }
 generalize hD:s2.heap.objs.size=D at hD3 hz3 ⊢
 generalize hC:h3.objs.size=C at hz3 ⊢
 generalize h4e:Eb (h3.push { cls:=.type "dict",data:=.dict #[] }) scope.names=h4
 have hk4:∀ b u,h3.get? b=some u->h4.get? b=some u:=fun b u e=>by rw[← h4e]; exact Ey _ _ b u (AI _ e)
 have I4:Inv (cxC X N' scope C (BI (C+1) scope.names (cloOf X.env.cells scope.names [])) s2 H2 fp) [] (frm ix σ) H2 { s2 with heap:=h4,toks:=s2.toks } :=
  zH0 (D:=D) (o:={ cls:=.none,data:=.dict #[] }) S I2 f2 ho2 hc hk3 hC.symm (by rw[hC,hz3,hD]; exact G8 _) h4e.symm
 have hcellD:∀ x c,(BI (C+1) scope.names (cloOf X.env.cells scope.names [])).lookup x=some c->c≠D:=fun x c h z=>by
  rcases zA1 scope.names _ _ h with ⟨a,_⟩ | a
  ·rw[z,hz3]at a; omega
  ·rcases zAr scope.names [] a with ⟨hm,e⟩ | a
   ·obtain⟨c',hc'⟩:=I2.ok.has x ((S.name hm).1 rfl)
    rw[hc']at e
    obtain⟨v,q⟩:=I2.cell x c' hc'
    have e':c=c':=e
    rw[← e',z,← hD]at q
    exact absurd q.lt (BM _)
   ·cases a
 have hDC:D≠C:=by rw[hz3]; exact BJ (EI _)
 have hDfp:D∉fp:=fun hb=>by obtain⟨o,e⟩:=ho2 D hb; exact absurd (hD ▸ Aa e) (BM _)
 generalize hX':cxC X N' scope C (BI (C+1) scope.names (cloOf X.env.cells scope.names [])) s2 H2 fp=X' at I4
 have hfpX:∀ {H':Hp} {oD:Obj},(∀ b∈fp,H' b=none)->∀ b∈fp,FpOk X' [(D,oD)] H' b:=fun {H' oD} hn b hb=>by
  rw[← hX']
  refine⟨hn b hb,fun z=>?_,fun z=>?_,.inl hb,fun x c h z=>?_,fun p hp=>?_⟩
  rotate_right
  ·have hp':p∈[(D,oD)]:=hp
   have e:p=(D,oD):=by simpa using hp'
   subst e
   exact fun z=>hDfp (by rw[show D=b from z]; exact hb)
  ·obtain⟨o,e⟩:=ho2 b hb
   have z':b=C:=z
   have q:=Aa e
   rw[z',hz3,hD]at q
   exact absurd (FN (EI D) q) (BM _)
  ·have z':b∈frs X.stack:=z
   rcases AF.mp (I2.stkSub b z') with e | e
   ·exact (f2 b hb).2.1 e
   ·exact (f2 b hb).2.2.1 e
  ·rw[← hX']at I4
   exact (I4.ok.exf b hb).2 x c h z
 have HDnone:H2 D=none:=I2.hok.fresh (by rw[hD]; exact AL _)
 have key:∀ (s':AH),s'={ s2 with heap:=h4,toks:=s2.toks } ->
   EM (model X.prog X.w) X.A (.compLoop (.ListComp elt [⟨tg,iter,ifs,0⟩] scope pos) 0 (.ref it) (.ref D) X'.env) (J4 (model X.prog X.w) X.A X.xe use QQ (.ref D) C) s':=by
  rintro s' rfl
  refine zD7 (fun n s'=>∃ i ys σ' H' its,Inv X' [] σ' H' s'/\tn i s'.heap/\(∀ b∈fp,H' b=none)/\H' D=none/\s'.heap.PlainList D its/\Vals ys its.toList/\W i n ys σ' H') ?_ m0
   ⟨0,[],frm ix σ,H2,#[],I4,T.keep _ _ _ st2 fun b hb o e=>hk4 b o (hk3 b o e),fun b hb=>(f2 b hb).1,HDnone,⟨_,hk4 _ _ hD3⟩,.nil,w0⟩
  rintro n s3 ⟨i,ys,σ3,H3,its,I3,st3,fr3,hD3n,hpl,hv,w3⟩
  have hc':X'.calm=true:=by rw[← hX']; exact hc
  have xe':∀ e s,X'.xe e s->False:=by rw[← hX']; exact fun _ _ z=>z
  have pr:X'.prog=X.prog:=by rw[← hX']; rfl
  have pw:X'.w=X.w:=by rw[← hX']; rfl
  have pK:X'.K=X.K:=by rw[← hX']; rfl
  have pA:X'.A=X.A:=by rw[← hX']; rfl
  have p0:X'.s₀=s2:=by rw[← hX']; rfl
  have pH:X'.H₀=H2:=by rw[← hX']; rfl
  have px:X'.ex=fp:=by rw[← hX']; rfl
  have pf:X'.fs=frs X.stack:=by rw[← hX']; rfl
  have pL:X'.env.locals=C:=by rw[← hX']; rfl
  have pn0:X'.pn=[]:=by rw[← hX']; rfl
  have pcs:X'.env.cells=BI (C+1) scope.names (cloOf X.env.cells scope.names []):=by rw[← hX']; rfl
  obtain⟨nD,hoD⟩:=id hpl
  have Dfs:D∉X'.fs:=fun z=>by
   rw[pf]at z
   rcases AF.mp (I2.stkSub D z) with e | e
   ·have q:=I2.lt; rw[← e,hD]at q; exact BM _ q
   ·exact I2.nofs (by rw[hD]; exact AL _) e
  have I3':Inv X' [(D,_)] σ3 H3 s3:=I3.pins_of fun p hp=>by
   have e:p=(D,_):=AD.mp hp
   subst e
   exact⟨hoD,hD3n,by rw[pL]; exact hDC,Dfs,fun v z=>by cases z⟩
  have hg':PG X' tg g:=hX' ▸ hg _ _ _ _ _
  have ht':PTs X' ifs tc:=hX' ▸ ht _ _ _ _ _
  have he':PE X' elt te:=hX' ▸ he _ _ _ _ _
  have hsizes:its.toList.length=ys.length:=hv.length.symm
  rcases turn i n ys σ3 H3 w3 with ⟨stop,hlen,qn⟩ | ⟨go,hlt,N,hN,step⟩
  ·-- the end
   have T':=T.done X' pr pw pK hc' i _ s3 σ3 H3 (fun _ _=>False) I3' (hfpX fr3) st3 stop
   rw[pA]at T'
   refine thn T' fun r s4 ⟨hr,I5⟩=>?_
   subst hr
   obtain⟨gD,nDn,_,_,_⟩:=I5.pin (D,_) (Ag _ (AD.mpr rfl))
   have gD':s4.heap.get? D=some { cls:=.type "list",data:=.seq its nD }:=gD
   obtain⟨m,hns,_⟩:=I5.loc
   rw[pL]at hns
   obtain⟨oC,es,ep,hoC,hdC,_⟩:=id hns
   have ub:Un (frs X.stack) fp H2 H3 s2.heap s4.heap:=by
    have q:=I5.base
    rw[px,pH,p0]at q
    rw[← pf]; exact q
   have bLt:∀ b u,s2.heap.get? b=some u->b≠D:=fun b u e z=>by have q:=Aa e; rw[z,hD]at q; exact BM _ q
   have u':Un (frs X.stack) fp H2 (upd H3 D (.lst ys)) s2.heap s4.heap :=
    ⟨ub.keep,ub.slot,fun b o e n hx=>by rw[zAC (bLt b o e)]; exact ub.free b o e n hx,ub.there,fun b xs e=>by rw[zAC (zAH (ub.tups b xs e) hD3n)]; exact ub.tups b xs e,
     fun b o u e=>by rw[zAC (zAH (ub.frzs b o u e) hD3n)]; exact ub.frzs b o u e,fun b ps e=>by obtain⟨more,q⟩:=ub.tbls b ps e; exact⟨more,by rw[zAC (zAH q hD3n)]; exact q⟩⟩
   have hok':HOk X.prog X.w (upd H3 D (.lst ys)) s4.heap:=by
    have q:=I5.hok
    rw[pr,pw]at q
    exact q.adopt hD3n ⟨hlen,its.toList,nD,hv,by simpa using gD'⟩
   have os':s4.os=s2.os:=by have q:=I5.os; rw[p0]at q; exact q
   have Iend:Inv X pins σ (upd H3 D (.lst ys)) s4:=I2.call' (ch:=fp) os' u' hok' I5.bare fun b hb=>⟨(f2 b hb).2.2.2.1,(f2 b hb).2.1,(f2 b hb).2.2.2.2.1,(f2 b hb).2.2.2.2.2⟩
   have hsC:s2.heap.objs.size<=C:=by rw[hz3,hD]; exact G8 _
   have freeC:upd H3 D (.lst ys) C=none:=by rw[zAC (Av hDC)]; have q:=I5.free; rw[pL]at q; exact q
   have Iend':Inv X (pins++[(C,oC)]) σ (upd H3 D (.lst ys)) s4:=Iend.pins_of fun p hp=>by
    rcases Aw.mp hp with hp | hp
    ·exact Iend.pin p (Ag _ hp)
    ·have e:p=(C,oC):=AD.mp hp
     subst e
     exact⟨hoC,freeC,C9 (AY I2.lt hsC),I2.nofs hsC,fun v z=>by rw[show oC.data=Jy v from z]at hdC; cases hdC⟩
   exact fin D C oC _ s4 Iend' ⟨m,hns⟩ (As I2.sz hsC) (fun x c h z=>by obtain⟨v,q⟩:=I2.cell x c h; exact absurd (AY q.lt hsC) (by rw[z]; exact BM _))
    (fun p hp z=>by have q:=Aa (I2.pin p hp).1; exact absurd (AY q hsC) (by rw[z]; exact BM _)) (qn D hD3n)
  ·have T':=T.item X' pr pw pK hc' i _ s3 σ3 H3 (fun _ _=>False) I3' (hfpX fr3) st3 go
   rw[pA]at T'
   refine thn T' fun r s4 ⟨u,hr,h4'⟩=>?_
   subst hr
   refine thn h4' fun _ s5 ⟨x,H5,I5,r5,y5,st5,fr5⟩=>?_
   have I5':=I5.pinned (hfpX fr5) (T.obj _ _ st5)
   have A1:=hg' _ s5 σ3 H5 x u _ I5' r5 (step x H5 y5)
   rw[pr,pw,pA]at A1
   refine BG A1 (fun _ s6 ⟨σ6,H6,I6,q6⟩=>?_) xe'
   have A2:=ht' _ s6 σ6 H6 _ I6 q6
   rw[pr,pw,pA]at A2
   refine BG A2 (fun b s7 ⟨H7,I7,q7⟩=>?_) xe'
   have pinD:∀ {σ':St} {H':Hp} {s':AH},Inv X' ([(D,{ cls:=.type "list",data:=.seq its nD })]++pinsAt fp s5.heap) σ' H' s'->s'.heap.get? D=some { cls:=.type "list",data:=.seq its nD }/\H' D=none/\(∀ b∈fp,∀ o,s5.heap.get? b=some o->s'.heap.get? b=some o/\H' b=none):=fun {σ' H' s'} J=>by
    obtain⟨a1,a2,_⟩:=J.pin (D,_) (Ag _ (Co _ (AD.mpr rfl)))
    refine⟨a1,a2,fun b hb o e=>?_⟩
    obtain⟨b1,b2,_⟩:=J.pin (b,o) (Ag _ (Ag _ (zBV hb e)))
    exact⟨b1,b2⟩
   have frOf:∀ {σ':St} {H':Hp} {s':AH},Inv X' ([(D,{ cls:=.type "list",data:=.seq its nD })]++pinsAt fp s5.heap) σ' H' s'->∀ b∈fp,H' b=none:=fun {σ' H' s'} J b hb=>by
    obtain⟨o,e,_⟩:=T.obj _ _ st5 b hb
    exact ((pinD J).2.2 b hb o e).2
   have bare:∀ {σ':St} {H':Hp} {s':AH},Inv X' ([(D,{ cls:=.type "list",data:=.seq its nD })]++pinsAt fp s5.heap) σ' H' s'->Inv X' [] σ' H' s':=fun {σ' H' s'} J=>J.pins_of fun p hp=>nomatch hp
   cases b with
   | false =>
    obtain⟨m',hm,w'⟩:=hN ys σ6 H7 q7
    exact⟨m',hm,i+1,ys,σ6,H7,its,bare I7,T.keep _ _ _ st5 fun b hb o e=>((pinD I7).2.2 b hb o e).1,frOf I7,(pinD I7).2.1,⟨nD,(pinD I7).1⟩,hv,w'⟩
   | true =>
    have A3:=he' _ s7 σ6 H7 _ I7 q7
    rw[pr,pw,pA]at A3
    refine BG A3 (fun v s8 ⟨x8,H8,I8,r8,q8⟩=>?_) xe'
    refine wpAny_list_append_plain (items:=its) ⟨nD,(pinD I8).1⟩ (fun h9 hl9 hs9=>?_) (by
     have:its.size=its.toList.length:=by simp
     rw[this,hsizes]; exact Bk hlt)
    obtain⟨m',hm,w'⟩:=hN (ys++[x8]) σ6 H8 q8
    have I9:Inv X' [] σ6 H8 { s8 with heap:=h9,toks:=s8.toks }:=(bare I8).turned (t':=s8.toks) (it:=D) (fun b o hb e=>(hs9.2 b hb).trans e) (pinD I8).2.1 (by rw[pL]; exact hDC) (.inr (by rw[p0,hD]; exact AL _)) (by rw[pcs]; exact hcellD) (fun p hp=>by rw[pn0]at hp; exact nomatch hp)
    refine⟨m',hm,i+1,ys++[x8],σ6,H8,its.push v,I9,T.keep _ _ _ st5 fun b hb o e=>(hs9.2 b fun z=>hDfp (z ▸ hb)).trans ((pinD I8).2.2 b hb o e).1,frOf I8,(pinD I8).2.1,hl9,?_,w'⟩
    rw[Array.toList_push]
    exact hv.append (.cons r8 .nil)
 rw[← hX']at key
 exact codeAny_compStart_list (key _ rfl) (T.self _ 0 _ _ _ (T.keep _ _ _ st2 fun b hb o e=>hk4 b o (hk3 b o e)) (key _ rfl))
theorem zJq(S:CompOk X N' ix scope)(hc:X.calm=true)(hi:PI X tg iter wi)
  (hg:∀ C cs s H ex,PG (cxC X N' scope C cs s H ex) tg g) (ht:∀ C cs s H ex,PTs (cxC X N' scope C cs s H ex) ifs tc) (he:∀ C cs s H ex,PE (cxC X N' scope C cs s H ex) elt te)
  (hs:∀ x,Bi iter X.env x=pure x:=by intro _; rfl):PE X (.ListComp elt [⟨tg,iter,ifs,0⟩] scope pos) (tComp wi ix g tc te):=by
 intro pins s σ H Q I h
 rw[eval_ListComp]
 refine zDQ (use:=none) (QQ:=EP X pins σ Q) S hc hi hg ht he I h (fun D C o H' s' I' hns h1 h2 h3 q=>?_) hs
 obtain⟨m,hns⟩:=hns
 refine⟨m,hns,fun h' hs'=>⟨.ref D,H',?_,rfl,q⟩⟩
 obtain⟨a1,a2,a3,a4,_⟩:=I'.pin (C,o) (Ag _ (Ag _ (AD.mpr rfl)))
 exact I'.unpinned.turned (t':=s'.toks) (it:=C) (fun b u hb e=>(hs'.2 b hb).trans e) a2 a3 (.inr h1) h2 h3
theorem zJc{i:Nat}{x:Str}{pos' spos:Pos}(hN:X.N.Nodup)(hi':X.N[i]?=some x)(hx:Loc X.env.scope x)(S:CompOk X N' ix scope)(hc:X.calm=true)(hi:PI X tg iter wi)
  (hg:∀ C cs s H ex,PG (cxC X N' scope C cs s H ex) tg g) (ht:∀ C cs s H ex,PTs (cxC X N' scope C cs s H ex) ifs tc) (he:∀ C cs s H ex,PE (cxC X N' scope C cs s H ex) elt te)
  (hsw:DG (.ListComp elt [⟨tg,iter,ifs,0⟩] scope pos) (some (.Name x pos')) spos.line X.env=pure true:=by rfl)
  (hf:X.fn x=true\/X.env.scope.names.lookup x=some .local:=by first | exact .inl rfl | exact .inr rfl | assumption)
  (hs:∀ x,Bi iter X.env x=pure x:=by intro _; rfl):PS X (.Assign [.Name x pos'] (.ListComp elt [⟨tg,iter,ifs,0⟩] scope pos) spos) (tAsg (tComp wi ix g tc te) (gName i)):=by
 intro pins s σ H D I h
 rw[exec_Assign_Name_used _ _ _ _ hsw]
 refine AA (De (AA ?_))
 show AZ _ X.A (do let _ ← comprehension (.ListComp elt [⟨tg,iter,ifs,0⟩] scope pos) scope X.env _ (newList []) false (eval iter X.env) (some (assign (.Name x pos') X.env))) _ _ s
 refine AA (thn (zDQ (use:=some (assign (.Name x pos') X.env)) (QQ:=fun _ s'=>SP X pins D .next s') S hc hi hg ht he I h (fun E C o H' s' I' hns h1 h2 h3 q=>?_) hs) fun _ s' q=>AO (AO q))
 obtain⟨m,hns⟩:=hns
 have P:=pg_name (pos:=pos') hN hi' hx hf
 refine thn (P _ s' σ H' (.ref E) (.ref E) _ I' rfl q) fun _ s2 ⟨σ2,H2,I2,q2⟩=>?_
 obtain⟨a1,_⟩:=I'.pin (C,o) (Ag _ (Ag _ (AD.mpr rfl)))
 obtain⟨b1,b2,b3,b4,_⟩:=I2.pin (C,o) (Ag _ (Ag _ (AD.mpr rfl)))
 refine⟨m,?_,fun h' hs'=>⟨σ2,H2,I2.unpinned.turned (t':=s2.toks) (it:=C) (fun b u hb e=>(hs'.2 b hb).trans e) b2 b3 (.inr h1) h2 h3,q2⟩⟩
 obtain⟨oC,es,ep,hoC,r⟩:=hns
 have e:oC=o:=by
  have q:=hoC.symm.trans a1
  exact Ap q
 subst e
 exact⟨oC,es,ep,b1,r⟩
end
structure Drawer(prog:Ac)(w:Al)(it l:Addr)(xs:Array AB)(St:Nat->Heap->Prop):Prop where
 keep:∀ k h h',St k h->(∀ o,h.get? it=some o->h'.get? it=some o)->(∀ o,h.get? l=some o->h'.get? l=some o)->St k h'
 live:∀ k h,St k h->∃ o,h.get? it=some o/\∀ v,o.data≠.cell v
 item:∀ (A:A5) (k:Nat) (s:AH) (x:AB) (Q:AB->AH->Prop) (E:AB->AH->Prop),St k s.heap->xs[k]?=some x ->
  (∀ h',St (k+1) h'->Dd it s.heap h'->Q x { s with heap:=h' })->AZ (model prog w) A (BB (.ref it)) Q E s
 fini:∀ (A:A5) (k:Nat) (s:AH) (Q:AB->AH->Prop) (E:AB->AH->Prop),A.handled=none->St k s.heap->xs[k]?=none ->
  (∀ h' e,JG it s.heap h'->(∃ o,h'.get? e=some o/\o.cls=.type "StopIteration")->E (.ref e) { s with heap:=h' })->AZ (model prog w) A (BB (.ref it)) Q E s
section
variable {prog:Ac}{w:Al}{A:A5}{E:AB->AH->Prop}{s:AH}
theorem zE1(it l:Addr)(xs:Array AB)(hne:l≠it):Drawer prog w it l xs (fun k h=>h.IsListIter it l k/\h.IsList l xs) where
 keep:=fun k h h' st k1 k2=>⟨st.1.at k1,st.2.at k2⟩
 live:=fun k h st=>by obtain⟨⟨o,e,_,d⟩,_⟩:=st; exact⟨o,e,fun v z=>by rw[d]at z; cases z⟩
 item:=fun A k s x Q E st hx hQ=>wpAny_nextOf_list_item st.1 st.2 hx fun h' st' sb=>hQ h' ⟨st',st.2.extBut sb.extBut hne⟩ sb
 fini:=fun A k s Q E hh st hx hE=>wpAny_nextOf_list_end hh st.1 st.2 hx hE
theorem zFt{it t:Addr}{i:Nat}{items:Array AB}{x:AB}{Q:AB->AH->Prop}(hit:s.heap.IsTupleIter it t i)(ht:s.heap.IsTuple t items)(hx:items[i]?=some x)
  (hQ:∀ h',h'.IsTupleIter it t (i+1)->Dd it s.heap h'->Q x { s with heap:=h' }):AZ (model prog w) A (BB (.ref it)) Q E s:=by
 obtain⟨oi,hoi,hci,hdi⟩:=id hit; obtain⟨ot,hot,_,nt,hdt⟩:=ht
 unfold BB; refine AA (Bq (name:=Bl "__next__") hit.typeIs Cv (C0 Cv hit.typeIs GP ?_ (GE _)))
 show AZ _ _ (field (.ref it) 0 >>= _) _ _ s; refine AA (BP hoi hdi (x:=.ref t) rfl ?_)
 show AZ _ _ (if (Aj t == A6)=true then _ else _) _ _ s; rw[if_neg (show ¬ ((Aj t == A6)=true) from AQ)]
 show AZ _ _ (field (.ref it) 1 >>= _) _ _ s; refine AA (BP hoi hdi (x:=.int i 0) rfl ?_)
 show AZ _ _ (seqItems? (.ref t) >>= _) _ _ s; refine AA (CV hot hdt ?_); simp only[D5,hx]
 refine AA (EC hoi hdi (by simp) (AO ⟨x,rfl,AO (hQ _ ?_ (Ft ..))⟩))
 exact⟨_,Bz _ hoi (DL (C3 hdi _)),(Hc ..).trans hci,by rw[C3 hdi]; simp[ES]⟩
theorem zDg{it t:Addr}{i:Nat}{items:Array AB}{Q:AB->AH->Prop}(hh:A.handled=none)(hit:s.heap.IsTupleIter it t i)(ht:s.heap.IsTuple t items)(hx:items[i]?=none)
  (hE:∀ h' e,JG it s.heap h'->(∃ o,h'.get? e=some o/\o.cls=.type "StopIteration")->E (.ref e) { s with heap:=h' }):AZ (model prog w) A (BB (.ref it)) Q E s:=by
 obtain⟨oi,hoi,hci,hdi⟩:=id hit; obtain⟨ot,hot,_,nt,hdt⟩:=ht
 unfold BB; refine AA (Bq (name:=Bl "__next__") hit.typeIs Cv (C0 Cv hit.typeIs GP ?_ (GE _)))
 show AZ _ _ (field (.ref it) 0 >>= _) _ _ s; refine AA (BP hoi hdi (x:=.ref t) rfl ?_)
 show AZ _ _ (if (Aj t == A6)=true then _ else _) _ _ s; rw[if_neg (show ¬ ((Aj t == A6)=true) from AQ)]
 show AZ _ _ (field (.ref it) 1 >>= _) _ _ s; refine AA (BP hoi hdi (x:=.int i 0) rfl ?_)
 show AZ _ _ (seqItems? (.ref t) >>= _) _ _ s; refine AA (CV hot hdt ?_); simp only[D5,hx]
 refine AA (Fc (AA (EC hoi hdi (by simp) ?_))); show AZ _ _ (newExc (.type "StopIteration") [] >>= _) _ _ _
 refine AA ?_; simp only[newExc,newTuple]; refine AA (Bh ?_ (by size_fits)); refine AA (m:=J5 _ _) (wpAny_of_eq (a:=A6) (by first | rfl | (simp only[J5]; rfl)) ?_)
 refine Bh ?_ (by size_fits); simp only[raiseNew]; refine AA (wpAny_handled ?_); (first | rw[show A.in1.handled=none from hh] | rw[hh]); refine AA (AO (wpAny_throw ?_))
 exact hE _ _ (((Ft ..).extBut.push _).push _) ⟨_,Ad _ rfl,rfl⟩
theorem zFk(it l:Addr)(xs:Array AB)(hne:l≠it):Drawer prog w it l xs (fun k h=>h.IsTupleIter it l k/\h.IsTuple l xs) where
 keep:=fun k h h' st k1 k2=>⟨let ⟨o,e,r⟩:=st.1; ⟨o,k1 o e,r⟩,let ⟨o,e,r⟩:=st.2; ⟨o,k2 o e,r⟩⟩
 live:=fun k h st=>by obtain⟨⟨o,e,_,d⟩,_⟩:=st; exact⟨o,e,fun v z=>by rw[d]at z; cases z⟩
 item:=fun A k s x Q E st hx hQ=>zFt st.1 st.2 hx fun h' st' sb=>hQ h' ⟨st',st.2.extBut sb.extBut hne⟩ sb
 fini:=fun A k s Q E hh st hx hE=>zDg hh st.1 st.2 hx hE
structure ZAp(z TI TO i1 i2 l1 l2:Addr):Prop where
 a:ZipApart z TI TO i1 i2 l1 l2
 l1TI:l1≠TI
 l2TI:l2≠TI
structure ZSt(z TI TO i1 i2:Addr)(S1 S2:Nat->Heap->Prop)(k:Nat)(f0:AB)(h:Heap):Prop where
 z:GQ h z TI TO f0
 ti:Et h TI (.ref i1) (.ref i2)
 to:∃ a b,Et h TO a b
 s1:S1 k h
 s2:S2 k h
variable {z TI TO i1 i2 l1 l2:Addr}{S1 S2:Nat->Heap->Prop}{xs ys:Array AB}{k:Nat}
theorem zGF{x y:AB}{Q:AB->AH->Prop}(D:ZAp z TI TO i1 i2 l1 l2)(D1:Drawer prog w i1 l1 xs S1)(D2:Drawer prog w i2 l2 ys S2)(st:ZSt z TI TO i1 i2 S1 S2 k .none s.heap)(hx:xs[k]?=some x)(hy:ys[k]?=some y)
  (hQ:∀ h',ZSt z TI TO i1 i2 S1 S2 (k+1) (ES s.heap.objs.size) h'->Et h' s.heap.objs.size x y ->
   (∀ c o,c≠z->c≠TO->c≠i1->c≠i2->s.heap.get? c=some o->h'.get? c=some o)->Q (.ref s.heap.objs.size) { s with heap:=h' }) :
  AZ (model prog w) A (Builtin.«zip.__next__» ⟨[.ref z],[]⟩) (fun fin s'=>∃ v,fin=.done (.ret v)/\Q v s') E s:=by
 obtain⟨hz,hTI,⟨a,b,hTO⟩,st1,st2⟩:=st
 obtain⟨⟨TIz,TOz,i1z,i2z,TITO,TIi1,TIi2,TOi1,TOi2,i12,l1z,l1TO,l1i1,l1i2,l2z,l2TO,l2i1,l2i2⟩,_,_⟩:=D
 show AZ _ _ (field (.ref z) 2 >>= _) _ _ _; refine AA (BP hz rfl (x:=.bool false) rfl ?_)
 show AZ _ _ (field (.ref z) 3 >>= _) _ _ _; refine AA (BP hz rfl (x:=.ref TI) rfl (AA (CV hTI rfl ?_)))
 show AZ _ _ (Bj (.ref z) >>= _) _ _ _; refine AA ?_; unfold Bj
 refine AA (BP hz rfl (x:=.none) rfl (AO ?_)); simp only[if_true]
 refine AA (Fc (AA (BP hz rfl (x:=.ref TO) rfl (AA (Ci hz (by simp) fun h1 z1 b1=>?_)))))
 have z1':GQ h1 z TI TO .ellipsis:=z1
 refine AA ?_; simp only[Hd,Hi,DQ,Ej]
 refine AA (AA (EW ?_)); show AZ _ _ (BB (.ref i1) >>= _) _ _ _
 refine AA (D1.item _ k _ x _ _ (D1.keep _ _ _ st1 (fun o e=>b1.extBut _ _ i1z e) fun o e=>b1.extBut _ _ l1z e) hx fun h2 t1 b2=>AO ?_)
 have o2:Et h2 TO a b:=b2.extBut _ _ TOi1 (b1.extBut _ _ TOz hTO)
 refine AA (CV o2 rfl (AA (FF o2 fun h3 o3 b3=>?_)))
 have o3':Et h3 TO x b:=o3
 refine AA (Hj (AO (AA (AA (EW ?_))))); show AZ _ _ (BB (.ref i2) >>= _) _ _ _
 have s2':S2 k h3:=D2.keep _ _ _ st2 (fun o e=>b3.extBut _ _ TOi2.symm (b2.extBut _ _ i12.symm (b1.extBut _ _ i2z e))) fun o e=>b3.extBut _ _ l2TO (b2.extBut _ _ l2i1 (b1.extBut _ _ l2z e))
 refine AA (D2.item _ k _ y _ _ s2' hy fun h4 t2 b4=>AO ?_)
 have o4:Et h4 TO x b:=b4.extBut _ _ TOi2 o3'
 refine AA (CV o4 rfl (AA (FF o4 fun h5 o5 b5=>?_)))
 have o5':Et h5 TO x y:=o5
 refine AA (Hj (AO (AO (AA (CV o5' rfl (AA (wpAny_newTuple ?_)))))))
 have hsz:h5.objs.size=s.heap.objs.size:=by rw[b5.1,b4.1,b3.1,b2.1,b1.1]
 have z5:GQ h5 z TI TO .ellipsis:=b5.extBut _ _ TOz.symm (b4.extBut _ _ i2z.symm (b3.extBut _ _ TOz.symm (b2.extBut _ _ i1z.symm z1')))
 have k5:∀ c o,c≠z->c≠TO->c≠i1->c≠i2->s.heap.get? c=some o->h5.get? c=some o:=fun c o c1 c2 c3 c4 e=>b5.extBut _ _ c2 (b4.extBut _ _ c4 (b3.extBut _ _ c2 (b2.extBut _ _ c3 (b1.extBut _ _ c1 e))))
 have t1':S1 (k+1) h5:=D1.keep _ _ _ t1 (fun o e=>b5.extBut _ _ TOi1.symm (b4.extBut _ _ i12 (b3.extBut _ _ TOi1.symm e))) fun o e=>b5.extBut _ _ l1TO (b4.extBut _ _ l1i2 (b3.extBut _ _ l1TO e))
 have t2':S2 (k+1) h5:=D2.keep _ _ _ t2 (fun o e=>b5.extBut _ _ TOi2.symm e) fun o e=>b5.extBut _ _ l2TO e
 have hzlt:z < h5.objs.size:=Aa z5
 show AZ _ _ (Dj (.ref z) (.ref h5.objs.size) >>= _) _ _ _; refine AA ?_; unfold Dj
 have z6:GQ (h5.push { cls:=.type "tuple",data:=.seq #[x,y] }) z TI TO .ellipsis:=AI _ z5
 refine AA (Ci z6 (by simp) fun h7 z7 b7=>?_)
 have z7':GQ h7 z TI TO (ES h5.objs.size):=z7
 refine Ci z7' (by simp) fun h8 z8 b8=>?_
 have z8':GQ h8 z TI TO (ES h5.objs.size):=z8
 have up:∀ c o,c≠z->h5.get? c=some o->h8.get? c=some o:=fun c o c1 e=>b8.extBut _ _ c1 (b7.extBut _ _ c1 (AI _ e))
 have p8:Et h8 h5.objs.size x y:=b8.extBut _ _ (C9 hzlt) (b7.extBut _ _ (C9 hzlt) (Ad _ rfl))
 rw[hsz]at z8' p8
 refine AO ⟨_,rfl,?_⟩
 show Q (.ref h5.objs.size) _
 rw[hsz]
 have uu:∀ c o,c≠z->c≠TO->c≠i1->c≠i2->s.heap.get? c=some o->h8.get? c=some o:=fun c o c1 c2 c3 c4 e=>up c o c1 (k5 c o c1 c2 c3 c4 e)
 exact hQ h8 ⟨z8',uu _ _ TIz TITO TIi1 TIi2 hTI,⟨x,y,up _ _ TOz o5'⟩,D1.keep _ _ _ t1' (fun o e=>up _ o i1z e) (fun o e=>up _ o l1z e),D2.keep _ _ _ t2' (fun o e=>up _ o i2z e) (fun o e=>up _ o l2z e)⟩ p8 uu
theorem zHG{Q:Fin->AH->Prop}(hh:A.handled=none)(D:ZAp z TI TO i1 i2 l1 l2)(D1:Drawer prog w i1 l1 xs S1)(D2:Drawer prog w i2 l2 ys S2)(st:ZSt z TI TO i1 i2 S1 S2 k .none s.heap)(hend:xs[k]?=none\/ys[k]?=none)
  (hE:∀ h' e,(∀ c o,c≠z->c≠TO->c≠i1->c≠i2->s.heap.get? c=some o->h'.get? c=some o)->(∃ o,h'.get? e=some o/\o.cls=.type "StopIteration")->E (.ref e) { s with heap:=h' }) :
  AZ (model prog w) A (Builtin.«zip.__next__» ⟨[.ref z],[]⟩) Q E s:=by
 obtain⟨hz,hTI,⟨a,b,hTO⟩,st1,st2⟩:=st
 obtain⟨⟨TIz,TOz,i1z,i2z,TITO,TIi1,TIi2,TOi1,TOi2,i12,l1z,l1TO,l1i1,l1i2,l2z,l2TO,l2i1,l2i2⟩,_,_⟩:=D
 show AZ _ _ (field (.ref z) 2 >>= _) _ _ _; refine AA (BP hz rfl (x:=.bool false) rfl ?_)
 show AZ _ _ (field (.ref z) 3 >>= _) _ _ _; refine AA (BP hz rfl (x:=.ref TI) rfl (AA (CV hTI rfl ?_)))
 show AZ _ _ (Bj (.ref z) >>= _) _ _ _; refine AA ?_; unfold Bj
 refine AA (BP hz rfl (x:=.none) rfl (AO ?_)); simp only[if_true]
 refine AA (Fc (AA (BP hz rfl (x:=.ref TO) rfl (AA (Ci hz (by simp) fun h1 z1 b1=>?_)))))
 have z1':GQ h1 z TI TO .ellipsis:=z1
 refine AA ?_; simp only[Hd,Hi,DQ,Ej]
 refine AA (AA (EW ?_)); show AZ _ _ (BB (.ref i1) >>= _) _ _ _
 have s1':S1 k h1:=D1.keep _ _ _ st1 (fun o e=>b1.extBut _ _ i1z e) fun o e=>b1.extBut _ _ l1z e
 cases hx:xs[k]? with
 | none =>
  refine AA (D1.fini _ k _ _ _ hh s1' hx fun h2 e b2 he=>?_)
  obtain⟨oe,hoe,hce⟩:=he
  have z2:GQ h2 z TI TO .ellipsis:=b2 _ _ i1z.symm z1'
  have ez:e≠z:=fun q=>by subst q; rw[z2]at hoe; cases hoe; simp at hce
  exact Ci z2 (by simp) fun h3 _ b3=>hE h3 e (fun c o c1 _ c3 _ q=>b3.extBut _ _ c1 (b2 _ _ c3 (b1.extBut _ _ c1 q))) ⟨oe,b3.extBut _ _ ez hoe,hce⟩
 | some x =>
  have hy:ys[k]?=none:=by rcases hend with q | q; (rw[hx]at q; cases q); exact q
  refine AA (D1.item _ k _ x _ _ s1' hx fun h2 t1 b2=>AO ?_)
  have o2:Et h2 TO a b:=b2.extBut _ _ TOi1 (b1.extBut _ _ TOz hTO)
  refine AA (CV o2 rfl (AA (FF o2 fun h3 o3 b3=>?_)))
  refine AA (Hj (AO (AA (AA (EW ?_))))); show AZ _ _ (BB (.ref i2) >>= _) _ _ _
  have s2':S2 k h3:=D2.keep _ _ _ st2 (fun o e=>b3.extBut _ _ TOi2.symm (b2.extBut _ _ i12.symm (b1.extBut _ _ i2z e))) fun o e=>b3.extBut _ _ l2TO (b2.extBut _ _ l2i1 (b1.extBut _ _ l2z e))
  refine AA (D2.fini _ k _ _ _ hh s2' hy fun h4 e b4 he=>?_)
  obtain⟨oe,hoe,hce⟩:=he
  have z4:GQ h4 z TI TO .ellipsis:=b4 _ _ i2z.symm (b3.extBut _ _ TOz.symm (b2.extBut _ _ i1z.symm z1'))
  have ez:e≠z:=fun q=>by subst q; rw[z4]at hoe; cases hoe; simp at hce
  exact Ci z4 (by simp) fun h5 _ b5=>hE h5 e (fun c o c1 c2 c3 c4 q=>b5.extBut _ _ c1 (b4 _ _ c4 (b3.extBut _ _ c2 (b2.extBut _ _ c3 (b1.extBut _ _ c1 q))))) ⟨oe,b5.extBut _ _ ez hoe,hce⟩
end
def Sq(b:Bool)(K:AJ)(H:Hp)(a:Addr)(xs:List V):Prop:=if b then SqT K H a xs else SqL K H a xs
def SIt(b:Bool)(it l:Addr)(k:Nat)(h:Heap):Prop:=if b then h.IsTupleIter it l k else h.IsListIter it l k
def SOb(b:Bool)(l:Addr)(its:Array AB)(h:Heap):Prop:=if b then h.IsTuple l its else h.IsList l its
theorem SIt.keep{b:Bool}{it l:Addr}{k:Nat}{h h':Heap}(st:SIt b it l k h)(e:∀ o,h.get? it=some o->h'.get? it=some o):SIt b it l k h':=by
 cases b with
 | false=>exact (show h.IsListIter it l k from st).at e
 | true=>obtain⟨o,q,r⟩:=(show h.IsTupleIter it l k from st); exact⟨o,e o q,r⟩
theorem SIt.live{b:Bool}{it l:Addr}{k:Nat}{h:Heap}(st:SIt b it l k h):∃ o,h.get? it=some o/\∀ v,o.data≠.cell v:=by
 cases b with
 | false=>obtain⟨o,q,_,d⟩:=(show h.IsListIter it l k from st); exact⟨o,q,fun v z=>by rw[d]at z; cases z⟩
 | true=>obtain⟨o,q,_,d⟩:=(show h.IsTupleIter it l k from st); exact⟨o,q,fun v z=>by rw[d]at z; cases z⟩
theorem zBJ{prog:Ac}{w:Al}(b:Bool)(it l:Addr)(xs:Array AB)(hne:l≠it):Drawer prog w it l xs (fun k h=>SIt b it l k h/\SOb b l xs h):=by
 cases b with
 | false=>exact zE1 it l xs hne
 | true=>exact zFk it l xs hne
section
variable {X:Cx}{pins:List (Addr×Obj)}{σ:St}{H:Hp}{s:AH}
theorem Inv.sq{b:Bool}{a:Addr}{xs:List V}(I:Inv X pins σ H s)(h:Sq b X.K H a xs):∃ its:List AB,Vals xs its/\SOb b a its.toArray s.heap/\xs.length<=AC:=by
 cases b with
 | false=>obtain⟨its,r,p,z⟩:=I.list h; exact⟨its,r,p.isList,z⟩
 | true=>obtain⟨its,r,p,z⟩:=I.tuple h; exact⟨its,r,p,z⟩
theorem Inv.sq_inj{b:Bool}{a:Addr}{xs ys:List V}(I:Inv X pins σ H s)(h:Sq b X.K H a xs)(h':Sq b X.K H a ys):xs=ys:=by
 cases b with
 | false=>exact I.list_inj h h'
 | true=>exact I.tuple_inj h h'
end
def Itz(b:Bool)(K:AJ)(a1 a2:Addr):It :=
 ⟨fun i H=>∃ xs ys x y,Sq b K H a1 xs/\Sq b K H a2 ys/\xs[i]?=some x/\ys[i]?=some y,
  fun i H v H'=>∃ T x y,v=.ref T/\H T=none/\H'=upd H T (.tup [x,y])/\(∀ xs,Sq b K H a1 xs->xs[i]?=some x)/\∀ ys,Sq b K H a2 ys->ys[i]?=some y,
  fun i H=>∃ xs ys,Sq b K H a1 xs/\Sq b K H a2 ys/\(xs.length<=i\/ys.length<=i)⟩
structure ZTn(b:Bool)(z TI TO i1 i2 a1 a2:Addr)(k:Nat)(h:Heap):Prop where
 z:GQ h z TI TO .none
 ti:Et h TI (.ref i1) (.ref i2)
 to:∃ a b,Et h TO a b
 s1:SIt b i1 a1 k h
 s2:SIt b i2 a2 k h
theorem zIG{P:Ac}{w:Al}{K:AJ}{elts:List Expr}{x1:Nat}{tp:Pos}(b:Bool){z TI TO i1 i2 a1 a2:Addr}(D:ZAp z TI TO i1 i2 a1 a2) :
  Turn P w K (.Tuple elts x1 tp) (Itz b K a1 a2) [z,TI,TO,i1,i2] z (ZTn b z TI TO i1 i2 a1 a2) where
 mem:=by simp
 obj:=fun i h st c hc=>by
  simp only[AF,AK,or_false]at hc
  rcases hc with e | e | e | e | e
  ·exact⟨_,e ▸ st.z,fun v z=>by cases z⟩
  ·exact⟨_,e ▸ st.ti,fun v z=>by cases z⟩
  ·obtain⟨a,b,q⟩:=st.to; exact⟨_,e ▸ q,fun v z=>by cases z⟩
  ·obtain⟨o,q,d⟩:=st.s1.live; exact⟨o,e ▸ q,d⟩
  ·obtain⟨o,q,d⟩:=st.s2.live; exact⟨o,e ▸ q,d⟩
 keep:=fun i h h' st k=>⟨k z (by simp) _ st.z,k TI (by simp) _ st.ti,(let ⟨a,b,q⟩:=st.to; ⟨a,b,k TO (by simp) _ q⟩),st.s1.keep fun o e=>k i1 (by simp) o e,st.s2.keep fun o e=>k i2 (by simp) o e⟩
 item:=by
  intro X hP hw hK hc i pins s σ H E I hf st hg
  subst hP hw hK
  obtain⟨xs,ys,x,y,h1,h2,hx,hy⟩:=hg
  obtain⟨its1,v1,o1,z1⟩:=I.sq h1
  obtain⟨its2,v2,o2,z2⟩:=I.sq h2
  obtain⟨u1,e1,r1⟩:=v1.get hx
  obtain⟨u2,e2,r2⟩:=v2.get hy
  have hT:s.TypeIs (.ref z) "zip":=⟨_,st.z,rfl⟩
  have nH:∀ c∈[z,TI,TO,i1,i2],H c=none:=fun c hc=>(hf c hc).1
  unfold IC
  refine AA (EY (Bq (name:=Bl "__next__") hT Ek (C0 Ek hT IG
   (zGF D (zBJ b i1 a1 its1.toArray D.a.l1i1) (zBJ b i2 a2 its2.toArray D.a.l2i2) ⟨st.z,st.ti,st.to,⟨st.s1,o1⟩,⟨st.s2,o2⟩⟩ (by simpa using e1) (by simpa using e2) fun h' st' hp hk=>AO ?_) (Hy _))))
  refine⟨_,rfl,?_⟩
  have fT:H s.heap.objs.size=none:=I.hok.fresh (AL _)
  have hk':∀ c o,c∉[z,TO,i1,i2]->s.heap.get? c=some o->h'.get? c=some o:=fun c o hc e=>by
   simp only[AF,AK,or_false,not_or]at hc
   exact hk c o hc.1 hc.2.1 hc.2.2.1 hc.2.2.2 e
  have sub:∀ c∈[z,TO,i1,i2],c∈[z,TI,TO,i1,i2]:=fun c hc=>by
   simp only[AF,AK,or_false]at hc ⊢
   rcases hc with e | e | e | e <;> simp[e]
  have trk:∀ c u,H c=some u->c∉[z,TO,i1,i2]:=fun c u e hc=>by rw[nH c (sub c hc)]at e; cases e
  have nT:∀ c o,s.heap.get? c=some o->c≠s.heap.objs.size:=fun c o e=>BJ (Aa e)
  have hok1:HOk X.prog X.w H h':=fun c u e=>(I.hok c u e).stay (fun d v hd q=>hk' d v (by
   rcases hd with rfl | hd
   ·exact trk d u e
   ·exact trk d _ hd) q) (fun _ q=>q) fun _ _ q=>q
  have I1:Inv X pins σ (upd H s.heap.objs.size (.tup [x,y])) { s with heap:=h',toks:=s.toks }:=by
   refine I.step (g':=s.gens) (d':=s.drawn) (t':=s.toks) (ch:=[z,TO,i1,i2]) (fun c hc=>?_) (fun c o _ _ hc e _=>hk' c o hc e) (fun c o _ _ hc e _=>⟨o.slots,hk' c o hc e⟩)
    (fun c o _ e n=>by rw[zAC (nT c o e)]; exact n) (fun c o hc e=>⟨o,hk' c o hc e⟩) (fun c xs e=>by rw[zAC (zAH e fT)]; exact e) (fun c o u e=>by rw[zAC (zAH e fT)]; exact e)
    (fun c ps e=>⟨#[],by rw[zAC (zAH e fT),e]; simp⟩) (fun m hm=>?_) (hok1.adopt fT ⟨by show 2<=AC; decide,[u1,u2],.cons r1 (.cons r2 .nil),_,hp,rfl,⟨0,rfl⟩,rfl⟩) I.bare
   ·obtain⟨_,f1,f2,f3,f4,f5⟩:=hf c (sub c hc); exact⟨f3,f1,f4,f5⟩
   ·obtain⟨o,es,ep,ho,r⟩:=hm
    exact⟨o,es,ep,hk' _ o (fun hc=>(hf _ (sub _ hc)).2.1 rfl) ho,r⟩
  refine wpAny_letOwnedTupleGo_zip st'.z fun h9 hz2 hs2=>?_
  obtain⟨_,f1,f2,f3,f4,f5⟩:=hf z (by simp)
  have nz:upd H s.heap.objs.size (.tup [x,y]) z=none:=by rw[zAC (nT z _ st.z)]; exact nH z (by simp)
  have I2:Inv X pins σ (upd H s.heap.objs.size (.tup [x,y])) { s with heap:=h9,toks:=s.toks }:=by
   have q:=I1.turned (h':=h9) (t':=s.toks) (it:=z) (fun c o hc e=>(hs2.2 c hc).trans e) nz f1 f3 f4 f5
   exact q
  refine⟨.ref s.heap.objs.size,_,I2,rfl,⟨s.heap.objs.size,x,y,rfl,fT,rfl,fun xs' q=>by rw[I.sq_inj q h1]; exact hx,fun ys' q=>by rw[I.sq_inj q h2]; exact hy⟩,?_,fun c hc=>?_⟩
  ·have up:∀ c o,c≠z->h'.get? c=some o->h9.get? c=some o:=fun c o hc e=>(hs2.2 c hc).trans e
   exact⟨hz2,up _ _ D.a.TIz st'.ti,(let ⟨a,b,q⟩:=st'.to; ⟨a,b,up _ _ D.a.TOz q⟩),st'.s1.1.keep fun o e=>up _ o D.a.i1z e,st'.s2.1.keep fun o e=>up _ o D.a.i2z e⟩
  ·obtain⟨o,e,_⟩:∃ o,s.heap.get? c=some o/\True:=by
    simp only[AF,AK,or_false]at hc
    rcases hc with e | e | e | e | e
    ·exact⟨_,e ▸ st.z,trivial⟩
    ·exact⟨_,e ▸ st.ti,trivial⟩
    ·obtain⟨a,b,q⟩:=st.to; exact⟨_,e ▸ q,trivial⟩
    ·obtain⟨o,q,d⟩:=st.s1.live; exact⟨o,e ▸ q,trivial⟩
    ·obtain⟨o,q,d⟩:=st.s2.live; exact⟨o,e ▸ q,trivial⟩
   rw[zAC (nT c o e)]; exact nH c hc
 done:=by
  intro X hP hw hK hc i pins s σ H E I hf st hg
  subst hP hw hK
  obtain⟨xs,ys,h1,h2,hl⟩:=hg
  obtain⟨its1,v1,o1,z1⟩:=I.sq h1
  obtain⟨its2,v2,o2,z2⟩:=I.sq h2
  have l1:=v1.length
  have l2:=v2.length
  have hT:s.TypeIs (.ref z) "zip":=⟨_,st.z,rfl⟩
  unfold IC
  refine AA (EY (Bq (name:=Bl "__next__") hT Ek (C0 Ek hT IG
   (zHG (I.ok.hd hc) D (zBJ b i1 a1 its1.toArray D.a.l1i1) (zBJ b i2 a2 its2.toArray D.a.l2i2) ⟨st.z,st.ti,st.to,⟨st.s1,o1⟩,⟨st.s2,o2⟩⟩
    (hl.imp (fun q=>by simp; omega) fun q=>by simp; omega) fun h' e hk he=>?_) (Hy _))))
  obtain⟨o,ho,hcl⟩:=he
  refine AA (wpAny_isInstance (T:="StopIteration") (b:=true) ⟨o,ho,hcl⟩ isSubtype_stop (AO ⟨rfl,?_⟩))
  have hk':∀ c o,c∉[z,TO,i1,i2]->s.heap.get? c=some o->h'.get? c=some o:=fun c o hc e=>by
   simp only[AF,AK,or_false,not_or]at hc
   exact hk c o hc.1 hc.2.1 hc.2.2.1 hc.2.2.2 e
  have sub:∀ c∈[z,TO,i1,i2],c∈[z,TI,TO,i1,i2]:=fun c hc=>by
   simp only[AF,AK,or_false]at hc ⊢
   rcases hc with e | e | e | e <;> simp[e]
  have trk:∀ c u,H c=some u->c∉[z,TO,i1,i2]:=fun c u e hc=>by rw[(hf c (sub c hc)).1]at e; cases e
  refine I.step (g':=s.gens) (d':=s.drawn) (t':=s.toks) (ch:=[z,TO,i1,i2]) (fun c hc=>?_) (fun c o _ _ hc e _=>hk' c o hc e) (fun c o _ _ hc e _=>⟨o.slots,hk' c o hc e⟩)
   (fun c o _ e n=>n) (fun c o hc e=>⟨o,hk' c o hc e⟩) (fun c xs e=>e) (fun c o u e=>e) (fun c ps e=>⟨#[],by rw[e]; simp⟩) (fun m hm=>?_) (fun c u e=>(I.hok c u e).stay (fun d v hd q=>hk' d v (by
    rcases hd with rfl | hd
    ·exact trk d u e
    ·exact trk d _ hd) q) (fun _ q=>q) fun _ _ q=>q) I.bare
  ·obtain⟨_,f1,f2,f3,f4,f5⟩:=hf c (sub c hc); exact⟨f3,f1,f4,f5⟩
  ·obtain⟨o,es,ep,ho,r⟩:=hm
   exact⟨o,es,ep,hk' _ o (fun hc=>(hf _ (sub _ hc)).2.1 rfl) ho,r⟩
 self:=fun _ _ _ _ _ st h=>JH st.z h
section
variable {prog:Ac}{w:Al}{A:A5}{E:AB->AH->Prop}{s:AH}
abbrev zT1(h:Heap)(l1:Addr):Heap:=h.push { cls:=.type "tuple_iterator",data:=.fields #[.ref l1,.int 0 0] }
abbrev zT2(h:Heap)(l1 l2:Addr):Heap:=(zT1 h l1).push { cls:=.type "tuple_iterator",data:=.fields #[.ref l2,.int 0 0] }
abbrev zT3(h:Heap)(l1 l2:Addr):Heap:=(zT2 h l1 l2).push { cls:=.type "tuple",data:=.seq #[.ref h.objs.size,.ref (zT1 h l1).objs.size] }
abbrev zT4(h:Heap)(l1 l2:Addr):Heap:=(zT3 h l1 l2).push { cls:=.type "tuple",data:=.seq #[.none,.none] }
abbrev zT5(h:Heap)(l1 l2:Addr):Heap:=(zT4 h l1 l2).push { cls:=.type "zip",data:=.fields #[.none,.bool false,.bool false,.ref (zT2 h l1 l2).objs.size,.ref (zT3 h l1 l2).objs.size] }
theorem zFx(l1 l2:Addr)(xs ys:Array AB) :
  Meets (Builtin.«zip.__new__» ⟨[.type "zip",.ref l1,.ref l2],[]⟩) (fun _ R s=>s.heap.IsTuple l1 xs/\s.heap.IsTuple l2 ys/\R (.ok (.ret (.ref (zT4 s.heap l1 l2).objs.size))) { s with heap:=zT5 s.heap l1 l2 }) :=
 .of_wp fun prog w A R s h=>by
  obtain⟨hp,g,d,tk,os⟩:=s; obtain⟨hl1,hl2,h⟩:=h
  have sub0:=sub_zip
  have T1:IY (IH ⟨hp,g,d,tk,os⟩) l1 xs:=hl1
  have T2:IY (IH ⟨hp.push { cls:=.type "tuple_iterator",data:=.fields #[.ref l1,.int 0 0] },g,d,tk,os⟩) l2 ys:=Jo hl2 _
  wp_walk using Fe T1,Fe T2
  exact⟨_,rfl,h⟩
theorem zHF{l1 l2:Addr}{xs ys:Array AB}{Q:AB->AH->Prop}(hl1:s.heap.IsTuple l1 xs)(hl2:s.heap.IsTuple l2 ys)
  (h:∀ h',ZTn true (s.heap.objs.size+4) (s.heap.objs.size+2) (s.heap.objs.size+3) s.heap.objs.size (s.heap.objs.size+1) l1 l2 0 h'->(∀ c o,s.heap.get? c=some o->h'.get? c=some o)->Q (.ref (s.heap.objs.size+4)) { s with heap:=h' }) :
  AZ (model prog w) A (call (.type "zip") [.ref l1,.ref l2]) Q E s:=by
 refine callType_new F.called_zip (by decide) (F.typeCall_zip_2 _ _) (F.newCall_zip_2 _ _) (fun obj=>F.args_object_init_3 obj _ _) F.entry_zip_new (zFx l1 l2 xs ys) ⟨hl1,hl2,?_⟩
 have z1:(zT1 s.heap l1).objs.size=s.heap.objs.size+1:=Bx ..
 have z2:(zT2 s.heap l1 l2).objs.size=s.heap.objs.size+2:=by rw[Bx,z1]
 have z3:(zT3 s.heap l1 l2).objs.size=s.heap.objs.size+3:=by rw[Bx,z2]
 have z4:(zT4 s.heap l1 l2).objs.size=s.heap.objs.size+4:=by rw[Bx,z3]
 have up:∀ c o,(zT4 s.heap l1 l2).get? c=some o->(zT5 s.heap l1 l2).get? c=some o:=fun c o e=>AI _ e
 have g5:(zT5 s.heap l1 l2).get? (zT4 s.heap l1 l2).objs.size=some _:=Ad _ rfl
 have g4:(zT5 s.heap l1 l2).get? (zT3 s.heap l1 l2).objs.size=some _:=up _ _ (Ad _ rfl)
 have g3:(zT5 s.heap l1 l2).get? (zT2 s.heap l1 l2).objs.size=some _:=up _ _ (AI _ (Ad _ rfl))
 have g2:(zT5 s.heap l1 l2).get? (zT1 s.heap l1).objs.size=some _:=up _ _ (AI _ (AI _ (Ad _ rfl)))
 have g1:(zT5 s.heap l1 l2).get? s.heap.objs.size=some _:=up _ _ (AI _ (AI _ (AI _ (Ad _ rfl))))
 show _/\_
 rw[z2,z3,z4]at g5
 rw[z1,z2]at g3
 rw[z3]at g4
 rw[z1]at g2
 rw[z4]
 exact⟨⟨_,g5,rfl⟩,h _ ⟨g5,g3,⟨_,_,g4⟩,⟨_,g1,rfl,rfl⟩,⟨_,g2,rfl,rfl⟩⟩ fun c o x=>up _ _ (AI _ (AI _ (AI _ (AI _ x))))⟩
end
open AutoSeq1 (wpAny_loadPart')
section
variable {X:Cx}
theorem zF5{bs:List Bool}:∀ {us:List AB},Vals (bs.map V.bl) us->LSm.BoolsAre us bs:=by
 induction bs with
 | nil=>intro us h; cases h; exact .nil
 | cons b bs ih=>intro us h; cases h with
  | cons r t=>cases r; exact .cons b (ih t)
theorem zIr(hc:X.calm=true):CallR X (.builtin "all") (fun xs H Q=>∃ (p:Addr) (bs:List Bool),xs=[.ref p]/\SqL X.K H p (bs.map V.bl)/\Q (.bl (bs.all id)) H):=by
 intro pins s σ H xs us Q I r h
 obtain⟨p,bs,rfl,hq,q⟩:=h
 obtain⟨u,rfl,rx⟩:=vals1 r
 cases rx
 obtain⟨its,rv,pl,hz⟩:=I.list hq
 have hb:=zF5 rv
 have hl:=pl.isList
 have hlt:p < s.heap.objs.size:=by obtain⟨_,e,_⟩:=hl; exact Aa e
 refine call_all_walk (IZ hl ?_)
 refine⟨s.heap.objs.size,[s.heap.objs.size,p],[s.heap.objs.size],its.toArray.size,_,_,fun i=>(bs[i]?).getD true,rfl,Walks.list (A:=X.A.in1) (I.ok.hd hc) _ p (BJ hlt) its.toArray,⟨⟨_,Ad _ rfl,rfl,rfl⟩,hl.push _⟩,fun i v s' Q' E' hP hQ=>?_,fun h' tk hk=>?_⟩
 ·obtain⟨b,e,rfl⟩:=hb.get i v (by simpa using hP)
  simp only[e,HI]at hQ
  exact CF hQ
 ·have e:((Az its.toArray.size).all fun i=>(bs[i]?).getD true)=bs.all id:=by rw[Ab,hb.length]; exact LSm.range_all bs
  rw[e]
  exact⟨.bl (bs.all id),H,I.kept (LSm.kept_iter hk),rfl,q⟩
end
section
variable {X:Cx}
theorem Same.upd{H:Hp}{p:Addr}{o:HO}(h:H p=none):Same H (upd H p o):=fun b u e=>by rw[zAC (zAH e h)]; exact e
end
theorem zI2{X:Cx}{x:Str}{T:String}{pos:Pos}(hg:Gl X x)(hm:X.mg x=none)(hv:Bn x=some (.type T))(hn:x≠"__name__":=by decide)(hd:(x == ("__debug__":Str))=false:=by decide):PE X (.Name x pos) (tC (.ty T)):=zJr (v:=.ty T) hg hm hv rfl hn hd
theorem zKA{X:Cx}(K:AJ)(hK:X.K=K){es:List Expr}{k:Nat}{pos:Pos}{t:TGs}{n:Nat}(hc:X.calm=true)(h:PGs X es t)(hn:(B4 es X.env).length=n:=by rfl)(hst:(B4 es X.env).findIdx? (·.1)=none:=by rfl):PG X (.Tuple es k pos) (gTup K n t):=by
 subst hK
 exact zKZ hc h hn hst
section
variable {prog:Ac}{w:Al}{A:A5}{E:AB->AH->Prop}{s:AH}
theorem zBl{t sl:Addr}{items:Array AB}{vl vu:AB}{lo hi:Option Int}{Q:AB->AH->Prop}(ht:IM s.heap t items)(hs:s.heap.IsSliceOf sl vl vu .none)(pl:Er vl lo)(pu:Er vu hi)
  (hw:HT.sIx items.size 0 lo=0/\HT.sIx items.size items.size hi=items.size) (h:Q (.ref t) s):AZ (model prog w) A (EN (.ref t) (.ref sl)) Q E s:=by
 obtain⟨os,hos,hcs,hds⟩:=id hs
 have hTs:s.TypeIs (.ref sl) "slice":=⟨os,hos,hcs⟩
 unfold EN; try with_reducible refine CH ?_
 first | refine AA (AO ?_) | skip
 refine AA (IT ht.typeIs (by decide) ?_); refine AA (Bq (name:=Bl "__getitem__") ht.typeIs Ba (C0 Ba ht.typeIs Hx ?_ (ID _ _)))
 show AZ _ _ (E7 (.ref t) >>= _) _ _ s; refine AA (KA ht ?_); refine AA (HS hTs ?_)
 rw[if_pos (by decide)]; refine AA (HT.sliceApplied_gen hs pl pu ?_)
 have hyes:((((HT.sIx items.size 0 lo:Nat):Int) == 0 && (1:Int) == 1 && (HT.sIx items.size items.size hi - HT.sIx items.size 0 lo) == items.size)=true):=by
  rw[hw.1,hw.2]; simp
 show AZ _ _ (if (((HT.sIx items.size 0 lo:Nat):Int) == 0 && (1:Int) == 1 && (HT.sIx items.size items.size hi - HT.sIx items.size 0 lo) == items.size)=true then _ else _) _ _ s
 rw[if_pos hyes]
 refine AA ?_
 unfold JI
 refine AA (HS ht.typeIs (AO ?_))
 rw[if_pos (by decide)]
 exact AA (Fc (AO ⟨_,rfl,AO h⟩))
end
end L2
namespace D
open PySem L2
abbrev Fg:=AJ
inductive T where
 | a (v:V)
 | t (xs:List T)
 | l (xs:List T)
 | f (n:Str)
 | x (c:Str) (fs:List (Str×V))
abbrev Dk:=Sum (List (Key×T)) (List (List Key×T))
inductive G where
 | v (t:T)
 | l (xs:List T)
 | r (xs:List T)
 | k (xs:List T)
 | d (kvs:Dk)
 | e (kvs:Dk)
def isMut:G->Bool
 | .l _=>true
 | .d _=>true
 | _=>false
inductive S where
 | v (t:T)
 | l (xs:List T)
 | s (i:Nat)
 | d (kvs:Dk)
abbrev En:=List (Option G)
abbrev DE:=En->Option (S×En)
abbrev DT:=En->Option (Bool×En)
abbrev DA:=En->Option (List S×En)
inductive O where
 | nx (g:En) | rt (s:S) (g:En) | bk (g:En) | ct (g:En)
abbrev DS:=En->Option O
def cOk:List V->Bool
 | .int _::_=>true
 | .ref _::_=>true
 | [.str x]=>decide (x="yes") || decide (x="no")
 | _=>false
def KT(K:Fg)(a:Addr)(xs:List V):Prop:=∃ (o:Obj) (its:Array AB) (n:Nat),K.lookup a=some o/\o.cls=.type "tuple"/\o.dict=none/\o.data=.seq its n/\its.size<=AC/\Vals xs its.toList/\cOk xs=true
def Tp(K:Fg)(H:Hp)(p:Addr)(vs:List V):Prop:=H p=some (.tup vs)\/KT K p vs
theorem Tp.sq{K:Fg}{H:Hp}{p:Addr}{vs:List V}(h:Tp K H p vs):SqT K H p vs:=by
 rcases h with h | ⟨o,its,n,a,b,c,d,e,f,_⟩
 ·exact SqT.of h
 ·exact .inr ⟨o,its,n,a,b,d,e,f⟩
theorem Tp.of{K:Fg}{H:Hp}{p:Addr}{vs:List V}(h:H p=some (.tup vs)):Tp K H p vs:=.inl h
def KL(K:Fg)(a:Addr)(xs:List V):Prop:=∃ (o:Obj) (its:Array AB) (n:Nat),K.lookup a=some o/\o.cls=.type "list"/\o.dict=none/\o.data=.seq its n/\its.size<=AC/\Vals xs its.toList
def KF(K:Fg)(H:Hp)(p:Addr)(vs:List V):Prop:=(∃ o,H p=some (.frz o (.lst vs)))\/KL K p vs
def XOk(K:Fg)(H:Hp)(p:Addr)(c:Str)(fs:List (Str×V)):Prop:=∃ (C:Addr) (d:Option Addr),A8 K AU c=some (some (.ref C)) /\
 H p=some (.ext fun h=>∃ o,h.get? p=some o/\o.cls=.ref C/\o.dict=d/\C4 o=true)/\((d=none/\fs=[])\/∃ dx,d=some dx/\H dx=some (.xd fs))
def FOk(K:Fg)(v:V)(n:Str):Prop:=∃ p,v=.ref p/\A8 K AU n=some (some (.ref p))
mutual
def Im(K:Fg)(H:Hp):V->T->Prop
 | v,.a u=>v=u
 | v,.t ts=>∃ p vs,v=.ref p/\Tp K H p vs/\Ims K H vs ts
 | v,.l ts=>∃ p vs,v=.ref p/\KF K H p vs/\Ims K H vs ts
 | v,.f n=>FOk K v n
 | v,.x c fs=>∃ p,v=.ref p/\XOk K H p c fs
def Ims(K:Fg)(H:Hp):List V->List T->Prop
 | vs,[]=>vs=[]
 | vs,t::ts=>∃ v r,vs=v::r/\Im K H v t/\Ims K H r ts
end
structure W where
 L:List Addr
 R:Addr->Prop
structure Fr where
 H0:Hp
 fx:List Addr
 pins:List (Nat×Addr)
def Evo(L:List Addr)(H H':Hp):Prop:=∀ b o,H b=some o->b∉L->H' b=some o
def Mu:HO->Prop
 | .lst _=>True
 | .dK _=>True
 | .dT _=>True
 | _=>False
def LL(L:List Addr)(H:Hp):Prop:=∀ p∈L,∃ o,H p=some o/\Mu o
theorem Evo.refl{L:List Addr}{H:Hp}:Evo L H H:=fun _ _ h _=>h
theorem Evo.trans{L:List Addr}{H H1 H2:Hp}(a:Evo L H H1)(b:Evo L H1 H2):Evo L H H2:=fun c o h n=>b c o (a c o h n) n
theorem Evo.wide{L L':List Addr}{H H':Hp}(a:Evo L' H H')(h:∀ p∈L',p∈L):Evo L H H':=fun c o e n=>a c o e fun z=>n (h c z)
theorem Evo.new{L:List Addr}{H:Hp}{p:Addr}{o:HO}(h:H p=none):Evo L H (upd H p o):=fun b u e _=>by rw[zAC (zAH e h)]; exact e
theorem Evo.of_same{L:List Addr}{H H':Hp}(h:Same H H'):Evo L H H':=fun b u e _=>h b u e
theorem zCg{K:Fg}{L:List Addr}{H H':Hp}{p:Addr}{vs:List V}(e:Evo L H H')(hL:LL L H)(h:Tp K H p vs):Tp K H' p vs:=by
 rcases h with h | h
 ·refine .inl (e _ _ h fun z=>?_)
  obtain⟨o,q,m⟩:=hL p z
  rw[h]at q; cases q; exact m
 ·exact .inr h
theorem KF.evo{K:Fg}{L:List Addr}{H H':Hp}{p:Addr}{vs:List V}(e:Evo L H H')(hL:LL L H)(h:KF K H p vs):KF K H' p vs:=by
 rcases h with ⟨o,h⟩ | h
 ·refine .inl ⟨o,e _ _ h fun z=>?_⟩
  obtain⟨o,q,m⟩:=hL p z
  rw[h]at q; cases q; exact m
 ·exact .inr h
theorem XOk.evo{K:Fg}{L:List Addr}{H H':Hp}{p:Addr}{c:Str}{fs:List (Str×V)}(e:Evo L H H')(hL:LL L H)(h:XOk K H p c fs):XOk K H' p c fs:=by
 obtain⟨C,d,h1,h2,h3⟩:=h
 refine⟨C,d,h1,e _ _ h2 fun z=>?_,h3.imp id fun ⟨dx,a,b⟩=>⟨dx,a,e _ _ b fun z=>?_⟩⟩
 ·obtain⟨o,q,m⟩:=hL p z
  rw[h2]at q; cases q; exact m
 ·obtain⟨o,q,m⟩:=hL dx z
  rw[b]at q; cases q; exact m
mutual
theorem Im.evo{K:Fg}{L:List Addr}{H H':Hp}(e:Evo L H H')(hL:LL L H):∀ {v:V} {t:T},Im K H v t->Im K H' v t
 | _,.a _,h=>h
 | _,.t _,h=>by
  unfold Im at h ⊢
  obtain⟨p,vs,rfl,hs,hi⟩:=h
  exact⟨p,vs,rfl,zCg e hL hs,Ims.evo e hL hi⟩
 | _,.l _,h=>by
  unfold Im at h ⊢
  obtain⟨p,vs,rfl,hs,hi⟩:=h
  exact⟨p,vs,rfl,hs.evo e hL,Ims.evo e hL hi⟩
 | _,.f _,h=>by
  unfold Im at h ⊢
  exact h
 | _,.x _ _,h=>by
  unfold Im at h ⊢
  obtain⟨p,rfl,hs⟩:=h
  exact⟨p,rfl,hs.evo e hL⟩
theorem Ims.evo{K:Fg}{L:List Addr}{H H':Hp}(e:Evo L H H')(hL:LL L H):∀ {vs:List V} {ts:List T},Ims K H vs ts->Ims K H' vs ts
 | _,[],h=>h
 | _,_::_,h=>by
  unfold Ims at h ⊢
  obtain⟨v,r,rfl,h1,h2⟩:=h
  exact⟨v,r,rfl,Im.evo e hL h1,Ims.evo e hL h2⟩
end
section
variable {K:Fg}{H H':Hp}
theorem Ims.nil:Ims K H [] []:=by unfold Ims; rfl
theorem Ims.cons{v:V}{vs:List V}{t:T}{ts:List T}(h:Im K H v t)(hs:Ims K H vs ts):Ims K H (v::vs) (t::ts):=by unfold Ims; exact⟨v,vs,rfl,h,hs⟩
theorem Ims.inv{vs:List V}{t:T}{ts:List T}(h:Ims K H vs (t::ts)):∃ v r,vs=v::r/\Im K H v t/\Ims K H r ts:=by unfold Ims at h; exact h
theorem Ims.inv0{vs:List V}(h:Ims K H vs []):vs=[]:=by unfold Ims at h; exact h
theorem Ims.len:∀ {vs:List V} {ts:List T},Ims K H vs ts->vs.length=ts.length
 | _,[],h=>by rw[h.inv0]; rfl
 | _,_::_,h=>by obtain⟨v,r,rfl,_,h2⟩:=h.inv; simp[h2.len]
theorem Ims.app:∀ {vs us:List V} {ts ss:List T},Ims K H vs ts->Ims K H us ss->Ims K H (vs++us) (ts++ss)
 | _,_,[],_,h,h'=>by rw[h.inv0]; exact h'
 | _,_,_::_,_,h,h'=>by obtain⟨v,r,rfl,h1,h2⟩:=h.inv; exact .cons h1 (h2.app h')
theorem Ims.one{v:V}{t:T}(h:Im K H v t):Ims K H [v] [t]:=.cons h .nil
theorem Ims.get:∀ {vs:List V} {ts:List T} {i:Nat} {t:T},Ims K H vs ts->ts[i]?=some t->∃ v,vs[i]?=some v/\Im K H v t
 | _,[],_,_,_,e=>by simp at e
 | _,_::_,0,_,h,e=>by obtain⟨v,r,rfl,h1,h2⟩:=h.inv; simp at e; subst e; exact⟨v,rfl,h1⟩
 | _,_::_,i+1,_,h,e=>by obtain⟨v,r,rfl,h1,h2⟩:=h.inv; simpa using h2.get (i:=i) (by simpa using e)
theorem Ims.take:∀ (n:Nat) {vs:List V} {ts:List T},Ims K H vs ts->Ims K H (vs.take n) (ts.take n)
 | 0,_,_,_=>by simp; exact .nil
 | _+1,_,[],h=>by rw[h.inv0]; exact .nil
 | n+1,_,_::_,h=>by obtain⟨v,r,rfl,h1,h2⟩:=h.inv; exact .cons h1 (h2.take n)
theorem Ims.drop:∀ (n:Nat) {vs:List V} {ts:List T},Ims K H vs ts->Ims K H (vs.drop n) (ts.drop n)
 | 0,_,_,h=>h
 | _+1,_,[],h=>by rw[h.inv0]; exact .nil
 | n+1,_,_::_,h=>by obtain⟨v,r,rfl,h1,h2⟩:=h.inv; exact h2.drop n
theorem Ims.set:∀ {vs:List V} {ts:List T} (i:Nat) {v:V} {t:T},Ims K H vs ts->Im K H v t->Ims K H (vs.set i v) (ts.set i t)
 | _,[],_,_,_,h,_=>by rw[h.inv0]; exact .nil
 | _,_::_,0,_,_,h,h'=>by obtain⟨v,r,rfl,h1,h2⟩:=h.inv; exact .cons h' h2
 | _,_::_,i+1,_,_,h,h'=>by obtain⟨v,r,rfl,h1,h2⟩:=h.inv; exact .cons h1 (h2.set i h')
theorem Ims.atoms:∀ (vs:List V),Ims K H vs (vs.map T.a)
 | []=>.nil
 | v::r=>.cons (by unfold Im; rfl) (Ims.atoms r)
theorem Ims.of_atoms:∀ {vs:List V} {us:List V},Ims K H vs (us.map T.a)->vs=us
 | _,[],h=>h.inv0
 | _,_::_,h=>by obtain⟨v,r,rfl,h1,h2⟩:=h.inv; unfold Im at h1; rw[h1,Ims.of_atoms h2]
theorem Im.atom{v:V}:Im K H v (.a v):=by unfold Im; rfl
theorem Im.tup{p:Addr}{vs:List V}{ts:List T}(h:H p=some (.tup vs))(hs:Ims K H vs ts):Im K H (.ref p) (.t ts):=by unfold Im; exact⟨p,vs,rfl,Tp.of h,hs⟩
theorem Im.inv{v:V}{ts:List T}(h:Im K H v (.t ts)):∃ p vs,v=.ref p/\Tp K H p vs/\Ims K H vs ts:=by unfold Im at h; exact h
theorem Im.invl{v:V}{ts:List T}(h:Im K H v (.l ts)):∃ p vs,v=.ref p/\KF K H p vs/\Ims K H vs ts:=by unfold Im at h; exact h
theorem Im.fn{v:V}{n:Str}(h:FOk K v n):Im K H v (.f n):=by unfold Im; exact h
theorem Im.invf{v:V}{n:Str}(h:Im K H v (.f n)):FOk K v n:=by unfold Im at h; exact h
theorem Im.exc{p:Addr}{c:Str}{fs:List (Str×V)}(h:XOk K H p c fs):Im K H (.ref p) (.x c fs):=by unfold Im; exact⟨p,rfl,h⟩
theorem Im.invx{v:V}{c:Str}{fs:List (Str×V)}(h:Im K H v (.x c fs)):∃ p,v=.ref p/\XOk K H p c fs:=by unfold Im at h; exact h
theorem Im.inva{v u:V}(h:Im K H v (.a u)):v=u:=by unfold Im at h; exact h
end
theorem KF.sq{K:Fg}{H:Hp}{p:Addr}{vs:List V}(h:KF K H p vs):SqL K H p vs:=by
 rcases h with h | h
 ·exact .inl (.inr h)
 ·exact .inr h
theorem KF.of{K:Fg}{H:Hp}{p:Addr}{vs:List V}(h:SqL K H p vs)(n:∀ us,H p≠some (.lst us)):KF K H p vs:=by
 rcases h with (h | h) | h
 ·exact absurd h (n vs)
 ·exact .inl h
 ·exact .inr h
def DOk(K:Fg)(H:Hp):HO->Dk->Prop
 | .dK l,.inl kvs=>Bp (fun (a:Key×V) (b:Key×T)=>a.1=b.1/\Im K H a.2 b.2) l kvs
 | .dT l,.inr kvs=>Bp (fun (a:List Key×V) (b:List Key×T)=>a.1=b.1/\Im K H a.2 b.2) l kvs
 | _,_=>False
theorem DOk.mu{K:Fg}{H:Hp}{o:HO}{kvs:Dk}(h:DOk K H o kvs):Mu o:=by
 unfold DOk at h
 split at h
 ·trivial
 ·trivial
 ·exact h.elim
theorem DOk.evo{K:Fg}{L:List Addr}{H H':Hp}{o:HO}{kvs:Dk}(e:Evo L H H')(hL:LL L H)(h:DOk K H o kvs):DOk K H' o kvs:=by
 unfold DOk at h ⊢
 split at h
 ·exact Paired.mapP h fun _ _ z=>⟨z.1,z.2.evo e hL⟩
 ·exact Paired.mapP h fun _ _ z=>⟨z.1,z.2.evo e hL⟩
 ·exact h.elim
def GOk(K:Fg)(w:W)(H:Hp)(v:V):G->Prop
 | .v t=>Im K H v t
 | .l xs=>∃ p vs,v=.ref p/\p∈w.L/\H p=some (.lst vs)/\Ims K H vs xs
 | .r xs=>∃ p vs,v=.ref p/\Ims K H vs xs/\H p=some (.lst vs)/\p∉w.L/\w.R p
 | .k xs=>∃ p vs,v=.ref p/\Ims K H vs xs/\KF K H p vs
 | .d kvs=>∃ p o,v=.ref p/\p∈w.L/\H p=some o/\DOk K H o kvs
 | .e kvs=>∃ p o,v=.ref p/\DOk K H o kvs/\H p=some o/\p∉w.L/\w.R p
theorem GOk.own{K:Fg}{w:W}{H:Hp}{v:V}{g:G}(m:isMut g=true)(h:GOk K w H v g):∃ p,v=.ref p/\p∈w.L:=by
 cases g with
 | l xs=>obtain⟨p,vs,e,m,_⟩:=h; exact⟨p,e,m⟩
 | d xs=>obtain⟨p,vs,e,m,_⟩:=h; exact⟨p,e,m⟩
 | v _=>cases m
 | r _=>cases m
 | k _=>cases m
 | e _=>cases m
def Ow(C:Fr)(p:Addr):Prop:=p∈C.fx\/C.H0 p=none
structure Rep(K:Fg)(C:Fr)(w:W)(Γ:En)(σ:St)(H:Hp):Prop where
 len:σ.length=Γ.length
 val:∀ (i:Nat) g,Γ[i]?=some (some g)->∃ v,σ[i]?=some (some v)/\GOk K w H v g
 apart:∀ (i j:Nat) p g g',isMut g=true->isMut g'=true->Γ[i]?=some (some g)->Γ[j]?=some (some g')->σ[i]?=some (some (.ref p))->σ[j]?=some (some (.ref p))->i=j
 lst:LL w.L H
 own:∀ p∈w.L,Ow C p
 ra:∀ p,w.R p->∃ o,H p=some o
 rl:∀ p,w.R p->p∉w.L
 frame:∀ b o,C.H0 b=some o->b∉C.fx->H b=some o
 pin:∀ q∈C.pins,σ[q.1]?=some (some (.ref q.2))/\∃ xs,Γ[q.1]?=some (some (.l xs))
def SOk(K:Fg)(C:Fr)(w:W)(σ:St)(H:Hp)(v:V):S->Prop
 | .v t=>Im K H v t
 | .l xs=>∃ p vs,v=.ref p/\p∉w.L/\¬ w.R p/\Ow C p/\H p=some (.lst vs)/\Ims K H vs xs
 | .s i=>σ[i]?=some (some v)
 | .d kvs=>∃ p o,v=.ref p/\p∉w.L/\¬ w.R p/\Ow C p/\H p=some o/\DOk K H o kvs
section
variable {K:Fg}{C:Fr}{w:W}{Γ Γ':En}{σ:St}{H H':Hp}
theorem GOk.evo{v:V}{g:G}(e:Evo w.L H H')(hL:LL w.L H)(hl:isMut g=false)(h:GOk K w H v g):GOk K w H' v g:=by
 cases g with
 | v t=>exact Im.evo e hL h
 | l xs=>cases hl
 | d xs=>cases hl
 | e kvs =>
  obtain⟨p,o,rfl,hi,h⟩:=h
  exact⟨p,o,rfl,hi.evo e hL,e _ _ h.1 h.2.1,h.2⟩
 | r xs =>
  obtain⟨p,vs,rfl,hi,h⟩:=h
  exact⟨p,vs,rfl,hi.evo e hL,e _ _ h.1 h.2.1,h.2⟩
 | k xs =>
  obtain⟨p,vs,rfl,hi,h⟩:=h
  exact⟨p,vs,rfl,hi.evo e hL,h.evo e hL⟩
theorem SOk.evo{v:V}{s:S}(e:Evo w.L H H')(hL:LL w.L H)(h:SOk K C w σ H v s):SOk K C w σ H' v s:=by
 cases s with
 | v t=>exact Im.evo e hL h
 | l xs =>
  obtain⟨p,vs,rfl,n1,n2,o,h1,h2⟩:=h
  exact⟨p,vs,rfl,n1,n2,o,e _ _ h1 n1,h2.evo e hL⟩
 | s i=>exact h
 | d kvs =>
  obtain⟨p,o,rfl,n1,n2,ow,h1,h2⟩:=h
  exact⟨p,o,rfl,n1,n2,ow,e _ _ h1 n1,h2.evo e hL⟩
theorem SOk.atom{v:V}:SOk K C w σ H v (.v (.a v)):=by show Im K H v (.a v); exact Im.atom
theorem SOk.inva{v u:V}(h:SOk K C w σ H v (.v (.a u))):v=u:=by
 have h':Im K H v (.a u):=h
 exact h'.inva
theorem SOk.invt{v:V}{ts:List T}(h:SOk K C w σ H v (.v (.t ts))):∃ p vs,v=.ref p/\Tp K H p vs/\Ims K H vs ts:=by
 have h':Im K H v (.t ts):=h
 exact h'.inv
theorem Rep.evo0(r:Rep K C w Γ σ H)(e:∀ b o,H b=some o->H' b=some o):Rep K C w Γ σ H' where
 len:=r.len
 val:=fun i g h=>by
  obtain⟨v,e1,e2⟩:=r.val i g h
  refine⟨v,e1,?_⟩
  cases g with
  | l xs =>
   obtain⟨p,vs,rfl,hp,h1,h2⟩:=e2
   exact⟨p,vs,rfl,hp,e _ _ h1,h2.evo (L:=w.L) (fun b o h _=>e b o h) r.lst⟩
  | d xs =>
   obtain⟨p,o,rfl,hp,h1,h2⟩:=e2
   exact⟨p,o,rfl,hp,e _ _ h1,h2.evo (L:=w.L) (fun b o h _=>e b o h) r.lst⟩
  | v t=>exact GOk.evo (fun b o h _=>e b o h) r.lst rfl e2
  | r xs=>exact GOk.evo (fun b o h _=>e b o h) r.lst rfl e2
  | k xs=>exact GOk.evo (fun b o h _=>e b o h) r.lst rfl e2
  | e xs=>exact GOk.evo (fun b o h _=>e b o h) r.lst rfl e2
 apart:=r.apart
 lst:=fun p hp=>by obtain⟨o,h,m⟩:=r.lst p hp; exact⟨o,e _ _ h,m⟩
 own:=r.own
 ra:=fun p hp=>by obtain⟨o,h⟩:=r.ra p hp; exact⟨o,e _ _ h⟩
 rl:=r.rl
 frame:=fun b o h n=>e _ _ (r.frame b o h n)
 pin:=r.pin
theorem Rep.same(r:Rep K C w Γ σ H)(e:Same H H'):Rep K C w Γ σ H':=r.evo0 e
theorem Rep.new{p:Addr}{o:HO}(r:Rep K C w Γ σ H)(h:H p=none):Rep K C w Γ σ (upd H p o):=r.evo0 fun b u e=>by rw[zAC (zAH e h)]; exact e
theorem Rep.fresh{p:Addr}(r:Rep K C w Γ σ H)(h:H p=none):p∉w.L/\¬ w.R p/\Ow C p:=by
 refine⟨fun z=>?_,fun z=>?_,?_⟩
 ·obtain⟨vs,e,_⟩:=r.lst p z; rw[h]at e; cases e
 ·obtain⟨o,e⟩:=r.ra p z; rw[h]at e; cases e
 ·by_cases q:p∈C.fx
  ·exact .inl q
  ·refine .inr ?_
   cases e:C.H0 p with
   | none=>rfl
   | some o=>rw[r.frame p o e q]at h; cases h
theorem Rep.newl{p:Addr}{vs:List V}{ts:List T}(r:Rep K C w Γ σ H)(h:H p=none)(hi:Ims K H vs ts):SOk K C w σ (upd H p (.lst vs)) (.ref p) (.l ts):=by
 obtain⟨a,b,c⟩:=r.fresh h
 exact⟨p,vs,rfl,a,b,c,zAG,hi.evo (Evo.new h) r.lst⟩
theorem Rep.newt{p:Addr}{vs:List V}{ts:List T}(r:Rep K C w Γ σ H)(h:H p=none)(hi:Ims K H vs ts):SOk K C w σ (upd H p (.tup vs)) (.ref p) (.v (.t ts)):=by
 exact Im.tup zAG (hi.evo (L:=w.L) (Evo.new h) r.lst)
theorem Rep.put3{i:Nat}{p:Addr}{g0 g1:G}{ob:HO}(r:Rep K C w Γ σ H)(m0:isMut g0=true)(m1:isMut g1=true)(hpin:∀ xs,g0=.l xs->∃ ys,g1=.l ys)(hi:Γ[i]?=some (some g0))(hp:σ[i]?=some (some (.ref p)))(ev1:Evo [p] H H')(hp':H' p=some ob)(mb:Mu ob)(hq:p∈w.L)(hu:GOk K w H' (.ref p) g1) :
  Rep K C w (Γ.set i (some g1)) σ H'/\Evo w.L H H':=by
 have hiΓ:i < Γ.length:=(Ao.mp hi).1
 have ev:Evo w.L H H':=ev1.wide fun q hq'=>AD.mp hq' ▸ hq
 have ne:∀ {c:Addr} {o:HO},c≠p->H c=some o->H' c=some o:=fun n e=>ev1 _ _ e fun z=>n (AD.mp z)
 refine⟨⟨by simpa using r.len,fun j g h=>?_,fun j k c g g' mg mg' h1 h2 h3 h4=>?_,fun c hc=>?_,r.own,fun c hc=>?_,r.rl,fun b o h n=>?_,fun c hc=>?_⟩,ev⟩
 ·by_cases hj:j=i
  ·subst hj
   rw[Aq hiΓ]at h
   cases h
   exact⟨_,hp,hu⟩
  ·rw[AS (Av hj)]at h
   obtain⟨v,e1,e2⟩:=r.val j g h
   refine⟨v,e1,?_⟩
   cases g with
   | l zs =>
    obtain⟨c,vs',rfl,hc,h1,h2⟩:=e2
    have:c≠p:=fun z=>hj (r.apart j i p _ _ rfl m0 h hi (z ▸ e1) hp)
    exact⟨c,vs',rfl,hc,ne this h1,h2.evo ev r.lst⟩
   | d zs =>
    obtain⟨c,vs',rfl,hc,h1,h2⟩:=e2
    have:c≠p:=fun z=>hj (r.apart j i p _ _ rfl m0 h hi (z ▸ e1) hp)
    exact⟨c,vs',rfl,hc,ne this h1,h2.evo ev r.lst⟩
   | v t=>exact GOk.evo ev r.lst rfl e2
   | r zs=>exact GOk.evo ev r.lst rfl e2
   | k zs=>exact GOk.evo ev r.lst rfl e2
   | e zs=>exact GOk.evo ev r.lst rfl e2
 ·have back:∀ (m:Nat) (g:G),isMut g=true->(Γ.set i (some g1))[m]?=some (some g)->∃ g',isMut g'=true/\Γ[m]?=some (some g'):=fun m g mg h=>by
   by_cases hm:m=i
   ·subst hm; exact⟨g0,m0,hi⟩
   ·rw[AS (Av hm)]at h; exact⟨g,mg,h⟩
  obtain⟨z1,y1,g1⟩:=back j g mg h1
  obtain⟨z2,y2,g2⟩:=back k g' mg' h2
  exact r.apart j k c z1 z2 y1 y2 g1 g2 h3 h4
 ·by_cases hcp:c=p
  ·subst hcp; exact⟨ob,hp',mb⟩
  ·obtain⟨o,e,m⟩:=r.lst c hc; exact⟨o,ne hcp e,m⟩
 ·have:c≠p:=fun z=>r.rl c hc (z ▸ hq)
  obtain⟨o,e⟩:=r.ra c hc
  exact⟨o,ne this e⟩
 ·by_cases hb:b=p
  ·subst hb
   rcases r.own b hq with z | z
   ·exact absurd z n
   ·rw[z]at h; cases h
  ·exact ne hb (r.frame b o h n)
 ·obtain⟨h1,zs,h2⟩:=r.pin c hc
  refine⟨h1,?_⟩
  by_cases hm:c.1=i
  ·rw[hm,hi]at h2
   cases h2
   obtain⟨ys,e⟩:=hpin zs rfl
   exact⟨ys,by rw[hm,Aq hiΓ,e]⟩
  ·exact⟨zs,by rw[AS (Av hm)]; exact h2⟩
theorem Rep.put2{i:Nat}{p:Addr}{xs ys:List T}{us:List V}(r:Rep K C w Γ σ H)(hi:Γ[i]?=some (some (.l xs)))(hp:σ[i]?=some (some (.ref p)))(ev1:Evo [p] H H')(hp':H' p=some (.lst us))(hu:Ims K H' us ys) :
  Rep K C w (Γ.set i (some (.l ys))) σ H'/\Evo w.L H H':=by
 obtain⟨v,e1,q,vs,rfl,hq,hv,_⟩:=r.val i _ hi
 rw[hp]at e1; cases e1
 exact r.put3 rfl rfl (fun _ _=>⟨ys,rfl⟩) hi hp ev1 hp' trivial hq ⟨p,us,rfl,hq,hp',hu⟩
theorem Rep.put{i:Nat}{p:Addr}{xs ys:List T}{us:List V}(r:Rep K C w Γ σ H)(hi:Γ[i]?=some (some (.l xs)))(hp:σ[i]?=some (some (.ref p)))(hu:Ims K H us ys) :
  Rep K C w (Γ.set i (some (.l ys))) σ (upd H p (.lst us))/\Evo w.L H (upd H p (.lst us)):=by
 obtain⟨v,e1,q,vs,rfl,hq,hv,_⟩:=r.val i _ hi
 rw[hp]at e1; cases e1
 have ev1:Evo [p] H (upd H p (.lst us)):=fun b o e n=>by rw[zAC (show b≠p from fun z=>n (AD.mpr z))]; exact e
 exact r.put2 hi hp ev1 zAG (hu.evo (ev1.wide fun q hq'=>AD.mp hq' ▸ hq) r.lst)
theorem Rep.temp{p:Addr}(r:Rep K C w Γ σ H)(n1:p∉w.L)(n2:¬ w.R p)(ow:Ow C p)(hl:∃ o,H p=some o/\Mu o)(ev1:Evo [p] H H'):Rep K C w Γ σ H':=by
 have ne:∀ {c:Addr} {o:HO},c≠p->H c=some o->H' c=some o:=fun n e=>ev1 _ _ e fun z=>n (AD.mp z)
 have hL:LL [p] H:=fun q hq=>by rw[AD.mp hq]; exact hl
 refine⟨r.len,fun j g h=>?_,r.apart,fun c hc=>?_,r.own,fun c hc=>?_,r.rl,fun b o h n=>?_,r.pin⟩
 ·obtain⟨v,e1,e2⟩:=r.val j g h
  refine⟨v,e1,?_⟩
  cases g with
  | v t=>exact Im.evo ev1 hL e2
  | l zs =>
   obtain⟨c,vs',rfl,hc,h1,h2⟩:=e2
   exact⟨c,vs',rfl,hc,ne (fun z=>n1 (z ▸ hc)) h1,h2.evo ev1 hL⟩
  | r zs =>
   obtain⟨c,vs',rfl,h1,h2⟩:=e2
   exact⟨c,vs',rfl,h1.evo ev1 hL,ne (fun z=>n2 (z ▸ h2.2.2)) h2.1,h2.2⟩
  | k zs =>
   obtain⟨c,vs',rfl,h1,h2⟩:=e2
   exact⟨c,vs',rfl,h1.evo ev1 hL,h2.evo ev1 hL⟩
  | d zs =>
   obtain⟨c,vs',rfl,hc,h1,h2⟩:=e2
   exact⟨c,vs',rfl,hc,ne (fun z=>n1 (z ▸ hc)) h1,h2.evo ev1 hL⟩
  | e zs =>
   obtain⟨c,vs',rfl,h1,h2⟩:=e2
   exact⟨c,vs',rfl,h1.evo ev1 hL,ne (fun z=>n2 (z ▸ h2.2.2)) h2.1,h2.2⟩
 ·obtain⟨o,e,m⟩:=r.lst c hc; exact⟨o,ne (fun z=>n1 (z ▸ hc)) e,m⟩
 ·obtain⟨o,e⟩:=r.ra c hc; exact⟨o,ne (fun z=>n2 (z ▸ hc)) e⟩
 ·by_cases hb:b=p
  ·subst hb
   rcases ow with z | z
   ·exact absurd z n
   ·rw[z]at h; cases h
  ·exact ne hb (r.frame b o h n)
theorem Rep.setv{i:Nat}{v:V}{g:G}(r:Rep K C w Γ σ H)(hg:isMut g=false)(h:GOk K w H v g)(hn:∀ q∈C.pins,q.1≠i):Rep K C w (Γ.set i (some g)) (σ.set i (some v)) H where
 len:=by simpa using r.len
 val:=fun j g' hj=>by
  by_cases hji:j=i
  ·subst hji
   have hjl:j < Γ.length:=by
    rcases Cw j Γ.length with z | z
    ·exact z
    ·rw[B1 (by simpa using z)]at hj; cases hj
   rw[Aq hjl]at hj
   cases hj
   exact⟨v,by rw[Aq (by rw[r.len]; exact hjl)],h⟩
  ·rw[AS (Av hji)]at hj
   rw[AS (Av hji)]
   exact r.val j g' hj
 apart:=fun j k p ga gb ma mb h1 h2 h3 h4=>by
  have ne:∀ (m:Nat) (gc:G),isMut gc=true->(Γ.set i (some g))[m]?=some (some gc)->m≠i/\Γ[m]?=some (some gc):=fun m gc mc hm=>by
   by_cases e:m=i
   ·subst e
    rcases Cw m Γ.length with z | z
    ·rw[Aq z]at hm; cases hm; rw[hg]at mc; cases mc
    ·rw[B1 (by simpa using z)]at hm; cases hm
   ·rw[AS (Av e)]at hm; exact⟨e,hm⟩
  obtain⟨n1,g1⟩:=ne j ga ma h1
  obtain⟨n2,g2⟩:=ne k gb mb h2
  rw[AS (Av n1)]at h3
  rw[AS (Av n2)]at h4
  exact r.apart j k p ga gb ma mb g1 g2 h3 h4
 lst:=r.lst
 own:=r.own
 ra:=r.ra
 rl:=r.rl
 frame:=r.frame
 pin:=fun q hq=>by
  obtain⟨h1,xs,h2⟩:=r.pin q hq
  have:=hn q hq
  exact⟨by rw[AS (Av this)]; exact h1,xs,by rw[AS (Av this)]; exact h2⟩
theorem Rep.setm{i:Nat}{p:Addr}{ob:HO}{g:G}(r:Rep K C w Γ σ H)(mg:isMut g=true)(n1:p∉w.L)(n2:¬ w.R p)(ow:Ow C p)(hp:H p=some ob)(mb:Mu ob)(hv:GOk K ⟨p::w.L,w.R⟩ H (.ref p) g)(hn:∀ q∈C.pins,q.1≠i) :
  Rep K C ⟨p::w.L,w.R⟩ (Γ.set i (some g)) (σ.set i (some (.ref p))) H where
 len:=by simpa using r.len
 val:=fun j g' hj=>by
  by_cases hji:j=i
  ·subst hji
   have hjl:j < Γ.length:=by
    rcases Cw j Γ.length with z | z
    ·exact z
    ·rw[B1 (by simpa using z)]at hj; cases hj
   rw[Aq hjl]at hj
   cases hj
   exact⟨_,by rw[Aq (by rw[r.len]; exact hjl)],hv⟩
  ·rw[AS (Av hji)]at hj
   rw[AS (Av hji)]
   obtain⟨v,e1,e2⟩:=r.val j g' hj
   refine⟨v,e1,?_⟩
   cases g' with
   | v t=>exact e2
   | l ys=>obtain⟨c,us,rfl,hc,h1,h2⟩:=e2; exact⟨c,us,rfl,AG _ hc,h1,h2⟩
   | d ys=>obtain⟨c,us,rfl,hc,h1,h2⟩:=e2; exact⟨c,us,rfl,AG _ hc,h1,h2⟩
   | r ys =>
    obtain⟨c,us,rfl,hi,h⟩:=e2
    refine⟨c,us,rfl,hi,h.1,fun z=>?_,h.2.2⟩
    rcases AF.mp z with z | z
    ·exact n2 (z ▸ h.2.2)
    ·exact h.2.1 z
   | e ys =>
    obtain⟨c,us,rfl,hi,h⟩:=e2
    refine⟨c,us,rfl,hi,h.1,fun z=>?_,h.2.2⟩
    rcases AF.mp z with z | z
    ·exact n2 (z ▸ h.2.2)
    ·exact h.2.1 z
   | k ys=>exact e2
 apart:=fun j k c ga gb ma mb' h1 h2 h3 h4=>by
  have ne:∀ (m:Nat) (gc:G),isMut gc=true->m≠i->(Γ.set i (some g))[m]?=some (some gc)->(σ.set i (some (.ref p)))[m]?=some (some (.ref c))->Γ[m]?=some (some gc)/\σ[m]?=some (some (.ref c))/\c≠p:=fun m gc mc e h h'=>by
   rw[AS (Av e)]at h
   rw[AS (Av e)]at h'
   refine⟨h,h',fun z=>?_⟩
   obtain⟨v,e1,hg⟩:=r.val m _ h
   obtain⟨q,rfl,hq⟩:=hg.own mc
   rw[h']at e1; cases e1
   exact n1 (z ▸ hq)
  have at_i:∀ (m:Nat),m=i->(σ.set i (some (.ref p)))[m]?=some (some (.ref c))->c=p:=fun m e h=>by
   subst e
   rcases Cw m σ.length with z | z
   ·rw[Aq z]at h; cases h; rfl
   ·rw[B1 (by simpa using z)]at h; cases h
  by_cases e1:j=i
  ·by_cases e2:k=i
   ·rw[e1,e2]
   ·obtain⟨_,_,n⟩:=ne k gb mb' e2 h2 h4
    exact absurd (at_i j e1 h3) n
  ·obtain⟨g1,s1,n⟩:=ne j ga ma e1 h1 h3
   by_cases e2:k=i
   ·exact absurd (at_i k e2 h4) n
   ·obtain⟨g2,s2,_⟩:=ne k gb mb' e2 h2 h4
    exact r.apart j k c ga gb ma mb' g1 g2 s1 s2
 lst:=fun c hc=>by
  rcases AF.mp hc with e | e
  ·subst e; exact⟨ob,hp,mb⟩
  ·exact r.lst c e
 own:=fun c hc=>by
  rcases AF.mp hc with e | e
  ·subst e; exact ow
  ·exact r.own c e
 ra:=r.ra
 rl:=fun c hc z=>by
  rcases AF.mp z with e | e
  ·subst e; exact n2 hc
  ·exact r.rl c hc e
 frame:=r.frame
 pin:=fun q hq=>by
  obtain⟨h1,xs',h2⟩:=r.pin q hq
  have:=hn q hq
  exact⟨by rw[AS (Av this)]; exact h1,xs',by rw[AS (Av this)]; exact h2⟩
theorem Rep.setl{i:Nat}{p:Addr}{vs:List V}{xs:List T}(r:Rep K C w Γ σ H)(n1:p∉w.L)(n2:¬ w.R p)(ow:Ow C p)(hp:H p=some (.lst vs))(hv:Ims K H vs xs)(hn:∀ q∈C.pins,q.1≠i) :
  Rep K C ⟨p::w.L,w.R⟩ (Γ.set i (some (.l xs))) (σ.set i (some (.ref p))) H :=
 r.setm rfl n1 n2 ow hp trivial ⟨p,vs,rfl,AE,hp,hv⟩ hn
theorem Rep.setd{i:Nat}{p:Addr}{ob:HO}{kvs:Dk}(r:Rep K C w Γ σ H)(n1:p∉w.L)(n2:¬ w.R p)(ow:Ow C p)(hp:H p=some ob)(hv:DOk K H ob kvs)(hn:∀ q∈C.pins,q.1≠i) :
  Rep K C ⟨p::w.L,w.R⟩ (Γ.set i (some (.d kvs))) (σ.set i (some (.ref p))) H :=
 r.setm rfl n1 n2 ow hp hv.mu ⟨p,ob,rfl,AE,hp,hv⟩ hn
end
def SOks(K:Fg)(C:Fr)(w:W)(σ:St)(H:Hp):List V->List S->Prop
 | [],[]=>True
 | v::vs,s::ss=>SOk K C w σ H v s/\SOks K C w σ H vs ss
 | _,_=>False
def Nw(H:Hp)(v:V):S->Prop
 | .l _=>∃ p,v=.ref p/\H p=none
 | .d _=>∃ p,v=.ref p/\H p=none
 | _=>True
def Nws(H:Hp):List V->List S->Prop
 | v::vs,s::ss=>Nw H v s/\Nws H vs ss
 | _,_=>True
theorem zAb{L:List Addr}{H H':Hp}{p:Addr}(e:Evo L H H')(hL:LL L H')(h:H' p=none):H p=none:=by
 cases q:H p with
 | none=>rfl
 | some o =>
  by_cases z:p∈L
  ·obtain⟨vs,u,_⟩:=hL p z; rw[h]at u; cases u
  ·rw[e p o q z]at h; cases h
theorem Nw.back{L:List Addr}{H H':Hp}{v:V}{s:S}(n:Nw H' v s)(e:Evo L H H')(hL:LL L H'):Nw H v s:=by
 cases s with
 | l xs=>obtain⟨p,a,b⟩:=n; exact⟨p,a,zAb e hL b⟩
 | d xs=>obtain⟨p,a,b⟩:=n; exact⟨p,a,zAb e hL b⟩
 | v t=>trivial
 | s i=>trivial
theorem Nws.back{L:List Addr}{H H':Hp}(e:Evo L H H')(hL:LL L H'):∀ {vs:List V} {ss:List S},Nws H' vs ss->Nws H vs ss
 | [],[],_=>trivial
 | [],_::_,_=>trivial
 | _::_,[],_=>trivial
 | _::_,_::_,h=>⟨h.1.back e hL,Nws.back e hL h.2⟩
theorem Nws.get{H:Hp}:∀ {vs:List V} {ss:List S} {k:Nat} {v:V} {s:S},Nws H vs ss->vs[k]?=some v->ss[k]?=some s->Nw H v s
 | [],_,_,_,_,_,e,_=>by simp at e
 | _::_,[],_,_,_,_,_,e=>by simp at e
 | _::_,_::_,0,_,_,h,e,e'=>by simp at e e'; subst e e'; exact h.1
 | _::_,_::_,k+1,_,_,h,e,e'=>Nws.get (k:=k) h.2 (by simpa using e) (by simpa using e')
def SimE(K:Fg)(te:TE)(f:DE):Prop:=∀ (C:Fr) (w:W) (Γ:En) (σ:St) (H:Hp) (s:S) (Γ':En) (Q:VK),Rep K C w Γ σ H->f Γ=some (s,Γ') ->
 (∀ v H',Rep K C w Γ' σ H'->Evo w.L H H'->SOk K C w σ H' v s->Nw H v s->Q v H')->te σ H Q
def SimT(K:Fg)(tt:TT)(f:DT):Prop:=∀ (C:Fr) (w:W) (Γ:En) (σ:St) (H:Hp) (b:Bool) (Γ':En) (Q:Bool->Hp->Prop),Rep K C w Γ σ H->f Γ=some (b,Γ') ->
 (∀ H',Rep K C w Γ' σ H'->Evo w.L H H'->Q b H')->tt σ H Q
def SimA(K:Fg)(ta:TA)(f:DA):Prop:=∀ (C:Fr) (w:W) (Γ:En) (σ:St) (H:Hp) (ss:List S) (Γ':En) (Q:List V->Hp->Prop),Rep K C w Γ σ H->f Γ=some (ss,Γ') ->
 (∀ vs H',Rep K C w Γ' σ H'->Evo w.L H H'->SOks K C w σ H' vs ss->Nws H vs ss->Q vs H')->ta σ H Q
def OkO(K:Fg)(C:Fr)(D:Ends):O->Prop
 | .nx Γ=>∀ w σ H,Rep K C w Γ σ H->D.nx σ H
 | .rt s Γ=>∀ w σ H v,Rep K C w Γ σ H->SOk K C w σ H v s->D.rt v H
 | .bk Γ=>∀ w σ H,Rep K C w Γ σ H->D.bk σ H
 | .ct Γ=>∀ w σ H,Rep K C w Γ σ H->D.ct σ H
def SimS(K:Fg)(ip:Option Nat)(ts:TS)(g:DS):Prop:=∀ (C:Fr) (w:W) (Γ:En) (σ:St) (H:Hp) (D:Ends) (o:O),C.pins.map (·.1)=ip.toList->Rep K C w Γ σ H->g Γ=some o->OkO K C D o->ts D σ H
def SimR2(K:Fg)(r:R2)(h:En->S->S->Option S):Prop:=∀ (C:Fr) (w:W) (Γ:En) (σ:St) (H:Hp) (x y:V) (a b s:S) (Q:VK),Rep K C w Γ σ H->SOk K C w σ H x a->SOk K C w σ H y b->h Γ a b=some s ->
 (∀ v H',Rep K C w Γ σ H'->Evo w.L H H'->SOk K C w σ H' v s->Nw H v s->Q v H')->r x y H Q
def SimR1(K:Fg)(r:V->Hp->VK->Prop)(h:En->S->Option S):Prop:=∀ (C:Fr) (w:W) (Γ:En) (σ:St) (H:Hp) (x:V) (a s:S) (Q:VK),Rep K C w Γ σ H->SOk K C w σ H x a->h Γ a=some s ->
 (∀ v H',Rep K C w Γ σ H'->Evo w.L H H'->SOk K C w σ H' v s->Nw H v s->Q v H')->r x H Q
def SimRs(K:Fg)(r:List V->Hp->VK->Prop)(h:En->List S->Option S):Prop:=∀ (C:Fr) (w:W) (Γ:En) (σ:St) (H:Hp) (xs:List V) (as:List S) (s:S) (Q:VK),Rep K C w Γ σ H->SOks K C w σ H xs as->h Γ as=some s ->
 (∀ v H',Rep K C w Γ σ H'->Evo w.L H H'->SOk K C w σ H' v s->Nw H v s->Q v H')->r xs H Q
def jV(i:Nat):DE:=fun Γ=>match Γ[i]? with
 | some (some (.v t))=>some (.v t,Γ)
 | some (some (.l _))=>some (.s i,Γ)
 | some (some (.r _))=>some (.s i,Γ)
 | some (some (.k _))=>some (.s i,Γ)
 | some (some (.d _))=>some (.s i,Γ)
 | some (some (.e _))=>some (.s i,Γ)
 | _=>none
def dC(v:V):DE:=fun Γ=>some (.v (.a v),Γ)
def dOp(h:En->S->S->Option S)(fa fb:DE):DE:=fun Γ=>(fa Γ).bind fun p=>(fb p.2).bind fun q=>(h q.2 p.1 q.1).map fun s=>(s,q.2)
def dUn(h:En->S->Option S)(fa:DE):DE:=fun Γ=>(fa Γ).bind fun p=>(h p.2 p.1).map fun s=>(s,p.2)
def dCB(h:En->List S->Option S)(fa:DA):DE:=fun Γ=>(fa Γ).bind fun p=>(h p.2 p.1).map fun s=>(s,p.2)
def qQ:DA:=fun Γ=>some ([],Γ)
def jW(fa:DE)(fr:DA):DA:=fun Γ=>(fa Γ).bind fun p=>(fr p.2).bind fun q=>some (p.1::q.1,q.2)
def S.tree:S->Option T
 | .v t=>some t
 | _=>none
def trees:List S->Option (List T)
 | []=>some []
 | s::r=>s.tree.bind fun t=>(trees r).map fun ts=>t::ts
def gd{α:Type}(n:Nat)(x:α):Option α:=if n<=AC then some x else none
theorem zAw{α:Type}{n:Nat}{x y:α}(h:gd n x=some y):n<=AC/\x=y:=by
 unfold gd at h; split at h
 ·exact⟨by assumption,Ap h⟩
 ·cases h
def dTup(fa:DA):DE:=fun Γ=>(fa Γ).bind fun p=>(trees p.1).bind fun ts=>gd ts.length (.v (.t ts),p.2)
def dLst(fa:DA):DE:=fun Γ=>(fa Γ).bind fun p=>(trees p.1).bind fun ts=>gd ts.length (.l ts,p.2)
def dTest(f:DE):DT:=fun Γ=>(f Γ).bind fun p=>match p.1 with
 | .v (.a (.bl b))=>some (b,p.2)
 | _=>none
def dAnd(f g:DT):DT:=fun Γ=>(f Γ).bind fun p=>if p.1=true then g p.2 else some (false,p.2)
def dOr(f g:DT):DT:=fun Γ=>(f Γ).bind fun p=>if p.1=true then some (true,p.2) else g p.2
def dNot(f:DT):DT:=fun Γ=>(f Γ).bind fun p=>some (!p.1,p.2)
def dAndV(f g:DE):DE:=fun Γ=>(dTest f Γ).bind fun p=>if p.1=true then g p.2 else some (.v (.a (.bl false)),p.2)
def dOrV(f g:DE):DE:=fun Γ=>(dTest f Γ).bind fun p=>if p.1=true then some (.v (.a (.bl true)),p.2) else g p.2
def dNotV(f:DE):DE:=fun Γ=>(dTest f Γ).bind fun p=>some (.v (.a (.bl !p.1)),p.2)
def dIfE(c:DT)(f g:DE):DE:=fun Γ=>(c Γ).bind fun p=>if p.1=true then f p.2 else g p.2
def dChain(h h':En->S->S->Option S)(fa fb fc:DE):DE:=fun Γ=>(fa Γ).bind fun p=>(fb p.2).bind fun q=>(h q.2 p.1 q.1).bind fun z=>match z with
 | .v (.a (.bl k))=>if k=true then (fc q.2).bind fun u=>(h' u.2 q.1 u.1).map fun s=>(s,u.2) else some (.v (.a (.bl false)),q.2)
 | _=>none
section
variable {K:Fg}{ip:Option Nat}
theorem bind_some{α β:Type}{x:Option α}{f:α->Option β}{y:β}(h:x.bind f=some y):∃ a,x=some a/\f a=some y:=by
 cases x with
 | none=>cases h
 | some a=>exact⟨a,rfl,h⟩
theorem zAA{α β:Type}{x:Option α}{f:α->β}{y:β}(h:x.map f=some y):∃ a,x=some a/\f a=y:=by
 cases x with
 | none=>cases h
 | some a=>exact⟨a,rfl,Ap h⟩
theorem zJi{i:Nat}:SimE K (tVar i) (jV i):=by
 intro C w Γ σ H s Γ' Q R h k
 unfold jV at h
 split at h
 ·rename_i t e
  cases h
  obtain⟨v,e1,e2⟩:=R.val i _ e
  exact⟨v,e1,k v H R .refl e2 trivial⟩
 ·rename_i xs e
  cases h
  obtain⟨v,e1,e2⟩:=R.val i _ e
  exact⟨v,e1,k v H R .refl e1 trivial⟩
 ·rename_i xs e
  cases h
  obtain⟨v,e1,e2⟩:=R.val i _ e
  exact⟨v,e1,k v H R .refl e1 trivial⟩
 ·rename_i xs e
  cases h
  obtain⟨v,e1,e2⟩:=R.val i _ e
  exact⟨v,e1,k v H R .refl e1 trivial⟩
 ·rename_i xs e
  cases h
  obtain⟨v,e1,e2⟩:=R.val i _ e
  exact⟨v,e1,k v H R .refl e1 trivial⟩
 ·rename_i xs e
  cases h
  obtain⟨v,e1,e2⟩:=R.val i _ e
  exact⟨v,e1,k v H R .refl e1 trivial⟩
 ·cases h
theorem zB6{v:V}:SimE K (tC v) (dC v):=by
 intro C w Γ σ H s Γ' Q R h k
 cases h
 exact k v H R .refl SOk.atom trivial
theorem zBm{r:R2}{h:En->S->S->Option S}{ta tb:TE}{fa fb:DE}(hr:SimR2 K r h)(ha:SimE K ta fa)(hb:SimE K tb fb):SimE K (tOp r ta tb) (dOp h fa fb):=by
 intro C w Γ σ H s Γ' Q R e k
 obtain⟨p,e1,e⟩:=bind_some e
 obtain⟨q,e2,e⟩:=bind_some e
 obtain⟨z,e3,e⟩:=zAA e
 cases e
 refine ha C w Γ σ H p.1 p.2 _ R e1 fun v1 H1 R1 ev1 o1 n1=>?_
 refine hb C w p.2 σ H1 q.1 q.2 _ R1 e2 fun v2 H2 R2 ev2 o2 n2=>?_
 exact hr C w q.2 σ H2 v1 v2 _ _ _ Q R2 (o1.evo ev2 R1.lst) o2 e3 fun v H3 R3 ev3 o3 n3=>k v H3 R3 ((ev1.trans ev2).trans ev3) o3 (n3.back (ev1.trans ev2) R2.lst)
theorem zKa{r:V->Hp->VK->Prop}{h:En->S->Option S}{ta:TE}{fa:DE}(hr:SimR1 K r h)(ha:SimE K ta fa):SimE K (tUn r ta) (dUn h fa):=by
 intro C w Γ σ H s Γ' Q R e k
 obtain⟨p,e1,e⟩:=bind_some e
 obtain⟨z,e3,e⟩:=zAA e
 cases e
 refine ha C w Γ σ H p.1 p.2 _ R e1 fun v1 H1 R1 ev1 o1 n1=>?_
 exact hr C w p.2 σ H1 v1 _ _ Q R1 o1 e3 fun v H3 R3 ev3 o3 n3=>k v H3 R3 (ev1.trans ev3) o3 (n3.back ev1 R1.lst)
theorem zD4{r:List V->Hp->VK->Prop}{h:En->List S->Option S}{ta:TA}{fa:DA}(hr:SimRs K r h)(ha:SimA K ta fa):SimE K (tCB r ta) (dCB h fa):=by
 intro C w Γ σ H s Γ' Q R e k
 obtain⟨p,e1,e⟩:=bind_some e
 obtain⟨z,e3,e⟩:=zAA e
 cases e
 refine ha C w Γ σ H p.1 p.2 _ R e1 fun v1 H1 R1 ev1 o1 n1=>?_
 exact hr C w p.2 σ H1 v1 _ _ Q R1 o1 e3 fun v H3 R3 ev3 o3 n3=>k v H3 R3 (ev1.trans ev3) o3 (n3.back ev1 R1.lst)
theorem zFM:SimA K tNil qQ:=by
 intro C w Γ σ H s Γ' Q R e k
 cases e
 exact k [] H R .refl trivial trivial
theorem zIl{ta:TE}{tr:TA}{fa:DE}{fr:DA}(ha:SimE K ta fa)(hr:SimA K tr fr):SimA K (tCons ta tr) (jW fa fr):=by
 intro C w Γ σ H s Γ' Q R e k
 obtain⟨p,e1,e⟩:=bind_some e
 obtain⟨q,e2,e⟩:=bind_some e
 cases e
 refine ha C w Γ σ H p.1 p.2 _ R e1 fun v1 H1 R1 ev1 o1 n1=>?_
 exact hr C w p.2 σ H1 q.1 q.2 _ R1 e2 fun vs H2 R2 ev2 o2 n2=>k (v1::vs) H2 R2 (ev1.trans ev2) ⟨o1.evo ev2 R1.lst,o2⟩ ⟨n1,n2.back ev1 R1.lst⟩
theorem zBA{C:Fr}{w:W}{σ:St}{H:Hp}:∀ {vs:List V} {ss:List S} {ts:List T},SOks K C w σ H vs ss->trees ss=some ts->Ims K H vs ts
 | [],[],_,_,e=>by cases e; exact .nil
 | v::vs,s::ss,_,h,e=>by
  obtain⟨t,e1,e⟩:=bind_some e
  obtain⟨ts,e2,e⟩:=zAA e
  cases e
  cases s with
  | v t'=>cases e1; exact .cons h.1 (zBA h.2 e2)
  | l _=>cases e1
  | s _=>cases e1
  | d _=>cases e1
 | [],_::_,_,h,_=>h.elim
 | _::_,[],_,h,_=>h.elim
theorem zJT{ta:TA}{fa:DA}(ha:SimA K ta fa):SimE K (tTup ta) (dTup fa):=by
 intro C w Γ σ H s Γ' Q R e k
 obtain⟨p,e1,e⟩:=bind_some e
 obtain⟨ts,e2,e⟩:=bind_some e
 obtain⟨hn,e⟩:=zAw e
 cases e
 refine ha C w Γ σ H p.1 p.2 _ R e1 fun vs H1 R1 ev1 o1 _=>?_
 have hi:=zBA o1 e2
 exact⟨by rw[hi.len]; exact hn,fun q hq=>k _ _ (R1.new hq) (ev1.trans (Evo.new hq)) (R1.newt hq hi) trivial⟩
theorem zJP{ta:TA}{fa:DA}(ha:SimA K ta fa):SimE K (tLst ta) (dLst fa):=by
 intro C w Γ σ H s Γ' Q R e k
 obtain⟨p,e1,e⟩:=bind_some e
 obtain⟨ts,e2,e⟩:=bind_some e
 obtain⟨hn,e⟩:=zAw e
 cases e
 refine ha C w Γ σ H p.1 p.2 _ R e1 fun vs H1 R1 ev1 o1 _=>?_
 have hi:=zBA o1 e2
 exact⟨by rw[hi.len]; exact hn,fun q hq=>k _ _ (R1.new hq) (ev1.trans (Evo.new hq)) (R1.newl hq hi) ⟨_,rfl,zAb ev1 R1.lst hq⟩⟩
theorem zBd{ta:TE}{fa:DE}(ha:SimE K ta fa):SimT K (tTest ta) (dTest fa):=by
 intro C w Γ σ H s Γ' Q R e k
 obtain⟨p,e1,e⟩:=bind_some e
 obtain⟨p1,p2⟩:=p
 dsimp only at e
 split at e
 ·cases e
  refine ha C w Γ σ H _ _ _ R e1 fun v H1 R1 ev1 o1 _=>?_
  exact⟨_,SOk.inva o1,k H1 R1 ev1⟩
 ·cases e
theorem zJf{ta tb:TT}{fa fb:DT}(ha:SimT K ta fa)(hb:SimT K tb fb):SimT K (tAnd ta tb) (dAnd fa fb):=by
 intro C w Γ σ H s Γ' Q R e k
 obtain⟨⟨p,G1⟩,e1,e⟩:=bind_some e
 refine ha C w Γ σ H p G1 _ R e1 fun H1 R1 ev1=>?_
 cases p with
 | true=>exact (if_pos rfl).mpr (hb C w G1 σ H1 s Γ' Q R1 (by simpa using e) fun H2 R2 ev2=>k H2 R2 (ev1.trans ev2))
 | false =>
  have e':(false,G1)=(s,Γ'):=by simpa using e
  cases e'
  exact (if_neg AQ).mpr (k H1 R1 ev1)
theorem zLJ{ta tb:TT}{fa fb:DT}(ha:SimT K ta fa)(hb:SimT K tb fb):SimT K (tOr ta tb) (dOr fa fb):=by
 intro C w Γ σ H s Γ' Q R e k
 obtain⟨⟨p,G1⟩,e1,e⟩:=bind_some e
 refine ha C w Γ σ H p G1 _ R e1 fun H1 R1 ev1=>?_
 cases p with
 | false=>exact (if_neg AQ).mpr (hb C w G1 σ H1 s Γ' Q R1 (by simpa using e) fun H2 R2 ev2=>k H2 R2 (ev1.trans ev2))
 | true =>
  have e':(true,G1)=(s,Γ'):=by simpa using e
  cases e'
  exact (if_pos rfl).mpr (k H1 R1 ev1)
theorem zJp{ta:TT}{fa:DT}(ha:SimT K ta fa):SimT K (tNot ta) (dNot fa):=by
 intro C w Γ σ H s Γ' Q R e k
 obtain⟨p,e1,e⟩:=bind_some e
 cases e
 exact ha C w Γ σ H p.1 p.2 _ R e1 fun H1 R1 ev1=>k H1 R1 ev1
theorem zIM{ta tb:TE}{fa fb:DE}(ha:SimE K ta fa)(hb:SimE K tb fb):SimE K (tAndV ta tb) (dAndV fa fb):=by
 intro C w Γ σ H s Γ' Q R e k
 obtain⟨⟨p,G1⟩,e1,e⟩:=bind_some e
 refine (zBd ha) C w Γ σ H p G1 (fun c H1=>if c=true then tb σ H1 Q else Q (.bl false) H1) R e1 fun H1 R1 ev1=>?_
 cases p with
 | true=>exact (if_pos rfl).mpr (hb C w G1 σ H1 s Γ' Q R1 (by simpa using e) fun v H2 R2 ev2 o n=>k v H2 R2 (ev1.trans ev2) o (n.back ev1 R1.lst))
 | false =>
  have e':(S.v (.a (.bl false)),G1)=(s,Γ'):=by simpa using e
  cases e'
  exact (if_neg AQ).mpr (k _ H1 R1 ev1 SOk.atom trivial)
theorem zHB{r r':R2}{h h':En->S->S->Option S}{ta tb tc:TE}{fa fb fc:DE}(hr:SimR2 K r h)(hr':SimR2 K r' h')(ha:SimE K ta fa)(hb:SimE K tb fb)(hc:SimE K tc fc):SimE K (tChain r r' ta tb tc) (dChain h h' fa fb fc):=by
 intro C w Γ σ H s Γ' Q R e k
 obtain⟨⟨p,G1⟩,e1,e⟩:=bind_some e
 obtain⟨⟨q,G2⟩,e2,e⟩:=bind_some e
 obtain⟨z,e3,e⟩:=bind_some e
 dsimp only at e3 e
 refine ha C w Γ σ H p G1 _ R e1 fun v1 H1 R1 ev1 o1 n1=>?_
 refine hb C w G1 σ H1 q G2 _ R1 e2 fun v2 H2 R2 ev2 o2 n2=>?_
 refine hr C w G2 σ H2 v1 v2 _ _ _ _ R2 (o1.evo ev2 R1.lst) o2 e3 fun v H3 R3 ev3 o3 n3=>?_
 split at e
 ·rename_i c
  refine⟨c,SOk.inva o3,?_⟩
  cases c with
  | true =>
   rw[if_pos rfl]at e ⊢
   obtain⟨⟨u,G3⟩,e4,e⟩:=bind_some e
   obtain⟨z,e5,e⟩:=zAA e
   cases e
   refine hc C w G2 σ H3 u G3 _ R3 e4 fun v4 H4 R4 ev4 o4 _=>?_
   exact hr' C w G3 σ H4 v2 v4 _ _ _ Q R4 ((o2.evo ev3 R2.lst).evo ev4 R3.lst) o4 e5 fun v H5 R5 ev5 o5 n5=>k v H5 R5 ((((ev1.trans ev2).trans ev3).trans ev4).trans ev5) o5 (n5.back (((ev1.trans ev2).trans ev3).trans ev4) R4.lst)
  | false =>
   rw[if_neg AQ]at e ⊢
   cases e
   exact k _ H3 R3 ((ev1.trans ev2).trans ev3) SOk.atom trivial
 ·cases e
end
def dNext:DS:=fun Γ=>some (.nx Γ)
def dSeq(f g:DS):DS:=fun Γ=>(f Γ).bind fun o=>match o with
 | .nx Γ'=>g Γ'
 | o=>some o
def dDrop(f:DE):DS:=fun Γ=>(f Γ).map fun p=>.nx p.2
def dRet(f:DE):DS:=fun Γ=>(f Γ).map fun p=>.rt p.1 p.2
def dRetN:DS:=fun Γ=>some (.rt (.v (.a .non)) Γ)
def dIf(c:DT)(f g:DS):DS:=fun Γ=>(c Γ).bind fun p=>if p.1=true then f p.2 else g p.2
def setS(i:Nat)(s:S)(Γ:En):Option En:=match s with
 | .v t=>some (Γ.set i (some (.v t)))
 | .l xs=>some (Γ.set i (some (.l xs)))
 | .d xs=>some (Γ.set i (some (.d xs)))
 | .s j=>match Γ[j]? with
  | some (some (.r xs))=>some (Γ.set i (some (.r xs)))
  | _=>none
def dSet(i:Nat)(f:DE):DS:=fun Γ=>(f Γ).bind fun p=>(setS i p.1 p.2).map .nx
def dWhile(c:DT)(b:DS):Nat->DS
 | 0=>fun _=>none
 | n+1=>fun Γ=>(c Γ).bind fun p=>if p.1=true then (b p.2).bind fun o=>match o with
   | .nx Γ'=>dWhile c b n Γ'
   | .ct Γ'=>dWhile c b n Γ'
   | .bk Γ'=>some (.nx Γ')
   | .rt s Γ'=>some (.rt s Γ')
  else some (.nx p.2)
section
variable {K:Fg}{ip:Option Nat}
theorem zHh:SimS K ip tNext dNext:=fun C w Γ σ H D o _ R e k=>by cases e; exact k w σ H R
theorem zIX{t u:TS}{f g:DS}(h1:SimS K ip t f)(h2:SimS K ip u g):SimS K ip (tSeq t u) (dSeq f g):=by
 intro C w Γ σ H D o hp R e k
 obtain⟨o1,e1,e⟩:=bind_some e
 refine h1 C w Γ σ H _ o1 hp R e1 ?_
 cases o1 with
 | nx Γ1=>exact fun w' σ' H' R'=>h2 C w' Γ1 σ' H' D o hp R' e k
 | rt s Γ1=>cases e; exact k
 | bk Γ1=>cases e; exact k
 | ct Γ1=>cases e; exact k
theorem zGl{te:TE}{f:DE}(h:SimE K te f):SimS K ip (tDrop te) (dDrop f):=by
 intro C w Γ σ H D o hp R e k
 obtain⟨p,e1,e⟩:=zAA e
 subst e
 exact h C w Γ σ H p.1 p.2 _ R e1 fun v H1 R1 _ _ _=>k w σ H1 R1
theorem zIV{te:TE}{f:DE}(h:SimE K te f):SimS K ip (tRet te) (dRet f):=by
 intro C w Γ σ H D o hp R e k
 obtain⟨p,e1,e⟩:=zAA e
 subst e
 exact h C w Γ σ H p.1 p.2 _ R e1 fun v H1 R1 _ o _=>k w σ H1 v R1 o
theorem zJL{tc:TT}{t u:TS}{c:DT}{f g:DS}(hc:SimT K tc c)(h1:SimS K ip t f)(h2:SimS K ip u g):SimS K ip (tIfS tc t u) (dIf c f g):=by
 intro C w Γ σ H D o hp R e k
 obtain⟨⟨p,G1⟩,e1,e⟩:=bind_some e
 refine hc C w Γ σ H p G1 _ R e1 fun H1 R1 _=>?_
 cases p with
 | true=>exact (if_pos rfl).mpr (h1 C w G1 σ H1 D o hp R1 (by simpa using e) k)
 | false=>exact (if_neg AQ).mpr (h2 C w G1 σ H1 D o hp R1 (by simpa using e) k)
theorem zAt{C:Fr}{i:Nat}(hp:C.pins.map (·.1)=ip.toList)(hi:ip≠some i):∀ q∈C.pins,q.1≠i:=fun q hq e=>by
 have:q.1∈ip.toList:=hp ▸ Br.mpr ⟨q,hq,rfl⟩
 rw[Dr]at this
 exact hi (by rw[this,e])
theorem zFc{C:Fr}{w:W}{Γ Γ':En}{σ:St}{H:Hp}{v:V}{s:S}{i:Nat}(R:Rep K C w Γ σ H)(o:SOk K C w σ H v s)(e:setS i s Γ=some Γ')(hn:∀ q∈C.pins,q.1≠i):∃ w',Rep K C w' Γ' (σ.set i (some v)) H:=by
 cases s with
 | v t=>cases e; exact⟨w,R.setv rfl o hn⟩
 | d xs =>
  cases e
  obtain⟨p,vs,rfl,n1,n2,ow,h1,h2⟩:=o
  exact⟨_,R.setd n1 n2 ow h1 h2 hn⟩
 | l xs =>
  cases e
  obtain⟨p,vs,rfl,n1,n2,ow,h1,h2⟩:=o
  exact⟨_,R.setl n1 n2 ow h1 h2 hn⟩
 | s j =>
  unfold setS at e
  dsimp only at e
  split at e
  ·rename_i xs he
   cases e
   obtain⟨v',e1,e2⟩:=R.val j _ he
   have o':σ[j]?=some (some v):=o
   rw[o']at e1; cases e1
   exact⟨w,R.setv rfl e2 hn⟩
  ·cases e
theorem zDs{te:TE}{f:DE}{i:Nat}(h:SimE K te f)(hi:ip≠some i):SimS K ip (tAsg te (gName i)) (dSet i f):=by
 intro C w Γ σ H D o hp R e k
 obtain⟨p,e1,e⟩:=bind_some e
 obtain⟨Γ1,e2,e⟩:=zAA e
 subst e
 refine h C w Γ σ H p.1 p.2 _ R e1 fun v H1 R1 _ o1 _=>?_
 obtain⟨w',R'⟩:=zFc R1 o1 e2 (zAt hp hi)
 exact k w' _ H1 R'
end
section
variable {K:Fg}{C:Fr}{w:W}{Γ Γ':En}{σ:St}{H H':Hp}
theorem Rep.base(R:Rep K C w Γ σ H):Rep K ⟨H,w.L,C.pins⟩ w Γ σ H :=
 ⟨R.len,R.val,R.apart,R.lst,fun p hp=>.inl hp,R.ra,R.rl,fun b o h _=>h,R.pin⟩
theorem Rep.back{C1:Fr}{w1:W}{Γ1:En}{σ1:St}{H1:Hp}(R:Rep K C w Γ σ H)(hC:C1=⟨H,w.L,C.pins⟩)(R1:Rep K C1 w1 Γ1 σ1 H1):Rep K C w1 Γ1 σ1 H1:=by
 subst hC
 refine⟨R1.len,R1.val,R1.apart,R1.lst,fun p hp=>?_,R1.ra,R1.rl,fun b o h n=>R1.frame b o (R.frame b o h n) fun z=>?_,R1.pin⟩
 ·rcases R1.own p hp with z | z
  ·exact R.own p z
  ·exact (R.fresh z).2.2
 ·rcases R.own b z with q | q
  ·exact n q
  ·rw[q]at h; cases h
theorem Ow.back{C1:Fr}{p:Addr}(R:Rep K C w Γ σ H)(hC:C1=⟨H,w.L,C.pins⟩)(h:Ow C1 p):Ow C p:=by
 subst hC
 rcases h with z | z
 ·exact R.own p z
 ·exact (R.fresh z).2.2
theorem SOk.back{C1:Fr}{w1:W}{σ1:St}{H1:Hp}{v:V}{s:S}(R:Rep K C w Γ σ H)(hC:C1=⟨H,w.L,C.pins⟩)(o:SOk K C1 w1 σ1 H1 v s):SOk K C w1 σ1 H1 v s:=by
 cases s with
 | v t=>exact o
 | s i=>exact o
 | l xs =>
  obtain⟨p,vs,e,n1,n2,ow,h1,h2⟩:=o
  exact⟨p,vs,e,n1,n2,Ow.back R hC ow,h1,h2⟩
 | d xs =>
  obtain⟨p,vs,e,n1,n2,ow,h1,h2⟩:=o
  exact⟨p,vs,e,n1,n2,Ow.back R hC ow,h1,h2⟩
theorem Rep.freeze{i:Nat}{xs:List T}{p:Addr}(R:Rep K C w Γ σ H)(hi:Γ[i]?=some (some (.l xs)))(hp:σ[i]?=some (some (.ref p)))(hn:∀ q∈C.pins,q.1≠i) :
  Rep K C ⟨w.L.filter (fun q=>decide (q≠p)),fun q=>q=p\/w.R q⟩ (Γ.set i (some (.r xs))) σ H:=by
 have hiΓ:i < Γ.length:=(Ao.mp hi).1
 obtain⟨v0,e0,q0,vs0,rfl,hq0,hv0,hi0⟩:=R.val i _ hi
 rw[hp]at e0; cases e0
 have mem:∀ {q:Addr},q∈w.L.filter (fun q=>decide (q≠p)) ↔ q∈w.L/\q≠p:=by intro q; simp
 have back:∀ (m:Nat) (g:G),isMut g=true->(Γ.set i (some (.r xs)))[m]?=some (some g)->m≠i/\Γ[m]?=some (some g):=fun m g mg h=>by
  by_cases hm:m=i
  ·subst hm; rw[Aq hiΓ]at h; cases h; cases mg
  ·rw[AS (Av hm)]at h; exact⟨hm,h⟩
 refine⟨by simpa using R.len,fun j g h=>?_,fun j k c ga gb ma mb h1 h2 h3 h4=>?_,fun c hc=>R.lst c (mem.mp hc).1,fun c hc=>R.own c (mem.mp hc).1,fun c hc=>?_,fun c hc z=>?_,R.frame,fun q hq=>?_⟩
 ·by_cases hj:j=i
  ·subst hj
   rw[Aq hiΓ]at h
   cases h
   exact⟨_,hp,p,vs0,rfl,hi0,hv0,fun z=>(mem.mp z).2 rfl,.inl rfl⟩
  ·rw[AS (Av hj)]at h
   obtain⟨v,e1,e2⟩:=R.val j g h
   refine⟨v,e1,?_⟩
   cases g with
   | v t=>exact e2
   | l ys =>
    obtain⟨c,us,rfl,hc,h1,h2⟩:=e2
    exact⟨c,us,rfl,mem.mpr ⟨hc,fun z=>hj (R.apart j i p _ _ rfl rfl h hi (z ▸ e1) hp)⟩,h1,h2⟩
   | d ys =>
    obtain⟨c,us,rfl,hc,h1,h2⟩:=e2
    exact⟨c,us,rfl,mem.mpr ⟨hc,fun z=>hj (R.apart j i p _ _ rfl rfl h hi (z ▸ e1) hp)⟩,h1,h2⟩
   | r ys =>
    obtain⟨c,us,rfl,h1,h2⟩:=e2
    exact⟨c,us,rfl,h1,h2.1,fun z=>h2.2.1 (mem.mp z).1,.inr h2.2.2⟩
   | e ys =>
    obtain⟨c,us,rfl,h1,h2⟩:=e2
    exact⟨c,us,rfl,h1,h2.1,fun z=>h2.2.1 (mem.mp z).1,.inr h2.2.2⟩
   | k ys=>exact e2
 ·obtain⟨_,g1⟩:=back j ga ma h1
  obtain⟨_,g2⟩:=back k gb mb h2
  exact R.apart j k c ga gb ma mb g1 g2 h3 h4
 ·rcases hc with e | e
  ·subst e; exact⟨_,hv0⟩
  ·exact R.ra c e
 ·rcases hc with e | e
  ·exact (mem.mp z).2 e
  ·exact R.rl c e (mem.mp z).1
 ·obtain⟨h1,zs,h2⟩:=R.pin q hq
  exact⟨h1,zs,by rw[AS (Av (hn q hq))]; exact h2⟩
def frz1(Γ:En)(i:Nat):En:=match Γ[i]? with
 | some (some (.l xs))=>Γ.set i (some (.r xs))
 | _=>Γ
def frz(Γ:En)(src:List Nat):En:=src.foldl frz1 Γ
theorem Rep.frz:∀ (src:List Nat) {w:W} {Γ:En},Rep K C w Γ σ H->(∀ i∈src,∀ q∈C.pins,q.1≠i) ->
  ∃ w',Rep K C w' (frz Γ src) σ H/\(∀ p∈w'.L,p∈w.L)/\∀ i∈src,∀ p,σ[i]?=some (some (.ref p))->(∃ xs,Γ[i]?=some (some (.l xs)))->p∉w'.L:=by
 intro src
 induction src with
 | nil=>intro w Γ R _; exact⟨w,R,fun p h=>h,fun i hi=>nomatch hi⟩
 | cons i r ih =>
  intro w Γ R hn
  have step:∃ w1,Rep K C w1 (frz1 Γ i) σ H/\(∀ p∈w1.L,p∈w.L)/\(∀ p,σ[i]?=some (some (.ref p))->(∃ xs,Γ[i]?=some (some (.l xs)))->p∉w1.L):=by
   unfold frz1
   split
   ·rename_i xs e
    obtain⟨v,e1,p,vs,rfl,_⟩:=R.val i _ e
    refine⟨_,R.freeze e e1 (hn i AE),fun q hq=>(ER.mp hq).1,fun q hq _ z=>?_⟩
    rw[e1]at hq; cases hq
    have:=(ER.mp z).2
    simp at this
   ·rename_i e
    exact⟨w,R,fun p h=>h,fun p _ ⟨xs,h⟩=>absurd h (e xs)⟩
  obtain⟨w1,R1,s1,n1⟩:=step
  obtain⟨w2,R2,s2,n2⟩:=ih R1 (fun j hj=>hn j (AG _ hj))
  refine⟨w2,R2,fun p h=>s1 p (s2 p h),fun j hj p hp hx=>?_⟩
  rcases AF.mp hj with e | e
  ·subst e; exact fun z=>n1 p hp hx (s2 p z)
  ·by_cases hji:j=i
   ·subst hji; exact fun z=>n1 p hp hx (s2 p z)
   ·refine n2 j e p hp ?_
    obtain⟨xs,hx⟩:=hx
    refine⟨xs,?_⟩
    unfold frz1
    split
    ·rw[AS (Av hji)]; exact hx
    ·exact hx
end
abbrev DI:=En->Option ((List T×List Nat)×En)
def ItOk(K:Fg)(w:W)(Γ:En)(σ:St)(J:It)(H:Hp)(its:List T)(src:List Nat):Prop:=its.length<=AC/\∀ L',(∀ p∈L',p∈w.L)->(∀ i∈src,∀ p,σ[i]?=some (some (.ref p))->(∃ xs,Γ[i]?=some (some (.l xs)))->p∉L')->∀ H2,Evo L' H H2 ->
 (∀ (i:Nat) t,its[i]?=some t->J.go i H2/\∀ x H3,J.yld i H2 x H3->(∀ b o,H2 b=some o->H3 b=some o)/\Im K H3 x t)/\J.stop its.length H2
def SimI(K:Fg)(wi:TI)(di:DI):Prop:=∀ (C:Fr) (w:W) (Γ:En) (σ:St) (H:Hp) (its:List T) (src:List Nat) (Γ':En) (R:It->Hp->Prop),Rep K C w Γ σ H->di Γ=some ((its,src),Γ') ->
 (∀ J H',Rep K C w Γ' σ H'->Evo w.L H H'->ItOk K w Γ' σ J H' its src->R J H')->wi σ H R
def SimG(K:Fg)(ip:Option Nat)(g:TG)(tg:En->T->Option En):Prop:=∀ (C:Fr) (w:W) (Γ:En) (σ:St) (H:Hp) (v:V) (t:T) (Γ':En) (Q:St->Hp->Prop),C.pins.map (·.1)=ip.toList->Rep K C w Γ σ H->Im K H v t->tg Γ t=some Γ' ->
 (∀ σ',Rep K C w Γ' σ' H->Q σ' H)->g v σ H Q
def SimGs(K:Fg)(ip:Option Nat)(g:TGs)(tg:En->List T->Option En):Prop:=∀ (C:Fr) (w:W) (Γ:En) (σ:St) (H:Hp) (vs:List V) (ts:List T) (Γ':En) (Q:St->Hp->Prop),C.pins.map (·.1)=ip.toList->Rep K C w Γ σ H->Ims K H vs ts->tg Γ ts=some Γ' ->
 (∀ σ',Rep K C w Γ' σ' H->Q σ' H)->g vs σ H Q
def gdName(i:Nat):En->T->Option En:=fun Γ t=>some (Γ.set i (some (.v t)))
def gdNil:En->List T->Option En:=fun Γ ts=>match ts with
 | []=>some Γ
 | _=>none
def gdCons(f:En->T->Option En)(g:En->List T->Option En):En->List T->Option En:=fun Γ ts=>match ts with
 | []=>none
 | t::r=>(f Γ t).bind fun Γ1=>g Γ1 r
def gdTup(n:Nat)(g:En->List T->Option En):En->T->Option En:=fun Γ t=>match t with
 | .t ts=>if ts.length=n then g Γ ts else none
 | _=>none
section
variable {K:Fg}{ip:Option Nat}
theorem zHL{i:Nat}(hi:ip≠some i):SimG K ip (gName i) (gdName i):=by
 intro C w Γ σ H v t Γ' Q hp R h e k
 cases e
 exact k _ (R.setv rfl h (zAt hp hi))
theorem zHf:SimGs K ip gNil gdNil:=by
 intro C w Γ σ H vs ts Γ' Q hp R h e k
 cases ts with
 | nil=>cases e; exact⟨h.inv0,k σ R⟩
 | cons t r=>cases e
theorem zFh{g:TG}{gs:TGs}{f:En->T->Option En}{fs:En->List T->Option En}(h1:SimG K ip g f)(h2:SimGs K ip gs fs):SimGs K ip (gCons g gs) (gdCons f fs):=by
 intro C w Γ σ H vs ts Γ' Q hp R h e k
 cases ts with
 | nil=>cases e
 | cons t r =>
  obtain⟨Γ1,e1,e2⟩:=bind_some e
  obtain⟨v,us,rfl,i1,i2⟩:=h.inv
  exact⟨v,us,rfl,h1 C w Γ σ H v t Γ1 _ hp R i1 e1 fun σ1 R1=>h2 C w Γ1 σ1 H us r Γ' Q hp R1 i2 e2 k⟩
theorem zIT{n:Nat}{gs:TGs}{fs:En->List T->Option En}(h:SimGs K ip gs fs):SimG K ip (gTup K n gs) (gdTup n fs):=by
 intro C w Γ σ H v t Γ' Q hp R hi e k
 cases t with
 | a u=>cases e
 | l u=>cases e
 | f u=>cases e
 | x u v=>cases e
 | t ts =>
  unfold gdTup at e
  dsimp only at e
  split at e
  ·rename_i hn
   obtain⟨p,us,rfl,h1,h2⟩:=hi.inv
   exact⟨p,us,rfl,h1.sq,by rw[h2.len]; exact hn,h C w Γ σ H us ts Γ' Q hp R h2 e k⟩
  ·cases e
end
def forD(tg:En->T->Option En)(b:DS):List T->DS
 | []=>fun Γ=>some (.nx Γ)
 | t::r=>fun Γ=>(tg Γ t).bind fun Γ1=>(b Γ1).bind fun o=>match o with
  | .nx Γ'=>forD tg b r Γ'
  | .ct Γ'=>forD tg b r Γ'
  | .bk Γ'=>some (.nx Γ')
  | .rt s Γ'=>some (.rt s Γ')
def dFor(ip:Option Nat)(di:DI)(tg:En->T->Option En)(b:DS):DS:=fun Γ=>(di Γ).bind fun p=>if p.1.2.all (fun i=>decide (ip≠some i))=true then forD tg b p.1.1 (frz p.2 p.1.2) else none
theorem zH1{K:Fg}{ip:Option Nat}{wi:TI}{g:TG}{tb:TS}{di:DI}{tg:En->T->Option En}{b:DS}(hi:SimI K wi di)(hg:SimG K ip g tg)(hb:SimS K ip tb b):SimS K ip (tFor wi g tb) (dFor ip di tg b):=by
 intro C w Γ σ H D o hp R e k
 obtain⟨⟨⟨its,src⟩,Γ1⟩,e1,e⟩:=bind_some e
 dsimp only at e
 split at e
 rotate_left
 ·cases e
 rename_i hsrc
 refine hi C w Γ σ H its src Γ1 _ R e1 fun J H1 R1 _ ⟨hl,hJ⟩=>?_
 have hs:∀ i∈src,∀ q∈C.pins,q.1≠i:=fun i hi'=>zAt hp (by have:=A4.mp hsrc i hi'; simpa using this)
 obtain⟨w2,R2,sub,avoid⟩:=R1.frz src hs
 have hC:∃ C1:Fr,C1=⟨H1,w2.L,C.pins⟩:=⟨_,rfl⟩
 obtain⟨C1,hC⟩:=hC
 have R3:Rep K C1 w2 (frz Γ1 src) σ H1:=hC ▸ R2.base
 have hp1:C1.pins.map (·.1)=ip.toList:=by rw[hC]; exact hp
 refine⟨fun i m σ H=>m=its.length - i/\i<=its.length/\∃ w Γ,Rep K C1 w Γ σ H/\forD tg b (its.drop i) Γ=some o,⟨_,rfl,Cq _,w2,_,R3,e⟩,?_⟩
 rintro i m σ' H' ⟨rfl,hi',w',Γ',R',e'⟩
 have ev:Evo w2.L H1 H':=fun b o h n=>R'.frame b o (by rw[hC]; exact h) (by rw[hC]; exact n)
 obtain⟨go,stop⟩:=hJ w2.L sub avoid H' ev
 by_cases hlt:i < its.length
 ·obtain⟨t,ht⟩:∃ t,its[i]?=some t:=⟨its[i],by simp[hlt]⟩
  have hd:its.drop i=t::its.drop (i+1):=by
   obtain⟨h1,h2⟩:=Ao.mp ht
   rw[← h2]; exact Dv h1
  rw[hd]at e'
  unfold forD at e'
  obtain⟨Γ2,e2,e'⟩:=bind_some e'
  obtain⟨o2,e3,e'⟩:=bind_some e'
  obtain⟨g1,g2⟩:=go i t ht
  refine .inr ⟨g1,fun σ H=>∃ w Γ,Rep K C1 w Γ σ H/\forD tg b (its.drop (i+1)) Γ=some o,fun σ2 H2 ⟨w2,Γ2,R2,e2⟩=>⟨_,by omega,rfl,hlt,w2,Γ2,R2,e2⟩,fun x H3 hx=>?_⟩
  obtain⟨k1,k2⟩:=g2 x H3 hx
  refine hg C1 w' Γ' σ' H3 x t Γ2 _ hp1 (R'.evo0 k1) k2 e2 fun σ4 R4=>?_
  refine hb C1 w' Γ2 σ4 H3 _ o2 hp1 R4 e3 ?_
  cases o2 with
  | nx Γ5=>exact fun w5 σ5 H5 R5=>⟨w5,Γ5,R5,e'⟩
  | ct Γ5=>exact fun w5 σ5 H5 R5=>⟨w5,Γ5,R5,e'⟩
  | bk Γ5=>cases e'; exact fun w5 σ5 H5 R5=>k w5 σ5 H5 (R2.back hC R5)
  | rt s Γ5=>cases e'; exact fun w5 σ5 H5 v R5 o5=>k w5 σ5 H5 v (R2.back hC R5) (o5.back R2 hC)
 ·have:i=its.length:=by omega
  subst this
  rw[FU]at e'
  cases e'
  exact .inl ⟨stop,k w' σ' H' (R2.back hC R')⟩
def pick1(mu:Option Nat)(k:Nat):Option G->Option G
 | some (.l xs)=>if mu=some k then some (.l xs) else some (.r xs)
 | some (.d xs)=>some (.e xs)
 | o=>o
def pick(mu:Option Nat)(ix:List (Option Nat))(Γ:En):En:=ix.map fun o=>o.bind fun k=>pick1 mu k (Γ[k]?).join
def compD(tg:En->T->Option En)(dc:DT)(de:DE):List T->En->Option (List T×En)
 | [],Γ=>some ([],Γ)
 | t::r,Γ=>(tg Γ t).bind fun Γ1=>(dc Γ1).bind fun p=>if p.1=true then (de p.2).bind fun q=>q.1.tree.bind fun t'=>(compD tg dc de r q.2).map fun z=>(t'::z.1,z.2) else compD tg dc de r p.2
def cback(mu:Option (Nat×Nat))(Γ Γo:En):En:=match mu with
 | none=>Γ
 | some (j,i)=>match Γo[j]? with
  | some (some (.l xs))=>Γ.set i (some (.l xs))
  | _=>Γ
def dComp(mu:Option (Nat×Nat))(ix:List (Option Nat))(di:DI)(tg:En->T->Option En)(dc:DT)(de:DE):DE:=fun Γ=>(di Γ).bind fun p =>
 match mu with
 | none=>(compD tg dc de p.1.1 (pick none ix p.2)).map fun z=>(.l z.1,p.2)
 | some (j,i)=>if i∈p.1.2 then none else match p.2[i]? with
  | some (some (.l _))=>(compD tg dc de p.1.1 (pick (some i) ix p.2)).map fun z=>(.l z.1,cback mu p.2 z.2)
  | _=>none
section
variable {K:Fg}
theorem zCU{C1:Fr}{w1:W}{J:It}{H1:Hp}{its:List T}{ix:List (Option Nat)}{g:TG}{tc:TT}{te:TE}{tg:En->T->Option En}{dc:DT}{de:DE}{jp:Option Nat}{σ:St}{Γ0 Γe:En}{ts:List T}{Q:VK}
  (hp:C1.pins.map (·.1)=jp.toList) (hg:SimG K jp g tg) (hc:SimT K tc dc) (he:SimE K te de) (hl:its.length<=AC) (hC:C1.H0=H1)
  (hJ:∀ H2,Evo C1.fx H1 H2->(∀ (i:Nat) t,its[i]?=some t->J.go i H2/\∀ x H3,J.yld i H2 x H3->(∀ b o,H2 b=some o->H3 b=some o)/\Im K H3 x t)/\J.stop its.length H2)
  (hfx:∀ p,p∈w1.L->p∈C1.fx)
  (R:Rep K C1 w1 Γ0 (frm ix σ) H1) (e:compD tg dc de its Γ0=some (ts,Γe))
  (k:∀ σ' H' ys,Rep K C1 w1 Γe σ' H'->Ims K H' ys ts->ys.length<=AC->∀ D,H' D=none->Q (.ref D) (upd H' D (.lst ys))):CompW J ix g tc te σ H1 Q:=by
 refine⟨fun i m ys σ' H'=>m=its.length - i/\i<=its.length/\ys.length<=i/\∃ Γ pre post,Rep K C1 w1 Γ σ' H'/\Ims K H' ys pre/\compD tg dc de (its.drop i) Γ=some (post,Γe)/\ts=pre++post,⟨_,rfl,Cq _,Cq _,Γ0,[],ts,R,.nil,e,rfl⟩,?_⟩
 rintro i m ys σ' H' ⟨rfl,hi,hy,Γ,pre,post,R',hpre,e',rfl⟩
 have ev:Evo C1.fx H1 H':=fun b o h n=>R'.frame b o (by rw[hC]; exact h) n
 obtain⟨go,stop⟩:=hJ H' ev
 by_cases hlt:i < its.length
 ·obtain⟨t,ht⟩:∃ t,its[i]?=some t:=⟨its[i],by simp[hlt]⟩
  have hd:its.drop i=t::its.drop (i+1):=by
   obtain⟨h1,h2⟩:=Ao.mp ht
   rw[← h2]; exact Dv h1
  rw[hd]at e'
  unfold compD at e'
  obtain⟨Γ1,e1,e'⟩:=bind_some e'
  obtain⟨⟨b,Γ2⟩,e2,e'⟩:=bind_some e'
  obtain⟨g1,g2⟩:=go i t ht
  refine .inr ⟨g1,by omega,fun ys' σ2 H2=>ys'.length<=i+1/\∃ Γ pre' post',Rep K C1 w1 Γ σ2 H2/\Ims K H2 ys' pre'/\compD tg dc de (its.drop (i+1)) Γ=some (post',Γe)/\pre++post=pre'++post',fun ys' σ2 H2 ⟨a,b⟩=>⟨_,by omega,rfl,hlt,a,b⟩,fun x H2 hx=>?_⟩
  obtain⟨k1,k2⟩:=g2 x H2 hx
  have ev1:Evo w1.L H' H2:=fun b o h _=>k1 b o h
  have R2:=R'.evo0 k1
  refine hg C1 w1 Γ σ' H2 x t Γ1 _ hp R2 k2 e1 fun σ3 R3=>?_
  refine hc C1 w1 Γ1 σ3 H2 b Γ2 _ R3 e2 fun H4 R4 ev4=>?_
  have hpre4:Ims K H4 ys pre:=(hpre.evo ev1 R'.lst).evo ev4 R3.lst
  cases b with
  | true =>
   rw[if_pos rfl]at e' ⊢
   obtain⟨⟨s,Γ3⟩,e3,e'⟩:=bind_some e'
   obtain⟨t',e4,e'⟩:=bind_some e'
   obtain⟨⟨ts',Γ4⟩,e5,e'⟩:=zAA e'
   cases e'
   refine he C1 w1 Γ2 σ3 H4 s Γ3 _ R4 e3 fun v H5 R5 ev5 o5 _=>?_
   cases s with
   | l _=>cases e4
   | s _=>cases e4
   | d _=>cases e4
   | v t'' =>
    cases e4
    exact⟨by simp; omega,Γ3,pre++[t'],ts',R5,(hpre4.evo ev5 R4.lst).app (.one o5),e5,by simp⟩
  | false =>
   rw[if_neg AQ]at e' ⊢
   exact⟨by omega,Γ2,pre,post,R4,hpre4,e',rfl⟩
 ·have:i=its.length:=by omega
  subst this
  rw[FU]at e'
  cases e'
  rw[BV]at k
  exact .inl ⟨stop,by omega,k σ' H' ys R' hpre (by omega)⟩
theorem zBf{mu:Option Nat}{ix:List (Option Nat)}{Γ:En}{j:Nat}{g:G}(h:(pick mu ix Γ)[j]?=some (some g)):∃ k g',ix[j]?=some (some k)/\Γ[k]?=some (some g')/\pick1 mu k (some g')=some g:=by
 unfold pick at h
 rw[Ai]at h
 cases e:ix[j]? with
 | none=>rw[e]at h; cases h
 | some o =>
  rw[e]at h
  cases o with
  | none=>cases h
  | some k =>
   have h':pick1 mu k (Γ[k]?).join=some g:=Ap h
   cases e2:Γ[k]? with
   | none=>rw[e2]at h'; cases h'
   | some o2 =>
    cases o2 with
    | none=>rw[e2]at h'; cases h'
    | some g'=>rw[e2]at h'; exact⟨k,g',rfl,e2,h'⟩
theorem zC5{ix:List (Option Nat)}{σ:St}{j k:Nat}{v:V}(h:ix[j]?=some (some k))(hv:σ[k]?=some (some v)):(frm ix σ)[j]?=some (some v):=by
 unfold frm
 rw[Ai,h]
 show some ((σ[k]?).join)=_
 rw[hv]; rfl
theorem zEj{mu:Option (Nat×Nat)}{ix:List (Option Nat)}{wi:TI}{g:TG}{tc:TT}{te:TE}{di:DI}{tg:En->T->Option En}{dc:DT}{de:DE}(hi:SimI K wi di)(hg:SimG K (mu.map (·.1)) g tg)(hc:SimT K tc dc)(he:SimE K te de)
  (hmu:∀ j i,mu=some (j,i)->ix[j]?=some (some i)) (hix:∀ (j j' i:Nat),mu.map (·.2)=some i->ix[j]?=some (some i)->ix[j']?=some (some i)->j=j'):SimE K (tComp wi ix g tc te) (dComp mu ix di tg dc de):=by
 intro C w Γ σ H s Γ' Q R e k
 obtain⟨⟨⟨its,src⟩,Γ1⟩,e1,e⟩:=bind_some e
 refine hi C w Γ σ H its src Γ1 _ R e1 fun J H1 R1 ev1 ⟨hl,hJ⟩=>?_
 cases mu with
 | none =>
  obtain⟨⟨ts,Γe⟩,e2,e⟩:=zAA e
  cases e
  have Rin:Rep K ⟨H1,[],[]⟩ ⟨[],fun q=>w.R q\/q∈w.L⟩ (pick none ix Γ1) (frm ix σ) H1:=by
   refine⟨by simp[pick,frm],fun j g h=>?_,fun i j p ga gb ma mb h1 h2 h3 h4=>?_,fun p hp=>(nomatch hp),fun p hp=>(nomatch hp),fun p hp=>?_,fun p hp=>(nofun),fun b o h _=>h,fun q hq=>(nomatch hq)⟩
   ·obtain⟨k',g',a1,a2,a3⟩:=zBf h
    obtain⟨v,b1,b2⟩:=R1.val k' g' a2
    refine⟨v,zC5 a1 b1,?_⟩
    cases g' with
    | v t=>cases a3; exact b2
    | l xs =>
     have:g=.r xs:=by simpa [pick1] using a3.symm
     subst this
     obtain⟨p,vs,rfl,c1,c2,c3⟩:=b2
     exact⟨p,vs,rfl,c3,c2,nofun,.inr c1⟩
    | r xs =>
     cases a3
     obtain⟨p,vs,rfl,c1,c2⟩:=b2
     exact⟨p,vs,rfl,c1,c2.1,nofun,.inl c2.2.2⟩
    | d xs =>
     cases a3
     obtain⟨p,vs,rfl,c1,c2,c3⟩:=b2
     exact⟨p,vs,rfl,c3,c2,nofun,.inr c1⟩
    | e xs =>
     cases a3
     obtain⟨p,vs,rfl,c1,c2⟩:=b2
     exact⟨p,vs,rfl,c1,c2.1,nofun,.inl c2.2.2⟩
    | k xs=>cases a3; exact b2
   ·obtain⟨k',g',a1,a2,a3⟩:=zBf h1
    cases g' with
    | v t=>cases a3; cases ma
    | l xs =>
     have:ga=.r xs:=by simpa [pick1] using a3.symm
     subst this; cases ma
    | r xs=>cases a3; cases ma
    | k xs=>cases a3; cases ma
    | d xs=>cases a3; cases ma
    | e xs=>cases a3; cases ma
   ·rcases hp with z | z
    ·exact R1.ra p z
    ·obtain⟨o,z,_⟩:=R1.lst p z; exact⟨o,z⟩
  refine zCU (jp:=none) (C1:=⟨H1,[],[]⟩) rfl hg hc he hl rfl (fun H2 ev=>hJ [] (fun p hp=>nomatch hp) (fun _ _ _ _ _=>nofun) H2 ev) (fun p hp=>hp) Rin e2 fun σ' H' ys R' hy hz D hD=>?_
  have R2:Rep K C w Γ1 σ H':=R1.evo0 fun b o h=>R'.frame b o h nofun
  exact k _ _ (R2.new hD) ((ev1.trans fun b o h _=>R'.frame b o h nofun).trans (Evo.new hD)) (R2.newl hD hy) ⟨_,rfl,zAb (L:=w.L) (ev1.trans fun b o h _=>R'.frame b o h nofun) R2.lst hD⟩
 | some m =>
  obtain⟨j,i⟩:=m
  dsimp only at e
  split at e
  ·cases e
  rename_i hsrc
  split at e
  rotate_left
  ·cases e
  rename_i xs0 hx0
  obtain⟨⟨ts,Γe⟩,e2,e⟩:=zAA e
  cases e
  obtain⟨v0,s0,p,vs0,rfl,m0,h0,i0⟩:=R1.val i _ hx0
  have hij:=hmu j i rfl
  have Rin:Rep K ⟨H1,[p],[(j,p)]⟩ ⟨[p],fun q=>w.R q\/(q∈w.L/\q≠p)⟩ (pick (some i) ix Γ1) (frm ix σ) H1:=by
   refine⟨by simp[pick,frm],fun j' g h=>?_,fun i1 i2 p' ga gb ma mb h1 h2 h3 h4=>?_,fun q hq=>?_,fun q hq=>.inl hq,fun q hq=>?_,fun q hq z=>?_,fun b o h _=>h,fun q hq=>?_⟩
   ·obtain⟨k',g',a1,a2,a3⟩:=zBf h
    obtain⟨v,b1,b2⟩:=R1.val k' g' a2
    refine⟨v,zC5 a1 b1,?_⟩
    cases g' with
    | v t=>cases a3; exact b2
    | l xs =>
     obtain⟨p',vs,rfl,c1,c2,c3⟩:=b2
     by_cases hk:i=k'
     ·subst hk
      have:g=.l xs:=by simpa [pick1] using a3.symm
      subst this
      rw[s0]at b1; cases b1
      exact⟨p,vs,rfl,AD.mpr rfl,c2,c3⟩
     ·have:g=.r xs:=by simpa [pick1,hk] using a3.symm
      subst this
      have hne:p'≠p:=fun z=>hk (R1.apart i k' p _ _ rfl rfl hx0 a2 s0 (z ▸ b1))
      exact⟨p',vs,rfl,c3,c2,fun z=>hne (AD.mp z),.inr ⟨c1,hne⟩⟩
    | d xs =>
     cases a3
     obtain⟨p',o',rfl,c1,c2,c3⟩:=b2
     have hne:p'≠p:=fun z=>by
      subst z
      rw[h0]at c2; cases c2
      exact c3
     exact⟨p',o',rfl,c3,c2,fun z=>hne (AD.mp z),.inr ⟨c1,hne⟩⟩
    | r xs =>
     cases a3
     obtain⟨p',vs,rfl,c1,c2⟩:=b2
     exact⟨p',vs,rfl,c1,c2.1,fun z=>c2.2.1 (AD.mp z ▸ m0),.inl c2.2.2⟩
    | e xs =>
     cases a3
     obtain⟨p',vs,rfl,c1,c2⟩:=b2
     exact⟨p',vs,rfl,c1,c2.1,fun z=>c2.2.1 (AD.mp z ▸ m0),.inl c2.2.2⟩
    | k xs=>cases a3; exact b2
   ·have only:∀ (n:Nat) (gc:G),isMut gc=true->(pick (some i) ix Γ1)[n]?=some (some gc)->ix[n]?=some (some i):=fun n gc mc h=>by
     obtain⟨k',g',a1,a2,a3⟩:=zBf h
     cases g' with
     | v t=>cases a3; cases mc
     | l xs =>
      by_cases hk:i=k'
      ·subst hk; exact a1
      ·have:gc=.r xs:=by simpa [pick1,hk] using a3.symm
       subst this; cases mc
     | r xs=>cases a3; cases mc
     | k xs=>cases a3; cases mc
     | d xs=>cases a3; cases mc
     | e xs=>cases a3; cases mc
    exact hix i1 i2 i rfl (only i1 ga ma h1) (only i2 gb mb h2)
   ·rw[AD.mp hq]; exact⟨_,h0,trivial⟩
   ·rcases hq with z | z
    ·exact R1.ra q z
    ·obtain⟨o,z,_⟩:=R1.lst q z.1; exact⟨o,z⟩
   ·have e:=AD.mp z
    rcases hq with z | z
    ·exact R1.rl q z (e ▸ m0)
    ·exact z.2 e
   ·rw[AD.mp hq]
    refine⟨zC5 hij s0,xs0,?_⟩
    unfold pick
    rw[Ai,hij]
    show some (pick1 (some i) i (Γ1[i]?).join)=_
    rw[hx0]; simp[pick1,Option.join]
  have av:∀ i'∈src,∀ q,σ[i']?=some (some (.ref q))->(∃ xs,Γ1[i']?=some (some (.l xs)))->q∉[p]:=fun i' hi' q hq ⟨xs,hx⟩ z=>by
   rw[AD.mp z]at hq
   have:=R1.apart i i' p _ _ rfl rfl hx0 hx s0 hq
   subst this
   exact hsrc hi'
  refine zCU (jp:=some j) (C1:=⟨H1,[p],[(j,p)]⟩) rfl hg hc he hl rfl (fun H2 ev=>hJ [p] (fun q hq=>AD.mp hq ▸ m0) av H2 ev) (fun p hp=>hp) Rin e2 fun σ' H' ys R' hy hz D hD=>?_
  obtain⟨q1,xs',q2⟩:=R'.pin (j,p) (AD.mpr rfl)
  obtain⟨v',s',p',us',rfl,_,h',i'⟩:=R'.val j _ q2
  have s'':σ'[j]?=some (some (.ref p)):=q1
  rw[s'']at s'; cases s'
  have evp:Evo [p] H1 H':=fun b o h n=>R'.frame b o h n
  have R2:Rep K C w (Γ1.set i (some (.l xs'))) σ H':=(R1.put2 hx0 s0 evp h' i').1
  have eb:cback (some (j,i)) Γ1 Γe=Γ1.set i (some (.l xs')):=by unfold cback; dsimp only; rw[q2]
  rw[eb]at k
  exact k _ _ (R2.new hD) ((ev1.trans (evp.wide fun q hq=>AD.mp hq ▸ m0)).trans (Evo.new hD)) (R2.newl hD hy) ⟨_,rfl,zAb (L:=w.L) (ev1.trans (evp.wide fun q hq=>AD.mp hq ▸ m0)) R2.lst hD⟩
end
abbrev DF:=List G->Option (G×List T)
def ROk(K:Fg)(H H':Hp)(v:V):G->Prop
 | .v t=>Im K H' v t
 | .l xs=>∃ p us,v=.ref p/\H p=none/\H' p=some (.lst us)/\Ims K H' us xs
 | .r _=>False
 | .k _=>False
 | .d kvs=>∃ p o,v=.ref p/\H p=none/\H' p=some o/\DOk K H' o kvs
 | .e _=>False
theorem zC6{K:Fg}{H:Hp}{vs:List V}{kvs:Dk}(h:DOk K H (.lst vs) kvs):False:=h
def pinsG(ip:Option Nat)(vs:List V):List (Nat×Addr):=match ip with
 | none=>[]
 | some k=>match vs[k]? with
  | some (.ref p)=>[(k,p)]
  | _=>[]
def spD(K:Fg)(ip:Option Nat)(n:Nat)(F:DF):Sp:=fun vs H Q _=>vs.length=n/\∃ (w:W) (gs:List G) (r:G) (ys:List T),F gs=some (r,ys)/\Rep K ⟨H,w.L,pinsG ip vs⟩ w (gs.map some) (vs.map some) H /\
 (pinsG ip vs).map (·.1)=ip.toList/\(∀ p∈w.L,p∈(pinsG ip vs).map (·.2)) /\
 ∀ v H',Evo w.L H H'->(∀ q∈pinsG ip vs,∃ us,H' q.2=some (.lst us)/\Ims K H' us ys)->ROk K H H' v r->Q v H'
def outl(ip:Option Nat)(Γ:En):List T:=match ip with
 | none=>[]
 | some k=>match Γ[k]? with
  | some (some (.l xs))=>xs
  | _=>[]
def resG(ip:Option Nat)(Γ:En):S->Option G
 | .v t=>some (.v t)
 | .l xs=>some (.l xs)
 | .s i=>if ip=some i then none else match Γ[i]? with
  | some (some (.l xs))=>some (.l xs)
  | some (some (.d xs))=>some (.d xs)
  | _=>none
 | .d xs=>some (.d xs)
def fnD(ip:Option Nat)(np nN:Nat)(g:DS):DF:=fun gs=>if gs.length=np then (g (gs.map some++AM (nN - np) none)).bind fun o=>match o with
  | .nx Γ=>some (.v (.a .non),outl ip Γ)
  | .rt s Γ=>(resG ip Γ s).map fun r=>(r,outl ip Γ)
  | _=>none
 else none
section
variable {K:Fg}
theorem Rep.more{C:Fr}{w:W}{Γ:En}{σ:St}{H:Hp}(R:Rep K C w Γ σ H)(n:Nat):Rep K C w (Γ++AM n none) (σ++AM n none) H:=by
 have get:∀ {j:Nat} {g:G},(Γ++AM n none)[j]?=some (some g)->Γ[j]?=some (some g):=fun {j g} h=>by
  rcases Cw j Γ.length with z | z
  ·rw[BH z]at h; exact h
  ·rw[Bw z,CG]at h; split at h <;> cases h
 have put:∀ {j:Nat} {o:Option V},j < σ.length->(σ++AM n none)[j]?=σ[j]?:=fun z=>BH z
 have lt:∀ {j:Nat} {g:G},Γ[j]?=some (some g)->j < σ.length:=fun h=>by rw[R.len]; exact (Ao.mp h).1
 refine⟨by simp[R.len],fun i g h=>?_,fun i j p ga gb ma mb h1 h2 h3 h4=>?_,R.lst,R.own,R.ra,R.rl,R.frame,fun q hq=>?_⟩
 ·have h':=get h
  obtain⟨v,e1,e2⟩:=R.val i g h'
  exact⟨v,by rw[put (o:=none) (lt h')]; exact e1,e2⟩
 ·have g1:=get h1
  have g2:=get h2
  rw[put (o:=none) (lt g1)]at h3
  rw[put (o:=none) (lt g2)]at h4
  exact R.apart i j p ga gb ma mb g1 g2 h3 h4
 ·obtain⟨h1,xs,h2⟩:=R.pin q hq
  exact⟨by rw[put (o:=none) (lt h2)]; exact h1,xs,by rw[BH (Ao.mp h2).1]; exact h2⟩
theorem zB0{ip:Option Nat}{ts:TS}{g:DS}{N:List Str}{np:Nat}{vs:List V}{H:Hp}{Q:VK}{E:XK}(hb:SimS K ip ts g)(h:spD K ip np (fnD ip np N.length g) vs H Q E):ts { nx:=fun _ H'=>Q .non H',rt:=Q } (L2.start N vs) H:=by
 obtain⟨hn,w,gs,r,ys,e,R,hp,hL,k⟩:=h
 unfold fnD at e
 have hg:gs.length=np:=by
  have:=R.len
  simp at this
  omega
 rw[if_pos hg]at e
 obtain⟨o,e1,e⟩:=bind_some e
 have R0:Rep K ⟨H,w.L,pinsG ip vs⟩ w (gs.map some++AM (N.length - np) none) (L2.start N vs) H:=by
  unfold L2.start
  rw[hn]
  exact R.more _
 have fin:∀ {w':W} {Γ':En} {σ':St} {H':Hp},Rep K ⟨H,w.L,pinsG ip vs⟩ w' Γ' σ' H'->outl ip Γ'=ys->∀ v,ROk K H H' v r->Q v H':=fun {w' Γ' σ' H'} R' eo v hr=>by
  refine k v H' (fun b o h n=>R'.frame b o h n) (fun q hq=>?_) hr
  obtain⟨h1,xs,h2⟩:=R'.pin q hq
  obtain⟨v',e1,p,us,rfl,_,h3,h4⟩:=R'.val q.1 _ h2
  rw[h1]at e1; cases e1
  refine⟨us,h3,?_⟩
  have hq1:q.1∈ip.toList:=hp ▸ Br.mpr ⟨q,hq,rfl⟩
  rw[Dr]at hq1
  unfold outl at eo
  rw[hq1]at eo
  dsimp only at eo
  rw[h2]at eo
  dsimp only at eo
  rw[← eo]; exact h4
 have notpin:∀ {w':W} {Γ':En} {σ':St} {H':Hp} {p:Addr},Rep K ⟨H,w.L,pinsG ip vs⟩ w' Γ' σ' H'->(∀ q∈pinsG ip vs,q.2≠p)->Ow ⟨H,w.L,pinsG ip vs⟩ p->H p=none:=fun {w' Γ' σ' H' p} R' hne ow=>by
  rcases ow with z | z
  ·obtain⟨q,hq,e⟩:=Br.mp (hL p z)
   exact absurd e (hne q hq)
  ·exact z
 refine hb _ w _ _ H _ o hp R0 e1 ?_
 cases o with
 | nx Γ' =>
  cases e
  exact fun w' σ' H' R'=>fin R' rfl _ (by show Im K H' V.non (.a .non); exact Im.atom)
 | rt s Γ' =>
  obtain⟨r',e2,e⟩:=zAA e
  cases e
  refine fun w' σ' H' v R' o'=>fin R' rfl v ?_
  have inL:∀ q∈pinsG ip vs,q.2∈w'.L:=fun q hq=>by
   obtain⟨h1,xs,h2⟩:=R'.pin q hq
   obtain⟨v',e1,p,us,rfl,h3,_⟩:=R'.val q.1 _ h2
   rw[h1]at e1; cases e1
   exact h3
  cases s with
  | v t=>cases e2; exact o'
  | l xs =>
   cases e2
   obtain⟨p,us,rfl,n1,n2,ow,h1,h2⟩:=o'
   exact⟨p,us,rfl,notpin R' (fun q hq z=>n1 (z ▸ inL q hq)) ow,h1,h2⟩
  | d xs =>
   cases e2
   obtain⟨p,us,rfl,n1,n2,ow,h1,h2⟩:=o'
   exact⟨p,us,rfl,notpin R' (fun q hq z=>n1 (z ▸ inL q hq)) ow,h1,h2⟩
  | s i =>
   unfold resG at e2
   dsimp only at e2
   split at e2
   ·cases e2
   rename_i hi
   split at e2
   ·rename_i xs hx
    cases e2
    obtain⟨v',e3,p,us,rfl,h3,h4,h5⟩:=R'.val i _ hx
    have o'':σ'[i]?=some (some v):=o'
    rw[o'']at e3; cases e3
    refine⟨p,us,rfl,notpin R' (fun q hq z=>?_) (R'.own p h3),h4,h5⟩
    obtain⟨h1,ys',h2⟩:=R'.pin q hq
    have:=R'.apart q.1 i q.2 _ _ rfl rfl h2 hx h1 (z ▸ o'')
    have hq1:q.1∈ip.toList:=hp ▸ Br.mpr ⟨q,hq,rfl⟩
    rw[Dr]at hq1
    exact hi (by rw[hq1,this])
   ·rename_i xs hx
    cases e2
    obtain⟨v',e3,p,us,rfl,h3,h4,h5⟩:=R'.val i _ hx
    have o'':σ'[i]?=some (some v):=o'
    rw[o'']at e3; cases e3
    refine⟨p,us,rfl,notpin R' (fun q hq z=>?_) (R'.own p h3),h4,h5⟩
    obtain⟨h1,ys',h2⟩:=R'.pin q hq
    have:=R'.apart q.1 i q.2 _ _ rfl rfl h2 hx h1 (z ▸ o'')
    have hq1:q.1∈ip.toList:=hp ▸ Br.mpr ⟨q,hq,rfl⟩
    rw[Dr]at hq1
    exact hi (by rw[hq1,this])
   ·cases e2
 | bk Γ'=>cases e
 | ct Γ'=>cases e
def argG(ip:Option Nat)(Γ:En)(k:Nat):S->Option G
 | .v t=>some (.v t)
 | .l xs=>some (if ip=some k then .l xs else .r xs)
 | .s i=>match Γ[i]? with
  | some (some (.l xs))=>some (if ip=some k then .l xs else .r xs)
  | some (some (.r xs))=>if ip=some k then none else some (.r xs)
  | some (some (.k xs))=>if ip=some k then none else some (.k xs)
  | some (some (.d xs))=>if ip=some k then none else some (.e xs)
  | some (some (.e xs))=>if ip=some k then none else some (.e xs)
  | _=>none
 | .d xs=>if ip=some k then none else some (.e xs)
def argsG(ip:Option Nat)(Γ:En):Nat->List S->Option (List G)
 | _,[]=>some []
 | k,s::r=>(argG ip Γ k s).bind fun g=>(argsG ip Γ (k+1) r).map fun gs=>g::gs
def isSl(i:Nat):S->Bool
 | .s j=>j == i
 | _=>false
def isTmp:S->Bool
 | .l _=>true
 | _=>false
def onceS(ip:Option Nat)(ss:List S):Bool:=match ip with
 | none=>true
 | some k=>match ss[k]? with
  | some (.s i)=>(ss.eraseIdx k).all fun s=>!isSl i s
  | some (.l _)=>(ss.eraseIdx k).all fun s=>!isTmp s
  | _=>false
def backS(ip:Option Nat)(Γ:En)(ss:List S)(ys:List T):En:=match ip with
 | none=>Γ
 | some k=>match ss[k]? with
  | some (.s i)=>Γ.set i (some (.l ys))
  | _=>Γ
def toS:G->S
 | .v t=>.v t
 | .l xs=>.l xs
 | .r xs=>.l xs
 | .k xs=>.l xs
 | .d xs=>.d xs
 | .e xs=>.d xs
def dCall(ip:Option Nat)(F:DF)(ds:List V)(fa:DA):DE:=fun Γ=>(fa Γ).bind fun p=>if onceS ip p.1=true then (argsG ip p.2 0 (p.1++ds.map fun v=>.v (.a v))).bind fun gs=>(F gs).map fun q=>(toS q.1,backS ip p.2 p.1 q.2) else none
theorem SOks.app{C:Fr}{w:W}{σ:St}{H:Hp}:∀ {vs:List V} {ss:List S},SOks K C w σ H vs ss->∀ ds:List V,SOks K C w σ H (vs++ds) (ss++ds.map fun v=>.v (.a v))
 | [],[],_,[]=>trivial
 | [],[],_,d::ds=>⟨SOk.atom,SOks.app (vs:=[]) (ss:=[]) trivial ds⟩
 | _::_,_::_,h,ds=>⟨h.1,SOks.app h.2 ds⟩
 | [],_::_,h,_=>h.elim
 | _::_,[],h,_=>h.elim
theorem SOks.len{C:Fr}{w:W}{σ:St}{H:Hp}:∀ {vs:List V} {ss:List S},SOks K C w σ H vs ss->vs.length=ss.length
 | [],[],_=>rfl
 | _::_,_::_,h=>by simp[SOks.len h.2]
 | [],_::_,h=>h.elim
 | _::_,[],h=>h.elim
theorem SOks.get{C:Fr}{w:W}{σ:St}{H:Hp}:∀ {vs:List V} {ss:List S} {k:Nat} {s:S},SOks K C w σ H vs ss->ss[k]?=some s->∃ v,vs[k]?=some v/\SOk K C w σ H v s
 | [],[],_,_,_,e=>by simp at e
 | v::_,_::_,0,_,h,e=>by simp at e; subst e; exact⟨v,rfl,h.1⟩
 | _::_,_::_,k+1,_,h,e=>by simpa using SOks.get (k:=k) h.2 (by simpa using e)
 | [],_::_,_,_,h,_=>h.elim
 | _::_,[],_,_,h,_=>h.elim
theorem zBF{ip:Option Nat}{Γ:En}:∀ {ss:List S} {k:Nat} {gs:List G},argsG ip Γ k ss=some gs->gs.length=ss.length
 | [],_,_,e=>by cases e; rfl
 | s::r,k,_,e=>by
  obtain⟨g,e1,e⟩:=bind_some e
  obtain⟨gs,e2,e⟩:=zAA e
  cases e
  simp[zBF e2]
theorem zAa{ip:Option Nat}{Γ:En}:∀ {ss:List S} {k:Nat} {gs:List G} {j:Nat} {g:G},argsG ip Γ k ss=some gs->gs[j]?=some g->∃ s,ss[j]?=some s/\argG ip Γ (k+j) s=some g
 | [],_,_,_,_,e,h=>by cases e; simp at h
 | s::r,k,_,j,g,e,h=>by
  obtain⟨g',e1,e⟩:=bind_some e
  obtain⟨gs,e2,e⟩:=zAA e
  cases e
  cases j with
  | zero=>simp at h; subst h; exact⟨s,rfl,e1⟩
  | succ j =>
   obtain⟨s',a,b⟩:=zAa (j:=j) e2 (by simpa using h)
   exact⟨s',by simpa using a,by rw[← b]; congr 1; omega⟩
theorem zCS{ip:Option Nat}{n:Nat}{F:DF}{ds:List V}{E:XK}{ta:TA}{fa:DA}(hF:∀ gs r,F gs=some r->gs.length=n)(ha:SimA K ta fa):SimE K (tCall (spD K ip n F) ds E ta) (dCall ip F ds fa):=by
 intro C w Γ σ H s Γ' Q R e k
 obtain⟨⟨ss,Γ1⟩,e1,e⟩:=bind_some e
 dsimp only at e
 split at e
 rotate_left
 ·cases e
 rename_i honce
 obtain⟨gs,e2,e⟩:=bind_some e
 obtain⟨⟨r,ys⟩,e3,e⟩:=zAA e
 cases e
 refine ha C w Γ σ H ss Γ1 _ R e1 fun vs0 H1 R1 ev1 o0 n0=>?_
 have o1:=o0.app ds
 have hl0:=o0.len
 generalize hvs:vs0++ds=vs at o1 ⊢
 generalize hss:ss++(ds.map fun v=>S.v (.a v))=ss' at o1 e2
 have hl:=o1.len
 have hgl:=zBF e2
 have hn:vs.length=n:=by rw[hl,← hgl]; exact hF _ _ e3
 have resOk:∀ {H2:Hp} {v:V} {L:List Addr},Evo L H1 H2->ROk K H1 H2 v r->Rep K C w Γ1 σ H1->SOk K C w σ H2 v (toS r):=fun {H2 v L} ev hr R=>by
  cases r with
  | v t=>exact hr
  | l xs =>
   obtain⟨p,us,rfl,h1,h2,h3⟩:=hr
   obtain⟨a,b,c⟩:=R.fresh h1
   exact⟨p,us,rfl,a,b,c,h2,h3⟩
  | r xs=>exact hr.elim
  | k xs=>exact hr.elim
  | d xs =>
   obtain⟨p,us,rfl,h1,h2,h3⟩:=hr
   obtain⟨a,b,c⟩:=R.fresh h1
   exact⟨p,us,rfl,a,b,c,h2,h3⟩
  | e xs=>exact hr.elim
 have resNew:∀ {H2:Hp} {v:V},ROk K H1 H2 v r->Nw H v (toS r):=fun {H2 v} hr=>by
  cases r with
  | v t=>trivial
  | l xs =>
   obtain⟨p,us,rfl,h1,h2,h3⟩:=hr
   exact⟨p,rfl,zAb ev1 R1.lst h1⟩
  | r xs=>exact hr.elim
  | k xs=>exact hr.elim
  | d xs =>
   obtain⟨p,us,rfl,h1,h2,h3⟩:=hr
   exact⟨p,rfl,zAb ev1 R1.lst h1⟩
  | e xs=>exact hr.elim
 cases ip with
 | none =>
  have Rc:Rep K ⟨H1,[],[]⟩ ⟨[],fun q=>∃ o,H1 q=some o⟩ (gs.map some) (vs.map some) H1:=by
   refine⟨by simp[hl,hgl],fun j g h=>?_,fun i j p ga gb ma mb h1 h2 h3 h4=>?_,fun p hp=>(nomatch hp),fun p hp=>(nomatch hp),fun p hp=>hp,fun p hp=>nofun,fun b o h _=>h,fun q hq=>(nomatch hq)⟩
   ·rw[Ai]at h
    obtain⟨g',h',h⟩:=zAA h
    cases h
    obtain⟨s,a1,a2⟩:=zAa e2 h'
    obtain⟨v,b1,b2⟩:=o1.get a1
    refine⟨v,by rw[Ai,b1]; rfl,?_⟩
    cases s with
    | v t=>cases a2; exact b2
    | l xs =>
     simp only[argG,reduceCtorEq,if_false,Ak]at a2
     subst a2
     obtain⟨p,us,rfl,n1,n2,ow,h1,h2⟩:=b2
     exact⟨p,us,rfl,h2,h1,nofun,⟨_,h1⟩⟩
    | d xs =>
     simp only[argG,reduceCtorEq,if_false,Ak]at a2
     subst a2
     obtain⟨p,us,rfl,n1,n2,ow,h1,h2⟩:=b2
     exact⟨p,us,rfl,h2,h1,nofun,⟨_,h1⟩⟩
    | s i =>
     unfold argG at a2
     dsimp only at a2
     split at a2
     ·rename_i xs hx
      simp only[reduceCtorEq,if_false,Ak]at a2
      subst a2
      obtain⟨v',c1,p,us,rfl,c2,c3,c4⟩:=R1.val i _ hx
      have b2':σ[i]?=some (some v):=b2
      rw[b2']at c1; cases c1
      exact⟨p,us,rfl,c4,c3,nofun,⟨_,c3⟩⟩
     ·rename_i xs hx
      simp only[reduceCtorEq,if_false,Ak]at a2
      subst a2
      obtain⟨v',c1,p,us,rfl,c2,c3⟩:=R1.val i _ hx
      have b2':σ[i]?=some (some v):=b2
      rw[b2']at c1; cases c1
      exact⟨p,us,rfl,c2,c3.1,nofun,R1.ra p c3.2.2⟩
     ·rename_i xs hx
      simp only[reduceCtorEq,if_false,Ak]at a2
      subst a2
      obtain⟨v',c1,c2⟩:=R1.val i _ hx
      have b2':σ[i]?=some (some v):=b2
      rw[b2']at c1; cases c1
      exact c2
     ·rename_i xs hx
      simp only[reduceCtorEq,if_false,Ak]at a2
      subst a2
      obtain⟨v',c1,p,us,rfl,c2,c3,c4⟩:=R1.val i _ hx
      have b2':σ[i]?=some (some v):=b2
      rw[b2']at c1; cases c1
      exact⟨p,us,rfl,c4,c3,nofun,⟨_,c3⟩⟩
     ·rename_i xs hx
      simp only[reduceCtorEq,if_false,Ak]at a2
      subst a2
      obtain⟨v',c1,p,us,rfl,c2,c3⟩:=R1.val i _ hx
      have b2':σ[i]?=some (some v):=b2
      rw[b2']at c1; cases c1
      exact⟨p,us,rfl,c2,c3.1,nofun,R1.ra p c3.2.2⟩
     ·cases a2
   ·rw[Ai]at h1
    obtain⟨g',h',h⟩:=zAA h1
    cases h
    obtain⟨s,a1,a2⟩:=zAa e2 h'
    cases s with
    | v t=>cases a2; cases ma
    | l xs=>simp[argG]at a2; subst a2; cases ma
    | d xs=>simp[argG]at a2; subst a2; cases ma
    | s i =>
     unfold argG at a2
     dsimp only at a2
     split at a2 <;> simp at a2 <;> (subst a2; cases ma)
  refine⟨hn,⟨[],fun q=>∃ o,H1 q=some o⟩,gs,r,ys,e3,Rc,rfl,(fun p hp=>nomatch hp),fun v H2 ev _ hr=>?_⟩
  have R2:Rep K C w Γ1 σ H2:=R1.evo0 fun b o h=>ev b o h nofun
  exact k v H2 R2 (ev1.trans fun b o h _=>ev b o h nofun) (resOk ev hr R1) (resNew hr)
 | some kk =>
  have hkk:∃ s,ss[kk]?=some s:=by
   unfold onceS at honce
   dsimp only at honce
   cases z:ss[kk]? with
   | none=>rw[z]at honce; cases honce
   | some s=>exact⟨s,rfl⟩
  obtain⟨sk,hsk⟩:=hkk
  have hkl:kk < ss.length:=(Ao.mp hsk).1
  have hsk':ss'[kk]?=some sk:=by rw[← hss,BH hkl]; exact hsk
  obtain⟨vk,hvk,ok⟩:=o1.get hsk'
  have at_k:∃ p us xs,vk=.ref p/\H1 p=some (.lst us)/\Ims K H1 us xs/\argG (some kk) Γ1 kk sk=some (.l xs)/\((∃ i,sk=.s i/\Γ1[i]?=some (some (.l xs))/\σ[i]?=some (some (.ref p))/\p∈w.L)\/(sk=.l xs/\p∉w.L/\¬ w.R p/\Ow C p)):=by
   obtain⟨gk,hgk⟩:∃ g,gs[kk]?=some g:=⟨gs[kk]'(by rw[hgl,← hss]; simp; omega),by simp⟩
   obtain⟨s,a1,a2⟩:=zAa e2 hgk
   rw[hsk']at a1; cases a1
   rw[Gq]at a2
   cases sk with
   | v t=>unfold onceS at honce; dsimp only at honce; rw[hsk]at honce; cases honce
   | l xs =>
    obtain⟨p,us,rfl,n1,n2,ow,h1,h2⟩:=ok
    exact⟨p,us,xs,rfl,h1,h2,by simp[argG],.inr ⟨rfl,n1,n2,ow⟩⟩
   | s i =>
    unfold argG at a2
    dsimp only at a2
    have ok':σ[i]?=some (some vk):=ok
    split at a2
    ·rename_i xs hx
     obtain⟨v',c1,p,us,rfl,c2,c3,c4⟩:=R1.val i _ hx
     rw[ok']at c1; cases c1
     exact⟨p,us,xs,rfl,c3,c4,by simp[argG,hx],.inl ⟨i,rfl,hx,ok',c2⟩⟩
    ·rw[if_pos rfl]at a2; cases a2
    ·rw[if_pos rfl]at a2; cases a2
    ·rw[if_pos rfl]at a2; cases a2
    ·rw[if_pos rfl]at a2; cases a2
    ·cases a2
   | d xs=>unfold onceS at honce; dsimp only at honce; rw[hsk]at honce; cases honce
  obtain⟨p,us,xs,rfl,hpu,hus,hag,hsort⟩:=at_k
  have other:∀ (j:Nat) s,j≠kk->ss'[j]?=some s->(∀ i xs',s=.s i->Γ1[i]?=some (some (.l xs'))->σ[i]?≠some (some (.ref p)))/\(∀ xs' q,s=.l xs'->SOk K C w σ H1 (.ref q) s->q≠p):=fun j s hj hs=>by
   rcases hsort with ⟨i0,rfl,g0,s0,m0⟩ | ⟨rfl,n1,n2,ow⟩
   ·refine⟨fun i xs' e hx z=>?_,fun xs' q e h z=>?_⟩
    ·subst e
     have:=R1.apart i0 i p _ _ rfl rfl g0 hx s0 z
     subst this
     have hjl:j < ss.length:=by
      rcases Cw j ss.length with z | z
      ·exact z
      ·rw[← hss,Bw z,Ai]at hs
       obtain⟨d,_,hs⟩:=zAA hs
       cases hs
     rw[← hss,BH hjl]at hs
     unfold onceS at honce
     dsimp only at honce
     rw[hsk]at honce
     have:=A4.mp honce (.s i0) (FV.mpr ⟨j,hj,hs⟩)
     simp[isSl]at this
    ·subst e
     obtain⟨q',us'',e,n1,_⟩:=h
     cases e
     exact n1 (z ▸ m0)
   ·refine⟨fun i xs' e hx z=>?_,fun xs' q e h z=>?_⟩
    ·obtain⟨v',c1,p',us2,rfl,c2,_⟩:=R1.val i _ hx
     rw[z]at c1; cases c1
     exact n1 c2
    ·subst e
     have hjl:j < ss.length:=by
      rcases Cw j ss.length with z | z
      ·exact z
      ·rw[← hss,Bw z,Ai]at hs
       obtain⟨d,_,hs⟩:=zAA hs
       cases hs
     rw[← hss,BH hjl]at hs
     unfold onceS at honce
     dsimp only at honce
     rw[hsk]at honce
     have:=A4.mp honce _ (FV.mpr ⟨j,hj,hs⟩)
     simp[isTmp]at this
  have hpins:pinsG (some kk) vs=[(kk,p)]:=by unfold pinsG; dsimp only; rw[hvk]
  have Rc:Rep K ⟨H1,[p],[(kk,p)]⟩ ⟨[p],fun q=>(∃ o,H1 q=some o)/\q≠p⟩ (gs.map some) (vs.map some) H1:=by
   have get:∀ {j:Nat} {g:G},(gs.map some)[j]?=some (some g)->∃ s,ss'[j]?=some s/\argG (some kk) Γ1 j s=some g:=fun {j g} h=>by
    rw[Ai]at h
    obtain⟨g',h',h⟩:=zAA h
    cases h
    obtain⟨s,a1,a2⟩:=zAa e2 h'
    exact⟨s,a1,by rw[Gq]at a2; exact a2⟩
   have only:∀ {j:Nat} {gc:G},isMut gc=true->(gs.map some)[j]?=some (some gc)->j=kk:=fun {j gc} mc h=>by
    obtain⟨s,a1,a2⟩:=get h
    by_cases hj:kk=j
    ·exact hj.symm
    ·cases s with
     | v t=>cases a2; cases mc
     | l xs=>simp[argG,hj]at a2; subst a2; cases mc
     | d xs=>simp[argG,hj]at a2; subst a2; cases mc
     | s i =>
      unfold argG at a2
      dsimp only at a2
      split at a2 <;> simp[hj]at a2 <;> (subst a2; cases mc)
   refine⟨by simp[hl,hgl],fun j g h=>?_,fun i j p' ga gb ma mb h1 h2 h3 h4=>(only ma h1).trans (only mb h2).symm,fun q hq=>?_,fun q hq=>.inl hq,fun q hq=>hq.1,fun q hq z=>hq.2 (AD.mp z),fun b o h _=>h,fun q hq=>?_⟩
   ·obtain⟨s,a1,a2⟩:=get h
    obtain⟨v,b1,b2⟩:=o1.get a1
    refine⟨v,by rw[Ai,b1]; rfl,?_⟩
    by_cases hj:j=kk
    ·subst hj
     rw[hsk']at a1; cases a1
     rw[hag]at a2; cases a2
     rw[hvk]at b1; cases b1
     exact⟨p,us,rfl,AD.mpr rfl,hpu,hus⟩
    ·have hj':¬ kk=j:=fun z=>hj z.symm
     obtain⟨x1,x2⟩:=other j s hj a1
     cases s with
     | v t=>cases a2; exact b2
     | l xs' =>
      simp only[argG,Ak,hj',if_false]at a2
      subst a2
      have b3:=b2
      obtain⟨q,us',rfl,n1,n2,ow,h1,h2⟩:=b2
      have hne:q≠p:=x2 xs' q rfl b3
      exact⟨q,us',rfl,h2,h1,fun z=>hne (AD.mp z),⟨_,h1⟩,hne⟩
     | s i =>
      have b2':σ[i]?=some (some v):=b2
      unfold argG at a2
      dsimp only at a2
      split at a2
      ·rename_i xs' hx
       simp only[Ak,hj',if_false]at a2
       subst a2
       obtain⟨v',c1,q,us',rfl,c2,c3,c4⟩:=R1.val i _ hx
       rw[b2']at c1; cases c1
       have hne:q≠p:=fun z=>x1 i xs' rfl hx (z ▸ b2')
       exact⟨q,us',rfl,c4,c3,fun z=>hne (AD.mp z),⟨_,c3⟩,hne⟩
      ·rename_i xs' hx
       simp only[Ak,hj',if_false]at a2
       subst a2
       obtain⟨v',c1,q,us',rfl,c2,c3⟩:=R1.val i _ hx
       rw[b2']at c1; cases c1
       have hne:q≠p:=fun z=>by
        subst z
        rcases hsort with ⟨_,_,_,_,m0⟩ | ⟨_,n1,n2,ow⟩
        ·exact c3.2.1 m0
        ·exact n2 c3.2.2
       exact⟨q,us',rfl,c2,c3.1,fun z=>hne (AD.mp z),R1.ra q c3.2.2,hne⟩
      ·rename_i xs' hx
       simp only[Ak,hj',if_false]at a2
       subst a2
       obtain⟨v',c1,c2⟩:=R1.val i _ hx
       rw[b2']at c1; cases c1
       exact c2
      ·rename_i xs' hx
       simp only[Ak,hj',if_false]at a2
       subst a2
       obtain⟨v',c1,q,us',rfl,c2,c3,c4⟩:=R1.val i _ hx
       rw[b2']at c1; cases c1
       have hne:q≠p:=fun z=>by subst z; rw[hpu]at c3; cases c3; exact zC6 c4
       exact⟨q,us',rfl,c4,c3,fun z=>hne (AD.mp z),⟨_,c3⟩,hne⟩
      ·rename_i xs' hx
       simp only[Ak,hj',if_false]at a2
       subst a2
       obtain⟨v',c1,q,us',rfl,c2,c3⟩:=R1.val i _ hx
       rw[b2']at c1; cases c1
       have hne:q≠p:=fun z=>by subst z; have c4:=c3.1; rw[hpu]at c4; cases c4; exact zC6 c2
       exact⟨q,us',rfl,c2,c3.1,fun z=>hne (AD.mp z),R1.ra q c3.2.2,hne⟩
      ·cases a2
     | d xs' =>
      simp only[argG,Ak,hj',if_false]at a2
      subst a2
      obtain⟨q,us',rfl,n1,n2,ow,h1,h2⟩:=b2
      have hne:q≠p:=fun z=>by subst z; rw[hpu]at h1; cases h1; exact zC6 h2
      exact⟨q,us',rfl,h2,h1,fun z=>hne (AD.mp z),⟨_,h1⟩,hne⟩
   ·rw[AD.mp hq]; exact⟨_,hpu,trivial⟩
   ·rw[AD.mp hq]
    refine⟨by rw[Ai,hvk]; rfl,xs,?_⟩
    obtain⟨gk,hgk⟩:∃ g,gs[kk]?=some g:=⟨gs[kk]'(by rw[hgl,← hss]; simp; omega),by simp⟩
    obtain⟨s,a1,a2⟩:=zAa e2 hgk
    rw[hsk']at a1; cases a1
    rw[Gq,hag]at a2; cases a2
    rw[Ai,hgk]; rfl
  refine⟨hn,⟨[p],fun q=>(∃ o,H1 q=some o)/\q≠p⟩,gs,r,ys,e3,by rw[hpins]; exact Rc,by rw[hpins]; rfl,by rw[hpins]; exact fun q hq=>hq,fun v H2 ev hch hr=>?_⟩
  rw[hpins]at hch
  obtain⟨us2,hp2,hu2⟩:=hch (kk,p) (AD.mpr rfl)
  rcases hsort with ⟨i0,rfl,g0,s0,m0⟩ | ⟨rfl,n1,n2,ow⟩
  ·obtain⟨R2,ev2⟩:=R1.put2 g0 s0 ev hp2 hu2
   have hb:backS (some kk) Γ1 ss ys=Γ1.set i0 (some (.l ys)):=by unfold backS; dsimp only; rw[hsk]
   dsimp only at k
   rw[hb]at k
   exact k v H2 R2 (ev1.trans ev2) (resOk ev hr R1) (resNew hr)
  ·have hb:backS (some kk) Γ1 ss ys=Γ1:=by unfold backS; dsimp only; rw[hsk]
   dsimp only at k
   rw[hb]at k
   have R2:=R1.temp n1 n2 ow ⟨_,hpu,trivial⟩ ev
   refine k v H2 R2 (fun b o h n=>?_) (resOk ev hr R1) (resNew hr)
   by_cases z:b=p
   ·subst z
    have hv0:vs0[kk]?=some (.ref b):=by
     rw[← hvs,BH (by rw[hl0]; exact hkl)]at hvk; exact hvk
    obtain⟨p',e',hn'⟩:=n0.get hv0 hsk
    cases e'
    rw[hn']at h; cases h
   ·exact ev b o (ev1 b o h n) fun q=>z (AD.mp q)
end
def lsOf(Γ:En):S->Option (List T)
 | .l xs=>some xs
 | .s i=>match Γ[i]? with
  | some (some (.l xs))=>some xs
  | some (some (.r xs))=>some xs
  | _=>none
 | .v _=>none
 | .d _=>none
def sqlOf(Γ:En):S->Option (List T)
 | .l xs=>some xs
 | .s i=>match Γ[i]? with
  | some (some (.l xs))=>some xs
  | some (some (.r xs))=>some xs
  | some (some (.k xs))=>some xs
  | _=>none
 | .v (.l xs)=>some xs
 | .v _=>none
 | .d _=>none
section
variable {K:Fg}{C:Fr}{w:W}{Γ:En}{σ:St}{H:Hp}
theorem zGA{x:V}{s:S}{xs:List T}(R:Rep K C w Γ σ H)(o:SOk K C w σ H x s)(e:lsOf Γ s=some xs):∃ p vs,x=.ref p/\H p=some (.lst vs)/\Ims K H vs xs:=by
 cases s with
 | v t=>cases e
 | d _=>cases e
 | l ys=>cases e; obtain⟨p,vs,rfl,_,_,_,h1,h2⟩:=o; exact⟨p,vs,rfl,h1,h2⟩
 | s i =>
  have o':σ[i]?=some (some x):=o
  unfold lsOf at e
  dsimp only at e
  split at e
  ·rename_i ys h
   cases e
   obtain⟨v,e1,p,vs,rfl,_,h1,h2⟩:=R.val i _ h
   rw[o']at e1; cases e1
   exact⟨p,vs,rfl,h1,h2⟩
  ·rename_i ys h
   cases e
   obtain⟨v,e1,p,vs,rfl,h1,h2,_⟩:=R.val i _ h
   rw[o']at e1; cases e1
   exact⟨p,vs,rfl,h2,h1⟩
  ·cases e
theorem zAd{x:V}{s:S}{xs:List T}(R:Rep K C w Γ σ H)(o:SOk K C w σ H x s)(e:sqlOf Γ s=some xs):∃ p vs,x=.ref p/\SqL K H p vs/\Ims K H vs xs:=by
 cases s with
 | v t =>
  cases t with
  | l ys =>
   cases e
   obtain⟨p,vs,rfl,h1,h2⟩:=(show Im K H x (.l xs) from o).invl
   exact⟨p,vs,rfl,h1.sq,h2⟩
  | a _=>cases e
  | t _=>cases e
  | f _=>cases e
  | x _ _=>cases e
 | d _=>cases e
 | l ys=>cases e; obtain⟨p,vs,rfl,_,_,_,h1,h2⟩:=o; exact⟨p,vs,rfl,SqL.of h1,h2⟩
 | s i =>
  have o':σ[i]?=some (some x):=o
  unfold sqlOf at e
  dsimp only at e
  split at e
  ·rename_i ys h
   cases e
   obtain⟨v,e1,p,vs,rfl,_,h1,h2⟩:=R.val i _ h
   rw[o']at e1; cases e1
   exact⟨p,vs,rfl,SqL.of h1,h2⟩
  ·rename_i ys h
   cases e
   obtain⟨v,e1,p,vs,rfl,h1,h2,_⟩:=R.val i _ h
   rw[o']at e1; cases e1
   exact⟨p,vs,rfl,SqL.of h2,h1⟩
  ·rename_i ys h
   cases e
   obtain⟨v,e1,p,vs,rfl,h1,h2⟩:=R.val i _ h
   rw[o']at e1; cases e1
   exact⟨p,vs,rfl,h2.sq,h1⟩
  ·cases e
end
def iS:S->Option Int
 | .v (.a (.int i))=>some i
 | _=>none
def mkI(i:Int):S:=.v (.a (.int i))
def mkB(b:Bool):S:=.v (.a (.bl b))
section
variable {K:Fg}{C:Fr}{w:W}{Γ:En}{σ:St}{H:Hp}
theorem zA3{x:V}{s:S}{i:Int}(o:SOk K C w σ H x s)(e:iS s=some i):x=.int i:=by
 unfold iS at e
 split at e
 ·cases e; exact o.inva
 ·cases e
end
def inR(b:Nat):Int->Bool
 | .ofNat n=>D8 n b
 | .negSucc n=>D8 n b
theorem zB3{b:Nat}{i:Int}:inR b i=true ↔ -((b:Int)+1)<=i/\i<=b:=by
 cases i with
 | ofNat n =>
  simp only[inR,J6,Int.ofNat_eq_natCast]
  omega
 | negSucc n =>
  simp only[inR,J6,Int.negSucc_eq]
  omega
theorem inR62{i:Int}(h:inR 4611686018427387903 i=true):-(2 ^ 62)<=i/\i < 2 ^ 62:=by have:=zB3.mp h; omega
theorem inR63{i:Int}(h:inR 9223372036854775807 i=true):-(2 ^ 63)<=i/\i < 2 ^ 63:=by have:=zB3.mp h; omega
theorem zC3{b n:Nat}(h:n<=b):inR b (n:Int)=true:=zB3.mpr ⟨by omega,by omega⟩
def opII(g:Int->Int->V):En->S->S->Option S:=fun _ a b=>(iS a).bind fun i=>(iS b).bind fun j=>some (.v (.a (g i j)))
def opIIc(c:Int->Int->Prop) [∀ i j,Decidable (c i j)] (g:Int->Int->V):En->S->S->Option S:=fun _ a b=>(iS a).bind fun i=>(iS b).bind fun j=>if c i j then some (.v (.a (g i j))) else none
theorem zAx{K:Fg}{g:Int->Int->V}:SimR2 K (rI0 g) (opII g):=by
 intro C w Γ σ H x y a b s Q R ox oy e k
 obtain⟨i,e1,e⟩:=bind_some e
 obtain⟨j,e2,e⟩:=bind_some e
 cases e
 exact⟨i,j,zA3 ox e1,zA3 oy e2,k _ H R .refl SOk.atom trivial⟩
theorem zBg{K:Fg}{c:Int->Int->Prop} [∀ i j,Decidable (c i j)] {g:Int->Int->V}:SimR2 K (rI c g) (opIIc c g):=by
 intro C w Γ σ H x y a b s Q R ox oy e k
 obtain⟨i,e1,e⟩:=bind_some e
 obtain⟨j,e2,e⟩:=bind_some e
 split at e
 ·rename_i hc
  cases e
  exact⟨i,j,zA3 ox e1,zA3 oy e2,hc,k _ H R .refl SOk.atom trivial⟩
 ·cases e
theorem zJH{i j:Int}:((inR 18446744073709551615 i && inR 18446744073709551615 (-i)) || (inR 18446744073709551615 j && inR 18446744073709551615 (-j)))=true ↔ CMul i j:=by
 unfold CMul
 simp only[EV,Af,zB3]
 omega
instance (i j:Int):Decidable (CMul i j):=decidable_of_iff _ zJH
instance (i j:Int):Decidable (CDiv i j):=by unfold CDiv; infer_instance
instance (i j:Int):Decidable (CPow i j):=by unfold CPow; infer_instance
theorem SimR2.or{K:Fg}{r r':R2}{h h':En->S->S->Option S}(a:SimR2 K r h)(b:SimR2 K r' h'):SimR2 K (fun x y H Q=>r x y H Q\/r' x y H Q) (fun Γ x y=>(h Γ x y).or (h' Γ x y)):=by
 intro C w Γ σ H x y s1 s2 s Q R ox oy e k
 dsimp only at e
 cases q:h Γ s1 s2 with
 | some z =>
  rw[q,Option.some_or]at e
  cases e
  exact .inl (a C w Γ σ H x y s1 s2 _ Q R ox oy q k)
 | none =>
  rw[q,Option.none_or]at e
  exact .inr (b C w Γ σ H x y s1 s2 _ Q R ox oy e k)
def addStr:En->S->S->Option S:=fun _ a b=>match a,b with
 | .v (.a (.str x)),.v (.a (.str y))=>gd (x.length+y.length) (.v (.a (.str (x++y))))
 | _,_=>none
def rAddStr:R2:=fun x y H Q=>∃ i j,x=.str i/\y=.str j/\i.length+j.length<=AC/\Q (.str (i++j)) H
theorem zEk{K:Fg}:SimR2 K rAddStr addStr:=by
 intro C w Γ σ H x y a b s Q R ox oy e k
 unfold addStr at e
 split at e
 ·obtain⟨h,e⟩:=zAw e
  cases e
  exact⟨_,_,ox.inva,oy.inva,h,k _ H R .refl SOk.atom trivial⟩
 ·cases e
def rCatS(K:Fg):R2:=fun x y H Q=>∃ a b xs ys,x=.ref a/\y=.ref b/\Tp K H a xs/\Tp K H b ys/\xs.length+ys.length<=AC/\∀ p H',Same H H'->Tp K H' p (xs++ys)->Q (.ref p) H'
open PySem.Spec PyProof.Rows in
theorem zJ0{X:Cx}:OpR X (CU .Add) (rCatS X.K):=by
 intro pins s σ H x y v u Q I rx ry h
 obtain⟨a,b,xs,ys,rfl,rfl,ha,hb,hz,q⟩:=h
 cases rx
 cases ry
 obtain⟨its,r1,t1,z1⟩:=I.tuple ha.sq
 obtain⟨its2,r2,t2,z2⟩:=I.tuple hb.sq
 by_cases hx:xs=[]
 ·subst hx
  have e:its=[]:=by have:=r1.length; simpa using this.symm
  subst e
  obtain⟨⟨cls,dd,data,sl⟩,ho,hc,n,hd⟩:=id t1
  obtain⟨⟨cls2,dd2,data2,sl2⟩,ho2,hc2,n2,hd2⟩:=id t2
  simp only at hc hd hc2 hd2
  subst hc hd hc2 hd2
  refine HR ⟨_,ho,rfl⟩ ⟨_,ho2,rfl⟩ GC G5 EB Dy (Dq _ _)
   (tuple_addW0 a b _ its2.toArray n n2 dd dd2 sl sl2 (by simp)) ⟨ho,ho2,?_⟩
  exact⟨.ref b,H,I,rfl,q b H (Same.refl H) (by simpa using hb)⟩
 ·have hne:its≠[]:=fun e=>hx (by have:=r1.length; rw[e]at this; simpa using this)
  refine HT.cat_tup t1 t2 hne (fun e=>?_) (fun e=>?_) (by rw[← r1.length,← r2.length]; exact hz)
  ·have ey:ys=[]:=by have:=r2.length; rw[e]at this; simpa using this
   subst ey
   exact⟨.ref a,H,I,rfl,q a H (Same.refl H) (by simpa using ha)⟩
  ·have hf:H s.heap.objs.size=none:=I.hok.fresh (AL _)
   refine⟨.ref s.heap.objs.size,_,I.laid (t':=s.toks) (fun b o e=>AI _ e) (AL _) (show ObjOk X.prog X.w _ _ _ (.tup (xs++ys)) from ⟨by simpa using hz,its++its2,r1.append r2,TupD.new _ _⟩),rfl,q _ _ (Same.upd hf) (.inl zAG)⟩
def addTup:En->S->S->Option S:=fun _ a b=>match a,b with
 | .v (.t xs),.v (.t ys)=>gd (xs.length+ys.length) (.v (.t (xs++ys)))
 | _,_=>none
theorem zEZ{K:Fg}:SimR2 K (rCatS K) addTup:=by
 intro C w Γ σ H x y a b s Q R ox oy e k
 unfold addTup at e
 split at e
 ·obtain⟨h,e⟩:=zAw e
  cases e
  obtain⟨p,vs,rfl,h1,i1⟩:=ox.invt
  obtain⟨q,us,rfl,h2,i2⟩:=oy.invt
  refine⟨p,q,vs,us,rfl,rfl,h1,h2,by rw[i1.len,i2.len]; exact h,fun c H' sm hc=>k _ H' (R.same sm) (.of_same sm) ?_ trivial⟩
  have ev:Evo w.L H H':=.of_same sm
  show Im K H' (.ref c) (.t _)
  unfold Im
  exact⟨c,_,rfl,hc,(i1.evo ev R.lst).app (i2.evo ev R.lst)⟩
 ·cases e
def addLst:En->S->S->Option S:=fun Γ a b=>(lsOf Γ a).bind fun xs=>(lsOf Γ b).bind fun ys=>gd (xs.length+ys.length) (.l (xs++ys))
theorem zEm{K:Fg}:SimR2 K rCat addLst:=by
 intro C w Γ σ H x y a b s Q R ox oy e k
 obtain⟨xs,e1,e⟩:=bind_some e
 obtain⟨ys,e2,e⟩:=bind_some e
 obtain⟨h,e⟩:=zAw e
 cases e
 obtain⟨p,vs,rfl,h1,i1⟩:=zGA R ox e1
 obtain⟨q,us,rfl,h2,i2⟩:=zGA R oy e2
 exact⟨p,q,vs,us,rfl,rfl,h1,h2,by rw[i1.len,i2.len]; exact h,fun c hc=>k _ _ (R.new hc) (Evo.new hc) (R.newl hc (i1.app i2)) ⟨c,rfl,hc⟩⟩
def addS:En->S->S->Option S:=fun Γ x y=>((opII fun i j=>.int (i+j)) Γ x y).or ((addTup Γ x y).or ((addLst Γ x y).or (addStr Γ x y)))
def rAddS(K:Fg):R2:=fun x y H Q=>rI0 (fun i j=>.int (i+j)) x y H Q\/rCatS K x y H Q\/rCat x y H Q\/rAddStr x y H Q
theorem zGo{K:Fg}:SimR2 K (rAddS K) addS:=zAx.or (zEZ.or (zEm.or zEk))
theorem zJh{X:Cx}:OpR X (CU .Add) (rAddS X.K):=zLb.or (zJ0.or (zKu.or zFz))
def fitM(n:Nat)(k:Int):Bool:=inR 9223372036854775807 k && D8 (n * k.toNat) AC
def mulLst:En->S->S->Option S:=fun Γ a b=>(lsOf Γ a).bind fun xs=>(iS b).bind fun k=>if fitM xs.length k=true then some (.l (AM k.toNat xs).flatten) else none
theorem Ims.rep{K:Fg}{H:Hp}{vs:List V}{ts:List T}(h:Ims K H vs ts):∀ n:Nat,Ims K H (AM n vs).flatten (AM n ts).flatten
 | 0=>.nil
 | n+1=>by rw[BD,BD,Cg,Cg]; exact h.app (h.rep n)
theorem zEL{K:Fg}:SimR2 K rRep mulLst:=by
 intro C w Γ σ H x y a b s Q R ox oy e k
 obtain⟨xs,e1,e⟩:=bind_some e
 obtain⟨n,e2,e⟩:=bind_some e
 split at e
 ·rename_i h
  cases e
  unfold fitM at h
  rw[Af]at h
  have h0:=inR63 h.1
  have h3:=Ec h.2
  obtain⟨p,vs,rfl,h1,i1⟩:=zGA R ox e1
  exact⟨p,n,vs,rfl,zA3 oy e2,h1,h0.1,h0.2,by rw[i1.len]; exact h3,fun c hc=>k _ _ (R.new hc) (Evo.new hc) (R.newl hc (i1.rep _)) ⟨c,rfl,hc⟩⟩
 ·cases e
def mulS:En->S->S->Option S:=fun Γ x y=>(opIIc CMul (fun i j=>.int (i * j)) Γ x y).or (mulLst Γ x y)
def rMulS:R2:=fun x y H Q=>rI CMul (fun i j=>.int (i * j)) x y H Q\/rRep x y H Q
theorem zHq{K:Fg}:SimR2 K rMulS mulS:=zBg.or zEL
theorem zJG{X:Cx}:OpR X (CU .Mult) rMulS:=zLD.or zK5
def modS:En->S->S->Option S:=opIIc (fun _ j=>0 < j) fun i j=>.int (i % j)
def fdivS:En->S->S->Option S:=opIIc CDiv fun i j=>.int (i / j)
def powS:En->S->S->Option S:=opIIc CPow fun i j=>.int (i ^ j.toNat)
def subS:En->S->S->Option S:=opII fun i j=>.int (i - j)
def ltS:En->S->S->Option S:=opII fun i j=>.bl (decide (i < j))
def leS:En->S->S->Option S:=opII fun i j=>.bl (decide (i<=j))
def gtS:En->S->S->Option S:=opII fun i j=>.bl (decide (j < i))
def geS:En->S->S->Option S:=opII fun i j=>.bl (decide (j<=i))
def negS:En->S->Option S:=fun _ a=>(iS a).map fun i=>mkI (-i)
theorem zHn{K:Fg}:SimR1 K (rU fun i=>.int (-i)) negS:=by
 intro C w Γ σ H x a s Q R ox e k
 obtain⟨i,e1,e⟩:=zAA e
 cases e
 exact⟨i,zA3 ox e1,k _ H R .refl SOk.atom trivial⟩
def ixS:En->S->S->Option S:=fun Γ a b=>(iS b).bind fun i=>match a with
 | .v (.t xs)=>(atI xs i).map .v
 | .v (.a (.str z))=>if z.length<=AC then (atI z.cps.toList i).map fun c=>.v (.a (.str ⟨#[c]⟩)) else none
 | a=>(sqlOf Γ a).bind fun xs=>(atI xs i).map .v
theorem zFU{K:Fg}{H:Hp}{vs:List V}{ts:List T}{i:Int}{t:T}(h:Ims K H vs ts)(e:atI ts i=some t):∃ v,atI vs i=some v/\Im K H v t:=by
 unfold atI at e ⊢
 rw[h.len]
 obtain⟨j,e1,e⟩:=bind_some e
 obtain⟨v,e2,hv⟩:=h.get e
 exact⟨v,by rw[e1]; exact e2,hv⟩
theorem zIW{K:Fg}:SimR2 K (rIx K) ixS:=by
 intro C w Γ σ H x y a b s Q R ox oy e k
 obtain⟨i,e1,e⟩:=bind_some e
 have hy:=zA3 oy e1
 split at e
 ·rename_i xs
  obtain⟨t,e2,e⟩:=zAA e
  cases e
  obtain⟨p,vs,rfl,h1,i1⟩:=ox.invt
  obtain⟨v,e3,hv⟩:=zFU i1 e2
  exact .inr (.inl ⟨p,vs,i,v,rfl,hy,h1.sq,e3,k v H R .refl hv trivial⟩)
 ·rename_i z
  split at e
  ·rename_i hz
   obtain⟨c,e2,e⟩:=zAA e
   cases e
   exact .inr (.inr ⟨_,i,c,ox.inva,hy,hz,e2,k _ H R .refl SOk.atom trivial⟩)
  ·cases e
 ·obtain⟨xs,e2,e⟩:=bind_some e
  obtain⟨t,e3,e⟩:=zAA e
  cases e
  obtain⟨p,vs,rfl,h1,i1⟩:=zAd R ox e2
  obtain⟨v,e4,hv⟩:=zFU i1 e3
  exact .inl ⟨p,vs,i,v,rfl,hy,h1,e4,k v H R .refl hv trivial⟩
def lenS:En->List S->Option S:=fun Γ as=>match as with
 | [.v (.t xs)]=>some (mkI xs.length)
 | [.v (.a (.str z))]=>if z.length<=AC then some (mkI z.length) else none
 | [a]=>(sqlOf Γ a).map fun xs=>mkI xs.length
 | _=>none
def rLenS(K:Fg):List V->Hp->VK->Prop:=fun xs H Q=>(∃ p ys,xs=[.ref p]/\(SqL K H p ys\/SqT K H p ys)/\Q (.int ys.length) H)\/(∃ z,xs=[.str z]/\z.length<=AC/\Q (.int z.length) H)
theorem soks1{K:Fg}{C:Fr}{w:W}{σ:St}{H:Hp}{vs:List V}{a:S}(h:SOks K C w σ H vs [a]):∃ v,vs=[v]/\SOk K C w σ H v a:=by
 match vs,h with
 | [v],h=>exact⟨v,rfl,h.1⟩
theorem soks2{K:Fg}{C:Fr}{w:W}{σ:St}{H:Hp}{vs:List V}{a b:S}(h:SOks K C w σ H vs [a,b]):∃ v u,vs=[v,u]/\SOk K C w σ H v a/\SOk K C w σ H u b:=by
 match vs,h with
 | [v,u],h=>exact⟨v,u,rfl,h.1,h.2.1⟩
theorem zGe{K:Fg}:SimRs K (rLenS K) lenS:=by
 intro C w Γ σ H vs as s Q R o e k
 unfold lenS at e
 split at e
 ·cases e
  obtain⟨v,rfl,o1⟩:=soks1 o
  obtain⟨p,us,rfl,h1,i1⟩:=o1.invt
  refine .inl ⟨p,us,rfl,.inr h1.sq,?_⟩
  rw[i1.len]
  exact k _ H R .refl SOk.atom trivial
 ·rename_i z
  split at e
  ·rename_i hz
   cases e
   obtain⟨v,rfl,o1⟩:=soks1 o
   exact .inr ⟨z,by rw[o1.inva],hz,k _ H R .refl SOk.atom trivial⟩
  ·cases e
 ·obtain⟨xs,e1,e⟩:=zAA e
  cases e
  obtain⟨v,rfl,o1⟩:=soks1 o
  obtain⟨p,us,rfl,h1,i1⟩:=zAd R o1 e1
  refine .inl ⟨p,us,rfl,.inl h1,?_⟩
  rw[i1.len]
  exact k _ H R .refl SOk.atom trivial
 ·cases e
theorem zHD{X:Cx}:CallR X (.builtin "len") (rLenS X.K):=call_len_seq.or zEU
def seqS(Γ:En):S->Option (List T)
 | .v (.t xs)=>some xs
 | a=>sqlOf Γ a
theorem zKn{K:Fg}{C:Fr}{w:W}{Γ:En}{σ:St}{H:Hp}{x:V}{s:S}{xs:List T}(R:Rep K C w Γ σ H)(o:SOk K C w σ H x s)(e:seqS Γ s=some xs):∃ p vs,x=.ref p/\(SqL K H p vs\/SqT K H p vs)/\Ims K H vs xs:=by
 unfold seqS at e
 split at e
 ·cases e
  obtain⟨p,us,rfl,h1,i1⟩:=o.invt
  exact⟨p,us,rfl,.inr h1.sq,i1⟩
 ·obtain⟨p,us,rfl,h1,i1⟩:=zAd R o e
  exact⟨p,us,rfl,.inl h1,i1⟩
def listS:En->List S->Option S:=fun Γ as=>match as with
 | [a]=>(seqS Γ a).map .l
 | _=>none
def tupleS:En->List S->Option S:=fun Γ as=>match as with
 | [.v (.t xs)]=>some (.v (.t xs))
 | [a]=>(sqlOf Γ a).map fun xs=>.v (.t xs)
 | _=>none
theorem zEr{K:Fg}:SimRs K (fun xs H Q=>∃ p ys,xs=[.ref p]/\((SqL K H p ys/\∀ l,H l=none->Q (.ref l) (upd H l (.tup ys)))\/(SqT K H p ys/\Q (.ref p) H))) tupleS:=by
 intro C w Γ σ H vs as s Q R o e k
 unfold tupleS at e
 split at e
 ·cases e
  obtain⟨v,rfl,o1⟩:=soks1 o
  have o2:=o1
  obtain⟨p,us,rfl,h1,i1⟩:=o1.invt
  exact⟨p,us,rfl,.inr ⟨h1.sq,k _ H R .refl o2 trivial⟩⟩
 ·obtain⟨xs,e1,e⟩:=zAA e
  cases e
  obtain⟨v,rfl,o1⟩:=soks1 o
  obtain⟨p,us,rfl,h1,i1⟩:=zAd R o1 e1
  exact⟨p,us,rfl,.inl ⟨h1,fun l hl=>k _ _ (R.new hl) (Evo.new hl) (R.newt hl i1) trivial⟩⟩
 ·cases e
abbrev DO:=En->Option (Option Int×En)
def SimO(K:Fg)(t:TO)(f:DO):Prop:=∀ (C:Fr) (w:W) (Γ:En) (σ:St) (H:Hp) (i:Option Int) (Γ':En) (Q:Option Int->Hp->Prop),Rep K C w Γ σ H->f Γ=some (i,Γ')->(∀ H',Rep K C w Γ' σ H'->Evo w.L H H'->Q i H')->t σ H Q
def dNoPart:DO:=fun Γ=>some (none,Γ)
def dPart(f:DE):DO:=fun Γ=>(f Γ).bind fun p=>(iS p.1).map fun i=>(some i,p.2)
theorem zF9{K:Fg}:SimO K tNoPart dNoPart:=fun C w Γ σ H i Γ' Q R e k=>by cases e; exact k H R .refl
theorem zIZ{K:Fg}{t:TE}{f:DE}(h:SimE K t f):SimO K (tPart t) (dPart f):=by
 intro C w Γ σ H i Γ' Q R e k
 obtain⟨p,e1,e⟩:=bind_some e
 obtain⟨i,e2,e⟩:=zAA e
 cases e
 exact h C w Γ σ H p.1 p.2 _ R e1 fun v H1 R1 ev o _=>⟨i,zA3 o e2,k H1 R1 ev⟩
def cutT(xs:List T)(lo hi:Option Int):List T:=(xs.drop (HT.sIx xs.length 0 lo)).take (HT.sIx xs.length xs.length hi - HT.sIx xs.length 0 lo)
theorem Ims.cut{K:Fg}{H:Hp}{vs:List V}{ts:List T}(h:Ims K H vs ts)(lo hi:Option Int):Ims K H (cutV vs lo hi) (cutT ts lo hi):=by
 unfold cutV cutT
 rw[h.len]
 exact (h.drop _).take _
def slS(Γ:En)(lo hi:Option Int):S->Option S
 | .v (.t xs)=>some (.v (.t (cutT xs lo hi)))
 | .v (.a _)=>none
 | a=>(sqlOf Γ a).map fun xs=>.l (cutT xs lo hi)
def dSl(f:DE)(lo hi:DO):DE:=fun Γ=>(f Γ).bind fun p=>(lo p.2).bind fun l=>(hi l.2).bind fun h=>(slS h.2 l.1 h.1 p.1).map fun s=>(s,h.2)
def rSlTS(K:Fg):V->Option Int->Option Int->Hp->VK->Prop:=fun x lo hi H Q=>∃ a xs,x=.ref a/\Tp K H a xs/\∀ p H',Same H H'->Tp K H' p (cutV xs lo hi)->Q (.ref p) H'
theorem zJS{X:Cx}:SlR X (rSlTS X.K):=by
 intro pins s σ H x v vl vu lo hi sl Q I rx hs pl pu h
 obtain⟨a,xs,rfl,hx,q⟩:=h
 cases rx
 obtain⟨its,r,ht,hz⟩:=I.tuple hx.sq
 have hlen:its.toArray.size=xs.length:=by rw[Ab]; exact r.length.symm
 refine⟨"tuple",_,Ba.lookup,ht.typeIs,?_⟩
 by_cases hw:HT.sIx xs.length 0 lo=0/\HT.sIx xs.length xs.length hi=xs.length
 ·refine zBl ht hs pl pu (by rw[hlen]; exact hw) ⟨.ref a,H,I,rfl,q a H (Same.refl H) ?_⟩
  unfold cutV
  rw[hw.1,hw.2,Dl,Gr,Bs (AL _)]
  exact hx
 ·refine HT.qY ht hs pl pu (by rw[hlen]; exact hw) ?_ (by rw[hlen]; exact hz)
  rw[hlen]
  have hf:H s.heap.objs.size=none:=I.hok.fresh (AL _)
  refine⟨.ref s.heap.objs.size,_,I.laid (t':=s.toks) (o:=.tup (cutV xs lo hi)) (fun b ob q=>AI _ q) (AL _) ?_,rfl,q _ _ (Same.upd hf) (.inl zAG)⟩
  exact⟨As (zCA xs lo hi) hz,_,(r.drop (HT.sIx xs.length 0 lo)).take (HT.sIx xs.length xs.length hi - HT.sIx xs.length 0 lo),TupD.new _ _⟩
def rSlS(K:Fg):V->Option Int->Option Int->Hp->VK->Prop:=fun x lo hi H Q=>rSlTS K x lo hi H Q\/rSlL K x lo hi H Q
theorem sl_S{X:Cx}:SlR X (rSlS X.K):=zJS.or zJC
theorem zKg{K:Fg}{te:TE}{f:DE}{tl th:TO}{lo hi:DO}(he:SimE K te f)(hl:SimO K tl lo)(hh:SimO K th hi):SimE K (tSl (rSlS K) te tl th) (dSl f lo hi):=by
 intro C w Γ σ H s Γ' Q R e k
 obtain⟨⟨a,G1⟩,e1,e⟩:=bind_some e
 obtain⟨⟨i,G2⟩,e2,e⟩:=bind_some e
 obtain⟨⟨j,G3⟩,e3,e⟩:=bind_some e
 obtain⟨z,e4,e⟩:=zAA e
 cases e
 dsimp only at e4
 refine he C w Γ σ H a G1 _ R e1 fun v H1 R1 ev1 o1 n1=>?_
 refine hl C w G1 σ H1 i G2 _ R1 e2 fun H2 R2 ev2=>?_
 refine hh C w G2 σ H2 j G3 _ R2 e3 fun H3 R3 ev3=>?_
 have o3:=(o1.evo ev2 R1.lst).evo ev3 R2.lst
 have ev:=(ev1.trans ev2).trans ev3
 unfold slS at e4
 split at e4
 ·cases e4
  obtain⟨p,us,rfl,h1,i1⟩:=o3.invt
  refine .inl ⟨p,us,rfl,h1,fun c H' sm hc=>k _ H' (R3.same sm) (ev.trans (.of_same sm)) ?_ trivial⟩
  show Im K H' (.ref c) (.t _)
  unfold Im
  exact⟨c,_,rfl,hc,(i1.evo (.of_same sm) R3.lst).cut _ _⟩
 ·cases e4
 ·obtain⟨xs,e5,e4⟩:=zAA e4
  cases e4
  obtain⟨p,us,rfl,h1,i1⟩:=zAd R3 o3 e5
  exact .inr ⟨p,us,rfl,h1,fun c hc=>k _ _ (R3.new hc) (ev.trans (Evo.new hc)) (R3.newl hc (i1.cut _ _)) ⟨c,rfl,zAb ev R3.lst hc⟩⟩
def SimMut(K:Fg)(r:V->List V->Hp->VK->Prop)(h:En->List T->List S->Option (T×List T)):Prop:=∀ (C:Fr) (w:W) (Γ:En) (σ:St) (H:Hp) (l:Addr) (us:List V) (xs:List T) (vs:List V) (as:List S) (t:T) (ys:List T) (Q:VK),Rep K C w Γ σ H->H l=some (.lst us)->Ims K H us xs->us.length<=AC->SOks K C w σ H vs as->h Γ xs as=some (t,ys) ->
 (∀ v us',Ims K H us' ys->Im K H v t->Q v (upd H l (.lst us')))->r (.ref l) vs H Q
def isLs(Γ:En)(i:Nat):Bool:=match Γ[i]? with
 | some (some (.l _))=>true
 | _=>false
def dMut(i:Nat)(h:En->List T->List S->Option (T×List T))(fa:DA):DE:=fun Γ=>if isLs Γ i=true then (fa Γ).bind fun p=>match p.2[i]? with
 | some (some (.l xs))=>(gd xs.length ()).bind fun _=>(h p.2 xs p.1).map fun q=>(.v q.1,p.2.set i (some (.l q.2)))
 | _=>none
 else none
theorem zFD{K:Fg}{C:Fr}{w:W}{Γ:En}{σ:St}{H:Hp}{i:Nat}(R:Rep K C w Γ σ H)(h:isLs Γ i=true):∃ p vs,σ[i]?=some (some (.ref p))/\H p=some (.lst vs):=by
 unfold isLs at h
 split at h
 ·rename_i xs e
  obtain⟨v,e1,p,vs,rfl,_,h1,_⟩:=R.val i _ e
  exact⟨p,vs,e1,h1⟩
 ·cases h
theorem zKN{K:Fg}{i:Nat}{r:V->List V->Hp->VK->Prop}{h:En->List T->List S->Option (T×List T)}{ta:TA}{fa:DA}(hr:SimMut K r h)(ha:SimA K ta fa):SimE K (tBM K "list" r (tVar i) ta) (dMut i h fa):=by
 intro C w Γ σ H s Γ' Q R e k
 unfold dMut at e
 split at e
 rotate_left
 ·cases e
 rename_i hl
 obtain⟨p,vs,e1,e2⟩:=zFD R hl
 obtain⟨⟨as,G1⟩,e3,e⟩:=bind_some e
 dsimp only at e
 split at e
 rotate_left
 ·cases e
 rename_i xs hx
 obtain⟨_,eg,e⟩:=bind_some e
 obtain⟨hsz,_⟩:=zAw eg
 obtain⟨⟨t,ys⟩,e4,e⟩:=zAA e
 cases e
 refine⟨.ref p,e1,.inl ⟨rfl,vs,SqL.of e2⟩,?_⟩
 refine ha C w Γ σ H as G1 _ R e3 fun us H1 R1 ev1 o1 n1=>?_
 obtain⟨v,s1,q,ws,rfl,m1,h1,i1⟩:=R1.val i _ hx
 rw[e1]at s1; cases s1
 refine hr C w G1 σ H1 p ws xs us as t ys _ R1 h1 i1 (by rw[i1.len]; exact hsz) o1 e4 fun v us' hu hv=>?_
 obtain⟨R2,ev2⟩:=R1.put hx e1 hu
 exact k v _ R2 (ev1.trans ev2) (hv.evo ev2 R1.lst) trivial
def hAppend:En->List T->List S->Option (T×List T):=fun _ xs as=>match as with
 | [.v t]=>if xs.length < AC then some (.a .non,xs++[t]) else none
 | _=>none
theorem mut_append{K:Fg}:SimMut K rAppend hAppend:=by
 intro C w Γ σ H l us xs vs as t ys Q R hl hi hz o e k
 unfold hAppend at e
 split at e
 ·rename_i t'
  split at e
  ·rename_i hn
   cases e
   obtain⟨v,rfl,o1⟩:=soks1 o
   exact⟨l,us,v,rfl,rfl,hl,by rw[hi.len]; exact hn,k _ _ (hi.app (.one o1)) Im.atom⟩
  ·cases e
 ·cases e
def hPop:En->List T->List S->Option (T×List T):=fun _ xs as=>match as with
 | []=>(xs[xs.length - 1]?).map fun t=>(t,xs.dropLast)
 | _=>none
def hPopAt:En->List T->List S->Option (T×List T):=fun _ xs as=>match as with
 | [.v (.a (.int i))]=>if inR 9223372036854775807 i=true then (HF i xs.length).bind fun k=>(xs[k]?).map fun t=>(t,xs.eraseIdx k) else none
 | _=>none
def hExtend:En->List T->List S->Option (T×List T):=fun Γ xs as=>match as with
 | [a]=>(lsOf Γ a).bind fun zs=>gd (xs.length+zs.length) (.a .non,xs++zs)
 | _=>none
def dSetIx(i:Nat)(fe fi:DE):DS:=fun Γ=>(fe Γ).bind fun p=>p.1.tree.bind fun t=>if isLs p.2 i=true then (fi p.2).bind fun q=>(iS q.1).bind fun k=>match q.2[i]? with
  | some (some (.l xs))=>(ixN xs.length k).map fun j=>.nx (q.2.set i (some (.l (xs.set j t))))
  | _=>none
 else none
theorem zGJ{K:Fg}{ip:Option Nat}{i:Nat}{te ti:TE}{fe fi:DE}(he:SimE K te fe)(hi:SimE K ti fi):SimS K ip (tAsg te (gSub (tVar i) ti rSetL)) (dSetIx i fe fi):=by
 intro C w Γ σ H D o hp R e k
 obtain⟨⟨s,G1⟩,e1,e⟩:=bind_some e
 obtain⟨t,e2,e⟩:=bind_some e
 dsimp only at e e2
 split at e
 rotate_left
 ·cases e
 rename_i hl
 obtain⟨⟨s2,G2⟩,e3,e⟩:=bind_some e
 obtain⟨n,e4,e⟩:=bind_some e
 dsimp only at e e4
 split at e
 rotate_left
 ·cases e
 rename_i xs hx
 obtain⟨j,e5,e⟩:=zAA e
 subst e
 cases s with
 | l _=>cases e2
 | s _=>cases e2
 | d _=>cases e2
 | v t' =>
  cases e2
  refine he C w Γ σ H _ G1 _ R e1 fun v H1 R1 ev1 o1 n1=>?_
  obtain⟨p,vs,s1,h1⟩:=zFD R1 hl
  refine⟨.ref p,s1,?_⟩
  refine hi C w G1 σ H1 s2 G2 _ R1 e3 fun v2 H2 R2 ev2 o2 n2=>?_
  obtain⟨v3,s3,q,ws,rfl,m3,h3,i3⟩:=R2.val i _ hx
  rw[s1]at s3; cases s3
  have o1':Im K H1 v t:=o1
  exact⟨p,ws,n,j,rfl,zA3 o2 e4,h3,by rw[i3.len]; exact e5,k w σ _ (R2.put hx s1 (i3.set j (o1'.evo ev2 R1.lst))).1⟩
def boolsOf:List T->Option (List Bool)
 | []=>some []
 | .a (.bl b)::r=>(boolsOf r).map fun bs=>b::bs
 | _=>none
theorem zEW{K:Fg}{H:Hp}:∀ {vs:List V} {ts:List T} {bs:List Bool},Ims K H vs ts->boolsOf ts=some bs->vs=bs.map V.bl
 | _,[],_,h,e=>by cases e; exact h.inv0
 | _,.a (.bl b)::r,_,h,e=>by
  obtain⟨v,us,rfl,h1,h2⟩:=h.inv
  obtain⟨bs,e1,e⟩:=zAA e
  cases e
  rw[h1.inva,zEW h2 e1]; rfl
 | _,.t _::_,_,_,e=>by cases e
 | _,.l _::_,_,_,e=>by cases e
 | _,.f _::_,_,_,e=>by cases e
 | _,.x _ _::_,_,_,e=>by cases e
 | _,.a .non::_,_,_,e=>by cases e
 | _,.a (.int _)::_,_,_,e=>by cases e
 | _,.a (.str _)::_,_,_,e=>by cases e
 | _,.a (.byt _)::_,_,_,e=>by cases e
 | _,.a (.flt _)::_,_,_,e=>by cases e
 | _,.a (.ref _)::_,_,_,e=>by cases e
 | _,.a (.ty _)::_,_,_,e=>by cases e
def allS:En->List S->Option S:=fun Γ as=>match as with
 | [a]=>(sqlOf Γ a).bind fun xs=>(boolsOf xs).map fun bs=>mkB (bs.all id)
 | _=>none
theorem zHW{K:Fg}:SimRs K (fun xs H Q=>∃ (p:Addr) (bs:List Bool),xs=[.ref p]/\SqL K H p (bs.map V.bl)/\Q (.bl (bs.all id)) H) allS:=by
 intro C w Γ σ H vs as s Q R o e k
 unfold allS at e
 split at e
 ·obtain⟨xs,e1,e⟩:=bind_some e
  obtain⟨bs,e2,e⟩:=zAA e
  cases e
  obtain⟨v,rfl,o1⟩:=soks1 o
  obtain⟨p,us,rfl,h1,i1⟩:=zAd R o1 e1
  exact⟨p,bs,rfl,by rw[← zEW i1 e2]; exact h1,k _ H R .refl SOk.atom trivial⟩
 ·cases e
def tyN(Γ:En):S->Option String
 | .v (.t _)=>some "tuple"
 | .v (.a (.int _))=>some "int"
 | .v (.a (.bl _))=>some "bool"
 | .v (.a (.str _))=>some "str"
 | .v (.a .non)=>some "NoneType"
 | .v (.l _)=>some "list"
 | .v _=>none
 | a=>(sqlOf Γ a).map fun _=>"list"
def TyS(K:Fg)(H:Hp)(n:String):V->Prop
 | .int _=>n="int"
 | .bl _=>n="bool"
 | .str _=>n="str"
 | .non=>n="NoneType"
 | .ref p=>(n="list"/\∃ xs,SqL K H p xs)\/(n="tuple"/\∃ xs,SqT K H p xs)
 | _=>False
theorem zGj{K:Fg}{C:Fr}{w:W}{Γ:En}{σ:St}{H:Hp}{x:V}{s:S}{n:String}(R:Rep K C w Γ σ H)(o:SOk K C w σ H x s)(e:tyN Γ s=some n):TyS K H n x:=by
 unfold tyN at e
 split at e
 ·cases e; obtain⟨p,us,rfl,h1,i1⟩:=o.invt; exact .inr ⟨rfl,us,h1.sq⟩
 ·cases e; rw[o.inva]; exact rfl
 ·cases e; rw[o.inva]; exact rfl
 ·cases e; rw[o.inva]; exact rfl
 ·cases e; rw[o.inva]; exact rfl
 ·rename_i ys; cases e; obtain⟨p,us,rfl,h1,i1⟩:=(show Im K H x (.l ys) from o).invl; exact .inl ⟨rfl,us,h1.sq⟩
 ·cases e
 ·obtain⟨xs,e1,e⟩:=zAA e
  cases e
  obtain⟨p,us,rfl,h1,i1⟩:=zAd R o e1
  exact .inl ⟨rfl,us,h1⟩
theorem zG8{X:Cx}{pins:List (Addr×Obj)}{σ:St}{H:Hp}{s:AH}{x:V}{u:AB}{n:String}(I:Inv X pins σ H s)(rx:RelV x u)(ty:TyS X.K H n x):∃ P:Heap->Prop,Hk X.K u (.type n) P/\P s.heap/\u≠.builtin "__main__.__loader__#opaque":=by
 cases x with
 | non=>cases ty; cases (show u=A6 from rx); exact⟨_,PySem.W.kitx_none,DM,fun z=>nomatch z⟩
 | bl y=>cases ty; cases (show u=EG y from rx); exact⟨_,PySem.W.kitx_bool,DM,fun z=>nomatch z⟩
 | int i=>cases ty; obtain⟨t,q⟩:=(show ∃ t,u=Eg i t from rx); cases q; exact⟨_,PySem.W.kitx_int,DM,fun z=>nomatch z⟩
 | str y=>cases ty; obtain⟨t,q⟩:=(show ∃ t,u=Eh y t from rx); cases q; exact⟨_,PySem.W.kitx_str,DM,fun z=>nomatch z⟩
 | ref p =>
  cases (show u=Aj p from rx)
  rcases ty with ⟨rfl,xs,h⟩ | ⟨rfl,xs,h⟩
  ·obtain⟨its,_,pl,_⟩:=I.list h
   obtain⟨o,h1,h2,_⟩:=pl.isList
   exact⟨_,PySem.W.kitx_list,⟨o,h1,h2⟩,fun z=>nomatch z⟩
  ·obtain⟨its,_,pl,_⟩:=I.tuple h
   obtain⟨o,h1,h2,_⟩:=pl
   exact⟨_,PySem.W.kitx_tuple,⟨o,h1,h2⟩,fun z=>nomatch z⟩
 | byt _=>exact ty.elim
 | flt _=>exact ty.elim
 | ty _=>exact ty.elim
def tyIx:String->Option Nat
 | "int"=>some 0
 | "bool"=>some 1
 | "str"=>some 2
 | "list"=>some 3
 | "tuple"=>some 4
 | "NoneType"=>some 5
 | _=>none
def tyNm:Nat->String
 | 0=>"int" | 1=>"bool" | 2=>"str" | 3=>"list" | 4=>"tuple" | _=>"NoneType"
@[simp] theorem zOG:tyIx "int"=some 0:=(rfl)
@[simp] theorem zOO:tyIx "bool"=some 1:=(rfl)
@[simp] theorem zOZ:tyIx "str"=some 2:=(rfl)
@[simp] theorem zN8:tyIx "list"=some 3:=(rfl)
@[simp] theorem zOL:tyIx "tuple"=some 4:=(rfl)
@[simp] theorem zOh:tyIx "NoneType"=some 5:=(rfl)
theorem zFL{a:String}{i:Nat}(h:tyIx a=some i):a=tyNm i/\i < 6:=by
 unfold tyIx at h
 split at h <;> first | (cases h; exact⟨rfl,by decide⟩) | cases h
def subTy(a b:String):Option Bool:=(tyIx a).bind fun i=>(tyIx b).bind fun j=>if j=5 then none else some (i == j || (i == 1 && j == 0))
theorem zIc{K:Fg}{a b:String}{c:Bool}(e:subTy a b=some c):Bt K (.type a) (.type b)=some c:=by
 obtain⟨i,e1,z0⟩:=bind_some e
 obtain⟨j,e2,z⟩:=bind_some z0
 clear z0
 clear e
 obtain⟨rfl,hi⟩:=zFL e1
 obtain⟨rfl,hj⟩:=zFL e2
 clear e1 e2
 by_cases h5:j=5
 ·rw[if_pos h5]at z; cases z
 rw[if_neg h5]at z
 cases z
 have key:∀ i < 6,∀ j < 5,Bt K (.type (tyNm i)) (.type (tyNm j))=some (i == j || (i == 1 && j == 0)):=fun i hi j hj=>by
  match i,hi,j,hj with
  | 0,_,0,_=>kernel_rfl
  | 0,_,1,_=>kernel_rfl
  | 0,_,2,_=>kernel_rfl
  | 0,_,3,_=>kernel_rfl
  | 0,_,4,_=>kernel_rfl
  | 1,_,0,_=>kernel_rfl
  | 1,_,1,_=>kernel_rfl
  | 1,_,2,_=>kernel_rfl
  | 1,_,3,_=>kernel_rfl
  | 1,_,4,_=>kernel_rfl
  | 2,_,0,_=>kernel_rfl
  | 2,_,1,_=>kernel_rfl
  | 2,_,2,_=>kernel_rfl
  | 2,_,3,_=>kernel_rfl
  | 2,_,4,_=>kernel_rfl
  | 3,_,0,_=>kernel_rfl
  | 3,_,1,_=>kernel_rfl
  | 3,_,2,_=>kernel_rfl
  | 3,_,3,_=>kernel_rfl
  | 3,_,4,_=>kernel_rfl
  | 4,_,0,_=>kernel_rfl
  | 4,_,1,_=>kernel_rfl
  | 4,_,2,_=>kernel_rfl
  | 4,_,3,_=>kernel_rfl
  | 4,_,4,_=>kernel_rfl
  | 5,_,0,_=>kernel_rfl
  | 5,_,1,_=>kernel_rfl
  | 5,_,2,_=>kernel_rfl
  | 5,_,3,_=>kernel_rfl
  | 5,_,4,_=>kernel_rfl
 exact key i hi j (by omega)
def subLT:String->Option Bool
 | "int"=>some false
 | "bool"=>some false
 | "str"=>some false
 | "NoneType"=>some false
 | "list"=>some true
 | "tuple"=>some true
 | _=>none
theorem zIJ{K:Fg}{a:String}{c:Bool}(e:subLT a=some c):EZ K (.type a) [.type "list",.type "tuple"]=some c:=by
 unfold subLT at e
 split at e <;> first | (cases e; kernel_rfl) | cases e
def rIsi(K:Fg):List V->Hp->VK->Prop:=fun xs H Q=>∃ x T n b,xs=[x,.ty T]/\TyS K H n x/\subTy n T=some b/\Q (.bl b) H
theorem zIP{X:Cx}:CallR X (.builtin "isinstance") (rIsi X.K):=by
 intro pins s σ H xs us Q I r h
 obtain⟨x,T,n,b,rfl,ty,e,q⟩:=h
 obtain⟨u,u',rfl,r1,r2⟩:=vals2 r
 cases (show u'=Bc T from r2)
 obtain⟨P,Z,hP,hx⟩:=zG8 I r1 ty
 exact FO Z I.kIn hP (zIc e) hx fun tk=>⟨.bl b,H,I.tok tk,rfl,q⟩
def rIsiLT(K:Fg):List V->Hp->VK->Prop:=fun xs H Q=>∃ x p n b,xs=[x,.ref p]/\SqT K H p [.ty "list",.ty "tuple"]/\TyS K H n x/\subLT n=some b/\Q (.bl b) H
theorem zGE{X:Cx}:CallR X (.builtin "isinstance") (rIsiLT X.K):=by
 intro pins s σ H xs us Q I r h
 obtain⟨x,p,n,b,rfl,hp,ty,e,q⟩:=h
 obtain⟨u,u',rfl,r1,r2⟩:=vals2 r
 cases (show u'=Aj p from r2)
 obtain⟨its,rv,⟨o,ho,hcl,⟨m,hd⟩⟩,hz⟩:=I.tuple hp
 obtain⟨u1,u2,rfl,q1,q2⟩:=vals2 rv
 cases (show u1=Bc "list" from q1)
 cases (show u2=Bc "tuple" from q2)
 obtain⟨P,Z,hP,hx⟩:=zG8 I r1 ty
 obtain⟨cls,dd,data,sl⟩:=o
 simp only at hcl hd
 subst hcl hd
 exact HJ Z I.kIn hP ho (zIJ e) hx fun tk=>⟨.bl b,H,I.tok tk,rfl,q⟩
def isiS:En->List S->Option S:=fun Γ as=>match as with
 | [a,.v (.a (.ty T))]=>(tyN Γ a).bind fun n=>(subTy n T).map mkB
 | [a,.v (.t [.a (.ty "list"),.a (.ty "tuple")])]=>(tyN Γ a).bind fun n=>(subLT n).map mkB
 | _=>none
def rIsiS(K:Fg):List V->Hp->VK->Prop:=fun xs H Q=>rIsi K xs H Q\/rIsiLT K xs H Q
theorem zDK{X:Cx}:CallR X (.builtin "isinstance") (rIsiS X.K):=zIP.or zGE
theorem zDD{K:Fg}:SimRs K (rIsiS K) isiS:=by
 intro C w Γ σ H vs as s Q R o e k
 unfold isiS at e
 split at e
 ·obtain⟨n,e1,e⟩:=bind_some e
  obtain⟨b,e2,e⟩:=zAA e
  cases e
  obtain⟨v,u,rfl,o1,o2⟩:=soks2 o
  exact .inl ⟨v,_,n,b,by rw[o2.inva],zGj R o1 e1,e2,k _ H R .refl SOk.atom trivial⟩
 ·obtain⟨n,e1,e⟩:=bind_some e
  obtain⟨b,e2,e⟩:=zAA e
  cases e
  obtain⟨v,u,rfl,o1,o2⟩:=soks2 o
  obtain⟨p,us,rfl,h1,i1⟩:=o2.invt
  have hus:us=[.ty "list",.ty "tuple"]:=Ims.of_atoms (us:=[.ty "list",.ty "tuple"]) i1
  subst hus
  exact .inr ⟨v,p,n,b,rfl,h1.sq,zGj R o1 e1,e2,k _ H R .refl SOk.atom trivial⟩
 ·cases e
def intS:En->List S->Option S:=fun _ as=>match as with
 | [.v (.a (.int i))]=>some (mkI i)
 | [.v (.a (.bl b))]=>some (mkI (if b then 1 else 0))
 | _=>none
theorem zGx{K:Fg}:SimRs K (fun xs H Q=>(∃ i,xs=[.int i]/\Q (.int i) H)\/∃ k,xs=[.bl k]/\Q (.int (if k then 1 else 0)) H) intS:=by
 intro C w Γ σ H vs as s Q R o e k
 unfold intS at e
 split at e
 ·cases e
  obtain⟨v,rfl,o1⟩:=soks1 o
  exact .inl ⟨_,by rw[o1.inva],k _ H R .refl SOk.atom trivial⟩
 ·cases e
  obtain⟨v,rfl,o1⟩:=soks1 o
  exact .inr ⟨_,by rw[o1.inva],k _ H R .refl SOk.atom trivial⟩
 ·cases e
def max2S:En->List S->Option S:=fun _ as=>match as with
 | [.v (.a (.int i)),.v (.a (.int j))]=>some (mkI (if j > i then j else i))
 | _=>none
def min2S:En->List S->Option S:=fun _ as=>match as with
 | [.v (.a (.int i)),.v (.a (.int j))]=>some (mkI (if j < i then j else i))
 | _=>none
theorem zGK{K:Fg}:SimRs K (fun xs H Q=>∃ i j,xs=[.int i,.int j]/\Q (.int (if j > i then j else i)) H) max2S:=by
 intro C w Γ σ H vs as s Q R o e k
 unfold max2S at e
 split at e
 ·cases e
  obtain⟨v,u,rfl,o1,o2⟩:=soks2 o
  exact⟨_,_,by rw[o1.inva,o2.inva],k _ H R .refl SOk.atom trivial⟩
 ·cases e
def atomsOf:List T->Option (List V)
 | []=>some []
 | .a v::r=>(atomsOf r).map fun vs=>v::vs
 | _=>none
theorem zEo{K:Fg}{H:Hp}:∀ {vs:List V} {ts:List T} {us:List V},Ims K H vs ts->atomsOf ts=some us->vs=us
 | _,[],_,h,e=>by cases e; exact h.inv0
 | _,.a b::r,_,h,e=>by
  obtain⟨v,us,rfl,h1,h2⟩:=h.inv
  obtain⟨bs,e1,e⟩:=zAA e
  cases e
  rw[h1.inva,zEo h2 e1]
 | _,.t _::_,_,_,e=>by cases e
 | _,.l _::_,_,_,e=>by cases e
 | _,.f _::_,_,_,e=>by cases e
 | _,.x _ _::_,_,_,e=>by cases e
def dIndex(fo:DE)(fa:DA):DE:=fun Γ=>(fo Γ).bind fun p=>(fa p.2).bind fun q=>match p.1,q.1 with
 | .v (.t xs),[.v (.a y)]=>(atomsOf xs).bind fun vs=>if flatV y=true/\vs.all flatV=true then (vs.findIdx? fun z=>eqV z y).map fun j=>(mkI (j:Nat),q.2) else none
 | _,_=>none
end D
namespace L2
open PySem PySem.Spec PyProof.Rows
section
variable {X:Cx}{tg:Expr}
def iSeq(K:AJ)(tl:TE):TI:=fun σ H R=>tl σ H fun x H1=>∃ a,x=.ref a/\(((∃ xs,SqL K H1 a xs)/\R (Itl K a) H1)\/((∃ xs,SqT K H1 a xs)/\R (Itt K a) H1))
theorem zFO{l:Expr}{tl:TE}(hl:PE X l tl):PI X tg l (iSeq X.K tl):=by
 intro pins s σ H R I h
 refine thn (hl pins s σ H _ I h) fun v s1 ⟨x,H1,I1,r1,q1⟩=>?_
 obtain⟨a,e,q⟩:=q1
 subst e
 cases r1
 rcases q with ⟨⟨xs,hq⟩,q⟩ | ⟨⟨xs,hq⟩,q⟩
 ·obtain⟨its,rv,p,hz⟩:=I1.list hq
  refine IZ p.isList ?_
  refine⟨s1.heap.objs.size,[s1.heap.objs.size],_,_,H1,rfl,I1.kept (t':=s1.toks) fun b o e=>AI _ e,zHo a _,⟨_,Ad _ rfl,rfl,rfl⟩,fun b hb=>?_,q⟩
  have e:b=s1.heap.objs.size:=by simpa using hb
  subst e
  exact I1.fpOk (AL _) (I1.hok.fresh (AL _))
 ·obtain⟨its,rv,p,hz⟩:=I1.tuple hq
  refine Fe (show s1.heap.IsTuple a its.toArray from p) ?_
  refine⟨s1.heap.objs.size,[s1.heap.objs.size],_,_,H1,rfl,I1.kept (t':=s1.toks) fun b o e=>AI _ e,zFs a _,⟨_,Ad _ rfl,rfl,rfl⟩,fun b hb=>?_,q⟩
  have e:b=s1.heap.objs.size:=by simpa using hb
  subst e
  exact I1.fpOk (AL _) (I1.hok.fresh (AL _))
end
section
variable {X:Cx}{elts:List Expr}{x1:Nat}{tp:Pos}
def iZipU(K:AJ)(ta:TA):TI:=fun σ H R=>ta σ H fun vs H1=>∃ (b:Bool) (a1 a2:Addr),vs=[.ref a1,.ref a2]/\(∃ xs,Sq b K H1 a1 xs)/\(∃ ys,Sq b K H1 a2 ys)/\R (Itz b K a1 a2) H1
theorem zJg{e1 e2:Expr}{ta:TA}{p pos:Pos}(hg:Gl X "zip")(hm:X.mg "zip"=none)(ha:PA X [e1,e2] ta)(hs:AR [e1,e2] X.env=[(false,eval e1 X.env),(false,eval e2 X.env)]:=by rfl)(hs2:AR [e2] X.env=[(false,eval e2 X.env)]:=by rfl) :
  PI X (.Tuple elts x1 tp) (.Call (.Name "zip" p) [e1,e2] [] pos) (iZipU X.K ta):=by
 intro pins s σ H R I h
 refine Call_ (zBQ I hg hm boot_zip (CJ (thn (ha pos pins s σ H _ I h) fun us s1 ⟨vs,H1,I1,r1,q1⟩=>?_) (by rw[hs,hs2]) (by rw[hs2]; rfl)))
 obtain⟨b,a1,a2,e,⟨xs,h1⟩,⟨ys,h2⟩,q⟩:=q1
 subst e
 obtain⟨u1,u2,e,r,r'⟩:=vals2 r1
 subst e
 cases r; cases r'
 obtain⟨its1,v1,o1,z1⟩:=I1.sq h1
 obtain⟨its2,v2,o2,z2⟩:=I1.sq h2
 have lt1:a1 < s1.heap.objs.size:=by cases b with
  | false=>obtain⟨o,e,_⟩:=(show s1.heap.IsList a1 its1.toArray from o1); exact Aa e
  | true=>obtain⟨o,e,_⟩:=(show s1.heap.IsTuple a1 its1.toArray from o1); exact Aa e
 have lt2:a2 < s1.heap.objs.size:=by cases b with
  | false=>obtain⟨o,e,_⟩:=(show s1.heap.IsList a2 its2.toArray from o2); exact Aa e
  | true=>obtain⟨o,e,_⟩:=(show s1.heap.IsTuple a2 its2.toArray from o2); exact Aa e
 have D:ZAp (s1.heap.objs.size+4) (s1.heap.objs.size+2) (s1.heap.objs.size+3) s1.heap.objs.size (s1.heap.objs.size+1) a1 a2 :=
  ⟨zipApart_new lt1 lt2,BJ (AY lt1 (Ff _ 2)),BJ (AY lt2 (Ff _ 2))⟩
 have fin:∀ h',ZTn b (s1.heap.objs.size+4) (s1.heap.objs.size+2) (s1.heap.objs.size+3) s1.heap.objs.size (s1.heap.objs.size+1) a1 a2 0 h'->(∀ c o,s1.heap.get? c=some o->h'.get? c=some o) ->
   AZ (model X.prog X.w) X.A (Jx (.ref (s1.heap.objs.size+4))) (PIE X pins σ (.Tuple elts x1 tp) R) X.xe { s1 with heap:=h' }:=fun h' st hk=>by
  refine JH st.z ?_
  refine⟨_,_,_,_,H1,rfl,I1.kept (t':=s1.toks) hk,zIG b D,st,fun c hc=>?_,q⟩
  have hc':s1.heap.objs.size<=c:=by
   simp only[AF,AK,or_false]at hc
   rcases hc with e | e | e | e | e <;> (rw[e]) <;> first | exact AL _ | exact Ff _ _
  exact I1.fpOk hc' (I1.hok.fresh hc')
 cases b with
 | false=>exact call_zip_2 o1 o2 fun h' hz hTI hTO it1 it2 _ hk=>fin h' ⟨hz,hTI,⟨_,_,hTO⟩,it1,it2⟩ hk
 | true=>exact zHF o1 o2 fin
end
end L2
namespace D
open PySem L2
def rngT(lo:Int)(n:Nat):List T:=(Az n).map fun (i:Nat)=>T.a (.int (lo+(i:Int)))
def dRng1(fa:DA):DI:=fun Γ=>(fa Γ).bind fun p=>match p.1 with
 | [.v (.a (.int j))]=>if (inR 4611686018427387903 j && D8 j.toNat AC)=true then some ((rngT 0 j.toNat,[]),p.2) else none
 | _=>none
def dRng2(fa:DA):DI:=fun Γ=>(fa Γ).bind fun p=>match p.1 with
 | [.v (.a (.int i)),.v (.a (.int j))]=>if (inR 4611686018427387903 i && inR 4611686018427387903 j && D8 (j - i).toNat AC)=true then some ((rngT i (j - i).toNat,[]),p.2) else none
 | _=>none
section
variable {K:Fg}
theorem zEe{w:W}{Γ:En}{σ:St}{H:Hp}{lo:Int}{n:Nat}(h:n<=AC):ItOk K w Γ σ (Itr lo n) H (rngT lo n) []:=by
 refine⟨by simp[rngT]; exact h,fun L' _ _ H2 _=>⟨fun i t e=>?_,by simp[rngT]; exact AL n⟩⟩
 unfold rngT at e
 rw[Ai]at e
 obtain⟨j,e1,e⟩:=zAA e
 obtain⟨hi',e1⟩:=Ao.mp e1
 have hi:i < n:=by simpa using hi'
 have e1':i=j:=by simpa using e1
 subst e
 subst e1'
 refine⟨hi,fun x H3 y=>?_⟩
 obtain⟨a,b⟩:=y
 subst a b
 exact⟨fun _ _ z=>z,Im.atom⟩
theorem fit1{j:Int}(h:(inR 4611686018427387903 j && D8 j.toNat AC)=true):-(2 ^ 62)<=j/\j < 2 ^ 62/\j.toNat<=AC:=by
 rw[Af]at h
 exact⟨(inR62 h.1).1,(inR62 h.1).2,Ec h.2⟩
theorem fit2{i j:Int}(h:(inR 4611686018427387903 i && inR 4611686018427387903 j && D8 (j - i).toNat AC)=true):(-(2 ^ 62)<=i/\i < 2 ^ 62/\-(2 ^ 62)<=j/\j < 2 ^ 62)/\(j - i).toNat<=AC:=by
 rw[Af,Af]at h
 exact⟨⟨(inR62 h.1.1).1,(inR62 h.1.1).2,(inR62 h.1.2).1,(inR62 h.1.2).2⟩,Ec h.2⟩
theorem zHc{ta:TA}{fa:DA}(ha:SimA K ta fa):SimI K (iRng1 ta) (dRng1 fa):=by
 intro C w Γ σ H its src Γ' R Rp e k
 obtain⟨⟨as,G1⟩,e1,e⟩:=bind_some e
 dsimp only at e
 split at e
 ·split at e
  ·rename_i j hj0
   have hj:=fit1 hj0
   cases e
   refine ha C w Γ σ H _ _ _ Rp e1 fun vs H1 R1 ev1 o1 n1=>?_
   obtain⟨v,rfl,o2⟩:=soks1 o1
   exact⟨_,by rw[o2.inva],hj.1,hj.2.1,k _ H1 R1 ev1 (zEe hj.2.2)⟩
  ·cases e
 ·cases e
theorem zG0{ta:TA}{fa:DA}(ha:SimA K ta fa):SimI K (iRng2 ta) (dRng2 fa):=by
 intro C w Γ σ H its src Γ' R Rp e k
 obtain⟨⟨as,G1⟩,e1,e⟩:=bind_some e
 dsimp only at e
 split at e
 ·split at e
  ·rename_i j hj0
   have hj:=fit2 hj0
   cases e
   refine ha C w Γ σ H _ _ _ Rp e1 fun vs H1 R1 ev1 o1 n1=>?_
   obtain⟨v,u,rfl,o2,o3⟩:=soks2 o1
   exact⟨_,_,by rw[o2.inva,o3.inva],hj.1,k _ H1 R1 ev1 (zEe hj.2)⟩
  ·cases e
 ·cases e
def srcS(Γ:En):S->List Nat
 | .s i=>match Γ[i]? with
  | some (some (.l _))=>[i]
  | _=>[]
 | _=>[]
def dSeqI(f:DE):DI:=fun Γ=>(f Γ).bind fun p=>(seqS p.2 p.1).bind fun xs=>gd xs.length ((xs,srcS p.2 p.1),p.2)
theorem zBp{C:Fr}{w:W}{Γ:En}{σ:St}{H:Hp}{x:V}{s:S}{xs:List T}(R:Rep K C w Γ σ H)(o:SOk K C w σ H x s)(e:sqlOf Γ s=some xs):∃ p vs,x=.ref p/\SqL K H p vs/\Ims K H vs xs /\
  ∀ L',(∀ q∈L',q∈w.L)->(∀ i∈srcS Γ s,∀ q,σ[i]?=some (some (.ref q))->(∃ zs,Γ[i]?=some (some (.l zs)))->q∉L')->∀ H2,Evo L' H H2->SqL K H2 p vs:=by
 cases s with
 | v t =>
  cases t with
  | l ys =>
   cases e
   obtain⟨p,vs,rfl,h1,h2⟩:=(show Im K H x (.l xs) from o).invl
   exact⟨p,vs,rfl,h1.sq,h2,fun L' hs _ H2 ev=>(h1.evo ev fun q hq=>R.lst q (hs q hq)).sq⟩
  | a _=>cases e
  | t _=>cases e
  | f _=>cases e
  | x _ _=>cases e
 | d _=>cases e
 | l ys =>
  cases e
  obtain⟨p,vs,rfl,n1,n2,n3,h1,h2⟩:=o
  exact⟨p,vs,rfl,SqL.of h1,h2,fun L' hs _ H2 ev=>SqL.of (ev _ _ h1 fun z=>n1 (hs p z))⟩
 | s i =>
  have o':σ[i]?=some (some x):=o
  unfold sqlOf at e
  dsimp only at e
  split at e
  ·rename_i ys h
   cases e
   obtain⟨v,e1,p,vs,rfl,_,h1,h2⟩:=R.val i _ h
   rw[o']at e1; cases e1
   refine⟨p,vs,rfl,SqL.of h1,h2,fun L' hs av H2 ev=>SqL.of (ev _ _ h1 (av i ?_ p o' ⟨_,h⟩))⟩
   simp[srcS,h]
  ·rename_i ys h
   cases e
   obtain⟨v,e1,p,vs,rfl,h1,h2,h3,_⟩:=R.val i _ h
   rw[o']at e1; cases e1
   exact⟨p,vs,rfl,SqL.of h2,h1,fun L' hs av H2 ev=>SqL.of (ev _ _ h2 fun z=>h3 (hs p z))⟩
  ·rename_i ys h
   cases e
   obtain⟨v,e1,p,vs,rfl,h1,h2⟩:=R.val i _ h
   rw[o']at e1; cases e1
   exact⟨p,vs,rfl,h2.sq,h1,fun L' hs av H2 ev=>(h2.evo ev fun q hq=>R.lst q (hs q hq)).sq⟩
  ·cases e
theorem zIB{tl:TE}{f:DE}(hl:SimE K tl f):SimI K (iSeq K tl) (dSeqI f):=by
 intro C w Γ σ H its src Γ' R Rp e k
 obtain⟨⟨a,G1⟩,e1,e⟩:=bind_some e
 obtain⟨xs,e2,e⟩:=bind_some e
 obtain⟨hz,e⟩:=zAw e
 cases e
 refine hl C w Γ σ H a _ _ Rp e1 fun v H1 R1 ev1 o1 n1=>?_
 dsimp only at e2
 have go:∀ {vs:List V} {H2:Hp} {J:It} (mk:∀ i x,vs[i]?=some x->J.go i H2) (yl:∀ i x H3,J.yld i H2 x H3->H3=H2/\vs[i]?=some x),Ims K H2 vs its->∀ (i:Nat) t,its[i]?=some t->J.go i H2/\∀ x H3,J.yld i H2 x H3->(∀ b o,H2 b=some o->H3 b=some o)/\Im K H3 x t:=fun {vs H2 J} mk yl hi i t e=>by
  obtain⟨v,e3,hv⟩:=hi.get e
  refine⟨mk i v e3,fun x H3 y=>?_⟩
  obtain⟨rfl,e4⟩:=yl i x H3 y
  rw[e3]at e4; cases e4
  exact⟨fun _ _ z=>z,hv⟩
 unfold seqS at e2
 split at e2
 ·cases e2
  obtain⟨p,vs,rfl,h1,i1⟩:=o1.invt
  refine⟨p,rfl,.inr ⟨⟨vs,h1.sq⟩,k _ H1 R1 ev1 ⟨hz,fun L' hs av H2 ev=>?_⟩⟩⟩
  have hL:LL L' H1:=fun q hq=>R1.lst q (hs q hq)
  have h2:SqT K H2 p vs:=(zCg ev hL h1).sq
  have i2:=i1.evo ev hL
  exact⟨go (vs:=vs) (J:=Itt K p) (fun i x e=>⟨vs,x,h2,e⟩) (fun i x H3 y=>⟨y.1,y.2 vs h2⟩) i2,⟨vs,h2,by rw[i2.len]; exact AL _⟩⟩
 ·obtain⟨p,vs,rfl,h1,i1,st⟩:=zBp R1 o1 e2
  refine⟨p,rfl,.inl ⟨⟨vs,h1⟩,k _ H1 R1 ev1 ⟨hz,fun L' hs av H2 ev=>?_⟩⟩⟩
  have hL:LL L' H1:=fun q hq=>R1.lst q (hs q hq)
  have h2:=st L' hs av H2 ev
  have i2:=i1.evo ev hL
  exact⟨go (vs:=vs) (J:=Itl K p) (fun i x e=>⟨vs,x,h2,e⟩) (fun i x H3 y=>⟨y.1,y.2 vs h2⟩) i2,⟨vs,h2,by rw[i2.len]; exact AL _⟩⟩
def zipT(xs ys:List T):List T:=(xs.zip ys).map fun p=>.t [p.1,p.2]
def dZip(fa:DA):DI:=fun Γ=>(fa Γ).bind fun p=>match p.1 with
 | [.v (.t xs),.v (.t ys)]=>gd xs.length ((zipT xs ys,[]),p.2)
 | [a,b]=>(sqlOf p.2 a).bind fun xs=>(sqlOf p.2 b).bind fun ys=>gd xs.length ((zipT xs ys,srcS p.2 a++srcS p.2 b),p.2)
 | _=>none
theorem zHK{b:Bool}{a1 a2:Addr}{vs us:List V}{xs ys:List T}{H2:Hp}(h1:Sq b K H2 a1 vs)(h2:Sq b K H2 a2 us)(i1:Ims K H2 vs xs)(i2:Ims K H2 us ys) :
  (∀ (i:Nat) t,(zipT xs ys)[i]?=some t->(Itz b K a1 a2).go i H2/\∀ x H3,(Itz b K a1 a2).yld i H2 x H3->(∀ b o,H2 b=some o->H3 b=some o)/\Im K H3 x t)/\(Itz b K a1 a2).stop (zipT xs ys).length H2:=by
 refine⟨fun i t e=>?_,⟨vs,us,h1,h2,?_⟩⟩
 ·unfold zipT at e
  rw[Ai]at e
  obtain⟨⟨t1,t2⟩,e1,e⟩:=zAA e
  subst e
  obtain⟨g1,g2⟩:=GD.mp e1
  obtain⟨v,e3,hv⟩:=i1.get g1
  obtain⟨u,e4,hu⟩:=i2.get g2
  refine⟨⟨vs,us,v,u,h1,h2,e3,e4⟩,fun x H3 y=>?_⟩
  obtain⟨T',x',y',rfl,hT,rfl,k1,k2⟩:=y
  have q1:=k1 vs h1
  have q2:=k2 us h2
  rw[e3]at q1; cases q1
  rw[e4]at q2; cases q2
  have ev:Evo [] H2 (upd H2 T' (.tup [v,u])):=Evo.new hT
  have hL:LL [] H2:=fun q hq=>nomatch hq
  refine⟨fun b o e=>ev b o e nofun,Im.tup zAG (.cons (hv.evo ev hL) (.one (hu.evo ev hL)))⟩
 ·have l1:=i1.len
  have l2:=i2.len
  simp[zipT]
  omega
theorem zIS{ta:TA}{fa:DA}(ha:SimA K ta fa):SimI K (iZipU K ta) (dZip fa):=by
 intro C w Γ σ H its src Γ' R Rp e k
 obtain⟨⟨as,G1⟩,e1,e⟩:=bind_some e
 dsimp only at e
 have zl:∀ xs ys:List T,(zipT xs ys).length<=xs.length:=fun xs ys=>by simp[zipT]; omega
 split at e
 ·rename_i xs ys
  obtain⟨hz,e⟩:=zAw e
  cases e
  refine ha C w Γ σ H _ _ _ Rp e1 fun vs H1 R1 ev1 o1 n1=>?_
  obtain⟨v,u,rfl,o2,o3⟩:=soks2 o1
  obtain⟨p,vs,rfl,h1,i1⟩:=o2.invt
  obtain⟨q,us,rfl,h2,i2⟩:=o3.invt
  refine⟨true,p,q,rfl,⟨vs,h1.sq⟩,⟨us,h2.sq⟩,k _ H1 R1 ev1 ⟨As (zl _ _) hz,fun L' hs av H2 ev=>?_⟩⟩
  have hL:LL L' H1:=fun q hq=>R1.lst q (hs q hq)
  exact zHK (b:=true) (zCg ev hL h1).sq (zCg ev hL h2).sq (i1.evo ev hL) (i2.evo ev hL)
 ·obtain⟨xs,e2,e⟩:=bind_some e
  obtain⟨ys,e3,e⟩:=bind_some e
  obtain⟨hz,e⟩:=zAw e
  cases e
  refine ha C w Γ σ H _ _ _ Rp e1 fun vs H1 R1 ev1 o1 n1=>?_
  obtain⟨v,u,rfl,o2,o3⟩:=soks2 o1
  obtain⟨p,vs,rfl,h1,i1,st1⟩:=zBp R1 o2 e2
  obtain⟨q,us,rfl,h2,i2,st2⟩:=zBp R1 o3 e3
  refine⟨false,p,q,rfl,⟨vs,h1⟩,⟨us,h2⟩,k _ H1 R1 ev1 ⟨As (zl _ _) hz,fun L' hs av H2 ev=>?_⟩⟩
  have hL:LL L' H1:=fun q hq=>R1.lst q (hs q hq)
  exact zHK (b:=false) (st1 L' hs (fun i hi=>av i (Co _ hi)) H2 ev) (st2 L' hs (fun i hi=>av i (Ag _ hi)) H2 ev) (i1.evo ev hL) (i2.evo ev hL)
 ·cases e
def rngS(as:List S):Option (List T):=match as with
 | [.v (.a (.int j))]=>if (inR 4611686018427387903 j && D8 j.toNat AC)=true then some (rngT 0 j.toNat) else none
 | [.v (.a (.int i)),.v (.a (.int j))]=>if (inR 4611686018427387903 i && inR 4611686018427387903 j && D8 (j - i).toNat AC)=true then some (rngT i (j - i).toNat) else none
 | _=>none
def dListRng(fa:DA):DE:=fun Γ=>(fa Γ).bind fun p=>(rngS p.1).map fun xs=>(.l xs,p.2)
def dTupRng(fa:DA):DE:=fun Γ=>(fa Γ).bind fun p=>(rngS p.1).map fun xs=>(.v (.t xs),p.2)
theorem zH7{ip:Option Nat}{i j:Nat}{ta:TA}{fa:DA}(ha:SimA K ta fa)(hi:ip≠some i)(hj:ip≠some j):SimS K ip (tPar i j ta) (fun Γ=>(fa Γ).bind fun p=>match p.1 with
  | [.v a,.v b]=>some (.nx ((p.2.set i (some (.v a))).set j (some (.v b))))
  | _=>none):=by
 intro C w Γ σ H D o hp R e k
 obtain⟨⟨as,G1⟩,e1,e⟩:=bind_some e
 dsimp only at e
 split at e
 ·cases e
  refine ha C w Γ σ H _ G1 _ R e1 fun vs H1 R1 ev1 o1 n1=>?_
  obtain⟨v,u,rfl,o2,o3⟩:=soks2 o1
  exact⟨v,u,rfl,k w _ H1 ((R1.setv (g:=.v _) rfl o2 (zAt hp hi)).setv (g:=.v _) rfl o3 (zAt hp hj))⟩
 ·cases e
def dPar2(i j:Nat)(fa:DA):DS:=fun Γ=>(fa Γ).bind fun p=>match p.1 with
  | [.v a,.v b]=>some (.nx ((p.2.set i (some (.v a))).set j (some (.v b))))
  | _=>none
def dPar3(i j k:Nat)(fa:DA):DS:=fun Γ=>(fa Γ).bind fun p=>match p.1 with
  | [.v a,.v b,.v c]=>some (.nx (((p.2.set i (some (.v a))).set j (some (.v b))).set k (some (.v c))))
  | _=>none
def dUnp(tg:En->T->Option En)(f:DE):DS:=fun Γ=>(f Γ).bind fun p=>p.1.tree.bind fun t=>(tg p.2 t).map .nx
end
def toDa:V->Option CC
 | .int i=>some (.int i)
 | .bl b=>some (.bool b)
 | .str x=>some (.str x)
 | .non=>some .none
 | _=>none
mutual
def toD:T->Option CC
 | .a v=>toDa v
 | .t ts=>(toDs ts).map .tuple
 | .l ts=>(toDs ts).map .list
 | .f _=>none
 | .x _ _=>none
def toDs:List T->Option (List CC)
 | []=>some []
 | t::r=>(toD t).bind fun d=>(toDs r).map fun ds=>d::ds
end
mutual
theorem zCI{X:Cx}{pins:List (Addr×Obj)}{σ:St}{H:Hp}{s:AH}(I:Inv X pins σ H s):∀ {v:V} {u:AB} {t:T} {d:CC},Im X.K H v t->RelV v u->toD t=some d->∃ as,Ia s.heap u d as
 | v,u,.a x,d,h,r,e=>by
  have hv:=h.inva
  subst hv
  unfold toD at e
  cases v with
  | int i=>cases e; obtain⟨t,rfl⟩:=(show ∃ t,u=Eg i t from r); exact⟨_,.int i t⟩
  | bl b=>cases e; cases (show u=EG b from r); exact⟨_,.bool b⟩
  | str x=>cases e; obtain⟨t,rfl⟩:=(show ∃ t,u=Eh x t from r); exact⟨_,.str x t⟩
  | non=>cases e; cases (show u=A6 from r); exact⟨_,.none⟩
  | byt _=>cases e
  | flt _=>cases e
  | ref _=>cases e
  | ty _=>cases e
 | v,u,.t ts,d,h,r,e=>by
  obtain⟨p,vs,rfl,h1,h2⟩:=h.inv
  cases (show u=Aj p from r)
  unfold toD at e
  obtain⟨ds,e1,rfl⟩:=zAA e
  obtain⟨its,rv,⟨o,ho,hc,n,hd⟩,_⟩:=I.tuple h1.sq
  obtain⟨as,q⟩:=zAf I h2 rv e1
  exact⟨as,.tuple ho hc hd (by simpa using q)⟩
 | v,u,.l ts,d,h,r,e=>by
  obtain⟨p,vs,rfl,h1,h2⟩:=h.invl
  cases (show u=Aj p from r)
  unfold toD at e
  obtain⟨ds,e1,rfl⟩:=zAA e
  obtain⟨its,rv,pl,_⟩:=I.list h1.sq
  obtain⟨o,ho,hc,n,hd⟩:=pl.isList
  obtain⟨as,q⟩:=zAf I h2 rv e1
  exact⟨_,.list ho hc hd (by simpa using q)⟩
 | v,u,.f _,d,h,r,e=>by unfold toD at e; cases e
 | v,u,.x _ _,d,h,r,e=>by unfold toD at e; cases e
theorem zAf{X:Cx}{pins:List (Addr×Obj)}{σ:St}{H:Hp}{s:AH}(I:Inv X pins σ H s):∀ {vs:List V} {us:List AB} {ts:List T} {ds:List CC},Ims X.K H vs ts->Vals vs us->toDs ts=some ds->∃ as,ReadsAll s.heap us ds as
 | vs,us,[],ds,h,r,e=>by
  have:=h.inv0
  subst this
  cases r
  unfold toDs at e
  cases e
  exact⟨_,.nil⟩
 | vs,us,t::ts,ds,h,r,e=>by
  obtain⟨v,r',rfl,h1,h2⟩:=h.inv
  unfold toDs at e
  obtain⟨d,e1,e⟩:=bind_some e
  obtain⟨ds',e2,rfl⟩:=zAA e
  cases r with
  | cons r1 r2 =>
   obtain⟨as,q1⟩:=zCI I h1 r1 e1
   obtain⟨bs,q2⟩:=zAf I h2 r2 e2
   exact⟨_,ReadsAll.cons q1 q2⟩
end
def DatV(K:Fg)(H:Hp)(x:V)(d:CC):Prop:=(∃ t,Im K H x t/\toD t=some d)\/(∃ p vs ts ds,x=.ref p/\SqL K H p vs/\Ims K H vs ts/\toDs ts=some ds/\d=.list ds)
theorem zA4{X:Cx}{pins:List (Addr×Obj)}{σ:St}{H:Hp}{s:AH}{x:V}{u:AB}{d:CC}(I:Inv X pins σ H s)(r:RelV x u)(h:DatV X.K H x d):∃ as,Ia s.heap u d as:=by
 rcases h with ⟨t,h,e⟩ | ⟨p,vs,ts,ds,rfl,h1,h2,e,rfl⟩
 ·exact zCI I h r e
 ·cases (show u=Aj p from r)
  obtain⟨its,rv,pl,_⟩:=I.list h1
  obtain⟨o,ho,hc,n,hd⟩:=pl.isList
  obtain⟨as,q⟩:=zAf I h2 rv e
  exact⟨_,.list ho hc hd (by simpa using q)⟩
def rEqD(K:Fg):R2:=fun x y H Q=>∃ da db,DatV K H x da/\DatV K H y db/\da.canLay0=true/\db.canLay0=true/\min da.depth db.depth<=100/\Q (.bl (BW da db)) H
def rNeD(K:Fg):R2:=fun x y H Q=>∃ da db,DatV K H x da/\DatV K H y db/\da.canLay0=true/\db.canLay0=true/\min da.depth db.depth<=100/\Q (.bl (!PyData.eqv da db)) H
theorem zKq{X:Cx}{k:Nat}(hr:Room k X.A):OpR X (BQ .Eq) (rEqD X.K):=by
 intro pins s σ H x y v u Q I rx ry h
 obtain⟨da,db,h1,h2,c1,c2,hm,q⟩:=h
 obtain⟨_,r1⟩:=zA4 I rx h1
 obtain⟨_,r2⟩:=zA4 I ry h2
 exact SeqAt.compareEq_reads r1 r2 c1 c2 (by have:=hr.un; omega) ⟨.bl _,H,I,rfl,q⟩
theorem zKW{X:Cx}{k:Nat}(hr:Room k X.A):OpR X (BQ .NotEq) (rNeD X.K):=by
 intro pins s σ H x y v u Q I rx ry h
 obtain⟨da,db,h1,h2,c1,c2,hm,q⟩:=h
 obtain⟨_,r1⟩:=zA4 I rx h1
 obtain⟨_,r2⟩:=zA4 I ry h2
 exact SeqAt.compareNe_reads r1 r2 c1 c2 (by have:=hr.un; omega) ⟨.bl _,H,I,rfl,q⟩
def datS(Γ:En):S->Option CC
 | .v t=>toD t
 | a=>(sqlOf Γ a).bind fun xs=>(toDs xs).map .list
theorem zCW{K:Fg}{C:Fr}{w:W}{Γ:En}{σ:St}{H:Hp}{x:V}{s:S}{d:CC}(R:Rep K C w Γ σ H)(o:SOk K C w σ H x s)(e:datS Γ s=some d):DatV K H x d:=by
 have lst:∀ {s:S},SOk K C w σ H x s->(sqlOf Γ s).bind (fun xs=>(toDs xs).map PyData.list)=some d->DatV K H x d:=fun {s} o e=>by
  obtain⟨xs,e1,e⟩:=bind_some e
  obtain⟨ds,e2,rfl⟩:=zAA e
  obtain⟨p,vs,rfl,h1,h2⟩:=zAd R o e1
  exact .inr ⟨p,vs,xs,ds,rfl,h1,h2,e2,rfl⟩
 cases s with
 | v t=>exact .inl ⟨t,o,e⟩
 | l xs=>exact lst o e
 | s i=>exact lst o e
 | d _=>cases e
def cmpD(f:CC->CC->Bool):En->S->S->Option S:=fun Γ a b=>(datS Γ a).bind fun da=>(datS Γ b).bind fun db=>if da.canLay0=true/\db.canLay0=true/\min da.depth db.depth<=100 then some (mkB (f da db)) else none
def eqA(f:V->V->Bool):En->S->S->Option S:=fun _ a b=>match a,b with
 | .v (.a x),.v (.a y)=>if scal x y=true then some (mkB (f x y)) else none
 | _,_=>none
theorem zG5{K:Fg}:SimR2 K rEq (eqA fun x y=>decide (x=y)):=by
 intro C w Γ σ H x y a b s Q R ox oy e k
 unfold eqA at e
 split at e
 ·split at e
  ·rename_i h
   cases e
   rw[ox.inva,oy.inva]
   exact⟨h,k _ H R .refl SOk.atom trivial⟩
  ·cases e
 ·cases e
theorem zGg{K:Fg}:SimR2 K rNe (eqA fun x y=>!decide (x=y)):=by
 intro C w Γ σ H x y a b s Q R ox oy e k
 unfold eqA at e
 split at e
 ·split at e
  ·rename_i h
   cases e
   rw[ox.inva,oy.inva]
   exact⟨h,k _ H R .refl SOk.atom trivial⟩
  ·cases e
 ·cases e
def eqS:En->S->S->Option S:=fun Γ a b=>(eqA (fun x y=>decide (x=y)) Γ a b).or (cmpD BW Γ a b)
def neS:En->S->S->Option S:=fun Γ a b=>(eqA (fun x y=>!decide (x=y)) Γ a b).or (cmpD (fun a b=>!PyData.eqv a b) Γ a b)
theorem zGa{K:Fg}:SimR2 K (rEqD K) (cmpD BW):=by
 intro C w Γ σ H x y a b s Q R ox oy e k
 obtain⟨da,e1,e⟩:=bind_some e
 obtain⟨db,e2,e⟩:=bind_some e
 split at e
 ·rename_i h
  cases e
  exact⟨da,db,zCW R ox e1,zCW R oy e2,h.1,h.2.1,h.2.2,k _ H R .refl SOk.atom trivial⟩
 ·cases e
theorem zGs{K:Fg}:SimR2 K (rNeD K) (cmpD fun a b=>!PyData.eqv a b):=by
 intro C w Γ σ H x y a b s Q R ox oy e k
 obtain⟨da,e1,e⟩:=bind_some e
 obtain⟨db,e2,e⟩:=bind_some e
 split at e
 ·rename_i h
  cases e
  exact⟨da,db,zCW R ox e1,zCW R oy e2,h.1,h.2.1,h.2.2,k _ H R .refl SOk.atom trivial⟩
 ·cases e
theorem zIq{K:Fg}:SimR2 K (fun x y H Q=>rEq x y H Q\/rEqD K x y H Q) eqS:=zG5.or zGa
theorem zH2{K:Fg}:SimR2 K (fun x y H Q=>rNe x y H Q\/rNeD K x y H Q) neS:=zGg.or zGs
theorem zKV{X:Cx}{k:Nat}(hr:Room k X.A):OpR X (BQ .Eq) (fun x y H Q=>rEq x y H Q\/rEqD X.K x y H Q):=op_eq.or (zKq hr)
theorem zLa{X:Cx}{k:Nat}(hr:Room k X.A):OpR X (BQ .NotEq) (fun x y H Q=>rNe x y H Q\/rNeD X.K x y H Q):=op_ne.or (zKW hr)
def reprS:En->List S->Option S:=fun Γ as=>match as with
 | [a]=>(datS Γ a).bind fun d=>if d.showable=true/\d.hasDict=false/\d.depth<=100/\d.shown.length<=AC then some (.v (.a (.str d.shown))) else none
 | _=>none
def inS(neg:Bool):En->S->S->Option S:=fun Γ a b=>match a with
 | .v (.a x)=>(seqS Γ b).bind fun xs=>(atomsOf xs).bind fun vs=>if flatV x=true/\vs.all flatV=true then some (mkB (if neg then !inV x vs else inV x vs)) else none
 | _=>none
theorem zH5{K:Fg}{neg:Bool}:SimR2 K (rIn K neg) (inS neg):=by
 intro C w Γ σ H x y a b s Q R ox oy e k
 unfold inS at e
 split at e
 ·obtain⟨xs,e1,e⟩:=bind_some e
  obtain⟨vs,e2,e⟩:=bind_some e
  split at e
  ·rename_i h
   cases e
   obtain⟨p,us,rfl,h1,i1⟩:=zKn R oy e1
   have:=zEo i1 e2
   subst this
   rw[ox.inva]
   exact⟨p,us,rfl,h1,h.1,h.2,k _ H R .refl SOk.atom trivial⟩
  ·cases e
 ·cases e
def truS(Γ:En):S->Option Bool
 | .v (.a .non)=>some false
 | .v (.a (.bl b))=>some b
 | .v (.a (.int i))=>some (i != 0)
 | .v (.a (.str y))=>if y.length<=AC then some ((y.length:Int) != 0) else none
 | .v (.t xs)=>some (!xs.isEmpty)
 | .v _=>none
 | a=>(sqlOf Γ a).map fun xs=>!xs.isEmpty
def dTru(f:DE):DT:=fun Γ=>(f Γ).bind fun p=>(truS p.2 p.1).map fun b=>(b,p.2)
theorem Ims.isEmpty{K:Fg}{H:Hp}{vs:List V}{ts:List T}(h:Ims K H vs ts):vs.isEmpty=ts.isEmpty:=by
 have:=h.len
 cases vs <;> cases ts <;> simp at this ⊢
theorem zFB{K:Fg}{te:TE}{f:DE}(h:SimE K te f):SimT K (fun σ H Q=>te σ H fun x H'=>∃ k,TruV K x H' k/\Q k H') (dTru f):=by
 intro C w Γ σ H b Γ' Q R e k
 obtain⟨⟨a,G1⟩,e1,e⟩:=bind_some e
 obtain⟨b',e2,e⟩:=zAA e
 cases e
 refine h C w Γ σ H a _ _ R e1 fun v H1 R1 ev1 o1 n1=>⟨b,?_,k H1 R1 ev1⟩
 dsimp only at e2
 unfold truS at e2
 split at e2
 ·cases e2; rw[o1.inva]; exact rfl
 ·cases e2; rw[o1.inva]; exact rfl
 ·cases e2; rw[o1.inva]; exact rfl
 ·split at e2
  ·rename_i hz
   cases e2; rw[o1.inva]; exact⟨hz,rfl⟩
  ·cases e2
 ·cases e2
  obtain⟨p,us,rfl,h1,i1⟩:=o1.invt
  exact .inr (.inl ⟨us,h1.sq,by rw[i1.isEmpty]⟩)
 ·cases e2
 ·obtain⟨xs,e3,e2⟩:=zAA e2
  subst e2
  obtain⟨p,us,rfl,h1,i1⟩:=zAd R1 o1 e3
  exact .inl ⟨us,h1,by rw[i1.isEmpty]⟩
def rfS(Γ:En):S->Option Unit
 | .v (.x _ _)=>some ()
 | .v (.l _)=>some ()
 | .l _=>some ()
 | .s i=>(sqlOf Γ (.s i)).map fun _=>()
 | _=>none
theorem zL2{K:Fg}{C:Fr}{w:W}{Γ:En}{σ:St}{H:Hp}{x:V}{a:S}{u:Unit}(R:Rep K C w Γ σ H)(o:SOk K C w σ H x a)(e:rfS Γ a=some u):∃ p,x=.ref p:=by
 unfold rfS at e
 split at e
 ·obtain⟨p,rfl,_⟩:=(show Im K H x (.x _ _) from o).invx; exact⟨p,rfl⟩
 ·obtain⟨p,_,rfl,_⟩:=(show Im K H x (.l _) from o).invl; exact⟨p,rfl⟩
 ·obtain⟨p,_,rfl,_⟩:=o; exact⟨p,rfl⟩
 ·obtain⟨xs,e1,_⟩:=zAA e
  obtain⟨p,_,rfl,_⟩:=zAd R o e1; exact⟨p,rfl⟩
 ·cases e
def isNoneS(neg:Bool):En->S->S->Option S:=fun Γ a b=>match b with
 | .v (.a .non)=>match a with
  | .v (.a x)=>some (mkB (if neg then !decide (x=V.non) else decide (x=V.non)))
  | .v (.t _)=>some (mkB neg)
  | a=>(rfS Γ a).map fun _=>mkB neg
 | _=>none
theorem zGk{K:Fg}:SimR2 K (fun x y H Q=>y=.non/\Q (.bl (decide (x=.non))) H) (isNoneS false):=by
 intro C w Γ σ H x y a b s Q R ox oy e k
 unfold isNoneS at e
 split at e
 ·refine⟨oy.inva,?_⟩
  split at e
  ·cases e; rw[ox.inva]; exact k _ H R .refl SOk.atom trivial
  ·cases e
   obtain⟨p,us,rfl,h1,i1⟩:=ox.invt
   rw[decide_eq_false (by intro z; cases z)]
   exact k _ H R .refl SOk.atom trivial
  ·obtain⟨u,e1,e⟩:=zAA e
   cases e
   obtain⟨p,rfl⟩:=zL2 R ox e1
   rw[decide_eq_false (by intro z; cases z)]
   exact k _ H R .refl SOk.atom trivial
 ·cases e
def EX{ι:Type}(K:Fg)(X:ι->Cx)(e:Expr)(f:DE):Prop:=∃ te,(∀ j,PE (X j) e te)/\SimE K te f
def TX{ι:Type}(K:Fg)(X:ι->Cx)(e:Expr)(f:DT):Prop:=∃ t,(∀ j,PT (X j) e t)/\SimT K t f
def WX{ι:Type}(K:Fg)(X:ι->Cx)(e:Expr)(f:DT):Prop:=∃ t,(∀ j,PW (X j) e t)/\SimT K t f
def AX{ι:Type}(K:Fg)(X:ι->Cx)(es:List Expr)(f:DA):Prop:=∃ t,(∀ j,PA (X j) es t)/\SimA K t f
def OX{ι:Type}(K:Fg)(X:ι->Cx)(e:Option Expr)(f:DO):Prop:=∃ t,(∀ j,PO (X j) e t)/\SimO K t f
def IX{ι:Type}(K:Fg)(X:ι->Cx)(tg it:Expr)(f:DI):Prop:=∃ t,(∀ j,PI (X j) tg it t)/\SimI K t f
def GX{ι:Type}(K:Fg)(X:ι->Cx)(ip:Option Nat)(tg:Expr)(f:En->T->Option En):Prop:=∃ t,(∀ j,PG (X j) tg t)/\SimG K ip t f
def GXs{ι:Type}(K:Fg)(X:ι->Cx)(ip:Option Nat)(tg:List Expr)(f:En->List T->Option En):Prop:=∃ t,(∀ j,PGs (X j) tg t)/\SimGs K ip t f
def SX{ι:Type}(K:Fg)(X:ι->Cx)(ip:Option Nat)(s:Stmt)(f:DS):Prop:=∃ t,(∀ j,PS (X j) s t)/\SimS K ip t f
def BX{ι:Type}(K:Fg)(X:ι->Cx)(ip:Option Nat)(s:List Stmt)(f:DS):Prop:=∃ t,(∀ j,PSs (X j) s t)/\SimS K ip t f
structure Fm{ι:Type}(K:Fg)(mg:Str->Option AB)(k:Nat)(X:ι->Cx):Prop where
 K:∀ j,(X j).K=K
 mg:∀ j,(X j).mg=mg
 calm:∀ j,(X j).calm=true
 room:∀ j,Room k (X j).A
section
variable {ι:Type}{K:Fg}{mg:Str->Option AB}{k:Nat}{X:ι->Cx}{ip:Option Nat}{a b c e:Expr}{es:List Expr}{pos:Pos}{fa fb fc:DE}{ta tb:DT}{da:DA}
theorem jZ(i:Nat){x:Str}(hN:∀ j,(X j).N[i]?=some x:=by intro _; rfl)(hv:∀ j,Vis (X j).env.scope x:=by intro _; first | exact CO rfl | exact Ez (CO rfl) | exact Ez (Ez rfl))(hd:(x == ("__debug__":Str))=false:=by decide)
  (hcd:(x == ("__classdict__":Str))=false:=by decide):EX K X (.Name x pos) (jV i):=⟨tVar i,fun j=>pe_var (hN j) (hv j) hd hcd,zJi⟩
theorem jJ{i:Int}{u}:EX K X (.Constant (.int i) u pos) (dC (.int i)):=⟨_,fun _=>pe_int,zB6⟩
theorem ex_bl{v:Bool}{u}:EX K X (.Constant (.bool v) u pos) (dC (.bl v)):=⟨_,fun _=>zLs,zB6⟩
theorem ex_non{u}:EX K X (.Constant .none u pos) (dC .non):=⟨_,fun _=>zKy,zB6⟩
theorem ex_str{v:Str}{u}:EX K X (.Constant (.str v) u pos) (dC (.str v)):=⟨_,fun _=>zHJ,zB6⟩
theorem ex_ty{x:Str}{N:String}(M:Fm K mg k X)(hm:mg x=none)(hv:Bn x=some (.type N))(hg:∀ j,Gl (X j) x:=by intro _; rfl)(hn:x≠"__name__":=by decide)(hd:(x == ("__debug__":Str))=false:=by decide):EX K X (.Name x pos) (dC (.ty N)) :=
 ⟨_,fun j=>zI2 (hg j) (by rw[M.mg]; exact hm) hv hn hd,zB6⟩
theorem zB7{op:Operator}{r:R2}{h:En->S->S->Option S}(ho:∀ j,OpR (X j) (CU op) r)(hs:SimR2 K r h)(ha:EX K X a fa)(hb:EX K X b fb):EX K X (.BinOp a op b pos) (dOp h fa fb) :=
 let ⟨_,p,s⟩:=ha; let ⟨_,q,u⟩:=hb; ⟨_,fun j=>zLp (ho j) (p j) (q j),zBm hs s u⟩
theorem ex_add(M:Fm K mg k X)(ha:EX K X a fa)(hb:EX K X b fb):EX K X (.BinOp a .Add b pos) (dOp addS fa fb):=zB7 (fun j=>by rw[← M.K j]; exact zJh) zGo ha hb
theorem ex_sub(ha:EX K X a fa)(hb:EX K X b fb):EX K X (.BinOp a .Sub b pos) (dOp subS fa fb):=zB7 (fun j=>zKi) zAx ha hb
theorem zBD(ha:EX K X a fa)(hb:EX K X b fb):EX K X (.BinOp a .Mult b pos) (dOp mulS fa fb):=zB7 (fun j=>zJG) zHq ha hb
theorem zAs(ha:EX K X a fa)(hb:EX K X b fb):EX K X (.BinOp a .Mod b pos) (dOp modS fa fb):=zB7 (fun j=>zK9) zBg ha hb
theorem zFN(ha:EX K X a fa)(hb:EX K X b fb):EX K X (.BinOp a .FloorDiv b pos) (dOp fdivS fa fb):=zB7 (fun j=>zKJ) zBg ha hb
theorem zKX(ha:EX K X a fa)(hb:EX K X b fb):EX K X (.BinOp a .Pow b pos) (dOp powS fa fb):=zB7 (fun j=>zLW) zBg ha hb
theorem ex_neg(ha:EX K X a fa):EX K X (.UnaryOp .USub a pos) (dUn negS fa):=let ⟨_,p,s⟩:=ha; ⟨_,fun j=>pe_un un_neg (p j),zKa zHn s⟩
theorem zKd{op:GN}{r:R2}{h:En->S->S->Option S}(ho:∀ j,OpR (X j) (BQ op) r)(hs:SimR2 K r h)(hm:Cp op b=false)(ha:EX K X a fa)(hb:EX K X b fb):EX K X (.Compare a [op] [b] pos) (dOp h fa fb) :=
 let ⟨_,p,s⟩:=ha; let ⟨_,q,u⟩:=hb; ⟨_,fun j=>zE7 (ho j) (p j) (q j) hm,zBm hs s u⟩
theorem zKk{op:GN}{r:R2}{h:En->S->S->Option S}(ho:∀ j,OpR (X j) (BQ op) r)(hs:SimR2 K r h)(hm:Cp op b=false)(ha:EX K X a fa)(hb:EX K X b fb):TX K X (.Compare a [op] [b] pos) (dTest (dOp h fa fb)) :=
 let ⟨_,p,s⟩:=ha; let ⟨_,q,u⟩:=hb; ⟨_,fun j=>pt_cmpR (ho j) (p j) (q j) hm,zBd (zBm hs s u)⟩
structure CmpR{ι:Type}(K:Fg)(X:ι->Cx)(op:GN)(h:En->S->S->Option S):Prop where
 ex:∃ r,(∀ j,OpR (X j) (BQ op) r)/\SimR2 K r h
theorem cr_lt:CmpR K X .Lt ltS:=⟨_,fun _=>zL5,zAx⟩
theorem cr_gt:CmpR K X .Gt gtS:=⟨_,fun _=>zLw,zAx⟩
theorem zLt:CmpR K X .GtE geS:=⟨_,fun _=>zL1,zAx⟩
theorem cr_eq(M:Fm K mg k X):CmpR K X .Eq eqS:=⟨_,fun j=>by have:=zKV (M.room j); rw[M.K j]at this; exact this,zIq⟩
theorem cr_ne(M:Fm K mg k X):CmpR K X .NotEq neS:=⟨_,fun j=>by have:=zLa (M.room j); rw[M.K j]at this; exact this,zH2⟩
theorem cr_in(M:Fm K mg k X):CmpR K X .In (inS false):=⟨_,fun j=>by have:=zGf (X:=X j); rw[M.K j]at this; exact this,zH5⟩
theorem cr_is:CmpR K X .Is (isNoneS false):=⟨_,fun _=>zLN,zGk⟩
theorem ex_c{op:GN}{h:En->S->S->Option S}(hc:CmpR K X op h)(ha:EX K X a fa)(hb:EX K X b fb)(hm:Cp op b=false:=by first | exact nomark _ | with_unfolding_all rfl):EX K X (.Compare a [op] [b] pos) (dOp h fa fb) :=
 let ⟨_,p,q⟩:=hc.ex; zKd p q hm ha hb
theorem tx_c{op:GN}{h:En->S->S->Option S}(hc:CmpR K X op h)(ha:EX K X a fa)(hb:EX K X b fb)(hm:Cp op b=false:=by first | exact nomark _ | with_unfolding_all rfl):TX K X (.Compare a [op] [b] pos) (dTest (dOp h fa fb)) :=
 let ⟨_,p,q⟩:=hc.ex; zKk p q hm ha hb
theorem tx_chain{op op':GN}{h h':En->S->S->Option S}(hc:CmpR K X op h)(hc':CmpR K X op' h')(ha:EX K X a fa)(hb:EX K X b fb)(h3:EX K X c fc)(hm:lastMarks [op,op'] [b,c]=false:=by with_unfolding_all rfl):TX K X (.Compare a [op,op'] [b,c] pos) (dTest (dChain h h' fa fb fc)) :=
 let ⟨_,p,q⟩:=hc.ex; let ⟨_,p',q'⟩:=hc'.ex; let ⟨_,a1,a2⟩:=ha; let ⟨_,b1,b2⟩:=hb; let ⟨_,c1,c2⟩:=h3; ⟨_,fun j=>zIo (p j) (p' j) (a1 j) (b1 j) (c1 j) hm,zBd (zHB q q' a2 b2 c2)⟩
theorem tx_v(M:Fm K mg k X)(ha:EX K X a fa)(he:∀ j whole,Gd a (X j).env whole=(do let v ← whole; HP a.pos; holding [v] (truthy v)):=by intro _ _; rfl):TX K X a (dTru fa) :=
 let ⟨te,p,s⟩:=ha; ⟨(fun σ H Q=>te σ H fun x H'=>∃ k,TruV K x H' k/\Q k H'),fun j=>by have:=zER (p j) (he j); rw[M.K j]at this; exact this,zFB s⟩
theorem tx_not(ha:TX K X a ta):TX K X (.UnaryOp .Not a pos) (dNot ta):=let ⟨_,p,s⟩:=ha; ⟨_,fun j=>zKt (p j),zJp s⟩
theorem wx_and1(ha:TX K X a ta):WX K X (.BoolOp .And [a] pos) ta:=let ⟨_,p,s⟩:=ha; ⟨_,fun j=>zJo (p j),s⟩
theorem wx_or1(ha:TX K X a ta):WX K X (.BoolOp .Or [a] pos) ta:=let ⟨_,p,s⟩:=ha; ⟨_,fun j=>zDr (p j),s⟩
theorem wx_and(ha:TX K X a ta)(hb:WX K X (.BoolOp .And (b::es) pos) tb):WX K X (.BoolOp .And (a::b::es) pos) (dAnd ta tb):=let ⟨_,p,s⟩:=ha; let ⟨_,q,u⟩:=hb; ⟨_,fun j=>zKY (p j) (q j),zJf s u⟩
theorem wx_or(ha:TX K X a ta)(hb:WX K X (.BoolOp .Or (b::es) pos) tb):WX K X (.BoolOp .Or (a::b::es) pos) (dOr ta tb):=let ⟨_,p,s⟩:=ha; let ⟨_,q,u⟩:=hb; ⟨_,fun j=>zFr (p j) (q j),zLJ s u⟩
theorem tx_w(ha:WX K X a ta):TX K X a ta:=let ⟨_,p,s⟩:=ha; ⟨_,fun j=>(p j).pt,s⟩
theorem ex_one{op}(ha:EX K X a fa):EX K X (.BoolOp op [a] pos) fa:=let ⟨_,p,s⟩:=ha; ⟨_,fun j=>zKj (p j),s⟩
theorem ex_and(ha:EX K X a fa)(hb:EX K X (.BoolOp .And (b::es) pos) fb):EX K X (.BoolOp .And (a::b::es) pos) (dAndV fa fb):=let ⟨_,p,s⟩:=ha; let ⟨_,q,u⟩:=hb; ⟨_,fun j=>zLR (p j) (q j),zIM s u⟩
theorem jY:AX K X [] qQ:=⟨_,fun _=>pa_nil,zFM⟩
theorem jQ{fr:DA}(ha:EX K X e fa)(hr:AX K X es fr)(hs:∀ j,AR (e::es) (X j).env=(false,eval e (X j).env)::AR es (X j).env:=by intro _; rfl):AX K X (e::es) (jW fa fr) :=
 let ⟨_,p,s⟩:=ha; let ⟨_,q,u⟩:=hr; ⟨_,fun j=>pa_cons (p j) (q j) (hs j),zIl s u⟩
theorem ex_tup{x1}(h:AX K X es da):EX K X (.Tuple es x1 pos) (dTup da):=let ⟨_,p,s⟩:=h; ⟨_,fun j=>zLB (p j),zJT s⟩
theorem ex_lst(h:AX K X es da):EX K X (.List es pos) (dLst da):=let ⟨_,p,s⟩:=h; ⟨_,fun j=>pe_lst (p j),zJP s⟩
theorem ex_ix(M:Fm K mg k X)(ha:EX K X a fa)(hb:EX K X b fb)(hs:PlainIx b:=by exact fun _ _=>rfl):EX K X (.Subscript a b pos) (dOp ixS fa fb) :=
 let ⟨_,p,s⟩:=ha; let ⟨_,q,u⟩:=hb; ⟨_,fun j=>pe_ix (by have:=zK3 (X:=X j); rw[M.K j]at this; exact this) (p j) (q j) hs,zBm zIW s u⟩
theorem ox_none:OX K X none dNoPart:=⟨_,fun _=>zKC,zF9⟩
theorem ox_some(ha:EX K X a fa):OX K X (some a) (dPart fa):=let ⟨_,p,s⟩:=ha; ⟨_,fun j=>zJN (p j),zIZ s⟩
theorem ex_sl(M:Fm K mg k X){lo hi:Option Expr}{p2:Pos}{dl dh:DO}(ha:EX K X a fa)(hl:OX K X lo dl)(hh:OX K X hi dh):EX K X (.Subscript a (.Slice lo hi none p2) pos) (dSl fa dl dh) :=
 let ⟨_,p,s⟩:=ha; let ⟨_,q,u⟩:=hl; let ⟨_,q',u'⟩:=hh; ⟨_,fun j=>zEn (by have:=sl_S (X:=X j); rw[M.K j]at this; exact this) (p j) (q j) (q' j),zKg s u u'⟩
structure CalR{ι:Type}(K:Fg)(X:ι->Cx)(f:AB)(h:En->List S->Option S):Prop where
 ex:∃ r,(∀ j,CallR (X j) f r)/\SimRs K r h
theorem ex_cb{x:Str}{p:Pos}{id:String}{h:En->List S->Option S}(M:Fm K mg k X)(hc:CalR K X (.builtin id) h)(hm:mg x=none)(hv:Bn x=some (.builtin id))(ha:AX K X (e::es) da)(hg:∀ j,Gl (X j) x:=by intro _; rfl)(hn:x≠"__name__":=by decide)(hdb:(x == ("__debug__":Str))=false:=by decide)
  (he:∀ j,AR (e::es) (X j).env=(false,eval e (X j).env)::AR es (X j).env:=by intro _; rfl) (hpl:∀ j,(Bg pos (AR es (X j).env)).any (·.1)=false:=by intro _; rfl):EX K X (.Call (.Name x p) (e::es) [] pos) (dCB h da) :=
 let ⟨_,p,s⟩:=hc.ex; let ⟨_,q,u⟩:=ha; ⟨_,fun j=>pe_callB (p j) (hg j) (by rw[M.mg]; exact hm) hv (q j) hn hdb (he j) (hpl j),zD4 s u⟩
theorem ex_ct{x:Str}{p:Pos}{N:String}{h:En->List S->Option S}(M:Fm K mg k X)(hc:CalR K X (.type N) h)(hm:mg x=none)(hv:Bn x=some (.type N))(ha:AX K X (e::es) da)(hg:∀ j,Gl (X j) x:=by intro _; rfl)(hn:x≠"__name__":=by decide)(hdb:(x == ("__debug__":Str))=false:=by decide)
  (he:∀ j,AR (e::es) (X j).env=(false,eval e (X j).env)::AR es (X j).env:=by intro _; rfl) (hpl:∀ j,(Bg pos (AR es (X j).env)).any (·.1)=false:=by intro _; rfl):EX K X (.Call (.Name x p) (e::es) [] pos) (dCB h da) :=
 let ⟨_,p,s⟩:=hc.ex; let ⟨_,q,u⟩:=ha; ⟨_,fun j=>zHs (p j) (hg j) (by rw[M.mg]; exact hm) hv (q j) hn hdb (he j) (hpl j),zD4 s u⟩
theorem br_len(M:Fm K mg k X):CalR K X (.builtin "len") lenS:=⟨_,fun j=>by have:=zHD (X:=X j); rw[M.K j]at this; exact this,zGe⟩
theorem br_all(M:Fm K mg k X):CalR K X (.builtin "all") allS:=⟨_,fun j=>by have:=zIr (M.calm j); rw[M.K j]at this; exact this,zHW⟩
theorem br_isi(M:Fm K mg k X):CalR K X (.builtin "isinstance") isiS:=⟨_,fun j=>by have:=zDK (X:=X j); rw[M.K j]at this; exact this,zDD⟩
theorem zJE(M:Fm K mg k X):CalR K X (.builtin "max") max2S:=⟨_,fun j=>zHT (M.calm j),zGK⟩
theorem tr_int:CalR K X (.type "int") intS:=⟨_,fun j=>zGV,zGx⟩
theorem tr_tuple(M:Fm K mg k X):CalR K X (.type "tuple") tupleS:=⟨_,fun j=>by have:=zDk (X:=X j); rw[M.K j]at this; exact this,zEr⟩
end
structure Fb{ι:Type}(P:Ac)(wd:Al)(base:Heap)(X:ι->Cx):Prop where
 P:∀ j,(X j).prog=P
 w:∀ j,(X j).w=wd
 b:∀ j,(X j).base=base
structure FD(P:Ac)(wd:Al)(K:Fg)(mg:Str->Option AB)(base:Heap)(k:Nat)(x:Str)(ip:Option Nat)(n:Nat)(F:DF):Prop where
 ex:∃ (f:Addr) (fd:An) (ps:List Str),FnOk P wd K mg base CX0 k f fd ps (spD K ip n F)/\mg x=some (.ref f)/\BC K (.ref f)=true/\Binds K fd ps []
 len:∀ gs r,F gs=some r->gs.length=n
theorem zB4{ip:Option Nat}{np nN:Nat}{g:DS}:∀ gs r,fnD ip np nN g gs=some r->gs.length=np:=fun gs r e=>by
 unfold fnD at e
 split at e
 ·assumption
 ·cases e
section
variable {ι:Type}{P:Ac}{wd:Al}{base:Heap}{K:Fg}{mg:Str->Option AB}{k k' n:Nat}{X:ι->Cx}{ip:Option Nat}{a b c e:Expr}{es:List Expr}{pos p:Pos}{fa fb fc:DE}{ta tb:DT}{da:DA}{F:DF}{x:Str}
theorem ex_call(M:Fm K mg k X)(B:Fb P wd base X)(D0:FD P wd K mg base k' x ip n F)(ha:AX K X (e::es) da)(hk:k'<=k:=by first | exact AL _ | decide | omega)(hg:∀ j,Gl (X j) x:=by intro _; rfl)(hdb:(x == ("__debug__":Str))=false:=by decide)
  (he:∀ j,AR (e::es) (X j).env=(false,eval e (X j).env)::AR es (X j).env:=by intro _; rfl) (hpl:∀ j,(Bg pos (AR es (X j).env)).any (·.1)=false:=by intro _; rfl) :
  EX K X (.Call (.Name x p) (e::es) [] pos) (dCall ip F [] da):=by
 obtain⟨f,fd,ps,h1,h2,h3,h4⟩:=D0.ex
 obtain⟨t,q,u⟩:=ha
 refine⟨tCall (spD K ip n F) [] E0 t,fun j=>?_,zCS D0.len u⟩
 have hF:FnOk (X j).prog (X j).w (X j).K (X j).mg (X j).base CX0 k' f fd ps (spD K ip n F):=by rw[B.P,B.w,M.K,M.mg,B.b]; exact h1
 exact zJd hF ((M.room j).mono hk) (hg j) (by rw[M.mg]; exact h2) (by rw[M.K]; exact h3) (by rw[M.K]; exact h4) .nil pass0 (q j) hdb (he j) (hpl j)
theorem ix_seq'{tg l:Expr}(M:Fm K mg k X)(hl:EX K X l fa):IX K X tg l (dSeqI fa):=let ⟨t,p,s⟩:=hl; ⟨iSeq K t,fun j=>by have:=zFO (tg:=tg) (p j); rw[M.K j]at this; exact this,zIB s⟩
theorem zCv{tg:Expr}(M:Fm K mg k X)(hm:mg "range"=none)(ha:AX K X [a] da)(hg:∀ j,Gl (X j) "range":=by intro _; rfl)(hs:∀ j,AR [a] (X j).env=[(false,eval a (X j).env)]:=by intro _; rfl):IX K X tg (.Call (.Name "range" p) [a] [] pos) (dRng1 da) :=
 let ⟨_,q,u⟩:=ha; ⟨_,fun j=>zGu (hg j) (by rw[M.mg]; exact hm) (q j) (hs j),zHc u⟩
theorem ix_rng2{tg:Expr}(M:Fm K mg k X)(hm:mg "range"=none)(ha:AX K X [a,b] da)(hg:∀ j,Gl (X j) "range":=by intro _; rfl)(hs:∀ j,AR [a,b] (X j).env=[(false,eval a (X j).env),(false,eval b (X j).env)]:=by intro _; rfl)
  (hs2:∀ j,AR [b] (X j).env=[(false,eval b (X j).env)]:=by intro _; rfl):IX K X tg (.Call (.Name "range" p) [a,b] [] pos) (dRng2 da) :=
 let ⟨_,q,u⟩:=ha; ⟨_,fun j=>zGd (hg j) (by rw[M.mg]; exact hm) (q j) (hs j) (hs2 j),zG0 u⟩
theorem ix_zip{elts:List Expr}{x1:Nat}{tp:Pos}(M:Fm K mg k X)(hm:mg "zip"=none)(ha:AX K X [a,b] da)(hg:∀ j,Gl (X j) "zip":=by intro _; rfl)(hs:∀ j,AR [a,b] (X j).env=[(false,eval a (X j).env),(false,eval b (X j).env)]:=by intro _; rfl)
  (hs2:∀ j,AR [b] (X j).env=[(false,eval b (X j).env)]:=by intro _; rfl):IX K X (.Tuple elts x1 tp) (.Call (.Name "zip" p) [a,b] [] pos) (dZip da) :=
 let ⟨t,q,u⟩:=ha; ⟨iZipU K t,fun j=>by have:=zJg (elts:=elts) (x1:=x1) (tp:=tp) (p:=p) (pos:=pos) (hg j) (by rw[M.mg]; exact hm) (q j) (hs j) (hs2 j); rw[M.K j]at this; exact this,zIS u⟩
theorem gx_name(i:Nat)(hi:ip≠some i:=by decide)(hN:∀ j,(X j).N.Nodup:=by intro _; show (FA _); decide +kernel)(hx':∀ j,(X j).N[i]?=some x:=by intro _; rfl)(hx:∀ j,Loc (X j).env.scope x:=by intro _; first | exact CO rfl | exact Ez rfl)
  (hf:∀ j,(X j).fn x=true\/(X j).env.scope.names.lookup x=some .local:=by intro _; first | exact .inl rfl | exact .inr rfl):GX K X ip (.Name x pos) (gdName i):=⟨_,fun j=>pg_name (hN j) (hx' j) (hx j) (hf j),zHL hi⟩
theorem gxs_nil:GXs K X ip [] gdNil:=⟨_,fun _=>zJz,zHf⟩
theorem gxs_cons{f:En->T->Option En}{g:En->List T->Option En}(h1:GX K X ip e f)(h2:GXs K X ip es g)(hst:∀ j,(B4 (e::es) (X j).env).map (·.2)=assign e (X j).env::(B4 es (X j).env).map (·.2):=by intro _; rfl):GXs K X ip (e::es) (gdCons f g) :=
 let ⟨_,p,s⟩:=h1; let ⟨_,q,u⟩:=h2; ⟨_,fun j=>zIa (p j) (q j) (hst j),zFh s u⟩
theorem gx_tup(n:Nat){kk:Nat}{g:En->List T->Option En}(M:Fm K mg k X)(h:GXs K X ip es g)(hn:∀ j,(B4 es (X j).env).length=n:=by intro _; rfl)(hst:∀ j,(B4 es (X j).env).findIdx? (·.1)=none:=by intro _; rfl):GX K X ip (.Tuple es kk pos) (gdTup n g) :=
 let ⟨_,p,s⟩:=h; ⟨_,fun j=>zKA K (M.K j) (M.calm j) (p j) (hn j) (hst j),zIT s⟩
def QX{ι:Type}(K:Fg)(X:ι->Cx)(ifs:List Expr)(f:DT):Prop:=∃ t,(∀ j,PTs (X j) ifs t)/\SimT K t f
def dYes:DT:=fun Γ=>some (true,Γ)
theorem qx_nil:QX K X [] dYes:=⟨_,fun _=>zI9,fun C w Γ σ H b Γ' Q R e k=>by cases e; exact k H R .refl⟩
theorem zN6(h:TX K X c ta):QX K X [c] ta:=let ⟨_,p,s⟩:=h; ⟨_,fun j=>zJU (p j),s⟩
abbrev CI(ι:Type):=ι×Addr×List (Str×Addr)×AH×Hp×List Addr
abbrev cxF{ι:Type}(X:ι->Cx)(N':List Str)(sc:Bv):CI ι->Cx:=fun q=>cxC (X q.1) N' sc q.2.1 q.2.2.1 q.2.2.2.1 q.2.2.2.2.1 q.2.2.2.2.2
theorem Fm.comp{N':List Str}{sc:Bv}(M:Fm K mg k X):Fm K mg k (cxF X N' sc):=⟨fun j=>M.K j.1,fun j=>M.mg j.1,fun j=>M.calm j.1,fun j=>M.room j.1⟩
theorem Fb.comp{N':List Str}{sc:Bv}(B:Fb P wd base X):Fb P wd base (cxF X N' sc):=⟨fun j=>B.P j.1,fun j=>B.w j.1,fun j=>B.b j.1⟩
theorem ex_comp{N':List Str}{ix:List (Option Nat)}{sc:Bv}{elt tg iter:Expr}{ifs:List Expr}{di:DI}{g:En->T->Option En}{dc:DT}{de:DE}(mu:Option (Nat×Nat))(M:Fm K mg k X)(S:∀ j,CompOk (X j) N' ix sc)(hi:IX K X tg iter di)
  (hg:GX K (cxF X N' sc) (mu.map (·.1)) tg g) (ht:QX K (cxF X N' sc) ifs dc) (he:EX K (cxF X N' sc) elt de)
  (hmu:∀ j i,mu=some (j,i)->ix[j]?=some (some i):=by intro _ _ e; first | (cases e; rfl) | cases e) (hix:∀ (j j' i:Nat),mu.map (·.2)=some i->ix[j]?=some (some i)->ix[j']?=some (some i)->j=j')
  (hs:∀ j x,Bi iter (X j).env x=pure x:=by intro _ _; rfl):EX K X (.ListComp elt [⟨tg,iter,ifs,0⟩] sc pos) (dComp mu ix di g dc de) :=
 let ⟨_,p1,s1⟩:=hi; let ⟨_,p2,s2⟩:=hg; let ⟨_,p3,s3⟩:=ht; let ⟨_,p4,s4⟩:=he
 ⟨_,fun j=>zJq (S j) (M.calm j) (p1 j) (fun C cs s H ex=>p2 (j,C,cs,s,H,ex)) (fun C cs s H ex=>p3 (j,C,cs,s,H,ex)) (fun C cs s H ex=>p4 (j,C,cs,s,H,ex)) (hs j),zEj s1 s2 s3 s4 hmu hix⟩
theorem hix0{ix:List (Option Nat)}:∀ (j j' i:Nat),(none:Option (Nat×Nat)).map (·.2)=some i->ix[j]?=some (some i)->ix[j']?=some (some i)->j=j':=fun _ _ _ e=>by cases e
theorem ex_mut{i:Nat}{name:Str}{apos cpos:Pos}{id:String}{r:V->List V->Hp->VK->Prop}{h:En->List T->List S->Option (T×List T)}{y:Str}{yp:Pos}(M:Fm K mg k X)(slot:Slot "list" name id)(hty:Gm (.builtin id)=pure (.type "method_descriptor"))(hm:∀ j,MtM (X j) id r)(hr:SimMut K r h)
  (ho:∀ j,PE (X j) (.Name y yp) (tVar i)) (ha:AX K X (e::es) da)
  (hbase:∀ j,CK (.Name y yp) name (X j).env (eval (.Name y yp) (X j).env)=eval (.Name y yp) (X j).env:=by intro _; rfl)
  (hfew:∀ j,((Bg cpos (AR (e::es) (X j).env)).all (fun x=>!x.1) && (Gn cpos (FC [] (X j).env)).all (fun x=>x.1.isSome) && decide ((e::es).length+([]:List EO).length+(if ([]:List EO).isEmpty then 0 else 1) < 30))=true:=by intro _; rfl)
  (hline:(apos.endLine == cpos.line)=true:=by rfl) (hs:∀ j,AR (e::es) (X j).env=(false,eval e (X j).env)::AR es (X j).env:=by intro _; rfl) (hplain:∀ j,(Bg cpos (AR es (X j).env)).any (·.1)=false:=by intro _; rfl) :
  EX K X (.Call (.Attribute (.Name y yp) name apos) (e::es) [] cpos) (dMut i h da) :=
 let ⟨t,q,u⟩:=ha; ⟨tBM K "list" r (tVar i) t,fun j=>by have:=zGL Dz slot hty (hm j) (ho j) (q j) (hbase j) (hfew j) hline (hs j) (hplain j); rw[M.K j]at this; exact this,zKN hr u⟩
theorem pv'(i:Nat){x:Str}{pos:Pos}(hN:∀ j,(X j).N[i]?=some x:=by intro _; rfl)(hv:∀ j,Vis (X j).env.scope x:=by intro _; first | exact CO rfl | exact Ez (CO rfl) | exact Ez (Ez rfl))(hd:(x == ("__debug__":Str))=false:=by decide)
  (hcd:(x == ("__classdict__":Str))=false:=by decide):∀ j,PE (X j) (.Name x pos) (tVar i):=fun j=>pe_var (hN j) (hv j) hd hcd
variable {st:Stmt}{sts sts':List Stmt}{f g:DS}
theorem bx_nil:BX K X ip [] dNext:=⟨_,fun _=>zBy,zHh⟩
theorem bx_one(h:SX K X ip st f):BX K X ip [st] f:=let ⟨_,p,s⟩:=h; ⟨_,fun j=>zAk (p j),s⟩
theorem bx_cons(h:SX K X ip st f)(h2:BX K X ip sts g):BX K X ip (st::sts) (dSeq f g):=let ⟨_,p,s⟩:=h; let ⟨_,q,u⟩:=h2; ⟨_,fun j=>zAc (p j) (q j),zIX s u⟩
theorem sx_expr(h:EX K X e fa)(hs:∀ j,DG e none pos.line (X j).env=pure false:=by intro _; rfl):SX K X ip (.Expr e pos) (dDrop fa):=let ⟨_,p,s⟩:=h; ⟨_,fun j=>ps_expr (p j) (hs j),zGl s⟩
theorem sx_ret(h:EX K X e fa):SX K X ip (.Return (some e) pos) (dRet fa):=let ⟨_,p,s⟩:=h; ⟨_,fun j=>ps_ret (p j),zIV s⟩
theorem sx_if(hc:TX K X c ta)(h1:BX K X ip sts f)(h2:BX K X ip sts' g):SX K X ip (.If c sts sts' pos) (dIf ta f g):=let ⟨_,p,s⟩:=hc; let ⟨_,q,u⟩:=h1; let ⟨_,q',u'⟩:=h2; ⟨_,fun j=>zCp (p j) (q j) (q' j),zJL s u u'⟩
theorem sx_set(i:Nat){pos':Pos}(h:EX K X e fa)(hi:ip≠some i:=by decide)(hN:∀ j,(X j).N.Nodup:=by intro _; show (FA _); decide +kernel)(hx':∀ j,(X j).N[i]?=some x:=by intro _; rfl)(hx:∀ j,Loc (X j).env.scope x:=by intro _; first | exact CO rfl | exact Ez rfl)
  (hs:∀ j,DG e (some (.Name x pos')) pos.line (X j).env=pure false:=by intro _; rfl) (hf:∀ j,(X j).fn x=true\/(X j).env.scope.names.lookup x=some .local:=by intro _; first | exact .inl rfl | exact .inr rfl):SX K X ip (.Assign [.Name x pos'] e pos) (dSet i fa) :=
 let ⟨_,p,s⟩:=h; ⟨_,fun j=>ps_set (hN j) (hx' j) (hx j) (p j) (hs j) (hf j),zDs s hi⟩
theorem sx_setC{N':List Str}{ix:List (Option Nat)}{sc:Bv}{elt tg iter:Expr}{ifs:List Expr}{di:DI}{gg:En->T->Option En}{dc:DT}{de:DE}{pos' spos:Pos}(i:Nat)(mu:Option (Nat×Nat))(M:Fm K mg k X)(S:∀ j,CompOk (X j) N' ix sc)(h1:IX K X tg iter di)
  (hg:GX K (cxF X N' sc) (mu.map (·.1)) tg gg) (ht:QX K (cxF X N' sc) ifs dc) (he:EX K (cxF X N' sc) elt de)
  (hix:∀ (j j' i:Nat),mu.map (·.2)=some i->ix[j]?=some (some i)->ix[j']?=some (some i)->j=j') (hi:ip≠some i:=by decide) (hmu:∀ j i,mu=some (j,i)->ix[j]?=some (some i):=by intro _ _ e; first | (cases e; rfl) | cases e)
  (hN:∀ j,(X j).N.Nodup:=by intro _; show (FA _); decide +kernel) (hx':∀ j,(X j).N[i]?=some x:=by intro _; rfl) (hx:∀ j,Loc (X j).env.scope x:=by intro _; first | exact CO rfl | exact Ez rfl)
  (hsw:∀ j,DG (.ListComp elt [⟨tg,iter,ifs,0⟩] sc pos) (some (.Name x pos')) spos.line (X j).env=pure true:=by intro _; rfl)
  (hf:∀ j,(X j).fn x=true\/(X j).env.scope.names.lookup x=some .local:=by intro _; first | exact .inl rfl | exact .inr rfl)
  (hs:∀ j x,Bi iter (X j).env x=pure x:=by intro _ _; rfl):SX K X ip (.Assign [.Name x pos'] (.ListComp elt [⟨tg,iter,ifs,0⟩] sc pos) spos) (dSet i (dComp mu ix di gg dc de)) :=
 let ⟨_,p1,s1⟩:=h1; let ⟨_,p2,s2⟩:=hg; let ⟨_,p3,s3⟩:=ht; let ⟨_,p4,s4⟩:=he
 ⟨_,fun j=>zJc (hN j) (hx' j) (hx j) (S j) (M.calm j) (p1 j) (fun C cs s H ex=>p2 (j,C,cs,s,H,ex)) (fun C cs s H ex=>p3 (j,C,cs,s,H,ex)) (fun C cs s H ex=>p4 (j,C,cs,s,H,ex)) (hsw j) (hf j) (hs j),zDs (zEj s1 s2 s3 s4 hmu hix) hi⟩
theorem sx_setIx(i:Nat){y:Str}{yp p2:Pos}(he:EX K X e fa)(ho:∀ j,PE (X j) (.Name y yp) (tVar i))(hb:EX K X b fb)(hs:∀ j,FR [.Subscript (.Name y yp) b p2] e pos.line (X j).env=pure false:=by intro _; rfl)(hw:∀ j,FS [.Subscript (.Name y yp) b p2] e (X j).env=pure none:=by intro _; rfl)
  (hA:∀ j v,assign (.Subscript (.Name y yp) b p2) (X j).env v=(do let ov ← holding [v] (eval (.Name y yp) (X j).env); let iv ← holding [v,ov] (eval b (X j).env); HP p2; holding [v,ov,iv] (KZ ov iv v); release [v,ov,iv] []):=by intro _ _; rfl) (h1:∀ j,(B4 [.Subscript (.Name y yp) b p2] (X j).env).map (·.2)=[assign (.Subscript (.Name y yp) b p2) (X j).env]:=by intro _; rfl) :
  SX K X ip (.Assign [.Subscript (.Name y yp) b p2] e pos) (dSetIx i fa fb) :=
 let ⟨_,p,s⟩:=he; let ⟨_,q,u⟩:=hb; ⟨_,fun j=>zLQ (p j) (zKv (ho j) (q j) zIn (hA j)) (hs j) (hw j) (h1 j),zGJ s u⟩
theorem sx_par(i1 i2:Nat){x1 x2:Str}{px py pt:Pos}{kt k2 pt2}(M:Fm K mg k X)(ha:AX K X [a,b] da)(h12:i1≠i2:=by decide)(hi1:ip≠some i1:=by decide)(hi2:ip≠some i2:=by decide)(hN:∀ j,(X j).N.Nodup:=by intro _; show (FA _); decide +kernel)
  (e1:∀ j,(X j).N[i1]?=some x1:=by intro _; rfl) (e2:∀ j,(X j).N[i2]?=some x2:=by intro _; rfl) (l1:∀ j,(X j).env.scope.names.lookup x1=some .local:=by intro _; rfl) (l2:∀ j,(X j).env.scope.names.lookup x2=some .local:=by intro _; rfl)
  (hw:∀ j,FS [.Tuple [.Name x1 px,.Name x2 py] kt pt] (.Tuple [a,b] k2 pt2) (X j).env=pure (some [x1,x2]):=by intro _; rfl)
  (hs:∀ j,FR [.Tuple [.Name x1 px,.Name x2 py] kt pt] (.Tuple [a,b] k2 pt2) pos.line (X j).env=pure false:=by intro _; rfl) :
  SX K X ip (.Assign [.Tuple [.Name x1 px,.Name x2 py] kt pt] (.Tuple [a,b] k2 pt2) pos) (dPar2 i1 i2 da) :=
 let ⟨_,q,u⟩:=ha; ⟨_,fun j=>zKl (M.calm j) (hN j) (e1 j) (e2 j) h12 (l1 j) (l2 j) (q j) (hw j) (hs j),zH7 u hi1 hi2⟩
theorem sx_for{tg iter:Expr}{di:DI}{gg:En->T->Option En}(M:Fm K mg k X)(hp:∀ j,PassesOwn (model (X j).prog (X j).w) (X j).A (X j).env (X j).xe)(hi:IX K X tg iter di)(hg:GX K X ip tg gg)(hb:BX K X ip sts f)
  (hs:∀ j x,Bi iter (X j).env x=pure x:=by intro _ _; rfl):SX K X ip (.For tg iter sts [] pos) (dFor ip di gg f) :=
 let ⟨_,p1,s1⟩:=hi; let ⟨_,p2,s2⟩:=hg; let ⟨_,p3,s3⟩:=hb; ⟨_,fun j=>zEE (hp j) (M.calm j) (p1 j) (p2 j) (p3 j) (hs j),zH1 s1 s2 s3⟩
end
section
variable {P:Ac}{wd:Al}{base:Heap}{K:Fg}{mg:Str->Option AB}{k:Nat}
abbrev cx1(P:Ac)(wd:Al)(K:Fg)(mg:Str->Option AB)(base:Heap)(N:List Str)(qual:Str)(sc:Bv)(f:Addr)(cdv:AB)(A:A5)(outer:List Env)(s:AH)(H:Hp)(E:XK):Unit->Cx:=fun _=>(cxOf CX0 P wd K mg base N qual sc f cdv A outer s H E).nox
theorem fd_of{x:Str}{st:Stmt}{f:Addr}{fd:An}{N ps:List Str}{ip:Option Nat}{g:DS}(F:Fun K x x st f fd)(S:FnScope N ps (defScope st))(hm:mg x=some (.ref f))(hb:Binds K fd ps [])
  (body:∀ (cdv:AB) (A:A5) (outer:List Env) (s:AH) (H:Hp) (E:XK),Fm K mg k (cx1 P wd K mg base N x (defScope st) f cdv A outer s H E)->Fb P wd base (cx1 P wd K mg base N x (defScope st) f cdv A outer s H E)->BX K (cx1 P wd K mg base N x (defScope st) f cdv A outer s H E) ip (defBody st) g) :
  FD P wd K mg base (k+1) x ip ps.length (fnD ip ps.length N.length g):=by
 refine⟨⟨f,fd,ps,?_,hm,F.kp,hb⟩,zB4⟩
 refine F.ok S (fun vs H Q E h=>h.1) fun cdv A outer s H vs Q E hr h=>?_
 obtain⟨t,p,u⟩:=body cdv A outer s H E ⟨fun _=>rfl,fun _=>rfl,fun _=>rfl,fun _=>hr⟩ ⟨fun _=>rfl,fun _=>rfl,fun _=>rfl⟩
 exact⟨t,p (),zB0 u h⟩
end
section
variable {P:Ac}{wd:Al}{base:Heap}{K:Fg}{mg:Str->Option AB}{k:Nat}
theorem zLl{x:Str}{st:Stmt}{f:Addr}{fd:An}{N ps:List Str}{ip:Option Nat}{g:DS}(F:Fun K x x st f fd)(S:FnScope N ps (defScope st))
  (body:∀ (cdv:AB) (A:A5) (outer:List Env) (s:AH) (H:Hp) (E:XK),Fm K mg k (cx1 P wd K mg base N x (defScope st) f cdv A outer s H E)->Fb P wd base (cx1 P wd K mg base N x (defScope st) f cdv A outer s H E)->BX K (cx1 P wd K mg base N x (defScope st) f cdv A outer s H E) ip (defBody st) g) :
  FnOk P wd K mg base CX0 (k+1) f fd ps (spD K ip ps.length (fnD ip ps.length N.length g)):=by
 refine F.ok S (fun vs H Q E h=>h.1) fun cdv A outer s H vs Q E hr h=>?_
 obtain⟨t,p,u⟩:=body cdv A outer s H E ⟨fun _=>rfl,fun _=>rfl,fun _=>rfl,fun _=>hr⟩ ⟨fun _=>rfl,fun _=>rfl,fun _=>rfl⟩
 exact⟨t,p (),zB0 u h⟩
theorem fd_zero{x:Str}{st:Stmt}{f:Addr}{fd:An}{ps:List Str}{ip:Option Nat}{n:Nat}(F:Fun K x x st f fd)(hm:mg x=some (.ref f))(hb:Binds K fd ps [])(hn:ps.length=n):FD P wd K mg base k x ip n (fun _=>none):=by
 refine⟨⟨f,fd,ps,⟨fun vs H Q E h=>h.1.trans hn.symm,fun A outer s H args us vs Q E _ _ _ _ h=>?_⟩,hm,F.kp,hb⟩,fun gs r e=>nomatch e⟩
 obtain⟨_,w,gs,r,ys,e,_⟩:=h
 cases e
theorem len0{us:List AB}(h:us.length=0):us=[]:=C5.mp h
theorem len1{us:List AB}(h:us.length=1):∃ a,us=[a]:=GY.mp h
theorem lenSc{us:List AB}{n:Nat}(h:us.length=n+1):∃ a r,us=a::r/\r.length=n:=by
 cases us with
 | nil=>cases h
 | cons a r=>exact⟨a,r,rfl,Nat.succ.inj h⟩
theorem len2{us:List AB}(h:us.length=2):∃ a b,us=[a,b]:=by
 obtain⟨a,r,rfl,h'⟩:=lenSc h
 obtain⟨b,rfl⟩:=len1 h'
 exact⟨a,b,rfl⟩
theorem len3{us:List AB}(h:us.length=3):∃ a b c,us=[a,b,c]:=by
 obtain⟨a,r,rfl,h'⟩:=lenSc h
 obtain⟨b,c,rfl⟩:=len2 h'
 exact⟨a,b,c,rfl⟩
theorem len4{us:List AB}(h:us.length=4):∃ a b c d,us=[a,b,c,d]:=by
 obtain⟨a,r,rfl,h'⟩:=lenSc h
 obtain⟨b,c,d,rfl⟩:=len3 h'
 exact⟨a,b,c,d,rfl⟩
def intsT(ns:List Int):List T:=ns.map fun i=>.a (.int i)
theorem zJ2{F:DF}{H:Hp}{a:Addr}{ns:List Int}(hO:Only H)(hS:SqL K H a (ns.map V.int))(h:F [.k (intsT ns)]=some (.v (.a (.bl true)),[])):spD K none 1 F [.ref a] H (fun v _=>v=.bl true) fun _ _ _=>False:=by
 have hK:KF K H a (ns.map V.int):=KF.of hS fun us e=>by
  rcases hO a with z | ⟨o,xs,z⟩
  ·rw[e]at z; cases z
  ·rw[e]at z; cases z
 refine⟨rfl,⟨[],fun _=>False⟩,_,_,_,h,⟨rfl,fun i g e=>?_,fun i j p ga gb ma mb e=>?_,fun p hp=>(nomatch hp),fun p hp=>(nomatch hp),fun p hp=>hp.elim,fun p hp=>hp.elim,fun b o e _=>e,fun q hq=>(nomatch hq)⟩,rfl,(fun p hp=>nomatch hp),fun v H' _ _ hr=>?_⟩
 ·match i,e with
  | 0,e =>
   cases e
   refine⟨_,rfl,a,ns.map V.int,rfl,?_,hK⟩
   have:intsT ns=(ns.map V.int).map T.a:=by simp[intsT]
   rw[this]
   exact Ims.atoms _
  | i+1,e=>simp at e
 ·match i,e with
  | 0,e=>cases e; cases ma
  | i+1,e=>simp at e
 ·exact (show Im K H' v (.a (.bl true)) from hr).inva
end
end D
namespace D
open PySem L2
end D
namespace D
open PySem L2
def intsOf:List T->Option (List Int)
 | []=>some []
 | .a (.int n)::r=>(intsOf r).map fun ns=>n::ns
 | _::_=>none
end D
namespace D
open PySem L2
def ixL{α:Type}(l:List α)(i:Nat):Option α:=l[i]?
@[simp,simp ↓] theorem zPx{α:Type}{x:α}{r:List α}:ixL (x::r) 0=some x:=rfl
@[simp,simp ↓] theorem zPP{α:Type}{x:α}{r:List α}{n:Nat}:ixL (x::r) (n+1)=ixL r n:=rfl
@[simp,simp ↓] theorem zP5{α:Type}{n:Nat}:ixL ([]:List α) n=none:=rfl
@[simp high,simp ↓ high] theorem gd_0{α:Type}{x:α}:gd 0 x=some x:=rfl
@[simp high,simp ↓ high] theorem gd_1{α:Type}{x:α}:gd 1 x=some x:=rfl
@[simp high,simp ↓ high] theorem gd_2{α:Type}{x:α}:gd 2 x=some x:=rfl
@[simp high,simp ↓ high] theorem gd_3{α:Type}{x:α}:gd 3 x=some x:=rfl
@[simp high,simp ↓ high] theorem gd_4{α:Type}{x:α}:gd 4 x=some x:=rfl
@[simp high,simp ↓ high] theorem gd_5{α:Type}{x:α}:gd 5 x=some x:=rfl
@[simp high,simp ↓ high] theorem gd_6{α:Type}{x:α}:gd 6 x=some x:=rfl
@[simp high,simp ↓ high] theorem gd_7{α:Type}{x:α}:gd 7 x=some x:=rfl
@[simp high,simp ↓ high] theorem gd_8{α:Type}{x:α}:gd 8 x=some x:=rfl
@[simp high,simp ↓ high] theorem gd_9{α:Type}{x:α}:gd 9 x=some x:=rfl
@[simp high,simp ↓ high] theorem zPe{α:Type}{x:α}:gd 10 x=some x:=rfl
@[simp high,simp ↓ high] theorem zP4{α:Type}{x:α}:gd 11 x=some x:=rfl
@[simp high,simp ↓ high] theorem zPO{α:Type}{x:α}:gd 12 x=some x:=rfl
class Kf (α β:Type) where
 k:α->Option β
class Kg (α β:Type) where
 k:α->β
def bnd{α β:Type}(x:Option α) [f:Kf α β]:Option β:=x.bind f.k
@[simp,simp ↓] theorem zPW{α β:Type}{a:α}{f:α->Option β}:bnd (some a) (f:=⟨f⟩)=f a:=rfl
@[simp,simp ↓] theorem zPX{α β:Type}{f:Kf α β}:bnd none (f:=f)=none:=rfl
def omp{α β:Type}(x:Option α) [f:Kg α β]:Option β:=x.map f.k
@[simp,simp ↓] theorem zPv{α β:Type}{a:α}{f:α->β}:omp (some a) (f:=⟨f⟩)=some (f a):=rfl
@[simp,simp ↓] theorem zPk{α β:Type}{f:Kg α β}:omp none (f:=f)=none:=rfl
class Ka (α:Type) where
 v:α
def ifB{α:Type}(b:Bool) [x:Ka α] [y:Ka α]:α:=if b=true then x.v else y.v
@[simp high,simp ↓ high] theorem zPU{α:Type}{x:α}{y:Ka α}:ifB true (x:=⟨x⟩) (y:=y)=x:=rfl
@[simp high,simp ↓ high] theorem zPu{α:Type}{x:Ka α}{y:α}:ifB false (x:=x) (y:=⟨y⟩)=y:=rfl
def ifO{α:Type}(p:Option Nat)(k:Nat)(x y:α):α:=if p=some k then x else y
@[simp high,simp ↓ high] theorem zPg{α:Type}{k:Nat}{x y:α}:ifO none k x y=y:=rfl
def ifN{α:Type}(m n:Nat)(x y:α):α:=if m=n then x else y
def ifM{α:Type}(i:Nat)(l:List Nat)(x y:α):α:=if i∈l then x else y
@[simp high,simp ↓ high] theorem zP3{α:Type}{i:Nat}{x y:α}:ifM i [] x y=y:=rfl
def apE{α:Type}(l:List α):List α:=l++[]
@[simp,simp ↓] theorem zPo{α:Type}:apE ([]:List α)=[]:=rfl
@[simp,simp ↓] theorem zPs{α:Type}{x:α}{r:List α}:apE (x::r)=x::apE r:=rfl
@[simp high,simp ↓ high] theorem zO1{α:Type}{x y:α}:ifO (some 0) 0 x y=x:=rfl
@[simp high,simp ↓ high] theorem zPJ{α:Type}{x y:α}:ifO (some 0) 1 x y=y:=rfl
@[simp high,simp ↓ high] theorem zPE{α:Type}{x y:α}:ifO (some 0) 2 x y=y:=rfl
@[simp high,simp ↓ high] theorem zPL{α:Type}{x y:α}:ifO (some 0) 3 x y=y:=rfl
@[simp high,simp ↓ high] theorem zOn{α:Type}{x y:α}:ifO (some 0) 4 x y=y:=rfl
@[simp high,simp ↓ high] theorem zOz{α:Type}{x y:α}:ifO (some 0) 5 x y=y:=rfl
@[simp high,simp ↓ high] theorem zO6{α:Type}{x y:α}:ifO (some 0) 6 x y=y:=rfl
@[simp high,simp ↓ high] theorem zPR{α:Type}{x y:α}:ifN 1 1 x y=x:=rfl
@[simp high,simp ↓ high] theorem zPf{α:Type}{x y:α}:ifN 2 2 x y=x:=rfl
@[simp high,simp ↓ high] theorem zP0{α:Type}{x y:α}:ifN 3 3 x y=x:=rfl
@[simp high,simp ↓ high] theorem zPT{α:Type}{x y:α}:ifN 4 4 x y=x:=rfl
@[simp high,simp ↓ high] theorem zPZ{α:Type}{x y:α}:ifN 5 5 x y=x:=rfl
@[simp high,simp ↓ high] theorem zPz{α:Type}{x y:α}:ifN 6 6 x y=x:=rfl
@[simp high,simp ↓ high] theorem zPj{α:Type}{x y:α}:ifN 7 7 x y=x:=rfl
@[simp high,simp ↓ high] theorem zPw{α:Type}{x y:α}:ifN 8 8 x y=x:=rfl
section
variable {f g:DS}{fa fb fc fi:DE}{da fr:DA}{ta tb:DT}{Γ:En}{i j k:Nat}{h h':En->S->S->Option S}
@[simp,simp ↓] theorem zFV:dSeq f g Γ=bnd (f Γ) (f:=⟨fun o=>match o with | .nx Γ'=>g Γ' | o=>some o⟩):=rfl
@[simp,simp ↓] theorem zMn:dNext Γ=some (.nx Γ):=rfl
@[simp,simp ↓] theorem zNP:dRet fa Γ=omp (fa Γ) (f:=⟨fun p=>.rt p.1 p.2⟩):=rfl
@[simp,simp ↓] theorem zM2:dRetN Γ=some (.rt (.v (.a .non)) Γ):=rfl
@[simp,simp ↓] theorem zMi:dDrop fa Γ=omp (fa Γ) (f:=⟨fun p=>.nx p.2⟩):=rfl
@[simp,simp ↓] theorem zPM:dIf ta f g Γ=bnd (ta Γ) (f:=⟨fun p=>ifB p.1 (x:=⟨(f p.2)⟩) (y:=⟨(g p.2)⟩)⟩):=rfl
theorem zGn:dIf ta f g Γ=(ta Γ).bind fun p=>if p.1=true then f p.2 else g p.2:=rfl
@[simp,simp ↓] theorem zNe:dSet i fa Γ=bnd (fa Γ) (f:=⟨fun p=>omp (setS i p.1 p.2) (f:=⟨.nx⟩)⟩):=rfl
@[simp,simp ↓] theorem zPK{t:T}:setS i (.v t) Γ=some (Γ.set i (some (.v t))):=rfl
@[simp,simp ↓] theorem zPB{t:List T}:setS i (.l t) Γ=some (Γ.set i (some (.l t))):=rfl
@[simp,simp ↓] theorem zFG:jV i Γ=match ixL Γ i with
 | some (some (.v t))=>some (.v t,Γ)
 | some (some (.l _))=>some (.s i,Γ)
 | some (some (.r _))=>some (.s i,Γ)
 | some (some (.k _))=>some (.s i,Γ)
 | some (some (.d _))=>some (.s i,Γ)
 | some (some (.e _))=>some (.s i,Γ)
 | _=>none:=rfl
@[simp,simp ↓] theorem zI6{v:V}:dC v Γ=some (.v (.a v),Γ):=rfl
@[simp,simp ↓] theorem zG1:dOp h fa fb Γ=bnd (fa Γ) (f:=⟨fun p=>bnd (fb p.2) (f:=⟨fun q=>omp (h q.2 p.1 q.1) (f:=⟨fun s=>(s,q.2)⟩)⟩)⟩):=rfl
@[simp,simp ↓] theorem zPG{h:En->S->Option S}:dUn h fa Γ=bnd (fa Γ) (f:=⟨fun p=>omp (h p.2 p.1) (f:=⟨fun s=>(s,p.2)⟩)⟩):=rfl
@[simp,simp ↓] theorem zPH{h:En->List S->Option S}:dCB h da Γ=bnd (da Γ) (f:=⟨fun p=>omp (h p.2 p.1) (f:=⟨fun s=>(s,p.2)⟩)⟩):=rfl
@[simp,simp ↓] theorem zNV:qQ Γ=some ([],Γ):=rfl
@[simp,simp ↓] theorem zM4:jW fa fr Γ=bnd (fa Γ) (f:=⟨fun p=>bnd (fr p.2) (f:=⟨fun q=>some (p.1::q.1,q.2)⟩)⟩):=rfl
@[simp,simp ↓] theorem zLO{t:T}:S.tree (.v t)=some t:=rfl
@[simp,simp ↓] theorem zMP:trees []=some []:=rfl
@[simp,simp ↓] theorem zLx{t:T}{r:List S}:trees (.v t::r)=omp (trees r) (f:=⟨fun ts=>t::ts⟩):=rfl
theorem zC1:AC=16777216:=EL
@[simp,simp ↓] theorem zNB:dTup da Γ=bnd (da Γ) (f:=⟨fun p=>bnd (trees p.1) (f:=⟨fun ts=>gd ts.length (.v (.t ts),p.2)⟩)⟩):=rfl
@[simp,simp ↓] theorem zNJ:dLst da Γ=bnd (da Γ) (f:=⟨fun p=>bnd (trees p.1) (f:=⟨fun ts=>gd ts.length (.l ts,p.2)⟩)⟩):=rfl
@[simp,simp ↓] theorem zEH:dTest fa Γ=bnd (fa Γ) (f:=⟨fun p=>match p.1 with | .v (.a (.bl b))=>some (b,p.2) | _=>none⟩):=rfl
@[simp,simp ↓] theorem zOf:dAnd ta tb Γ=bnd (ta Γ) (f:=⟨fun p=>ifB p.1 (x:=⟨(tb p.2)⟩) (y:=⟨(some (false,p.2))⟩)⟩):=rfl
theorem zFR:dAnd ta tb Γ=(ta Γ).bind fun p=>if p.1=true then tb p.2 else some (false,p.2):=rfl
@[simp,simp ↓] theorem zPY:dOr ta tb Γ=bnd (ta Γ) (f:=⟨fun p=>ifB p.1 (x:=⟨(some (true,p.2))⟩) (y:=⟨(tb p.2)⟩)⟩):=rfl
@[simp,simp ↓] theorem zNq:dNot ta Γ=bnd (ta Γ) (f:=⟨fun p=>some (!p.1,p.2)⟩):=rfl
@[simp,simp ↓] theorem zNR:dAndV fa fb Γ=bnd (dTest fa Γ) (f:=⟨fun p=>ifB p.1 (x:=⟨(fb p.2)⟩) (y:=⟨(some (.v (.a (.bl false)),p.2))⟩)⟩):=rfl
@[simp,simp ↓] theorem zOx:dOrV fa fb Γ=bnd (dTest fa Γ) (f:=⟨fun p=>ifB p.1 (x:=⟨(some (.v (.a (.bl true)),p.2))⟩) (y:=⟨(fb p.2)⟩)⟩):=rfl
@[simp,simp ↓] theorem zMr:dNotV fa Γ=bnd (dTest fa Γ) (f:=⟨fun p=>some (.v (.a (.bl !p.1)),p.2)⟩):=rfl
@[simp,simp ↓] theorem zO4:dIfE ta fa fb Γ=bnd (ta Γ) (f:=⟨fun p=>ifB p.1 (x:=⟨(fa p.2)⟩) (y:=⟨(fb p.2)⟩)⟩):=rfl
@[simp] theorem zL7:dChain h h' fa fb fc Γ=bnd (fa Γ) (f:=⟨fun p=>bnd (fb p.2) (f:=⟨fun q=>bnd (h q.2 p.1 q.1) (f:=⟨fun z=>match z with
 | .v (.a (.bl k))=>if k=true then bnd (fc q.2) (f:=⟨fun u=>omp (h' u.2 q.1 u.1) (f:=⟨fun s=>(s,u.2)⟩)⟩) else some (.v (.a (.bl false)),q.2)
 | _=>none⟩)⟩)⟩):=rfl
@[simp,simp ↓] theorem zOb{h:En->List T->List S->Option (T×List T)}:dMut i h da Γ=ifB (isLs Γ i) (x:=⟨(bnd (da Γ) (f:=⟨fun p=>match ixL p.2 i with
 | some (some (.l xs))=>bnd (gd xs.length ()) (f:=⟨fun _=>omp (h p.2 xs p.1) (f:=⟨fun q=>(.v q.1,p.2.set i (some (.l q.2)))⟩)⟩)
 | _=>none⟩))⟩) (y:=⟨none⟩):=rfl
@[simp,simp ↓] theorem zNG:isLs Γ i=match ixL Γ i with | some (some (.l _))=>true | _=>false:=rfl
@[simp,simp ↓] theorem zMh:dSetIx i fa fi Γ=bnd (fa Γ) (f:=⟨fun p=>bnd p.1.tree (f:=⟨fun t=>ifB (isLs p.2 i) (x:=⟨(bnd (fi p.2) (f:=⟨fun q=>bnd (iS q.1) (f:=⟨fun k=>match ixL q.2 i with
  | some (some (.l xs))=>omp (ixN xs.length k) (f:=⟨fun j=>.nx (q.2.set i (some (.l (xs.set j t))))⟩)
  | _=>none⟩)⟩))⟩) (y:=⟨none⟩)⟩)⟩):=rfl
@[simp,simp ↓] theorem zPq{n:Int}:iS (.v (.a (.int n)))=some n:=rfl
@[simp,simp ↓] theorem zNE{g:Int->Int->V}{m n:Int}:opII g Γ (.v (.a (.int m))) (.v (.a (.int n)))=some (.v (.a (g m n))):=rfl
@[simp,simp ↓] theorem zNN{g:Int->Int->V}{xs:List T}{b:S}:opII g Γ (.v (.t xs)) b=none:=rfl
@[simp,simp ↓] theorem zNY{g:Int->Int->V}{xs:List T}{b:S}:opII g Γ (.l xs) b=none:=rfl
@[simp,simp ↓] theorem zNS{g:Int->Int->V}{n:Nat}{b:S}:opII g Γ (.s n) b=none:=rfl
@[simp,simp ↓] theorem zMA{g:Int->Int->V}{z:Str}{b:S}:opII g Γ (.v (.a (.str z))) b=none:=rfl
@[simp,simp ↓] theorem zNk{m n:Int}:addS Γ (.v (.a (.int m))) (.v (.a (.int n)))=some (.v (.a (.int (m+n)))):=rfl
@[simp] theorem zNg{xs ys:List T}:addS Γ (.v (.t xs)) (.v (.t ys))=gd (xs.length+ys.length) (.v (.t (xs++ys))):=by
 show ((none:Option S).or ((addTup Γ (.v (.t xs)) (.v (.t ys))).or ((none:Option S).or none)))=_
 simp[addTup]
@[simp] theorem zNf{x y:Str}:addS Γ (.v (.a (.str x))) (.v (.a (.str y)))=gd (x.length+y.length) (.v (.a (.str (x++y)))):=by
 show ((none:Option S).or ((none:Option S).or ((none:Option S).or (addStr Γ _ _))))=_
 simp[addStr]
@[simp] theorem zOj{m:Nat}{b:S}:addS Γ (.s m) b=addLst Γ (.s m) b:=by
 show ((none:Option S).or ((none:Option S).or ((addLst Γ (.s m) b).or none)))=_
 simp
@[simp] theorem zPD{xs:List T}{b:S}:addS Γ (.l xs) b=addLst Γ (.l xs) b:=by
 show ((none:Option S).or ((none:Option S).or ((addLst Γ (.l xs) b).or none)))=_
 simp
@[simp,simp ↓] theorem zL8{a b:S}:addLst Γ a b=bnd (lsOf Γ a) (f:=⟨fun xs=>bnd (lsOf Γ b) (f:=⟨fun ys=>gd (xs.length+ys.length) (.l (xs++ys))⟩)⟩):=rfl
@[simp,simp ↓] theorem zNu{m n:Int}:subS Γ (.v (.a (.int m))) (.v (.a (.int n)))=some (.v (.a (.int (m - n)))):=rfl
@[simp] theorem zNT{m n:Int}:mulS Γ (.v (.a (.int m))) (.v (.a (.int n)))=if CMul m n then some (.v (.a (.int (m * n)))) else none:=by
 show ((if CMul m n then some _ else none).or (none:Option S))=_
 simp
@[simp] theorem zNd{m n:Int}:modS Γ (.v (.a (.int m))) (.v (.a (.int n)))=if 0 < n then some (.v (.a (.int (m % n)))) else none:=(rfl)
@[simp] theorem zMk{m n:Int}:fdivS Γ (.v (.a (.int m))) (.v (.a (.int n)))=if CDiv m n then some (.v (.a (.int (m / n)))) else none:=(rfl)
@[simp] theorem zNo{m n:Int}:powS Γ (.v (.a (.int m))) (.v (.a (.int n)))=if CPow m n then some (.v (.a (.int (m ^ n.toNat)))) else none:=(rfl)
@[simp,simp ↓] theorem zOl{m n:Int}:ltS Γ (.v (.a (.int m))) (.v (.a (.int n)))=some (.v (.a (.bl (decide (m < n))))):=rfl
@[simp,simp ↓] theorem zPI{m n:Int}:leS Γ (.v (.a (.int m))) (.v (.a (.int n)))=some (.v (.a (.bl (decide (m<=n))))):=rfl
@[simp,simp ↓] theorem zOq{m n:Int}:gtS Γ (.v (.a (.int m))) (.v (.a (.int n)))=some (.v (.a (.bl (decide (n < m))))):=rfl
@[simp,simp ↓] theorem zO2{m n:Int}:geS Γ (.v (.a (.int m))) (.v (.a (.int n)))=some (.v (.a (.bl (decide (n<=m))))):=rfl
@[simp,simp ↓] theorem zOy{m:Int}:negS Γ (.v (.a (.int m)))=some (.v (.a (.int (-m)))):=rfl
@[simp,simp ↓] theorem zPt{xs:List T}{n:Int}:ixS Γ (.v (.t xs)) (.v (.a (.int n)))=omp (atI xs n) (f:=⟨.v⟩):=rfl
@[simp,simp ↓] theorem zPh{xs:List T}{n:Int}:ixS Γ (.l xs) (.v (.a (.int n)))=omp (atI xs n) (f:=⟨.v⟩):=rfl
@[simp,simp ↓] theorem zPr{m:Nat}{n:Int}:ixS Γ (.s m) (.v (.a (.int n)))=bnd (sqlOf Γ (.s m)) (f:=⟨fun xs=>omp (atI xs n) (f:=⟨.v⟩)⟩):=rfl
@[simp,simp ↓] theorem zNZ{m:Nat}:sqlOf Γ (.s m)=match ixL Γ m with
  | some (some (.l xs))=>some xs
  | some (some (.r xs))=>some xs
  | some (some (.k xs))=>some xs
  | _=>none:=rfl
@[simp,simp ↓] theorem zNb{xs:List T}:sqlOf Γ (.l xs)=some xs:=rfl
@[simp,simp ↓] theorem zOJ{xs:List T}:lsOf Γ (.l xs)=some xs:=rfl
@[simp,simp ↓] theorem zN5{m:Nat}:lsOf Γ (.s m)=match ixL Γ m with
  | some (some (.l xs))=>some xs
  | some (some (.r xs))=>some xs
  | _=>none:=rfl
@[simp,simp ↓] theorem zOV{xs:List T}:lenS Γ [.v (.t xs)]=some (.v (.a (.int xs.length))):=rfl
@[simp,simp ↓] theorem zOU{xs:List T}:lenS Γ [.l xs]=some (.v (.a (.int xs.length))):=rfl
@[simp,simp ↓] theorem zOr{m:Nat}:lenS Γ [.s m]=omp (sqlOf Γ (.s m)) (f:=⟨fun xs=>.v (.a (.int xs.length))⟩):=rfl
@[simp,simp ↓] theorem zNK{xs:List T}:listS Γ [.v (.t xs)]=some (.l xs):=rfl
@[simp,simp ↓] theorem zNv{m:Nat}:listS Γ [.s m]=omp (sqlOf Γ (.s m)) (f:=⟨.l⟩):=rfl
@[simp,simp ↓] theorem zNl{xs:List T}:listS Γ [.l xs]=some (.l xs):=rfl
@[simp,simp ↓] theorem zMY{xs:List T}:tupleS Γ [.v (.t xs)]=some (.v (.t xs)):=rfl
@[simp,simp ↓] theorem zM5{xs:List T}:tupleS Γ [.l xs]=some (.v (.t xs)):=rfl
@[simp,simp ↓] theorem zMg{m:Nat}:tupleS Γ [.s m]=omp (sqlOf Γ (.s m)) (f:=⟨fun xs=>.v (.t xs)⟩):=rfl
@[simp,simp ↓] theorem zLq:dNoPart Γ=some (none,Γ):=rfl
@[simp,simp ↓] theorem zMQ:dPart fa Γ=bnd (fa Γ) (f:=⟨fun p=>omp (iS p.1) (f:=⟨fun i=>(some i,p.2)⟩)⟩):=rfl
@[simp,simp ↓] theorem zPA{lo hi:DO}:dSl fa lo hi Γ=bnd (fa Γ) (f:=⟨fun p=>bnd (lo p.2) (f:=⟨fun l=>bnd (hi l.2) (f:=⟨fun h=>omp (slS h.2 l.1 h.1 p.1) (f:=⟨fun s=>(s,h.2)⟩)⟩)⟩)⟩):=rfl
@[simp,simp ↓] theorem zPQ{xs:List T}{lo hi:Option Int}:slS Γ lo hi (.v (.t xs))=some (.v (.t (cutT xs lo hi))):=rfl
@[simp,simp ↓] theorem zPm{xs:List T}{lo hi:Option Int}:slS Γ lo hi (.l xs)=some (.l (cutT xs lo hi)):=rfl
@[simp,simp ↓] theorem zPd{m:Nat}{lo hi:Option Int}:slS Γ lo hi (.s m)=omp (sqlOf Γ (.s m)) (f:=⟨fun xs=>.l (cutT xs lo hi)⟩):=rfl
@[simp,simp ↓] theorem zMI{xs:List T}{t:T}:hAppend Γ xs [.v t]=if xs.length < AC then some (.a .non,xs++[t]) else none:=rfl
@[simp,simp ↓] theorem zOX{xs:List T}:hPop Γ xs []=omp (xs[xs.length - 1]?) (f:=⟨fun t=>(t,xs.dropLast)⟩):=rfl
@[simp] theorem zMo{xs:List T}{n:Int}:hPopAt Γ xs [.v (.a (.int n))]=if inR 9223372036854775807 n=true then bnd (HF n xs.length) (f:=⟨fun k=>omp (xs[k]?) (f:=⟨fun t=>(t,xs.eraseIdx k)⟩)⟩) else none:=rfl
@[simp,simp ↓] theorem zO8{n:Int}:intS Γ [.v (.a (.int n))]=some (.v (.a (.int n))):=rfl
@[simp,simp ↓] theorem zOM{b:Bool}:intS Γ [.v (.a (.bl b))]=some (.v (.a (.int (if b then 1 else 0)))):=rfl
@[simp,simp ↓] theorem zMa{m n:Int}:max2S Γ [.v (.a (.int m)),.v (.a (.int n))]=some (.v (.a (.int (if n > m then n else m)))):=rfl
@[simp,simp ↓] theorem zMw{m n:Int}:min2S Γ [.v (.a (.int m)),.v (.a (.int n))]=some (.v (.a (.int (if n < m then n else m)))):=rfl
@[simp] theorem zL9{fo:DE}:dIndex fo da Γ=bnd (fo Γ) (f:=⟨fun p=>bnd (da p.2) (f:=⟨fun q=>match p.1,q.1 with
 | .v (.t xs),[.v (.a y)]=>bnd (atomsOf xs) (f:=⟨fun vs=>if flatV y=true/\vs.all flatV=true then omp (vs.findIdx? fun z=>eqV z y) (f:=⟨fun j=>(mkI (j:Nat),q.2)⟩) else none⟩)
 | _,_=>none⟩)⟩):=rfl
@[simp,simp ↓] theorem zNz{n:Int}:mkI n=.v (.a (.int n)):=rfl
@[simp,simp ↓] theorem zPC{b:Bool}:mkB b=.v (.a (.bl b)):=rfl
@[simp] theorem zLg:dListRng da Γ=bnd (da Γ) (f:=⟨fun p=>omp (rngS p.1) (f:=⟨fun xs=>(.l xs,p.2)⟩)⟩):=rfl
@[simp] theorem zLv:dTupRng da Γ=bnd (da Γ) (f:=⟨fun p=>omp (rngS p.1) (f:=⟨fun xs=>(.v (.t xs),p.2)⟩)⟩):=rfl
theorem zCH(n:Nat)(h:n<=100000):rngS [.v (.a (.int (n:Int)))]=some (rngT 0 n):=by
 unfold rngS
 dsimp only
 rw[zC3 (by omega),D5,GR,Gy (As h (by decide)),if_pos rfl]
theorem zGY(m n:Nat)(h1:m<=100000)(h:n<=100000):rngS [.v (.a (.int (m:Int))),.v (.a (.int (n:Int)))]=some (rngT m (n - m)):=by
 unfold rngS
 dsimp only
 have e:((n:Int) - (m:Int)).toNat=n - m:=by omega
 rw[zC3 (by omega),zC3 (by omega),e,GR,GR,Gy (As (show n - m<=100000 by omega) (by decide)),if_pos rfl]
@[simp] theorem zMT:dRng1 da Γ=(da Γ).bind fun p=>if p.1.length=1 then (rngS p.1).map fun xs=>((xs,[]),p.2) else none:=by
 unfold dRng1
 congr 1
 funext p
 obtain⟨as,G⟩:=p
 match as with
 | []=>rfl
 | [a] =>
  match a with
  | .v (.a (.int j))=>simp only[rngS,B0,if_true]; split <;> rfl
  | .v (.a .non)=>rfl
  | .v (.a (.bl _))=>rfl
  | .v (.a (.str _))=>rfl
  | .v (.a (.byt _))=>rfl
  | .v (.a (.flt _))=>rfl
  | .v (.a (.ref _))=>rfl
  | .v (.a (.ty _))=>rfl
  | .v (.t _)=>rfl
  | .v (.l _)=>rfl
  | .v (.f _)=>rfl
  | .v (.x _ _)=>rfl
  | .l _=>rfl
  | .s _=>rfl
  | .d _=>rfl
 | a::b::r =>
  have:¬ (a::b::r).length=1:=by simp
  rw[if_neg this]
  dsimp only
  split
  ·rename_i h; simp at h
  ·rfl
@[simp,simp ↓] theorem zMV:dSeqI fa Γ=bnd (fa Γ) (f:=⟨fun p=>bnd (seqS p.2 p.1) (f:=⟨fun xs=>gd xs.length ((xs,srcS p.2 p.1),p.2)⟩)⟩):=rfl
@[simp,simp ↓] theorem zOT{xs:List T}:seqS Γ (.v (.t xs))=some xs:=rfl
@[simp,simp ↓] theorem zO3{xs:List T}:seqS Γ (.l xs)=some xs:=rfl
@[simp,simp ↓] theorem zOS{m:Nat}:seqS Γ (.s m)=sqlOf Γ (.s m):=rfl
@[simp,simp ↓] theorem zOR{t:T}:srcS Γ (.v t)=[]:=rfl
@[simp,simp ↓] theorem zOi{t:List T}:srcS Γ (.l t)=[]:=rfl
@[simp,simp ↓] theorem zOP{m:Nat}:srcS Γ (.s m)=match ixL Γ m with | some (some (.l _))=>[m] | _=>[]:=rfl
@[simp,simp ↓] theorem zJj:dYes Γ=some (true,Γ):=rfl
@[simp,simp ↓] theorem zNm:dTru fa Γ=bnd (fa Γ) (f:=⟨fun p=>omp (truS p.2 p.1) (f:=⟨fun b=>(b,p.2)⟩)⟩):=rfl
@[simp,simp ↓] theorem zOI{b:Bool}:truS Γ (.v (.a (.bl b)))=some b:=rfl
@[simp,simp ↓] theorem zOQ{n:Int}:truS Γ (.v (.a (.int n)))=some (n != 0):=rfl
@[simp,simp ↓] theorem zOp{xs:List T}:truS Γ (.v (.t xs))=some (!xs.isEmpty):=rfl
@[simp,simp ↓] theorem zOs{m:Nat}:truS Γ (.s m)=omp (sqlOf Γ (.s m)) (f:=⟨fun xs=>!xs.isEmpty⟩):=rfl
@[simp,simp ↓] theorem zOD{xs:List T}:truS Γ (.l xs)=some (!xs.isEmpty):=rfl
@[simp] theorem zMc:dPar2 i j da Γ=bnd (da Γ) (f:=⟨fun p=>match p.1 with
  | [.v a,.v b]=>some (.nx ((p.2.set i (some (.v a))).set j (some (.v b))))
  | _=>none⟩):=rfl
@[simp] theorem zMf:dPar3 i j k da Γ=bnd (da Γ) (f:=⟨fun p=>match p.1 with
  | [.v a,.v b,.v c]=>some (.nx (((p.2.set i (some (.v a))).set j (some (.v b))).set k (some (.v c))))
  | _=>none⟩):=rfl
@[simp,simp ↓] theorem zNI{tg:En->T->Option En}:dUnp tg fa Γ=bnd (fa Γ) (f:=⟨fun p=>bnd p.1.tree (f:=⟨fun t=>omp (tg p.2 t) (f:=⟨.nx⟩)⟩)⟩):=rfl
@[simp,simp ↓] theorem zMD{t:T}:gdName i Γ t=some (Γ.set i (some (.v t))):=rfl
@[simp,simp ↓] theorem zMm:gdNil Γ []=some Γ:=rfl
@[simp,simp ↓] theorem zMM{p:En->T->Option En}{q:En->List T->Option En}{t:T}{r:List T}:gdCons p q Γ (t::r)=bnd (p Γ t) (f:=⟨fun Γ1=>q Γ1 r⟩):=rfl
@[simp,simp ↓] theorem zNt{q:En->List T->Option En}{ts:List T}:gdTup i q Γ (.t ts)=ifN ts.length i (q Γ ts) none:=rfl
@[simp,simp ↓] theorem zNp{ip:Option Nat}{F:DF}:dCall ip F [] da Γ=bnd (da Γ) (f:=⟨fun p=>ifB (onceS ip p.1) (x:=⟨(bnd (argsG ip p.2 0 (apE p.1)) (f:=⟨fun gs=>omp (F gs) (f:=⟨fun q=>(toS q.1,backS ip p.2 p.1 q.2)⟩)⟩))⟩) (y:=⟨none⟩)⟩):=rfl
@[simp,simp ↓] theorem zMF{ip:Option Nat}:argsG ip Γ k []=some []:=rfl
@[simp high,simp ↓ high] theorem zM0{ip:Option Nat}{s:S}{r:List S}:argsG ip Γ 0 (s::r)=bnd (argG ip Γ 0 s) (f:=⟨fun g=>omp (argsG ip Γ 1 r) (f:=⟨fun gs=>g::gs⟩)⟩):=rfl
@[simp high,simp ↓ high] theorem zM1{ip:Option Nat}{s:S}{r:List S}:argsG ip Γ 1 (s::r)=bnd (argG ip Γ 1 s) (f:=⟨fun g=>omp (argsG ip Γ 2 r) (f:=⟨fun gs=>g::gs⟩)⟩):=rfl
@[simp high,simp ↓ high] theorem zM6{ip:Option Nat}{s:S}{r:List S}:argsG ip Γ 2 (s::r)=bnd (argG ip Γ 2 s) (f:=⟨fun g=>omp (argsG ip Γ 3 r) (f:=⟨fun gs=>g::gs⟩)⟩):=rfl
@[simp high,simp ↓ high] theorem zMj{ip:Option Nat}{s:S}{r:List S}:argsG ip Γ 3 (s::r)=bnd (argG ip Γ 3 s) (f:=⟨fun g=>omp (argsG ip Γ 4 r) (f:=⟨fun gs=>g::gs⟩)⟩):=rfl
@[simp high,simp ↓ high] theorem zMX{ip:Option Nat}{s:S}{r:List S}:argsG ip Γ 4 (s::r)=bnd (argG ip Γ 4 s) (f:=⟨fun g=>omp (argsG ip Γ 5 r) (f:=⟨fun gs=>g::gs⟩)⟩):=rfl
@[simp high,simp ↓ high] theorem zMs{ip:Option Nat}{s:S}{r:List S}:argsG ip Γ 5 (s::r)=bnd (argG ip Γ 5 s) (f:=⟨fun g=>omp (argsG ip Γ 6 r) (f:=⟨fun gs=>g::gs⟩)⟩):=rfl
@[simp high,simp ↓ high] theorem zM7{ip:Option Nat}{s:S}{r:List S}:argsG ip Γ 6 (s::r)=bnd (argG ip Γ 6 s) (f:=⟨fun g=>omp (argsG ip Γ 7 r) (f:=⟨fun gs=>g::gs⟩)⟩):=rfl
@[simp high,simp ↓ high] theorem zMd{ip:Option Nat}{s:S}{r:List S}:argsG ip Γ 7 (s::r)=bnd (argG ip Γ 7 s) (f:=⟨fun g=>omp (argsG ip Γ 8 r) (f:=⟨fun gs=>g::gs⟩)⟩):=rfl
@[simp,simp ↓] theorem zLi{ip:Option Nat}{s:S}{r:List S}:argsG ip Γ k (s::r)=bnd (argG ip Γ k s) (f:=⟨fun g=>omp (argsG ip Γ (k+1) r) (f:=⟨fun gs=>g::gs⟩)⟩):=rfl
@[simp,simp ↓] theorem zOt{ip:Option Nat}{t:T}:argG ip Γ k (.v t)=some (.v t):=rfl
@[simp,simp ↓] theorem zNh{ip:Option Nat}{xs:List T}:argG ip Γ k (.l xs)=some (ifO ip k (.l xs) (.r xs)):=rfl
@[simp,simp ↓] theorem zN9{ip:Option Nat}{m:Nat}:argG ip Γ k (.s m)=match ixL Γ m with
  | some (some (.l xs))=>some (ifO ip k (.l xs) (.r xs))
  | some (some (.r xs))=>ifO ip k none (some (.r xs))
  | some (some (.k xs))=>ifO ip k none (some (.k xs))
  | some (some (.d xs))=>ifO ip k none (some (.e xs))
  | some (some (.e xs))=>ifO ip k none (some (.e xs))
  | _=>none:=rfl
@[simp,simp ↓] theorem zOa{ip:Option Nat}{xs:Dk}:argG ip Γ k (.d xs)=if ip=some k then none else some (.e xs):=rfl
@[simp,simp ↓] theorem zOW{xs:Dk}:setS i (.d xs) Γ=some (Γ.set i (some (.d xs))):=rfl
@[simp,simp ↓] theorem zOA{xs:Dk}:isSl i (.d xs)=false:=rfl
@[simp,simp ↓] theorem zNi{xs:Dk}:isTmp (.d xs)=false:=rfl
@[simp,simp ↓] theorem zPa{xs:Dk}:toS (.d xs)=.d xs:=rfl
@[simp,simp ↓] theorem zOH{ip:Option Nat}{xs:Dk}:resG ip Γ (.d xs)=some (.d xs):=rfl
@[simp,simp ↓] theorem zNw{ss:List S}:onceS none ss=true:=rfl
@[simp high,simp ↓ high] theorem zMq{r:List S}:onceS (some 0) (.s i::r)=r.all fun s=>!isSl i s:=rfl
@[simp high,simp ↓ high] theorem zPi:(Hz ([]:List S) fun s=>!isSl i s)=true:=rfl
@[simp high,simp ↓ high] theorem zPb{t:T}{r:List S}:(Hz (.v t::r) fun s=>!isSl i s)=r.all fun s=>!isSl i s:=rfl
@[simp high,simp ↓ high] theorem zPc{t:List T}{r:List S}:(Hz (.l t::r) fun s=>!isSl i s)=r.all fun s=>!isSl i s:=rfl
@[simp,simp ↓] theorem zNF{ss:List S}:onceS (some k) ss=match ixL ss k with
  | some (.s i)=>(ss.eraseIdx k).all fun s=>!isSl i s
  | some (.l _)=>(ss.eraseIdx k).all fun s=>!isTmp s
  | _=>false:=rfl
@[simp,simp ↓] theorem zOg{t:T}:isSl i (.v t)=false:=rfl
@[simp,simp ↓] theorem zOc{t:List T}:isSl i (.l t)=false:=rfl
@[simp,simp ↓] theorem zOd:isSl i (.s j)=(j == i):=rfl
@[simp,simp ↓] theorem zM9{t:T}:isTmp (.v t)=false:=rfl
@[simp,simp ↓] theorem zNa:isTmp (.s j)=false:=rfl
@[simp,simp ↓] theorem zNH{ss:List S}{ys:List T}:backS none Γ ss ys=Γ:=rfl
@[simp high,simp ↓ high] theorem zNL{r:List S}{ys:List T}:backS (some 0) Γ (.s i::r) ys=Γ.set i (some (.l ys)):=rfl
@[simp,simp ↓] theorem zNn{ss:List S}{ys:List T}:backS (some k) Γ ss ys=match ixL ss k with | some (.s i)=>Γ.set i (some (.l ys)) | _=>Γ:=rfl
@[simp,simp ↓] theorem zPy{t:T}:toS (.v t)=.v t:=rfl
@[simp,simp ↓] theorem zPp{t:List T}:toS (.l t)=.l t:=rfl
@[simp,simp ↓] theorem zN3:outl none Γ=[]:=rfl
@[simp,simp ↓] theorem zOk:outl (some k) Γ=match ixL Γ k with | some (some (.l xs))=>xs | _=>[]:=rfl
@[simp,simp ↓] theorem zN4{ip:Option Nat}{t:T}:resG ip Γ (.v t)=some (.v t):=rfl
@[simp,simp ↓] theorem zN2{ip:Option Nat}{t:List T}:resG ip Γ (.l t)=some (.l t):=rfl
@[simp,simp ↓] theorem zO0{ip:Option Nat}:resG ip Γ (.s i)=if ip=some i then none else match ixL Γ i with | some (some (.l xs))=>some (.l xs) | some (some (.d xs))=>some (.d xs) | _=>none:=rfl
@[simp,simp ↓] theorem zNQ{t:T}:reprS Γ [.v t]=bnd (toD t) (f:=⟨fun d=>if d.showable=true/\d.hasDict=false/\d.depth<=100/\d.shown.length<=AC then some (.v (.a (.str d.shown))) else none⟩):=rfl
@[simp,simp ↓] theorem zO7{xs:List T}:allS Γ [.l xs]=omp (boolsOf xs) (f:=⟨fun bs=>.v (.a (.bl (bs.all id)))⟩):=rfl
end
theorem zAX{α:Type}{xs:List α}{n:Nat}:atI xs (n:Int)=xs[n]?:=by
 unfold atI ixN
 rw[if_pos (Int.natCast_nonneg n)]
 by_cases h:n < xs.length
 ·rw[if_pos (by omega)]; simp
 ·rw[if_neg (by omega),B1 (by omega)]; rfl
@[simp] theorem zDn{α:Type}{xs:List α}:atI xs 0=xs[0]?:=zAX (n:=0)
@[simp] theorem zPN{α:Type}{xs:List α}:atI xs 1=xs[1]?:=zAX (n:=1)
theorem zAB{n:Nat}(h:n<=100000):n<=AC:=As h (by decide)
theorem zCu{n:Nat}(h:n<=100000):n < AC:=Nat.lt_of_le_of_lt h (by decide)
@[simp] abbrev iT(n:Int):T:=.a (.int n)
@[simp] abbrev bT(b:Bool):T:=.a (.bl b)
theorem zEh(ns:List Int){i:Int}(h0:0<=i)(h1:i < ns.length):∃ z,atI (intsT ns) i=some (iT z):=by
 obtain⟨j,rfl⟩:∃ j:Nat,i=j:=⟨i.toNat,by omega⟩
 exact⟨ns[j]'(by omega),by rw[zAX,intsT,Ai,Cy (by omega)]; rfl⟩
theorem zLe{c:DT}{b:DS}{n:Nat}{Γ:En}:dWhile c b (n+1) Γ=(c Γ).bind fun p=>if p.1=true then (b p.2).bind fun o=>match o with
   | .nx Γ'=>dWhile c b n Γ'
   | .ct Γ'=>dWhile c b n Γ'
   | .bk Γ'=>some (.nx Γ')
   | .rt s Γ'=>some (.rt s Γ')
  else some (.nx p.2):=(rfl)
theorem zBY{tg:En->T->Option En}{b:DS}{Γ:En}:forD tg b [] Γ=some (.nx Γ):=(rfl)
theorem zDO{tg:En->T->Option En}{b:DS}{t:T}{r:List T}{Γ:En}:forD tg b (t::r) Γ=(tg Γ t).bind fun Γ1=>(b Γ1).bind fun o=>match o with
  | .nx Γ'=>forD tg b r Γ'
  | .ct Γ'=>forD tg b r Γ'
  | .bk Γ'=>some (.nx Γ')
  | .rt s Γ'=>some (.rt s Γ'):=(rfl)
theorem zCZ{tg:En->T->Option En}{dc:DT}{de:DE}{t:T}{r:List T}{Γ:En}:compD tg dc de (t::r) Γ=(tg Γ t).bind fun Γ1=>(dc Γ1).bind fun p=>if p.1=true then (de p.2).bind fun q=>q.1.tree.bind fun t'=>(compD tg dc de r q.2).map fun z=>(t'::z.1,z.2) else compD tg dc de r p.2:=(rfl)
@[simp,simp ↓] theorem zNj{ix:List (Option Nat)}{di:DI}{tg:En->T->Option En}{dc:DT}{de:DE}{Γ:En}:dComp none ix di tg dc de Γ=bnd (di Γ) (f:=⟨fun p=>omp (compD tg dc de p.1.1 (pick none ix p.2)) (f:=⟨fun z=>(.l z.1,p.2)⟩)⟩):=rfl
@[simp,simp ↓] theorem zMx{i j:Nat}{ix:List (Option Nat)}{di:DI}{tg:En->T->Option En}{dc:DT}{de:DE}{Γ:En}:dComp (some (j,i)) ix di tg dc de Γ=bnd (di Γ) (f:=⟨fun p=>ifM i p.1.2 none (match ixL p.2 i with
  | some (some (.l _))=>omp (compD tg dc de p.1.1 (pick (some i) ix p.2)) (f:=⟨fun z=>(.l z.1,cback (some (j,i)) p.2 z.2)⟩)
  | _=>none)⟩):=rfl
@[simp,simp ↓] theorem zNy{ip:Option Nat}{di:DI}{tg:En->T->Option En}{b:DS}{Γ:En}:dFor ip di tg b Γ=bnd (di Γ) (f:=⟨fun p=>ifB (p.1.2.all fun i=>decide (ip≠some i)) (x:=⟨(forD tg b p.1.1 (frz p.2 p.1.2))⟩) (y:=⟨none⟩)⟩):=rfl
@[simp,simp ↓] theorem zNU{Γ:En}:frz Γ []=Γ:=rfl
@[simp,simp ↓] theorem zM3{Γ:En}{i:Nat}{r:List Nat}:frz Γ (i::r)=frz (frz1 Γ i) r:=rfl
@[simp,simp ↓] theorem zMW{mu:Option Nat}{Γ:En}:pick mu [] Γ=[]:=rfl
@[simp,simp ↓] theorem zON{mu:Option Nat}{ix:List (Option Nat)}{Γ:En}:pick mu (none::ix) Γ=none::pick mu ix Γ:=rfl
@[simp,simp ↓] theorem zOm{mu:Option Nat}{k:Nat}{ix:List (Option Nat)}{Γ:En}:pick mu (some k::ix) Γ=pick1 mu k (ixL Γ k).join::pick mu ix Γ:=rfl
@[simp,simp ↓] theorem zNc{mu:Option Nat}{k:Nat}{t:T}:pick1 mu k (some (.v t))=some (.v t):=rfl
@[simp,simp ↓] theorem zNr{mu:Option Nat}{k:Nat}{t:List T}:pick1 mu k (some (.r t))=some (.r t):=rfl
@[simp,simp ↓] theorem zNC{mu:Option Nat}{k:Nat}{t:Dk}:pick1 mu k (some (.d t))=some (.e t):=rfl
@[simp,simp ↓] theorem zNA{mu:Option Nat}{k:Nat}{t:Dk}:pick1 mu k (some (.e t))=some (.e t):=rfl
@[simp,simp ↓] theorem zNs{mu:Option Nat}{k:Nat}{t:List T}:pick1 mu k (some (.k t))=some (.k t):=rfl
@[simp,simp ↓] theorem zMb{mu:Option Nat}{k:Nat}{t:List T}:pick1 mu k (some (.l t))=ifO mu k (some (.l t)) (some (.r t)):=rfl
@[simp,simp ↓] theorem zND{mu:Option Nat}{k:Nat}:pick1 mu k none=none:=rfl
@[simp,simp ↓] theorem zM8{j i:Nat}{Γ Γo:En}:cback (some (j,i)) Γ Γo=match ixL Γo j with | some (some (.l xs))=>Γ.set i (some (.l xs)) | _=>Γ:=rfl
theorem zDT{α:Type}(f1 f2 g:α->T){de:DE}{R:En}:∀ (is:List α),(∀ i∈is,de (some (.v (f1 i))::some (.v (f2 i))::R)=some (.v (g i),some (.v (f1 i))::some (.v (f2 i))::R))->∀ o1 o2,∃ o1' o2',compD (gdTup 2 (gdCons (gdName 0) (gdCons (gdName 1) gdNil))) dYes de (is.map fun i=>.t [f1 i,f2 i]) (o1::o2::R)=some (is.map g,o1'::o2'::R)
 | [],_,o1,o2=>⟨o1,o2,rfl⟩
 | i::r,h,o1,o2=>by
  obtain⟨o1',o2',e⟩:=zDT f1 f2 g r (fun j hj=>h j (AG _ hj)) (some (.v (f1 i))) (some (.v (f2 i)))
  refine⟨o1',o2',?_⟩
  rw[Ah,zCZ]
  simp[h i AE,e]
@[simp] theorem zLh{n:Nat}{b:Bool}:boolsOf (AM n (.a (.bl b)))=some (AM n b):=by
 induction n with
 | zero=>rfl
 | succ n ih=>rw[BD,BD]; simp only[boolsOf]; rw[ih]; rfl
@[simp] theorem zO9{Γ:En}{m n:Int}:eqS Γ (.v (.a (.int m))) (.v (.a (.int n)))=some (.v (.a (.bl (decide (m=n))))):=by
 show ((some (mkB (decide (V.int m=V.int n)))).or _)=_
 simp
@[simp] theorem zOe{Γ:En}{m n:Int}:neS Γ (.v (.a (.int m))) (.v (.a (.int n)))=some (.v (.a (.bl (!decide (m=n))))):=by
 show ((some (mkB (!decide (V.int m=V.int n)))).or _)=_
 simp
@[simp] theorem zAL{Γ:En}{m n:Str}:eqS Γ (.v (.a (.str m))) (.v (.a (.str n)))=some (.v (.a (.bl (decide (m=n))))):=by
 show ((some (mkB (decide (V.str m=V.str n)))).or _)=_
 simp
@[simp] theorem zAJ{Γ:En}{m n:Str}:neS Γ (.v (.a (.str m))) (.v (.a (.str n)))=some (.v (.a (.bl (!decide (m=n))))):=by
 show ((some (mkB (!decide (V.str m=V.str n)))).or _)=_
 simp
@[simp] theorem zOo{Γ:En}{m n:Bool}:eqS Γ (.v (.a (.bl m))) (.v (.a (.bl n)))=some (.v (.a (.bl (decide (m=n))))):=by
 show ((some (mkB (decide (V.bl m=V.bl n)))).or _)=_
 simp
@[simp] theorem zO5{Γ:En}{m n:Bool}:neS Γ (.v (.a (.bl m))) (.v (.a (.bl n)))=some (.v (.a (.bl (!decide (m=n))))):=by
 show ((some (mkB (!decide (V.bl m=V.bl n)))).or _)=_
 simp
@[simp] abbrev tvT(t:List Nat):List T:=t.map fun (k:Nat)=>iT (k:Int)
@[simp] abbrev tuT(t:List Nat):T:=.t (tvT t)
theorem zFP(n:Nat):rngT 0 n=tvT (Az n):=by simp[rngT]
theorem zH3(xs:List T)(n:Nat):cutT xs none (some (n:Int))=xs.take n:=by
 unfold cutT
 rw[HT.sIx_none,HT.sIx_nat,Dl,Gr]
 by_cases h:n<=xs.length
 ·rw[H9 h]
 ·rw[Hl (by omega),Bs (AL _),Bs (by omega)]
theorem zEX(xs:List T)(n:Nat):cutT xs (some (n:Int)) none=xs.drop n:=by
 unfold cutT
 rw[HT.sIx_none,HT.sIx_nat]
 by_cases h:n<=xs.length
 ·rw[H9 h,Bs (by simp)]
 ·rw[Hl (by omega),Nat.sub_self,List.take_zero,List.drop_eq_nil_of_le (by omega)]
abbrev Stp:=Nat×List Nat×List Nat
@[simp] abbrev stT(s:Stp):T:=.t [iT (s.1:Int),tuT s.2.1,tuT s.2.2]
@[simp] abbrev prT(p:T×T):T:=.t [p.1,p.2]
end D
namespace L2
open PySem PySem.Spec PyProof.Rows
section
variable {X:Cx}{pins:List (Addr×Obj)}{s:AH}{σ:St}{H:Hp}{p:Addr}{vs:List V}
def minI:List Int->Int
 | []=>0
 | x::r=>r.foldl (fun a b=>if b < a then b else a) x
def maxI:List Int->Int
 | []=>0
 | x::r=>r.foldl (fun a b=>if a < b then b else a) x
end
end L2
namespace D
open PySem L2
def sumS:En->List S->Option S:=fun Γ as=>match as with
 | [a]=>(seqS Γ a).bind fun xs=>(intsOf xs).map fun ns=>.v (.a (.int ns.sum))
 | _=>none
def min1S:En->List S->Option S:=fun Γ as=>match as with
 | [a]=>(seqS Γ a).bind fun xs=>(intsOf xs).bind fun ns=>if 0 < ns.length then some (.v (.a (.int (minI ns)))) else none
 | _=>none
def max1S:En->List S->Option S:=fun Γ as=>match as with
 | [a]=>(seqS Γ a).bind fun xs=>(intsOf xs).bind fun ns=>if 0 < ns.length then some (.v (.a (.int (maxI ns)))) else none
 | _=>none
def anyS:En->List S->Option S:=fun Γ as=>match as with
 | [a]=>(sqlOf Γ a).bind fun xs=>(boolsOf xs).map fun bs=>.v (.a (.bl (bs.any id)))
 | _=>none
section
variable {Γ:En}
@[simp] theorem zNX{a:S}:sumS Γ [a]=bnd (seqS Γ a) (f:=⟨fun xs=>omp (intsOf xs) (f:=⟨fun ns=>.v (.a (.int ns.sum))⟩)⟩):=rfl
@[simp,simp ↓] theorem zMv{a:S}:min1S Γ [a]=bnd (seqS Γ a) (f:=⟨fun xs=>bnd (intsOf xs) (f:=⟨fun ns=>if 0 < ns.length then some (.v (.a (.int (minI ns)))) else none⟩)⟩):=rfl
@[simp,simp ↓] theorem zMu{a:S}:max1S Γ [a]=bnd (seqS Γ a) (f:=⟨fun xs=>bnd (intsOf xs) (f:=⟨fun ns=>if 0 < ns.length then some (.v (.a (.int (maxI ns)))) else none⟩)⟩):=rfl
@[simp,simp ↓] theorem zNx{a:S}:anyS Γ [a]=bnd (sqlOf Γ a) (f:=⟨fun xs=>omp (boolsOf xs) (f:=⟨fun bs=>.v (.a (.bl (bs.any id)))⟩)⟩):=rfl
end
def dK(t:T):DE:=fun Γ=>some (.v t,Γ)
def KV(K:Fg)(mg:Str->Option AB)(x:Str)(t:T):Prop:=∃ v u,mg x=some u/\RelV v u/\∀ H:Hp,Im K H v t
section
variable {Γ:En}
@[simp,simp ↓] theorem zPn{t:T}:dK t Γ=some (.v t,Γ):=rfl
end
end D
namespace D
open PySem L2
open PySem.SeqAt
theorem zE3{h:Heap}:∀ {vs:List AB} {ds:List CC} {as:List Addr},ReadsAll h vs ds as->∀ (i:Nat) (v:AB),vs[i]?=some v->∃ d as',ds[i]?=some d/\Ia h v d as':=by
 intro vs ds as r
 induction ds generalizing vs as with
 | nil =>
  intro i v e
  cases r
  simp at e
 | cons d ds ih =>
  intro i v e
  cases r with
  | cons r1 r2 =>
   cases i with
   | zero=>simp at e; subst e; exact⟨d,_,rfl,r1⟩
   | succ i=>simpa using ih r2 i v (by simpa using e)
theorem zC9:∀ {ds:List CC},Ax ds=true->∀ (i:Nat) (d:CC),ds[i]?=some d->d.canLay0=true
 | [],_,i,d,e=>by simp at e
 | x::r,h,i,d,e=>by
  simp only[Ax,Af]at h
  cases i with
  | zero=>simp at e; subst e; exact h.1
  | succ i=>exact zC9 h.2 i d (by simpa using e)
noncomputable def eqOf (h:Heap) (dx:CC) (y:AB):Bool:=@decide (∃ d as,Ia h y d as/\d.canLay0=true/\BW d dx=true) (Ds _)
theorem zE9{h:Heap}{dx d:CC}{y:AB}{as:List Addr}(r:Ia h y d as)(c:d.canLay0=true):eqOf h dx y=BW d dx:=by
 unfold eqOf
 cases e:BW d dx with
 | true=>exact @decide_eq_true _ (Ds _) ⟨d,as,r,c,e⟩
 | false =>
  refine @decide_eq_false _ (Ds _) ?_
  rintro ⟨d',as',r',c',e'⟩
  have:=Reads.unique d d' y as as' c r r'
  subst this
  rw[e]at e'; cases e'
section
variable {X:Cx}{k:Nat}
theorem zJD{pins:List (Addr×Obj)}{σ:St}{H:Hp}{s:AH}{y:V}{v:AB}{its:List AB}{us:List V}{ts:List T}{t:T}{ds:List CC}{d:CC}(hr:Room k X.A)(I:Inv X pins σ H s)(rv:Vals us its)(hi:Ims X.K H us ts)(e1:toDs ts=some ds)(ry:RelV y v)(hy:Im X.K H y t)(e2:toD t=some d)(c1:Ax ds=true)(c2:d.canLay0=true)(dp:d.depth<=100) :
  (∀ u,u∈its.toArray->EqAt X.A.in1 s u v (eqOf s.heap d u))/\∀ (i:Nat) u,its[i]?=some u->∃ z,ds[i]?=some z/\eqOf s.heap d u=BW z d:=by
 obtain⟨as1,ra⟩:=zAf I hi rv e1
 obtain⟨as2,rx⟩:=zCI I hy ry e2
 have each:∀ (i:Nat) u,its[i]?=some u->∃ z as,ds[i]?=some z/\Ia s.heap u z as/\z.canLay0=true:=fun i u e=>by
  obtain⟨z,as,e3,r3⟩:=zE3 ra i u e
  exact⟨z,as,e3,r3,zC9 c1 i z e3⟩
 refine⟨fun u hu=>?_,fun i u e=>?_⟩
 ·obtain⟨i,hi',rfl⟩:=List.getElem_of_mem (List.mem_toArray.mp hu)
  obtain⟨z,as,e3,r3,c3⟩:=each i its[i] (by simp[hi'])
  rw[zE9 r3 c3]
  exact eqAt_reads z d X.A.in1 s _ v as as2 r3 rx c3 c2 (by have:=hr.un; show X.A.units+1+min z.depth d.depth < HD; omega)
 ·obtain⟨z,as,e3,r3,c3⟩:=each i u e
  exact⟨z,e3,zE9 r3 c3⟩
end
def dParLL(i j:Nat):DS:=fun Γ=>some (.nx ((Γ.set i (some (.l []))).set j (some (.l []))))
section
variable {ι:Type}{K:Fg}{mg:Str->Option AB}{k:Nat}{X:ι->Cx}{ip:Option Nat}{pos:Pos}
@[simp,simp ↓] theorem zMK{i j:Nat}{Γ:En}:dParLL i j Γ=some (.nx ((Γ.set i (some (.l []))).set j (some (.l [])))):=rfl
end
end D
namespace L2
open PySem PySem.Spec PyProof.Rows
section
variable {κ:Type} [DecidableEq κ]
def valV(kvs:List (κ×V))(k:κ):Option V:=(kvs.find? fun kv=>decide (kv.1=k)).map (·.2)
def putK(kvs:List (κ×V))(k:κ)(v:V):List (κ×V) :=
 if (kvs.any fun kv=>decide (kv.1=k))=true then kvs.map (fun kv=>if kv.1=k then (kv.1,v) else kv) else kvs++[(k,v)]
theorem zBU{p:κ×V}{r:List (κ×V)}{k:κ}(e:p.1=k):valV (p::r) k=some p.2:=by simp[valV,Bf,e]
theorem zBX{p:κ×V}{r:List (κ×V)}{k:κ}(e:¬ p.1=k):valV (p::r) k=valV r k:=by simp[valV,Bf,e]
theorem zD6(k:κ):∀ kvs:List (κ×V),(kvs.any fun kv=>decide (kv.1=k))=(valV kvs k).isSome
 | []=>rfl
 | p::r=>by
  rw[CA]
  by_cases e:p.1=k
  ·simp only[zBU e,decide_eq_true e,Bool.true_or,Gx]
  ·rw[zBX e,decide_eq_false e,Bool.false_or]; exact zD6 k r
theorem zEw(kvs:List (κ×V))(k:κ)(v:V):(putK kvs k v).length<=kvs.length+1:=by
 unfold putK
 split
 ·rw[BA]; omega
 ·rw[Am,AW,DR]; omega
theorem zEV{kvs:List (κ×V)}{k:κ}(v:V)(h:valV kvs k=none):putK kvs k v=kvs++[(k,v)]:=by
 unfold putK
 rw[zD6,h]
 exact if_neg (by decide)
theorem RelO.getD{o:Option V}{u:Option AB}{d:V}{d':AB}(r:RelO o u)(rd:RelV d d'):RelV (o.getD d) (u.getD d'):=by
 cases o with
 | none=>cases u with
  | none=>exact rd
  | some _=>exact (show False from r).elim
 | some _=>cases u with
  | none=>exact (show False from r).elim
  | some _=>exact r
theorem KV.val{kvs:List (κ×V)}{vs:List (κ×AB)}(r:KV kvs vs)(k:κ):RelO (valV kvs k) (Ct vs k):=by
 unfold KV at r
 induction r with
 | nil=>exact DM
 | @cons p q ps qs h t ih =>
  obtain⟨h1,h2⟩:=h
  by_cases e:p.1=k
  ·have e':q.1=k:=h1.symm.trans e
   have b:Ct (q::qs) k=some q.2:=by simp[Ct,Bf,e']
   rw[zBU e,b]; exact h2
  ·have e':¬ q.1=k:=fun z=>e (h1.trans z)
   have b:Ct (q::qs) k=Ct qs k:=by simp[Ct,Bf,e']
   rw[zBX e,b]; exact ih
theorem KV.any{kvs:List (κ×V)}{vs:List (κ×AB)}(r:KV kvs vs)(k:κ):(kvs.any fun kv=>decide (kv.1=k))=vs.any fun kv=>decide (kv.1=k):=by
 unfold KV at r
 induction r with
 | nil=>rfl
 | cons h t ih=>rw[CA,CA,ih,h.1]
theorem KV.repl{kvs:List (κ×V)}{vs:List (κ×AB)}(r:KV kvs vs)(k:κ){y:V}{u:AB}(ry:RelV y u) :
  KV (kvs.map fun kv=>if kv.1=k then (kv.1,y) else kv) (vs.map fun kv=>if kv.1=k then (kv.1,u) else kv):=by
 unfold KV at r ⊢
 induction r with
 | nil=>exact .nil
 | @cons p q ps qs h t ih =>
  rw[Ah,Ah]
  refine .cons ?_ ih
  obtain⟨h1,h2⟩:=h
  by_cases e:p.1=k
  ·rw[if_pos e,if_pos (h1.symm.trans e)]; exact⟨h1,ry⟩
  ·rw[if_neg e,if_neg (fun z=>e (h1.trans z))]; exact⟨h1,h2⟩
theorem KV.put{kvs:List (κ×V)}{vs:List (κ×AB)}(r:KV kvs vs)(k:κ){y:V}{u:AB}(ry:RelV y u):KV (putK kvs k y) (stored vs k u):=by
 unfold putK stored
 rw[r.any k]
 by_cases e:(vs.any fun kv=>decide (kv.1=k))=true
 ·rw[if_pos e,if_pos e]; exact r.repl k ry
 ·rw[if_neg e,if_neg e]; exact Paired.snoc r ⟨rfl,ry⟩
end
theorem zBi{P:Ac}{w:Al}{k:Key}{u:AB}(r:RelV (kV k) u):(mixKind P w).is k u=true:=by
 cases k with
 | inl i=>obtain⟨t,e⟩:=(show ∃ t,u=Eg i t from r); subst e; exact zEz P w i t
 | inr x=>obtain⟨t,e⟩:=(show ∃ t,u=Eh x t from r); subst e; exact zBK P w x t
theorem zDF{P:Ac}{w:Al}:∀ {ks:List Key} {us:List AB},Vals (ks.map kV) us->ItemsAre (mixKind P w) ks us
 | [],_,r=>by rw[FJ]at r; cases r; exact .nil
 | k::ks,_,r=>by
  rw[Ah]at r
  cases r with
  | cons h t=>exact .cons (zBi h) (zDF t)
abbrev KT(H:Hp):List (List Key×V)->List (List Key×Addr×AB)->Prop:=Bp fun p q=>p.1=q.1/\H q.2.1=some (.tup (p.1.map kV))/\RelV p.2 q.2.2
theorem KT.val{H:Hp}{kvs:List (List Key×V)}{xs:List (List Key×Addr×AB)}(r:KT H kvs xs)(k:List Key):RelO (valV kvs k) ((Hm xs k).map (·.2)):=by
 induction r with
 | nil=>exact DM
 | @cons p q ps qs h t ih =>
  obtain⟨h1,_,h2⟩:=h
  by_cases e:p.1=k
  ·have e':q.1=k:=h1.symm.trans e
   have b:Hm (q::qs) k=some q.2:=by simp[Hm,Bf,e']
   rw[zBU e,b]; exact h2
  ·have e':¬ q.1=k:=fun z=>e (h1.trans z)
   have b:Hm (q::qs) k=Hm qs k:=by simp[Hm,Bf,e']
   rw[zBX e,b]; exact ih
section
variable {P:Ac}{w:Al}{H:Hp}{h:Heap}{a:Addr}
theorem zI8{u:HO}(ok:HOk P w H h)(e:Rd H a u):ObjOk P w H h a u:=e.ok ok
theorem zCc{kvs:List (Key×V)}(ok:HOk P w H h)(e:Rd H a (.dK kvs)):kvs.length<=AC/\(a == Bm)=false/\∃ vs,KV kvs vs/\h.DictOf (mixKind P w) a vs :=
 show ObjOk P w H h a (.dK kvs) from zI8 ok e
theorem zLz{kvs:List (Key×V)}(ok:HOk P w H h)(e:H a=some (.dK kvs)):kvs.length<=AC/\(a == Bm)=false/\∃ vs,KV kvs vs/\h.DictOf (mixKind P w) a vs:=zCc ok (.inl e)
theorem zD8{ks:List Key}(ok:HOk P w H h)(e:H a=some (.tup (ks.map kV))):(GA (mixKind P w)).is h ks a:=by
 obtain⟨_,its,r,o,h1,h2,⟨n,h3⟩,_⟩:=(show ObjOk P w H h a (.tup (ks.map kV)) from ok a _ e)
 exact⟨o,its.toArray,n,h1,h2,h3,by simpa using zDF r⟩
theorem zDl{kvs:List (List Key×V)}(ok:HOk P w H h)(e:Rd H a (.dT kvs)):kvs.length<=AC/\(a == Bm)=false /\
  ∃ xs,KT H kvs xs/\h.DictOfH (GA (mixKind P w)) a xs:=by
 obtain⟨z,y,xs,r,o,es,ep,h1,h2,h3,h4,h5⟩:=(show ObjOk P w H h a (.dT kvs) from zI8 ok e)
 refine⟨z,y,xs,r,o,es,ep,h1,h2,h3,h4,fun x hx=>?_,h5⟩
 have all:∀ {l:List (List Key×V)} {m:List (List Key×Addr×AB)},KT H l m->∀ x∈m,(GA (mixKind P w)).is h x.1 x.2.1:=by
  intro l m q
  induction q with
  | nil=>intro x hx; exact nomatch hx
  | @cons p q ps qs hq t ih =>
   intro x hx
   rcases AF.mp hx with e | hx
   ·subst e
    exact zD8 ok (by rw[← hq.1]; exact hq.2.1)
   ·exact ih x hx
 exact all r x hx
end
def DGet(H:Hp)(a:Addr)(y:V)(r:Option V):Prop :=
 (∃ kvs k,Rd H a (.dK kvs)/\y=kV k/\r=valV kvs k)\/∃ kvs k b,Rd H a (.dT kvs)/\y=.ref b/\H b=some (.tup (k.map kV))/\r=valV kvs k
theorem DGet.k{H:Hp}{a:Addr}{kvs:List (Key×V)}{k:Key}(e:H a=some (.dK kvs)):DGet H a (kV k) (valV kvs k):=.inl ⟨kvs,k,.inl e,rfl,rfl⟩
theorem DGet.t{H:Hp}{a b:Addr}{kvs:List (List Key×V)}{k:List Key}(e:H a=some (.dT kvs))(eb:H b=some (.tup (k.map kV))):DGet H a (.ref b) (valV kvs k):=.inr ⟨kvs,k,b,.inl e,rfl,eb,rfl⟩
section
variable {X:Cx}{pins:List (Addr×Obj)}{σ:St}{H:Hp}{s:AH}{a:Addr}{y v:V}{u r:AB}{o:Option V}{A:A5}{E:AB->AH->Prop}
theorem Inv.big(I:Inv X pins σ H s):Bm < s.heap.objs.size:=by
 have h:AU < s.heap.objs.size:=(I.mod.glob.keeps I.bk).lt
 exact FN (by decide) h
theorem zGb{Q:AB->AH->Prop}(hu:A.units+1 < HD)(I:Inv X pins σ H s)(g:DGet H a y (some v))(ry:RelV y u)(h:∀ w' s',Inv X pins σ H s'->RelV v w'->Q w' s') :
  AZ (model X.prog X.w) A (EN (.ref a) u) Q E s:=by
 rcases g with ⟨kvs,k,e,ey,l⟩ | ⟨kvs,k,b,e,ey,eb,l⟩
 ·subst ey
  obtain⟨z,hd,vs,rel,dd⟩:=zCc I.hok e
  obtain⟨w',hw,rw'⟩:=RelO.some_of (v:=v) (o:=Ct vs k) (by rw[l]; exact rel.val k)
  exact JK (zBi ry) dd.mapOf hw (h w' _ (I.tok _) rw')
 ·subst ey
  cases (show u=Aj b from ry)
  obtain⟨z,hd,xs,rel,dd⟩:=zDl I.hok e
  obtain⟨w',hw,rw'⟩:=RelO.some_of (v:=v) (o:=(Hm xs k).map (·.2)) (by rw[l]; exact rel.val k)
  obtain⟨p,hp,hp2⟩:=Option.map_eq_some_iff.mp hw
  refine wpAny_getItem_heap (II hu) (zD8 I.hok eb) dd hp ?_
  rw[hp2]
  exact h w' _ (I.tok _) rw'
theorem zJF{h':Heap}{t':Nat}{ob:HO}(I:Inv X pins σ H s)(mu:Mut (H a))(hs:Dd a s.heap h')(he:∃ q,h'.get? a=some q)(new:ObjOk X.prog X.w (upd H a ob) h' a ob) :
  Inv X pins σ (upd H a ob) { s with heap:=h',toks:=t' } :=
 I.write (x:=a) (e:=a) mu (.inl rfl) (fun b q hb z=>(hs.2 b hb).trans z) he new
theorem zLF{P:Ac}{w:Al}{H':Hp}{h':Heap}{kvs:List (Key×V)}{vs:List (Key×AB)}(z:kvs.length<=AC)(hd:(a == Bm)=false)(rel:KV kvs vs)(dd:h'.DictOf (mixKind P w) a vs) :
  ObjOk P w H' h' a (.dK kvs):=⟨z,hd,vs,rel,dd⟩
end
def NoSl(i:Expr):Prop:=∀ ov iv,subscripted i false ov iv=operate [ov,iv] (EN ov iv)
theorem zFK{prog:Ac}{w:Al}{A:A5}{E:AB->AH->Prop}{s:AH}{env:Env}{value slice:Expr}{pos:Pos}{T id:String}{Q:AB->AH->Prop}
  (hl:DX (.type T) "__getitem__"=pure (some (.builtin id))) (hs:NoSl slice)
  (h:AZ (model prog w) A (eval value env) (fun o s₁=>AZ (model prog w) A (eval slice env) (fun i s₂=>s₂.TypeIs o T/\AZ (model prog w) A (EN o i) Q E s₂) E s₁) E s) :
  AZ (model prog w) A (eval (.Subscript value slice pos) env) Q E s:=by
 refine IE (BG h (fun o s₁ h₁=>BG h₁ (fun i s₂ h₂=>?_) fun _ _ x=>x) fun _ _ x=>x)
 obtain⟨hT,h₂⟩:=h₂
 unfold G6
 refine AA ?_
 rw[getitemInPython_of_ne hT.not_modules]
 refine AA (wpAny_specialOf hT hl ?_)
 have fin:AZ (model prog w) A (subscripted slice false o i) (fun r s₃=>AZ (model prog w) A (letTemporaryGo value o r >>= fun _=>pure r) Q E s₃) E s₂:=by
  rw[hs o i]
  exact wpAny_operating (BG h₂ (fun r s₃ h₃=>AA (wpAny_letTemporaryGo (AO h₃))) fun _ _ x=>x)
 first
  | exact AO (AA fin)
  | exact AA (AO (AA fin))
  | exact AA fin
theorem zEs{X:Cx}{pins:List (Addr×Obj)}{σ:St}{H:Hp}{s:AH}{a:Addr}{y:V}{o:Option V}(I:Inv X pins σ H s)(g:DGet H a y o):s.TypeIs (.ref a) "dict":=by
 rcases g with ⟨kvs,k,e,_,_⟩ | ⟨kvs,k,b,e,_,_,_⟩
 ·obtain⟨_,_,vs,_,dd⟩:=zCc I.hok e
  exact dd.typeIs
 ·obtain⟨_,_,xs,_,dd⟩:=zDl I.hok e
  exact dd.typeIs
def tDGet(td ty:TE):TE:=fun σ H Q=>td σ H fun x H1=>ty σ H1 fun y H2=>∃ a v,x=.ref a/\DGet H2 a y (some v)/\Q v H2
section
variable {X:Cx}{o i e value:Expr}{pos pos' tpos:Pos}{td ty tv:TE}
theorem zJQ(hu:X.A.units+1 < HD)(ho:PE X o td)(hi:PE X i ty)(hs:NoSl i):PE X (.Subscript o i pos) (tDGet td ty):=by
 intro pins s σ H Q I h
 refine zFK Fk.lookup hs (thn (ho pins s σ H _ I h) fun u s1 ⟨x,H1,I1,rx,q1⟩=>thn (hi pins s1 σ H1 _ I1 q1) fun iv s2 ⟨y,H2,I2,ry,a,v,ex,g,q2⟩=>?_)
 subst ex
 obtain rfl:u=Aj a:=rx
 exact⟨zEs I2 g,zGb hu I2 g ry fun w' s3 I3 rw'=>⟨v,H2,I3,rw',q2⟩⟩
end
theorem zHz{P:Ac}{w:Al}{H:Hp}(h:Heap)(hb:Bm < h.objs.size):ObjOk P w H (h.push { cls:=.type "dict",data:=.dict #[] }) h.objs.size (.dK []) :=
 ⟨Cq _,beq_eq_false_iff_ne.mpr (Av (BJ hb)),[],.nil,J7 h⟩
def tPairs:List (TE×TE)->St->Hp->(List (V×V)->Hp->Prop)->Prop
 | [],_,H,Q=>Q [] H
 | (tk,tv)::r,σ,H,Q=>tk σ H fun x H1=>tv σ H1 fun y H2=>tPairs r σ H2 fun ps H3=>Q ((x,y)::ps) H3
abbrev VV:List (V×V)->List (AB×AB)->Prop:=Bp fun p q=>RelV p.1 q.1/\RelV p.2 q.2
def PPs(X:Cx)(pos:Pos)(keys:List (Option Expr))(values:List Expr)(trs:List (TE×TE)):Prop :=
 ∀ (pins:List (Addr×Obj)) (s:AH) (σ:St) (H:Hp) (Q:List (V×V)->Hp->Prop),Inv X pins σ H s->tPairs trs σ H Q ->
  AZ (model X.prog X.w) X.A (evalPairs (pairTrees keys values X.env pos)) (fun vs s'=>∃ ps H',Inv X pins σ H' s'/\VV ps vs/\Q ps H') X.xe s
theorem zJv{X:Cx}{pos:Pos}:PPs X pos [] [] []:=fun pins s σ H Q I h=>pairTrees_nil_walk ⟨[],H,I,.nil,h⟩
theorem zIm{X:Cx}{pos:Pos}{k v:Expr}{ks:List (Option Expr)}{vs:List Expr}{tk tv:TE}{trs:List (TE×TE)}(hk:PE X k tk)(hv:PE X v tv)(hr:PPs X pos ks vs trs) :
  PPs X pos (some k::ks) (v::vs) ((tk,tv)::trs):=fun pins s σ H Q I h =>
 pairTrees_cons_walk (thn (hk pins s σ H _ I h) fun u s1 ⟨x,H1,I1,rx,q1⟩=>thn (hv pins s1 σ H1 _ I1 q1) fun w2 s2 ⟨y,H2,I2,ry,q2⟩ =>
  thn (hr pins s2 σ H2 _ I2 q2) fun ws s3 ⟨ps,H3,I3,rel,q3⟩=>⟨(x,y)::ps,H3,I3,.cons ⟨rx,ry⟩ rel,q3⟩)
def mergeK(kvs more:List (Key×V)):List (Key×V):=more.foldl (fun acc kv=>putK acc kv.1 kv.2) kvs
theorem KV.merge:∀ {more:List (Key×V)} {rs:List (Key×AB)} {kvs:List (Key×V)} {vs:List (Key×AB)},KV more rs->KV kvs vs->KV (mergeK kvs more) (merged vs rs):=by
 intro more rs kvs vs r
 unfold KV at r
 induction r generalizing kvs vs with
 | nil=>intro q; exact q
 | @cons p q ps qs h t ih =>
  intro r0
  have e:KV (putK kvs p.1 p.2) (stored vs q.1 q.2):=by
   have:=r0.put p.1 h.2
   rw[← h.1]; exact this
  exact ih e
theorem zBj:∀ (more kvs:List (Key×V)),(mergeK kvs more).length<=kvs.length+more.length
 | [],kvs=>by show kvs.length<=kvs.length+0; omega
 | p::r,kvs=>by
  have h1:=zBj r (putK kvs p.1 p.2)
  have h2:=zEw kvs p.1 p.2
  show (mergeK (putK kvs p.1 p.2) r).length<=_
  rw[AW]; omega
theorem zCn{P:Ac}{w:Al}:∀ {kvs:List (Key×V)} {ws:List (AB×AB)},VV (kvs.map fun kv=>(kV kv.1,kv.2)) ws->∃ rs,Carries (mixKind P w) ws rs/\KV kvs rs
 | [],_,r=>by rw[FJ]at r; cases r; exact⟨[],DM,.nil⟩
 | p::kvs,_,r=>by
  rw[Ah]at r
  cases r with
  | @cons a b as bs h t =>
   obtain⟨rs,c,q⟩:=zCn (P:=P) (w:=w) t
   obtain⟨b1,b2⟩:=b
   exact⟨(p.1,b2)::rs,⟨zBi h.1,rfl,c⟩,.cons ⟨rfl,h.2⟩ q⟩
def tDisp(trs:List (TE×TE)):TE:=fun σ H Q=>∀ p,H p=none->tPairs trs σ (upd H p (.dK [])) fun ps H2=>H2 p=some (.dK [])/\∃ kvs:List (Key×V),ps=kvs.map (fun kv=>(kV kv.1,kv.2))/\kvs.length<=15/\Q (.ref p) (upd H2 p (.dK (mergeK [] kvs)))
theorem zJa{X:Cx}{pos:Pos}{keys:List (Option Expr)}{values:List Expr}{trs:List (TE×TE)}(h:PPs X pos keys values trs)(hall:keys.all (·.isSome)=true)(hl:keys.length=values.length)(h0:keys≠[])
  (h15:keys.length<=15):PE X (.Dict keys values pos) (tDisp trs):=by
 intro pins s σ H Q I q
 have hn:=I.hok.fresh (AL s.heap.objs.size)
 have I1:=I.laid (a:=s.heap.objs.size) (o:=.dK []) (h':=s.heap.push { cls:=.type "dict",data:=.dict #[] }) (t':=s.toks) (fun _ _ q=>AI _ q) (AL _) (zHz s.heap I.big)
 refine wpAny_Dict_walk (knd:=mixKind X.prog X.w) hall hl h0 h15 (thn (h pins _ σ _ _ I1 (q _ hn)) fun ws s2 ⟨ps,H2,I2,rel,e,kvs,ep,lk,q2⟩=>?_)
 subst ep
 obtain⟨rs,c,rk⟩:=zCn (P:=X.prog) (w:=X.w) rel
 obtain⟨z,hd,vs0,r0,dd⟩:=zLz I2.hok e
 cases r0
 refine⟨rs,c,dd,fun h' dd' hs=>⟨.ref s.heap.objs.size,_,?_,rfl,q2⟩⟩
 have hz:(mergeK [] kvs).length<=AC:=by
  have h1:=zBj kvs []
  rw[DR]at h1
  rw[EL]; omega
 have he:∃ q,h'.get? s.heap.objs.size=some q:=let ⟨q,_,_,hq,_⟩:=dd'; ⟨q,hq⟩
 exact zJF I2 (by rw[e]; exact DM) hs he (zLF hz hd (rk.merge .nil) dd')
structure M2(X:Cx)(o:Expr)(m:Str)(apos:Pos)(e f:Expr)(cpos:Pos):Prop where
 base:CK o m X.env (eval o X.env)=eval o X.env
 few:((Bg cpos (AR [e,f] X.env)).all (fun x=>!x.1) && (Gn cpos (FC [] X.env)).all (fun x=>x.1.isSome)
  && decide (([e,f]:List Expr).length+([]:List EO).length+(if ([]:List EO).isEmpty then 0 else 1) < 30))=true
 line:(apos.endLine == cpos.line)=true
 trees:Bg cpos (AR [e,f] X.env)=[(false,eval e X.env),(false,eval f X.env)]
def IsD(H:Hp)(a:Addr):Prop:=(∃ kvs,Rd H a (.dK kvs))\/∃ kvs,Rd H a (.dT kvs)
theorem zLH{X:Cx}{pins:List (Addr×Obj)}{σ:St}{H:Hp}{s:AH}{a:Addr}(I:Inv X pins σ H s)(d:IsD H a) :
  s.TypeIs (.ref a) "dict"/\(∀ b,Aj a=.ref b->∃ ob,s.heap.get? b=some ob/\ob.dict=none)/\(a == Bm)=false:=by
 rcases d with ⟨kvs,e⟩ | ⟨kvs,e⟩
 ·obtain⟨_,hd,vs,_,dd⟩:=zCc I.hok e
  refine⟨dd.typeIs,fun b q=>?_,hd⟩
  cases q
  obtain⟨ob,_,_,h1,h2,_⟩:=dd
  exact⟨ob,h1,h2.2.1⟩
 ·obtain⟨_,hd,xs,_,dd⟩:=zDl I.hok e
  refine⟨dd.typeIs,fun b q=>?_,hd⟩
  cases q
  obtain⟨ob,_,_,h1,h2,_⟩:=dd
  exact⟨ob,h1,h2.2.1⟩
section
variable {X:Cx}{pins:List (Addr×Obj)}{σ:St}{H:Hp}{s:AH}{a:Addr}{y d:V}{u r:AB}{o:Option V}{A:A5}{E:AB->AH->Prop}
theorem zK7{Q:AB->AH->Prop}(hu:A.units+1 < HD)(I:Inv X pins σ H s)(g:DGet H a y o)(ry:RelV y u)(rd:RelV d r)(h:∀ w' s',Inv X pins σ H s'->RelV (o.getD d) w'->Q w' s') :
  AZ (model X.prog X.w) A (call (.builtin "dict.get") [.ref a,u,r]) Q E s:=by
 rcases g with ⟨kvs,k,e,ey,l⟩ | ⟨kvs,k,b,e,ey,eb,l⟩
 ·subst ey
  obtain⟨z,hd,vs,rel,dd⟩:=zCc I.hok e
  refine Ki EJ dd.typeIs GF (F0 _ _ _) (meets_dict_get_default (mixKind X.prog X.w) a (zBi ry) hd r) ⟨_,dd.mapOf,h _ _ (I.tok _) ?_⟩
  rw[l]
  exact (rel.val k).getD rd
 ·subst ey
  cases (show u=Aj b from ry)
  obtain⟨z,hd,xs,rel,dd⟩:=zDl I.hok e
  refine Ki EJ dd.typeIs GF (F0 _ _ _) (meetsH_dict_get_default (GA (mixKind X.prog X.w)) a b hd r) ⟨II hu,k,xs,zD8 I.hok eb,dd,h _ _ (I.tok _) ?_⟩
  rw[l]
  exact (rel.val k).getD rd
end
def tDGet2(td ty tx:TE):TE:=fun σ H Q=>td σ H fun x H1=>∃ a,x=.ref a/\IsD H1 a/\ty σ H1 fun y H2=>tx σ H2 fun z H3=>∃ o,DGet H3 a y o/\Q (o.getD z) H3
section
variable {X:Cx}{o e f:Expr}{apos cpos:Pos}{td ty tx:TE}
theorem zIR(hu:X.A.units+1 < HD)(ho:PE X o td)(he:PE X e ty)(hf:PE X f tx)(m:M2 X o "get" apos e f cpos):PE X (.Call (.Attribute o "get" apos) [e,f] [] cpos) (tDGet2 td ty tx):=by
 intro pins s σ H Q I h
 refine wpAny_Call_method m.base m.few m.line PySem.F.plainAttrs_dict EJ PySem.F.type_dict_get (thn (ho pins s σ H _ I h) fun u s1 ⟨x,H1,I1,rx,a,ex,d,q1⟩=>?_)
 subst ex
 obtain rfl:u=Aj a:=rx
 obtain⟨t1,t2,_⟩:=zLH I1 d
 refine⟨t1,t2,?_⟩
 rw[m.trees]
 refine EH rfl (Gp (Dg (thn (he pins s1 σ H1 _ I1 q1) fun iv s2 ⟨y,H2,I2,ry,q2⟩ =>
  Dg (thn (hf pins s2 σ H2 _ I2 q2) fun fv s3 ⟨z,H3,I3,rz,ov,g,q3⟩=>HE ?_))))
 exact zK7 hu I3 g ry rz fun w' s4 I4 rw'=>⟨_,H3,I4,rw',q3⟩
end
end L2
namespace D
open PySem L2
def keyT:T->Option Key
 | .a (.int n)=>some (.inl n)
 | .a (.str x)=>some (.inr x)
 | _=>none
def keyTs:List T->Option (List Key)
 | []=>some []
 | t::r=>(keyT t).bind fun k=>(keyTs r).map fun ks=>k::ks
theorem zFb{K:Fg}{H:Hp}{y:V}{t:T}{k:Key}(h:Im K H y t)(e:keyT t=some k):y=kV k:=by
 unfold keyT at e
 split at e
 ·cases e; exact h.inva
 ·cases e; exact h.inva
 ·cases e
theorem zEK{K:Fg}{H:Hp}:∀ {vs:List V} {ts:List T} {ks:List Key},Ims K H vs ts->keyTs ts=some ks->vs=ks.map kV
 | _,[],_,h,e=>by cases e; exact h.inv0
 | _,t::r,_,h,e=>by
  obtain⟨v,vs,rfl,h1,h2⟩:=h.inv
  obtain⟨k,e1,e⟩:=bind_some e
  obtain⟨ks,e2,e⟩:=zAA e
  subst e
  rw[zFb h1 e1,zEK h2 e2]; rfl
def KC(K:Fg)(cs:List (List Key)):Prop:=∀ p ks,KT K p (ks.map kV)->ks∈cs
section
variable {κ:Type} [DecidableEq κ]
def valT(kvs:List (κ×T))(k:κ):Option T:=(kvs.find? fun kv=>decide (kv.1=k)).map (·.2)
def PR(K:Fg)(H:Hp)(l:List (κ×V))(kvs:List (κ×T)):Prop:=Bp (fun a b=>a.1=b.1/\Im K H a.2 b.2) l kvs
variable {K:Fg}{H:Hp}
theorem PR.val{l:List (κ×V)}{kvs:List (κ×T)}(h:PR K H l kvs)(k:κ):(valV l k=none/\valT kvs k=none)\/∃ v t,valV l k=some v/\valT kvs k=some t/\Im K H v t:=by
 induction h with
 | nil=>exact .inl ⟨rfl,rfl⟩
 | @cons a b l kvs hab _ ih =>
  by_cases e:a.1=k
  ·refine .inr ⟨a.2,b.2,zBU e,?_,hab.2⟩
   simp[valT,Bf,← hab.1,e]
  ·rw[zBX e]
   have:valT (b::kvs) k=valT kvs k:=by simp[valT,Bf,← hab.1,e]
   rw[this]; exact ih
end
def dictOf(Γ:En):S->Option Dk
 | .d d=>some d
 | .s i=>match Γ[i]? with
  | some (some (.d d))=>some d
  | some (some (.e d))=>some d
  | _=>none
 | _=>none
def getX(cs:List (List Key))(d:Dk)(t:T):Option (Option T):=match d,t with
 | .inl kvs,t=>(keyT t).map fun k=>valT kvs k
 | .inr kvs,.t ts=>(keyTs ts).bind fun ks=>if (cs.any fun c=>decide (c=ks))=true then none else some (valT kvs ks)
 | _,_=>none
section
variable {K:Fg}{C:Fr}{w:W}{Γ:En}{σ:St}{H:Hp}{cs:List (List Key)}
theorem zC0{x:V}{s:S}{d:Dk}(R:Rep K C w Γ σ H)(o:SOk K C w σ H x s)(e:dictOf Γ s=some d):∃ p ob,x=.ref p/\H p=some ob/\DOk K H ob d:=by
 cases s with
 | v t=>cases e
 | l _=>cases e
 | d d' =>
  cases e
  obtain⟨p,ob,rfl,_,_,_,h1,h2⟩:=o
  exact⟨p,ob,rfl,h1,h2⟩
 | s i =>
  unfold dictOf at e
  have o':σ[i]?=some (some x):=o
  dsimp only at e
  split at e
  ·rename_i d' hi
   cases e
   obtain⟨v,e1,p,ob,rfl,_,h1,h2⟩:=R.val i _ hi
   rw[o']at e1; cases e1
   exact⟨p,ob,rfl,h1,h2⟩
  ·rename_i d' hi
   cases e
   obtain⟨v,e1,p,ob,rfl,h2,h1,_⟩:=R.val i _ hi
   rw[o']at e1; cases e1
   exact⟨p,ob,rfl,h1,h2⟩
  ·cases e
theorem DOk.invK{ob:HO}{kvs:List (Key×T)}(h:DOk K H ob (.inl kvs)):∃ l,ob=.dK l/\PR K H l kvs:=by
 cases ob with
 | dK l=>exact⟨l,rfl,h⟩
 | _=>exact h.elim
theorem DOk.invT{ob:HO}{kvs:List (List Key×T)}(h:DOk K H ob (.inr kvs)):∃ l,ob=.dT l/\PR K H l kvs:=by
 cases ob with
 | dT l=>exact⟨l,rfl,h⟩
 | _=>exact h.elim
theorem DOk.isD{ob:HO}{p:Addr}{d:Dk}(h:DOk K H ob d)(hp:H p=some ob):IsD H p:=by
 cases d with
 | inl kvs=>obtain⟨l,rfl,_⟩:=h.invK; exact .inl ⟨l,.inl hp⟩
 | inr kvs=>obtain⟨l,rfl,_⟩:=h.invT; exact .inr ⟨l,.inl hp⟩
theorem zE4{ts:List T}{ks:List Key}{y:V}(hc:KC K cs)(h:Im K H y (.t ts))(e:keyTs ts=some ks)(n:¬ (cs.any fun c=>decide (c=ks))=true):∃ b,y=.ref b/\H b=some (.tup (ks.map kV)):=by
 obtain⟨b,vs,rfl,h1,h2⟩:=h.inv
 have:=zEK h2 e
 subst this
 rcases h1 with h1 | h1
 ·exact⟨b,rfl,h1⟩
 ·exact absurd (ED.mpr ⟨ks,hc b ks h1,decide_eq_true rfl⟩) n
theorem zHa{p:Addr}{ob:HO}{d:Dk}{y:V}{t:T}{r:Option T}(hc:KC K cs)(hp:H p=some ob)(hd:DOk K H ob d)(hy:Im K H y t)(e:getX cs d t=some r) :
  ∃ r',DGet H p y r'/\((r=none/\r'=none)\/∃ t' v',r=some t'/\r'=some v'/\Im K H v' t'):=by
 unfold getX at e
 split at e
 ·rename_i kvs t
  obtain⟨l,rfl,h1⟩:=hd.invK
  obtain⟨k,e1,e⟩:=zAA e
  subst e
  rw[zFb hy e1]
  refine⟨_,DGet.k hp,?_⟩
  rcases h1.val k with ⟨a,b⟩ | ⟨v,t',a,b,c⟩
  ·exact .inl ⟨b,a⟩
  ·exact .inr ⟨t',v,b,a,c⟩
 ·rename_i kvs ts
  obtain⟨l,rfl,h1⟩:=hd.invT
  obtain⟨ks,e1,e⟩:=bind_some e
  split at e
  ·cases e
  ·rename_i n
   cases e
   obtain⟨b,rfl,h2⟩:=zE4 hc hy e1 n
   refine⟨_,DGet.t hp h2,?_⟩
   rcases h1.val ks with ⟨a,b⟩ | ⟨v,t',a,b,c⟩
   ·exact .inl ⟨b,a⟩
   ·exact .inr ⟨t',v,b,a,c⟩
 ·cases e
end
def getS(cs:List (List Key)):En->S->S->Option S:=fun Γ a b=>(dictOf Γ a).bind fun d=>match b with
 | .v t=>(getX cs d t).bind fun r=>r.map .v
 | _=>none
def rDGet:R2:=fun x y H Q=>∃ a v,x=.ref a/\DGet H a y (some v)/\Q v H
section
variable {K:Fg}{cs:List (List Key)}
theorem zF2(hc:KC K cs):SimR2 K rDGet (getS cs):=by
 intro C w Γ σ H x y a b s Q R ox oy e k
 obtain⟨d,e1,e⟩:=bind_some e
 split at e
 ·rename_i t
  obtain⟨r,e2,e⟩:=bind_some e
  obtain⟨p,ob,rfl,hp,hd⟩:=zC0 R ox e1
  obtain⟨r',g,z⟩:=zHa hc hp hd oy e2
  rcases z with ⟨z,_⟩ | ⟨t2,v2,z1,z2,z3⟩
  ·subst z; cases e
  ·subst z1 z2; cases e
   exact⟨p,v2,rfl,g,k _ H R .refl z3 trivial⟩
 ·cases e
def dDGet2(cs:List (List Key))(fo fk fx:DE):DE:=fun Γ=>(fo Γ).bind fun p=>if (dictOf p.2 p.1).isSome=true then (fk p.2).bind fun q=>(fx q.2).bind fun z=>(dictOf z.2 p.1).bind fun d=>match q.1,z.1 with
 | .v t,.v u=>(getX cs d t).map fun r=>(.v (r.getD u),z.2)
 | _,_=>none
 else none
theorem zHm(hc:KC K cs){td ty tx:TE}{fo fk fx:DE}(ho:SimE K td fo)(hk:SimE K ty fk)(hx:SimE K tx fx):SimE K (tDGet2 td ty tx) (dDGet2 cs fo fk fx):=by
 intro C w Γ σ H s Γ' Q R e k
 obtain⟨⟨a,G1⟩,e1,e⟩:=bind_some e
 dsimp only at e
 split at e
 rotate_left
 ·cases e
 rename_i hs0
 obtain⟨d0,hs0⟩:=B7.mp hs0
 obtain⟨⟨b,G2⟩,e2,e⟩:=bind_some e
 obtain⟨⟨c,G3⟩,e5,e⟩:=bind_some e
 obtain⟨d,e3,e⟩:=bind_some e
 dsimp only at e
 split at e
 rotate_left
 ·cases e
 rename_i t u hb hu
 obtain⟨r,e4,e⟩:=zAA e
 cases e
 refine ho C w Γ σ H a G1 _ R e1 fun v H1 R1 ev1 o1 n1=>?_
 obtain⟨p,ob,rfl,hp,hd⟩:=zC0 R1 o1 hs0
 refine⟨p,rfl,hd.isD hp,?_⟩
 refine hk C w G1 σ H1 _ _ _ R1 e2 fun y H2 R2 ev2 o2 n2=>?_
 refine hx C w G2 σ H2 _ _ _ R2 e5 fun z H3 R3 ev3 o3 n3=>?_
 obtain⟨p2,ob2,ep,hp2,hd2⟩:=zC0 R3 ((o1.evo ev2 R1.lst).evo ev3 R2.lst) e3
 cases ep
 have o2':Im K H3 y t:=Im.evo ev3 R2.lst o2
 obtain⟨r',g,z⟩:=zHa hc hp2 hd2 o2' e4
 refine⟨r',g,?_⟩
 rcases z with ⟨z1,z2⟩ | ⟨t2,v2,z1,z2,z3⟩
 ·subst z1 z2
  exact k _ H3 R3 ((ev1.trans ev2).trans ev3) o3 trivial
 ·subst z1 z2
  exact k _ H3 R3 ((ev1.trans ev2).trans ev3) z3 trivial
end
section
variable {ι:Type}{K:Fg}{mg:Str->Option AB}{k:Nat}{X:ι->Cx}{cs:List (List Key)}{o i e f:Expr}{fo fk fx:DE}{pos apos cpos:Pos}{ip:Option Nat}
theorem un1(M:Fm K mg k X)(j:ι):(X j).A.units+1 < HD:=by have:=(M.room j).un; omega
theorem zNM(M:Fm K mg k X)(hc:KC K cs)(ho:EX K X o fo)(hk:EX K X i fk)(hs:NoSl i:=by intro _ _; rfl):EX K X (.Subscript o i pos) (dOp (getS cs) fo fk) :=
 let ⟨_,p,s⟩:=ho; let ⟨_,q,u⟩:=hk; ⟨_,fun j=>zJQ (un1 M j) (p j) (q j) hs,zBm (zF2 hc) s u⟩
theorem ex_dget2(M:Fm K mg k X)(hc:KC K cs)(ho:EX K X o fo)(hk:EX K X e fk)(hx:EX K X f fx)(m:∀ j,M2 (X j) o "get" apos e f cpos:=by intro _; exact⟨rfl,rfl,rfl,rfl⟩):EX K X (.Call (.Attribute o "get" apos) [e,f] [] cpos) (dDGet2 cs fo fk fx) :=
 let ⟨_,p,s⟩:=ho; let ⟨_,q,u⟩:=hk; let ⟨_,r,v⟩:=hx; ⟨_,fun j=>zIR (un1 M j) (p j) (q j) (r j) (m j),zHm hc s u v⟩
end
section
variable {Γ:En}{cs:List (List Key)}{fo fk fx:DE}{i:Nat}
@[simp] theorem zBI:dDGet2 cs fo fk fx Γ=(fo Γ).bind fun p=>if (dictOf p.2 p.1).isSome=true then (fk p.2).bind fun q=>(fx q.2).bind fun z=>(dictOf z.2 p.1).bind fun d=>match q.1,z.1 with
 | .v t,.v u=>(getX cs d t).map fun r=>(.v (r.getD u),z.2)
 | _,_=>none
 else none:=(rfl)
end
section
variable {K:Fg}{C:Fr}{w:W}{Γ:En}{σ:St}{H:Hp}
theorem Rep.tmp{p:Addr}{ob ob':HO}(r:Rep K C w Γ σ H)(n1:p∉w.L)(n2:¬ w.R p)(ow:Ow C p)(hp:H p=some ob)(m:Mu ob):Rep K C w Γ σ (upd H p ob'):=by
 have ev:Evo (p::w.L) H (upd H p ob'):=fun c o e n=>by rw[zAC (fun z:c=p=>n (by rw[z]; exact AE))]; exact e
 have hL:LL (p::w.L) H:=fun q hq=>by
  rcases AF.mp hq with z | z
  ·subst z; exact⟨ob,hp,m⟩
  ·exact r.lst q z
 have nl:∀ {q:Addr},q∈w.L->q≠p:=fun hq z=>n1 (z ▸ hq)
 have nr:∀ {q:Addr},w.R q->q≠p:=fun hq z=>n2 (z ▸ hq)
 refine⟨r.len,fun i g h=>?_,r.apart,fun q hq=>?_,r.own,fun q hq=>?_,r.rl,fun b o hb n=>?_,r.pin⟩
 ·obtain⟨v,e1,e2⟩:=r.val i g h
  refine⟨v,e1,?_⟩
  cases g with
  | v t=>exact Im.evo ev hL e2
  | l xs=>obtain⟨q,vs,rfl,hq,hv,hi⟩:=e2; exact⟨q,vs,rfl,hq,by rw[zAC (nl hq)]; exact hv,hi.evo ev hL⟩
  | r xs=>obtain⟨q,vs,rfl,hi,hv,a,b⟩:=e2; exact⟨q,vs,rfl,hi.evo ev hL,by rw[zAC (nr b)]; exact hv,a,b⟩
  | k xs=>obtain⟨q,vs,rfl,hi,hk⟩:=e2; exact⟨q,vs,rfl,hi.evo ev hL,hk.evo ev hL⟩
  | d xs=>obtain⟨q,o,rfl,hq,hv,hi⟩:=e2; exact⟨q,o,rfl,hq,by rw[zAC (nl hq)]; exact hv,hi.evo ev hL⟩
  | e xs=>obtain⟨q,o,rfl,hi,hv,a,b⟩:=e2; exact⟨q,o,rfl,hi.evo ev hL,by rw[zAC (nr b)]; exact hv,a,b⟩
 ·obtain⟨o,e,m⟩:=r.lst q hq
  exact⟨o,by rw[zAC (nl hq)]; exact e,m⟩
 ·obtain⟨o,e⟩:=r.ra q hq
  exact⟨o,by rw[zAC (nr hq)]; exact e⟩
 ·have hb':=r.frame b o hb n
  have:b≠p:=fun z=>by
   subst z
   rcases ow with ow | ow
   ·exact n ow
   ·rw[ow]at hb; cases hb
  rw[zAC this]; exact hb'
end
end D
namespace L2
open PySem PySem.W PyProof.Rows
section
variable {n:Nat}(h0:0 < n)
include h0
end
end L2
namespace D
open PySem L2 PyProof.Rows
def asTI:T->Option (List Int)
 | .t xs=>intsOf xs
 | _=>none
open PySem L2
end D
namespace D
open PySem L2
def ltTS:En->S->S->Option S:=fun _ a b=>match a,b with
 | .v s,.v t=>(asTI s).bind fun ns=>(asTI t).map fun ms=>mkB (HT.lexLt ns ms)
 | _,_=>none
section
variable {ι:Type}{K:Fg}{X:ι->Cx}{mg:Str->Option AB}{k:Nat}{Γ:En}
@[simp,simp ↓] theorem zNW{s t:T}:ltTS Γ (.v s) (.v t)=bnd (asTI s) (f:=⟨fun ns=>omp (asTI t) (f:=⟨fun ms=>mkB (HT.lexLt ns ms)⟩)⟩):=rfl
end
def keyI:List AB->Option (List Key)
 | []=>some []
 | .int i _::r=>(keyI r).map fun ks=>.inl i::ks
 | _=>none
theorem zDB:∀ {ks:List Key} {us:List AB},Vals (ks.map kV) us->∀ {js:List Key},keyI us=some js->js=ks
 | [],_,.nil,js,e=>by cases e; rfl
 | .inl m::r,_,.cons r1 r2,js,e=>by
  obtain⟨t,rfl⟩:=r1
  obtain⟨js',e1,rfl⟩:=zAA (show (keyI _).map (fun ks=>Eu m::ks)=some js from e)
  rw[zDB r2 e1]
 | .inr x::r,_,.cons r1 r2,js,e=>by
  obtain⟨t,rfl⟩:=r1
  cases e
def kcC(cs:List (List Key))(o:Obj):Bool:=match o.cls with
 | .type n=>if n="tuple" then (match o.data with
  | .seq its _=>match its.toList with
   | .int i t::r=>match keyI (.int i t::r) with
    | some ks=>cs.any fun c=>decide (c=ks)
    | none=>false
   | [.str x _]=>!(decide (x="yes") || decide (x="no")) || cs.any fun c=>decide (c=[.inr x])
   | _=>true
  | _=>true) else true
 | _=>true
theorem zLP{K:Fg}{cs:List (List Key)}(h:(K.all fun q=>kcC cs q.2)=true):KC K cs:=by
 intro p ks hk
 obtain⟨o,its,n,h1,h2,h3,h4,h5,h6,h7⟩:=hk
 have hm:∀ {l:Fg},l.lookup p=some o->(p,o)∈l:=by
  intro l
  induction l with
  | nil=>intro e; cases e
  | cons x r ih =>
   intro e
   obtain⟨a,b⟩:=x
   rw[BR]at e
   split at e
   ·rename_i hb
    cases e
    rw[eq_of_beq hb]; exact AE
   ·exact AG _ (ih e)
 have hz:=A4.mp h _ (hm h1)
 simp only[kcC,h2,h4,if_true]at hz
 cases ks with
 | nil=>cases h7
 | cons k r =>
  cases k with
  | inr x =>
   cases r with
   | cons _ _=>cases h7
   | nil =>
    generalize its.toList=L at h6 hz
    cases h6 with
    | cons r1 r2 =>
     obtain⟨t,rfl⟩:=r1
     cases r2
     have h8:(decide (x="yes") || decide (x="no"))=true:=h7
     dsimp only at hz
     rw[h8]at hz
     obtain⟨c,hc,e2⟩:=ED.mp hz
     rw[← of_decide_eq_true e2]; exact hc
  | inl m =>
   generalize its.toList=L at h6 hz
   cases h6 with
   | cons r1 r2 =>
    obtain⟨t,rfl⟩:=r1
    dsimp only at hz
    split at hz
    ·rename_i ks' e
     obtain⟨c,hc,e2⟩:=ED.mp hz
     have e3:=of_decide_eq_true e2
     have:=zDB (ks:=.inl m::r) (.cons ⟨t,rfl⟩ r2) e
     rw[← this,← e3]; exact hc
    ·cases hz
end D
namespace D
open PySem L2
example (P:Ac) (w:Al):(mixKind P w).hash (.inl 1)=1/\(mixKind P w).hash (.inl 2)=2:=⟨by rfl,by rfl⟩
end D
namespace D
open PySem L2
end D
namespace D
open PySem L2
@[simp high,simp ↓ high] theorem zOC{α:Type}{x y:α}:ifO (some 1) 1 x y=x:=rfl
@[simp high,simp ↓ high] theorem zOE{α:Type}{x y:α}:ifO (some 2) 2 x y=x:=rfl
@[simp high,simp ↓ high] theorem zOK{α:Type}{x y:α}:ifO (some 3) 3 x y=x:=rfl
@[simp high,simp ↓ high] theorem zOF{α:Type}{x y:α}:ifO (some 4) 4 x y=x:=rfl
@[simp high,simp ↓ high] theorem zOB{α:Type}{x y:α}:ifO (some 5) 5 x y=x:=rfl
@[simp high,simp ↓ high] theorem zPF{α:Type}{x y:α}:ifO (some 6) 6 x y=x:=rfl
@[simp high,simp ↓ high] theorem zOY{α:Type}{x y:α}:ifO (some 7) 7 x y=x:=rfl
@[simp high,simp ↓ high] theorem zN1{α:Type}{x y:α}:ifO (some 8) 8 x y=x:=rfl
@[simp high,simp ↓ high] theorem zOu{α:Type}{x y:α}:ifO (some 9) 9 x y=x:=rfl
@[simp high,simp ↓ high] theorem zMp{α:Type}{x y:α}:ifO (some 10) 10 x y=x:=rfl
abbrev Tb:=List (Str×Nat×DF)
def dFn(n:Str):DE:=fun Γ=>some (.v (.f n),Γ)
def NK(K:Fg)(mg:Str->Option AB)(n:Str):Prop:=∃ f,A8 K AU n=some (some (.ref f))/\mg n=some (.ref f)
theorem zLI{K:Fg}{n:Str}{f:Addr}(h:A8 K AU n=some (some (.ref f))):SimE K (tC (.ref f)) (dFn n):=by
 intro C w Γ σ H s Γ' Q R e k
 cases e
 exact k _ H R .refl (show Im K H _ (.f n) from Im.fn ⟨f,rfl,h⟩) trivial
section
variable {ι:Type}{P:Ac}{wd:Al}{base:Heap}{K:Fg}{mg:Str->Option AB}{k k' n:Nat}{X:ι->Cx}{e:Expr}{es:List Expr}{pos p:Pos}{da:DA}{x:Str}{tb:Tb}{Γ:En}
@[simp,simp ↓] theorem zOw{n:Str}:dFn n Γ=some (.v (.f n),Γ):=rfl
end
def SimP(K:Fg)(trs:List (TE×TE))(ks:List Key)(fa:DA):Prop:=∀ (C:Fr) (w:W) (Γ:En) (σ:St) (H:Hp) (ss:List S) (Γ':En) (Q:List (V×V)->Hp->Prop),Rep K C w Γ σ H->fa Γ=some (ss,Γ') ->
 (∀ vs H',Rep K C w Γ' σ H'->Evo w.L H H'->SOks K C w σ H' vs ss->vs.length=ks.length->Q ((ks.map kV).zip vs) H')->tPairs trs σ H Q
theorem zIL{K:Fg}:SimP K [] [] qQ:=by
 intro C w Γ σ H ss Γ' Q R e k
 cases e
 exact k [] H R .refl trivial rfl
theorem zGZ{K:Fg}{trs:List (TE×TE)}{ks:List Key}{fa:DA}{tv:TE}{fv:DE}(key:Key)(hv:SimE K tv fv)(hr:SimP K trs ks fa):SimP K ((tC (kV key),tv)::trs) (key::ks) (jW fv fa):=by
 intro C w Γ σ H ss Γ' Q R e k
 obtain⟨p,e1,e⟩:=bind_some e
 obtain⟨q,e2,e⟩:=bind_some e
 cases e
 show tv σ H _
 refine hv C w Γ σ H p.1 p.2 _ R e1 fun v1 H1 R1 ev1 o1 _=>?_
 exact hr C w p.2 σ H1 q.1 q.2 _ R1 e2 fun vs H2 R2 ev2 o2 hl=>k (v1::vs) H2 R2 (ev1.trans ev2) ⟨o1.evo ev2 R1.lst,o2⟩ (by simp[hl])
def dDispK(ks:List Key)(fa:DA):DE:=fun Γ=>(fa Γ).bind fun p=>(trees p.1).bind fun ts=>if ks.length<=15/\ks.Nodup then some (.d (.inl (ks.zip ts)),p.2) else none
theorem zEV{kvs:List (Key×V)}{k:Key}{v:V}(h:k∉kvs.map (·.1)):putK kvs k v=kvs++[(k,v)]:=by
 unfold putK
 rw[if_neg]
 intro z
 obtain⟨a,ha,e⟩:=ED.mp z
 exact h (Br.mpr ⟨a,ha,of_decide_eq_true e⟩)
theorem zCX{K:Fg}{H:Hp}:∀ (ks:List Key) {vs:List V} {ts:List T},Ims K H vs ts->Bp (fun (a:Key×V) (b:Key×T)=>a.1=b.1/\Im K H a.2 b.2) (ks.zip vs) (ks.zip ts)
 | [],_,_,_=>.nil
 | a::r,vs,[],h=>by rw[h.inv0]; exact .nil
 | a::r,vs,t::ts,h=>by
  obtain⟨v,us,rfl,h1,h2⟩:=h.inv
  exact .cons ⟨rfl,h1⟩ (zCX r h2)
theorem zBw:∀ (more kvs:List (Key×V)),((kvs++more).map (·.1)).Nodup->mergeK kvs more=kvs++more
 | [],kvs,_=>by simp[mergeK]
 | p::r,kvs,h=>by
  show mergeK (putK kvs p.1 p.2) r=_
  have hn:p.1∉kvs.map (·.1):=fun z=>by
   rw[Cb,Ah]at h
   exact (List.nodup_append.mp h).2.2 _ z _ AE rfl
  rw[zEV hn,zBw r (kvs++[p]) (by simpa using h)]
  simp
theorem zG9{K:Fg}{trs:List (TE×TE)}{ks:List Key}{fa:DA}(h:SimP K trs ks fa):SimE K (tDisp trs) (dDispK ks fa):=by
 intro C w Γ σ H s Γ' Q R e k
 obtain⟨⟨ss,G1⟩,e1,e⟩:=bind_some e
 obtain⟨ts,e2,e⟩:=bind_some e
 split at e
 ·rename_i hk
  cases e
  intro p hp
  obtain⟨n1,n2,ow⟩:=R.fresh hp
  refine h C w Γ σ _ ss G1 _ (R.new hp) e1 fun vs H2 R2 ev2 o2 hl=>?_
  have hp2:H2 p=some (.dK []):=ev2 p _ zAG n1
  have hi:=zBA o2 e2
  have hts:ts.length=ks.length:=by rw[← hi.len]; exact hl
  refine⟨hp2,ks.zip vs,?_,by simp[List.length_zip,hl]; exact hk.1,?_⟩
  ·refine List.ext_getElem (by simp) fun i h1 h2=>?_
   simp
  have em:mergeK [] (ks.zip vs)=ks.zip vs:=by
   rw[zBw _ _ (by
    rw[Bo,List.map_fst_zip (by omega)]
    exact hk.2)]
   rfl
  rw[em]
  refine k _ _ (R2.tmp n1 n2 ow hp2 trivial) (fun c o hcc nn=>?_) ⟨p,_,rfl,n1,n2,ow,zAG,?_⟩ ⟨p,rfl,hp⟩
  ·have ne:=zAH hcc hp
   rw[zAC ne]
   exact ev2 c o (by rw[zAC ne]; exact hcc) nn
  ·have ev3:Evo (p::w.L) H2 (upd H2 p (.dK (ks.zip vs))):=fun c o e n=>by rw[zAC (fun z:c=p=>n (by rw[z]; exact AE))]; exact e
   have hL3:LL (p::w.L) H2:=fun q hq=>by
    rcases AF.mp hq with z | z
    ·subst z; exact⟨_,hp2,trivial⟩
    ·exact R2.lst q z
   have hi3:=hi.evo ev3 hL3
   exact (show DOk K _ (.dK (ks.zip vs)) (.inl (ks.zip ts)) from zCX ks hi3)
 ·cases e
section
variable {ι:Type}{K:Fg}{mg:Str->Option AB}{k:Nat}{X:ι->Cx}{fa:DA}{pos:Pos}{Γ:En}
def PX(K:Fg)(X:ι->Cx)(pos:Pos)(keys:List (Option Expr))(values:List Expr)(ks:List Key)(fa:DA):Prop:=∃ trs,(∀ j,PPs (X j) pos keys values trs)/\SimP K trs ks fa
theorem px_nil:PX K X pos [] [] [] qQ:=⟨[],fun _=>zJv,zIL⟩
theorem px_str{x:Str}{j0:Nat}{p0:Pos}{e:Expr}{fv:DE}{keys:List (Option Expr)}{values:List Expr}{ks:List Key}(hv:EX K X e fv)(hr:PX K X pos keys values ks fa):PX K X pos (some (.Constant (.str x) j0 p0)::keys) (e::values) (.inr x::ks) (jW fv fa) :=
 let ⟨_,p,s⟩:=hv; let ⟨_,q,u⟩:=hr; ⟨_,fun j=>zIm zHJ (p j) (q j),zGZ (.inr x) s u⟩
theorem ex_dispK{keys:List (Option Expr)}{values:List Expr}{ks:List Key}(h:PX K X pos keys values ks fa)(hall:keys.all (·.isSome)=true:=by rfl)(hl:keys.length=values.length:=by rfl)(h0:keys≠[]:=by exact nofun)(h15:keys.length<=15:=by decide):EX K X (.Dict keys values pos) (dDispK ks fa) :=
 let ⟨_,p,s⟩:=h; ⟨_,fun j=>zJa (p j) hall hl h0 h15,zG9 s⟩
@[simp,simp ↓] theorem zMC{ks:List Key}:dDispK ks fa Γ=bnd (fa Γ) (f:=⟨fun p=>bnd (trees p.1) (f:=⟨fun ts=>if ks.length<=15/\ks.Nodup then some (.d (.inl (ks.zip ts)),p.2) else none⟩)⟩):=rfl
end
end D
namespace D
open PySem L2
def maxDS(d:Int):En->List S->Option S:=fun Γ as=>match as with
 | [a]=>(seqS Γ a).bind fun xs=>(intsOf xs).map fun ns=>.v (.a (.int (if ns=[] then d else maxI ns)))
 | _=>none
@[simp,simp ↓] theorem zMy{Γ:En}{d:Int}{a:S}:maxDS d Γ [a]=bnd (seqS Γ a) (f:=⟨fun xs=>omp (intsOf xs) (f:=⟨fun ns=>.v (.a (.int (if ns=[] then d else maxI ns)))⟩)⟩):=rfl
end D
namespace D
open PySem L2
variable {K:Fg}
end D
namespace D
open PySem L2
open PySem.SeqAt
def rInD(K:Fg)(neg:Bool):V->V->Hp->VK->Prop:=fun y x H Q=>∃ p us ts t ds d,x=.ref p/\SqL K H p us/\Ims K H us ts/\toDs ts=some ds/\Im K H y t/\toD t=some d/\Ax ds=true/\d.canLay0=true/\d.depth<=100 /\
 Q (.bl (if neg then !(ds.any fun z=>BW z d) else ds.any fun z=>BW z d)) H
section
variable {X:Cx}{k:Nat}
theorem zHx{h:Heap}{d:CC}:∀ (a:List AB) (b:List CC),a.length=b.length->(∀ (i:Nat) u,a[i]?=some u->∃ z,b[i]?=some z/\eqOf h d u=BW z d)->a.any (eqOf h d)=b.any fun z=>BW z d:=by
 intro a
 induction a with
 | nil=>intro b hb _; rw[C5.mp hb.symm]; rfl
 | cons x r ih =>
  intro b hb hh
  cases b with
  | nil=>cases hb
  | cons z b =>
   obtain⟨z',ez,e⟩:=hh 0 x rfl
   cases ez
   rw[CA,CA,e,ih b (by simpa using hb) fun i u hu=>by simpa using hh (i+1) u (by simpa using hu)]
theorem zII{pins:List (Addr×Obj)}{s:AH}{σ:St}{H:Hp}{p:Addr}{y:V}{v:AB}{us:List V}{ts:List T}{t:T}{ds:List CC}{d:CC}{Q:AB->AH->Prop}(hr:Room k X.A)(I:Inv X pins σ H s)(ry:RelV y v)(hq:SqL X.K H p us)(hi:Ims X.K H us ts)(e1:toDs ts=some ds)(hy:Im X.K H y t)(e2:toD t=some d)(c1:Ax ds=true)(c2:d.canLay0=true)(dp:d.depth<=100)
  (h:Q (.bool (ds.any fun z=>BW z d)) s):s.TypeIs (.ref p) "list"/\AZ (model X.prog X.w) X.A (call (.builtin "list.__contains__") [.ref p,v]) Q X.xe s:=by
 obtain⟨its,rw',⟨⟨cls,dd,data,sl⟩,n,ho,hc,hdd,hd⟩,hz⟩:=I.list hq
 simp only at hc hd hdd
 subst hc hd
 obtain⟨E1,E2⟩:=zJD hr I rw' hi e1 ry hy e2 c1 c2 dp
 obtain⟨as3,ra3⟩:=zAf I hi rw' e1
 have hl3:=ReadsAll.length ds its as3 ra3
 refine⟨⟨_,ho,rfl⟩,DB Ed ⟨_,ho,rfl⟩ Jp (Jq _ _) (list_containsAt p its.toArray n dd sl v (eqOf s.heap d)) ⟨ho,E1,?_⟩⟩
 rw[show its.toArray.any (eqOf s.heap d)=its.any (eqOf s.heap d) by simp,zHx its ds hl3 E2]
 exact h
theorem zLY(hr:Room k X.A):OpR X (BQ .In) (rInD X.K false):=by
 intro pins s σ H y x v u Q I ry rx h
 obtain⟨p,us,ts,t,ds,d,rfl,hq,hi,e1,hy,e2,c1,c2,dp,q⟩:=h
 cases rx
 have:=zII (Q:=fun r s'=>AZ (model X.prog X.w) X.A (truthy r) (fun b s''=>EP X pins σ Q (.bool b) s'') X.xe s') hr I ry hq hi e1 hy e2 c1 c2 dp (CF ⟨.bl _,H,I,rfl,q⟩)
 exact Jr this.1 Ed this.2
end
def inDS(neg:Bool):En->S->S->Option S:=fun Γ a b=>match a with
 | .v t=>(sqlOf Γ b).bind fun ts=>(toDs ts).bind fun ds=>(toD t).bind fun d=>if Ax ds=true/\d.canLay0=true/\d.depth<=100 then some (mkB (if neg then !(ds.any fun z=>BW z d) else ds.any fun z=>BW z d)) else none
 | _=>none
theorem zHQ{K:Fg}{neg:Bool}:SimR2 K (rInD K neg) (inDS neg):=by
 intro C w Γ σ H x y a b s Q R ox oy e k
 unfold inDS at e
 split at e
 ·obtain⟨ts,e1,e⟩:=bind_some e
  obtain⟨ds,e2,e⟩:=bind_some e
  obtain⟨d,e3,e⟩:=bind_some e
  split at e
  ·rename_i h
   cases e
   obtain⟨p,us,rfl,h1,i1⟩:=zAd R oy e1
   exact⟨p,us,ts,_,ds,d,rfl,h1,i1,e2,ox,e3,h.1,h.2.1,h.2.2,k _ H R .refl SOk.atom trivial⟩
  ·cases e
 ·cases e
section
variable {ι:Type}{K:Fg}{mg:Str->Option AB}{k:Nat}{X:ι->Cx}
theorem cr_inD(M:Fm K mg k X):CmpR K X .In (inDS false):=⟨_,fun j=>by have:=zLY (X:=X j) (M.room j); rw[M.K j]at this; exact this,zHQ⟩
end
end D
namespace L2
open PySem PySem.Spec PyProof.Rows
structure Ch(l S:List Addr)(h h':Heap):Prop where
 keep:∀ b o,b∉l->b∉S->h.get? b=some o->h'.get? b=some o
 slot:∀ b o,b∉S->h.get? b=some o->∃ sl,h'.get? b=some { o with slots:=sl }
section
variable {l l' S S':List Addr}{h h' h1 h2 h3:Heap}{a e T:Addr}{f:Obj->Obj}{o:Obj}
theorem Ch.trans(x:Ch l S h1 h2)(y:Ch l S h2 h3):Ch l S h1 h3 :=
 ⟨fun b o n m q=>y.keep b o n m (x.keep b o n m q),fun b o m q=>by
  obtain⟨s1,q1⟩:=x.slot b o m q
  obtain⟨s2,q2⟩:=y.slot b _ m q1
  exact⟨s2,q2⟩⟩
theorem Ch.wide(x:Ch l S h h')(hl:∀ b∈l,b∈l')(hs:∀ b∈S,b∈S'):Ch l' S' h h' :=
 ⟨fun b o n m q=>x.keep b o (fun z=>n (hl b z)) (fun z=>m (hs b z)) q,fun b o m q=>x.slot b o (fun z=>m (hs b z)) q⟩
theorem Ch.upd1:Ch l [a] h (h.update a f):=by
 have k:∀ b o,b∉[a]->h.get? b=some o->(h.update a f).get? b=some o:=fun b o m q=>by
  rw[BO _ _ (fun z=>m (by rw[z]; exact AE))]; exact q
 exact⟨fun b o _ m q=>k b o m q,fun b o m q=>⟨o.slots,k b o m q⟩⟩
theorem Ch.push:Ch l S h (h.push o):=⟨fun b u _ _ q=>AI _ q,fun b u _ q=>⟨u.slots,AI _ q⟩⟩
theorem Ch.slots(x:Heap.SlotsOnly l h h'):Ch l S h h':=⟨fun b o n _ q=>(x.2.1 b n).trans q,fun b o _ q=>x.2.2 b o q⟩
theorem Ch.funs{base:Heap}{fr:List Env}(x:Ch l S h h')(hl:h.FunFrames base fr)(hS:∀ b∈S,∀ o,h.get? b=some o->∃ vs,o.data=.fields vs):h'.FunFrames base fr :=
 hl.of_keeps fun b o q hn=>by
  obtain⟨sl,q'⟩:=x.slot b o (fun z=>by obtain⟨vs,z⟩:=hS b z o q; exact hn vs z) q
  exact⟨_,q',rfl⟩
end
structure Exc(h:Heap)(e T:Addr)(C:AB)(d:Option Addr)(f:AB):Prop where
 ex:∃ oe vs,h.get? e=some oe/\oe.cls=C/\oe.dict=d/\oe.data=.fields vs/\vs[1]?=some (.ref T)
 tr:∃ oT ts,h.get? T=some oT/\oT.data=.fields ts/\ts[3]?=some f
 ne:T≠e
section
variable {M:GM}{A:A5}{E:AB->AH->Prop}{s:AH}{base:Heap}{env:Env}{outer:List Env}{L e T:Addr}{C:AB}{d:Option Addr}{Q:Unit->AH->Prop}
theorem zEA{oe:Obj}{vs:Array AB}{hv:AB}{hn:Bool}(hfr:A.frames=some (env::outer))(hl:s.heap.FunFrames base (env::outer))(hf:env.frame=some L)(he:s.heap.get? e=some oe)(hd:oe.data=.fields vs)(hsz:1 < vs.size)
  (hQ:∀ h' T,s.heap.get? T=none->Exc h' e T oe.cls oe.dict (ES L)->Ch (frs (env::outer)) [e] s.heap h'->Q () { s with heap:=h' }) :
  AZ M A (frameOf env >>= fun a=>entryPlaceOf L hn >>= fun pl=>GG hv a .none (ES L) .none pl >>= fun b=>setField (.ref e) 1 b) Q E s:=by
 have nf:e∉frs (env::outer):=fun z=>by
  obtain⟨_,o,ho,no⟩:=hl.mem z
  rw[he]at ho; cases ho; exact no vs hd
 refine AA (wpAny_frameOf_fun hfr hl hf fun h1 k1=>AA (wpAny_entryPlaceOf fun pl hp=>?_))
 refine AA ?_
 unfold GG newFields
 refine Bh ?_ (hp.sizeOk5 _ _ _ _ _)
 have e1:h1.get? e=some oe:=(k1.2.1 e nf).trans he
 have sz1:h1.objs.size=s.heap.objs.size:=k1.1
 have neT:h1.objs.size≠e:=C9 (Aa e1)
 refine EC (AI _ e1) hd hsz (hQ _ h1.objs.size (Cn (JE sz1.symm)) ⟨?_,?_,neT⟩ ?_)
 ·have dm:=C3 hd (·.setIfInBounds 1 (Aj h1.objs.size))
  refine⟨_,_,Bz _ (AI _ e1) (DL dm),Hc _ _,?_,dm,by simp[hsz]⟩
  obtain⟨c0,d0,da0,sl0⟩:=oe
  cases da0 <;> rfl
 ·refine⟨_,_,(BO _ _ (Av neT)).trans (Ad h1 rfl),rfl,?_⟩
  first
   | (simp; done)
   | (rcases hp with rfl | ⟨_,_,_,_,_,_,_,rfl⟩ <;> simp)
 ·exact ((Ch.slots k1).trans Ch.push).trans Ch.upd1
theorem zGH{oe:Obj}{vs:Array AB}(hfr:A.frames=some (env::outer))(hl:s.heap.FunFrames base (env::outer))(hf:env.frame=some L)(he:s.heap.get? e=some oe)(hd:oe.data=.fields vs)(h1:vs[1]?=some .none)
  (hQ:∀ h' T,s.heap.get? T=none->Exc h' e T oe.cls oe.dict (ES L)->Ch (frs (env::outer)) [e] s.heap h'->Q () { s with heap:=h' }):AZ M A (FK (.ref e) env) Q E s:=by
 unfold FK
 simp only[hf]
 refine AA (BP he hd h1 ?_)
 rw[if_neg (show ¬ ((A6 != A6)=true) by decide)]
 exact zEA hfr hl hf he hd (Cm.mp h1).1 hQ
theorem zDZ(hfr:A.frames=some (env::outer))(hl:s.heap.FunFrames base (env::outer))(hf:env.frame=some L)(x:Exc s.heap e T C d .none)
  (hQ:∀ h' T',s.heap.get? T'=none->Exc h' e T' C d (ES L)->Ch (frs (env::outer)) [e,T] s.heap h'->Q () { s with heap:=h' }):AZ M A (FK (.ref e) env) Q E s:=by
 obtain⟨⟨oe,vs,he,rfl,rfl,hd,h1⟩,⟨oT,ts,hT,hdT,h3⟩,ne⟩:=x
 unfold FK
 simp only[hf]
 refine AA (BP he hd h1 ?_)
 rw[if_pos (show (Aj T != A6)=true by simp)]
 refine AA (BP hT hdT h3 ?_)
 rw[if_neg (show ¬ ((A6 == ES L)=true) by simp[ES])]
 refine AA (EC hT hdT (Cm.mp h3).1 ?_)
 have c1:Ch (frs (env::outer)) [T] s.heap (s.heap.update T (GT (·.setIfInBounds 3 A6))):=Ch.upd1
 have he':(s.heap.update T (GT (·.setIfInBounds 3 A6))).get? e=some oe:=(BO _ _ ne).trans he
 refine zEA hfr (c1.funs hl fun b hb o ho=>?_) hf he' hd (Cm.mp h1).1 fun h' T' n x' c=>hQ h' T' ?_ x' ((c1.wide (fun _ z=>z) fun b hb=>?_).trans (c.wide (fun _ z=>z) fun b hb=>?_))
 ·rw[AD.mp hb,hT]at ho; cases ho; exact⟨ts,hdT⟩
 ·cases q:s.heap.get? T' with
  | none=>rfl
  | some o =>
   by_cases z:T'=T
   ·subst z
    have:=Bz (GT (·.setIfInBounds 3 A6)) hT (DL (C3 hdT _))
    rw[n]at this; cases this
   ·rw[(BO _ _ (Av z)).trans q]at n; cases n
 ·rw[AD.mp hb]; exact AG _ AE
 ·rw[AD.mp hb]; exact AE
theorem land{f:AB}(x:Exc s.heap e T C d f)(hQ:∀ h',Exc h' e T C d .none->Ch [] [T] s.heap h'->Q () { s with heap:=h' }):AZ M A (JL (.ref e) none) Q E s:=by
 obtain⟨⟨oe,vs,he,hc,hdi,hd,h1⟩,⟨oT,ts,hT,hdT,h3⟩,ne⟩:=x
 have h3':3 < ts.size:=(Cm.mp h3).1
 unfold JL
 refine AA (BP he hd h1 ?_)
 rw[if_pos (show (Aj T != A6)=true by simp)]
 refine EC hT hdT h3' (hQ _ ⟨⟨oe,vs,(BO _ _ ne).trans he,hc,hdi,hd,h1⟩,?_,ne⟩ Ch.upd1)
 have dm:=C3 hdT (·.setIfInBounds 3 ((none:Option Addr).elim A6 fun f=>ES f))
 exact⟨_,_,Bz _ hT (DL dm),dm,by simp[h3']⟩
end
def CXR(P:Ac)(w:Al):CXT:=fun outer H s E e s'=>∃ (a C T:Addr) (d:Option Addr) (H':Hp),e=.ref a/\s'.os=s.os/\Dw s'.gens/\Un (frs outer) [] H H' s.heap s'.heap/\HOk P w H' s'.heap/\H' a=none/\H' T=none /\
 s.heap.get? a=none/\s.heap.get? T=none/\Exc s'.heap a T (.ref C) d .none/\E (.ref C) d H'
theorem zCE{P:Ac}{w:Al}{H:Hp}{h:Heap}{a:Addr}{o:HO}(x:ObjOk P w H h a o):∃ u,h.get? a=some u:=by
 cases o with
 | lst xs=>obtain⟨_,_,_,_,e⟩:=x; exact⟨_,e⟩
 | tup xs=>obtain⟨_,_,_,ob,e,_⟩:=x; exact⟨_,e⟩
 | dK kvs=>obtain⟨_,_,_,_,o,_,_,e,_⟩:=x; exact⟨_,e⟩
 | dT kvs=>obtain⟨_,_,_,_,o,_,_,e,_⟩:=x; exact⟨_,e⟩
 | set S n=>obtain⟨o,_,_,_,e,_⟩:=x; exact⟨_,e⟩
 | ins C dx fs=>obtain⟨_,_,_,e,_⟩:=x; exact⟨_,e⟩
 | own y=>exact x
 | xd fs=>obtain⟨_,⟨_,_,_,e,_⟩,_⟩:=x; exact⟨_,e⟩
 | rng lo hi=>obtain⟨_,_,_,e⟩:=x; exact⟨_,e⟩
 | frz ob u=>exact⟨_,x.1⟩
 | tbl ps=>exact⟨_,x⟩
 | met f y=>exact⟨_,x⟩
 | ext φ=>exact x.2.1
theorem zA7{P:Ac}{w:Al}{H:Hp}{h:Heap}{a:Addr}(k:HOk P w H h)(e:h.get? a=none):H a=none:=by
 cases q:H a with
 | none=>rfl
 | some o=>obtain⟨u,hu⟩:=zCE (k a o q); rw[e]at hu; cases hu
theorem HOk.ch{P:Ac}{w:Al}{H:Hp}{h h':Heap}{l S:List Addr}(k:HOk P w H h)(c:Ch l S h h')(hl:∀ b∈l,H b=none)(hS:∀ b∈S,H b=none):HOk P w H h':=fun a o ea =>
 (k a o ea).stay (fun b u hb eb=>by
  have hn:H b≠none:=by
   rcases hb with rfl | hb
   ·rw[ea]; intro z; cases z
   ·rw[hb]; intro z; cases z
  exact c.keep b u (fun z=>hn (hl b z)) (fun z=>hn (hS b z)) eb) (fun _ z=>z) (fun _ _ z=>z)
section
variable {X:Cx}{pins:List (Addr×Obj)}{σ:St}{H H':Hp}{s s':AH}{a T:Addr}
theorem Inv.stackFree(I:Inv X pins σ H s):∀ b∈frs X.stack,H b=none:=I.env0.frf
theorem Inv.settle(I:Inv X pins σ H s)(os:s'.os=s.os)(hg:Dw s'.gens)(un:Un (frs X.stack) [] H H' s.heap s'.heap)(hok:HOk X.prog X.w H' s'.heap)(ha:s.heap.get? a=none)(hT:s.heap.get? T=none)(hHa:H' a=none)(hHT:H' T=none)
  {h'':Heap} {S:List Addr} (hS:∀ b∈S,b=a\/b=T\/s'.heap.get? b=none) (c:Ch (frs X.stack) S s'.heap h''):Inv X pins σ H' { s' with heap:=h'' }:=by
 have nS:∀ b o,s'.heap.get? b=some o->(∃ u,s.heap.get? b=some u)->b∉S:=fun b o q ⟨u,hu⟩ z=>by
  rcases hS b z with rfl | rfl | z
  ·rw[ha]at hu; cases hu
  ·rw[hT]at hu; cases hu
  ·rw[z]at q; cases q
 have frn:∀ b∈frs X.stack,H' b=none:=fun b hb=>by
  obtain⟨_,o,ho,_⟩:=I.env0.funs.mem hb
  exact un.free b o ho (I.stackFree b hb) (fun z=>nomatch z)
 refine I.call' (ch:=[]) os { keep:=fun b o q n hb _=>?_,slot:=fun b o q n hb hx=>?_,free:=un.free,there:=fun b o q hx=>?_,tups:=un.tups,frzs:=un.frzs,tbls:=un.tbls } (hok.ch c frn fun b hb=>?_) hg fun b z=>nomatch z
 ·have q':=un.keep b o q n hb (fun z=>nomatch z)
  exact c.keep b o hb (nS b o q' ⟨o,q⟩) q'
 ·obtain⟨sl,q'⟩:=un.slot b o q n hb hx
  obtain⟨sl2,q2⟩:=c.slot b _ (nS b _ q' ⟨o,q⟩) q'
  exact⟨sl2,q2⟩
 ·obtain⟨o',q'⟩:=un.there b o q hx
  obtain⟨sl,q2⟩:=c.slot b o' (nS b o' q' ⟨o,q⟩) q'
  exact⟨_,q2⟩
 ·rcases hS b hb with rfl | rfl | z
  ·exact hHa
  ·exact hHT
  ·exact zA7 hok z
end
section
variable {P:Ac}{w:Al}{K:AJ}{mg:Str->Option AB}{base:Heap}{N:List Str}{qual:Str}{scope:Bv}{f:Addr}{cd:AB}{A:A5}{outer:List Env}{s₀:AH}{H₀:Hp}{E:XK}{x:Str}{C:Addr}{np cpos pos:Pos}
abbrev veB:List AB:=[.type "ValueError",.type "Exception",.type "BaseException",.type "object"]
end
end L2
namespace D
open PySem L2
abbrev cxR(P:Ac)(wd:Al)(K:Fg)(mg:Str->Option AB)(base:Heap)(N:List Str)(qual:Str)(scope:Bv)(f:Addr)(cd:AB)(A:A5)(outer:List Env)(s:AH)(H:Hp)(E:XK):Unit->Cx:=fun _=>cxOf (CXR P wd) P wd K mg base N qual scope f cd A outer s H E
end D
namespace L2
open PySem PySem.Spec PyProof.Rows
abbrev Cx.on(X:Cx)(E':AB->AH->Prop):Cx:={ X with xe:=E' }
abbrev Cx.inn(X:Cx)(a:Addr)(E':AB->AH->Prop):Cx:={ X with xe:=E',calm:=false,A:=X.A.mark (some (.ref a)) }
section
variable {X:Cx}{pins:List (Addr×Obj)}{σ:St}{H H':Hp}{s s':AH}{a T:Addr}{E':AB->AH->Prop}
theorem Inv.on(I:Inv X pins σ H s):Inv (X.on E') pins σ H s :=
 ⟨⟨I.ok.mod,I.ok.kind,I.ok.glob,I.ok.blt,I.ok.above,I.ok.inj,I.ok.has,I.ok.cab,I.ok.hd,I.ok.frames,I.ok.stk,I.ok.exf,I.ok.bs,I.ok.bsz,I.ok.noex,I.ok.exfs,I.ok.funs,I.ok.frf⟩,I.os,I.bare,I.base,I.loc,I.cell,I.free,I.freeC,I.pin,I.hok,I.len⟩
theorem Inv.off(I:Inv (X.on E') pins σ H s):Inv X pins σ H s :=
 ⟨⟨I.ok.mod,I.ok.kind,I.ok.glob,I.ok.blt,I.ok.above,I.ok.inj,I.ok.has,I.ok.cab,I.ok.hd,I.ok.frames,I.ok.stk,I.ok.exf,I.ok.bs,I.ok.bsz,I.ok.noex,I.ok.exfs,I.ok.funs,I.ok.frf⟩,I.os,I.bare,I.base,I.loc,I.cell,I.free,I.freeC,I.pin,I.hok,I.len⟩
theorem Inv.inn(I:Inv X pins σ H s):Inv (X.inn a E') pins σ H s :=
 ⟨⟨I.ok.mod,I.ok.kind,I.ok.glob,I.ok.blt,I.ok.above,I.ok.inj,I.ok.has,I.ok.cab,fun z=>He z,I.ok.frames,I.ok.stk,I.ok.exf,I.ok.bs,I.ok.bsz,I.ok.noex,I.ok.exfs,I.ok.funs,I.ok.frf⟩,I.os,I.bare,I.base,I.loc,I.cell,I.free,I.freeC,I.pin,I.hok,I.len⟩
theorem Inv.out(ok:X.Ok)(I:Inv (X.inn a E') pins σ H s):Inv X pins σ H s :=
 ⟨ok,I.os,I.bare,I.base,I.loc,I.cell,I.free,I.freeC,I.pin,I.hok,I.len⟩
theorem Inv.names{h':Heap}{σ':St}{t':Nat}(I:Inv X pins σ H s)(hs:Dd X.env.locals s.heap h')(hn:∃ m,h'.Ns X.env.locals m/\∀ (i:Nat) (x:Str) (v:V),X.N[i]?=some x->σ'[i]?=some (some v)->Vis X.env.scope x->∃ u,RelV v u/\Look X.env h' m x u)(hl:σ'.length=σ.length) :
  Inv X pins σ' H { s with heap:=h',toks:=t' }:=by
 have low:∀ b o,X.s₀.heap.get? b=some o->b≠X.env.locals:=fun b o e=>BJ (AY (Aa e) I.ok.above)
 refine⟨I.ok,I.os,I.bare,{ keep:=fun b o e n hb hx=>(hs.2 b (low b o e)).trans (I.base.keep b o e n hb hx),slot:=fun b o e n hb hx=>?_,free:=I.base.free,there:=fun b o e hx=>?_,tups:=I.base.tups,frzs:=I.base.frzs,tbls:=I.base.tbls },hn,fun y c e=>?_,I.free,I.freeC,fun p hp=>?_,fun b u e=>?_,hl.trans I.len⟩
 ·obtain⟨sl,q⟩:=I.base.slot b o e n hb hx
  exact⟨sl,(hs.2 b (low b o e)).trans q⟩
 ·obtain⟨o',q⟩:=I.base.there b o e hx
  exact⟨o',(hs.2 b (low b o e)).trans q⟩
 ·obtain⟨w',z⟩:=I.cell y c e
  exact⟨w',z.sameBut hs (I.cne y c e)⟩
 ·obtain⟨p1,p2,p3,p4,p5⟩:=I.pin p hp
  exact⟨(hs.2 p.1 p3).trans p1,p2,p3,p4,p5⟩
 ·refine (I.hok b u e).stay (fun c v hc q=>(hs.2 c ?_).trans q) (fun _ q=>q) fun _ _ q=>q
  rintro rfl
  rcases hc with rfl | hc
  ·rw[I.free]at e; cases e
  ·rw[I.free]at hc; cases hc
theorem zB2{M:GM}{A:A5}{E:AB->AH->Prop}{n:Str}{j:Nat}{pos:Pos}{Q:Unit->AH->Prop}(I:Inv X pins σ H s)(hN:X.N.Nodup)(hj:X.N[j]?=some n)(hk:X.env.scope.names.lookup n=some .local)
  (h:∀ s',Inv X pins (σ.set j none) H s'->Q () s'):AZ M A (Ge X.env n .none >>= fun _=>Hn X.env n pos) Q E s:=by
 have hcls:(X.env.scope.kind == .class || (X.env.scope.kind == .module && X.env.locals != X.env.globals))=false:=by rw[I.ok.kind]; rfl
 have hkn:X.env.kindOf n=some .local:=hk
 refine AA (Gf (zDM (v:=.non) (u:=.none) I hN hj (.inl hk) rfl (fun s1 I1 _=>?_) (.inr hk)))
 unfold Hn
 refine EW ?_
 unfold unbindName
 refine AA (wpAny_point (AA ?_))
 obtain⟨m,hn,hl⟩:=id I1.loc
 have hjl:j < σ.length:=by rw[I.len]; exact (Ao.mp hj).1
 obtain⟨u,_,hlook⟩:=hl j n .non hj (by rw[Aq hjl]) (.inl hk)
 have hmn:(m n).isSome=true:=by
  rcases hlook with ⟨_,e⟩ | ⟨z | z,_⟩
  ·rw[e]; rfl
  ·rw[hkn]at z; cases z
  ·rw[hkn]at z; cases z
 unfold deleteName
 simp only[hkn,hcls]
 rw[if_neg (show ¬ (false=true) by decide)]
 refine AA (wpAny_nsDel_keeps hn fun h2 v hn2 hs2=>?_)
 simp only[hmn,Cd,CQ,if_false]
 refine AO (wpAny_point (h _ ?_))
 refine I1.names (t':=s1.toks) hs2 ⟨_,hn2,fun i y w e1 e2 e3=>?_⟩ (by simp)
 by_cases hi:i=j
 ·subst hi
  rw[Aq hjl]at e2; cases e2
 ·rw[AS (Av hi)]at e2
  obtain⟨u',r',q⟩:=hl i y w e1 (by rw[AS (Av hi)]; exact e2) e3
  refine⟨u',r',?_⟩
  rcases q with ⟨k,e⟩ | ⟨k,c,e,z⟩
  ·have:y≠n:=fun z=>hi (zCN hN e1 (z ▸ hj))
   exact .inl ⟨k,by simp[this,e]⟩
  ·exact .inr ⟨k,c,e,z.sameBut hs2 (I1.cne y c e)⟩
end
def catches(K:AJ)(C D:Addr):Bool:=CS K (.ref C) (.ref D) == some true && PySem.W.typeIn K (.ref D) == some (.type "type") && CS K (.ref D) (.type "BaseException") == some true && (CT K D).isSome
theorem zDd{K:AJ}{M:GM}{h:Heap}{D:Addr}(X:K.In h)(e:(CT K D).isSome=true):Fu M h (isType (.ref D)) true:=by
 unfold CT at e
 split at e
 ·rename_i ho
  intro A' Q' E' s' k q
  unfold isType loadHead
  exact AA (wpAny_loadPart (k _ _ (X _ _ ho)) (AO q))
 ·cases e
theorem zIv{K:AJ}{M:GM}{A:A5}{E:AB->AH->Prop}{s:AH}{a C D:Addr}{oe:Obj}{Q:Bool->AH->Prop}(X:K.In s.heap)(he:s.heap.get? a=some oe)(hc:oe.cls=.ref C)(q:catches K C D=true)(h:Q true s) :
  AZ M A (excMatches (.ref a) (.ref D)) Q E s:=by
 unfold catches at q
 simp only[Af,beq_iff_eq]at q
 obtain⟨⟨⟨q1,q2⟩,q3⟩,q4⟩:=q
 have L1:=Ee (M:=M) X q1
 have L2:=PySem.W.looks_typeIn (M:=M) X q2
 have L3:=Ee (M:=M) X q3
 have L4:=zDd (M:=M) X q4
 have L0:Fu M s.heap (Gm (.ref a)) (.ref C):=hc ▸ (GH he).andThen .now
 have L5:Fu M s.heap (JM (.type "type") (.type "tuple")) false:=Ee X (show (fastBuiltinMro "type").map (fun x=>x.contains (Bc "tuple"))=some false by decide +kernel)
 obtain⟨hh,g,d,tk,os⟩:=s
 unfold excMatches Gs
 refine AA (AA (L2.at (L5.at ?_)))
 rw[if_neg (show ¬ (false=true) by decide)]
 refine AA (AO ?_)
 refine AA ?_
 rw[DQ]
 refine AA ?_
 unfold isExcClass
 refine AA (AA (L4.at ?_))
 rw[if_pos rfl]
 refine L3.at ?_
 simp only[Cd,CQ,if_false]
 refine AO ?_
 dsimp only
 rw[Ej]
 refine AO ?_
 refine AA (L0.at ?_)
 refine AA ?_
 rw[DQ]
 refine AA (AA (L1.at ?_))
 rw[if_pos rfl]
 exact AO (AO (AO h))
abbrev xφ(x D:Addr)(d:Option Addr):Heap->Prop:=fun h=>∃ o,h.get? x=some o/\o.cls=.ref D/\o.dict=d/\C4 o=true
def xo(a C:Addr)(d:Option Addr):HO:=.ext (xφ a C d)
def endsJ(j:Nat)(D:Ends):Ends:={ nx:=fun σ H=>D.nx (σ.set j none) H,rt:=D.rt,bk:=fun σ H=>D.bk (σ.set j none) H,ct:=fun σ H=>D.ct (σ.set j none) H }
def wishX(K:AJ)(Dc:Addr)(j:Nat)(ts:TS)(D:Ends)(σ:St):XK:=fun cls d H'=>∃ C,cls=.ref C/\catches K C Dc=true/\∀ a,H' a=none->ts (endsJ j D) (σ.set j (some (.ref a))) (upd H' a (xo a C d))
section
variable {X:Cx}{pins:List (Addr×Obj)}{σ:St}{H:Hp}{s:AH}{a:Addr}{o:HO}
theorem Inv.track(I:Inv X pins σ H s)(hH:H a=none)(h0:X.s₀.heap.get? a=none)(hl:X.env.locals≠a)(hc:∀ x c,X.env.cells.lookup x=some c->c≠a)(hp:∀ p∈X.pn++pins,p.1≠a)(ok:ObjOk X.prog X.w (upd H a o) s.heap a o) :
  Inv X pins σ (upd H a o) s:=by
 have ne:∀ {b:Addr} {u:HO},H b=some u->b≠a:=fun {b u} e z=>by rw[z,hH]at e; cases e
 have up:∀ {b:Addr} {u:HO},H b=some u->upd H a o b=some u:=fun {b u} e=>by rw[zAC (ne e)]; exact e
 refine⟨I.ok,I.os,I.bare,{ keep:=I.base.keep,slot:=I.base.slot,free:=fun b ob e n hx=>?_,there:=I.base.there,tups:=fun b xs e=>up (I.base.tups b xs e),frzs:=fun b ob u e=>up (I.base.frzs b ob u e),tbls:=fun b ps e=>?_ },I.loc,I.cell,by rw[zAC hl]; exact I.free,fun x c e=>by rw[zAC (hc x c e)]; exact I.freeC x c e,fun p hp'=>?_,fun b u e=>?_,I.len⟩
 ·rw[zAC (fun z:b=a=>by rw[z,h0]at e; cases e)]
  exact I.base.free b ob e n hx
 ·obtain⟨m,e'⟩:=I.base.tbls b ps e; exact⟨m,up e'⟩
 ·obtain⟨p1,p2,p3,p4,p5⟩:=I.pin p hp'
  exact⟨p1,by rw[zAC (hp p hp')]; exact p2,p3,p4,p5⟩
 ·by_cases z:b=a
  ·subst z
   rw[zAG]at e; cases e
   exact ok
  ·rw[zAC z]at e
   exact (I.hok b u e).stay (fun c v hc' ec=>ec) (fun c ec=>up ec) (fun c xs ec=>up ec)
end
section
variable {X:Cx}{k:Nat}{f Dc:Addr}{fd:An}{ps:List Str}{sp:Sp}{x y n:Str}{p pos np hpos spos:Pos}{e:Expr}{es:List Expr}{t:TA}{ts:TS}{b₀:Stmt}{suite:List Stmt}{j:Nat}
theorem zC2{pins:List (Addr×Obj)}{s:AH}{σ:St}{H:Hp}{Q:VK}{W:XK}(F:FnOk X.prog X.w X.K X.mg X.base (CXR X.prog X.w) k f fd ps sp)(hr:Room k X.A)(hg:Gl X x)(hm:X.mg x=some (.ref f))(hk:BC X.K (.ref f)=true)(hb:Binds X.K fd ps [])
  (ha:∀ E',PA (X.on E') (e::es) t) (hdb:(x == ("__debug__":Str))=false) (he:AR (e::es) X.env=(false,eval e X.env)::AR es X.env) (hpl:(Bg pos (AR es X.env)).any (·.1)=false)
  (I:Inv X pins σ H s) (h:t σ H fun vs H1=>sp vs H1 Q W) :
  AZ (model X.prog X.w) X.A (eval (.Call (.Name x p) (e::es) [] pos) X.env) (EP X pins σ Q) (fun e s'=>∃ H1 s1,Inv X pins σ H1 s1/\CXR X.prog X.w X.stack H1 s1 W e s') s:=by
 refine B5 (zAu I hg hm ?_ hdb)
 refine DW (h₀:=X.base) I.ok.mod.kin hk (thn (ha (fun e s'=>∃ H1 s1,Inv X pins σ H1 s1/\CXR X.prog X.w X.stack H1 s1 W e s') pos pins s σ H _ I.on h) fun us s1 z=>?_) he hpl
 obtain⟨vs,H1,I1',r,q⟩:=z
 have I1:Inv X pins σ H1 s1:=I1'.off
 refine⟨I1.kIn,?_⟩
 have hl:(us++([]:List AB)).length=ps.length:=by rw[BV,← r.length]; exact F.len _ _ _ _ q
 refine Fd (Dx (F.run X.A X.stack s1 H1 ⟨us,[]⟩ (us++[]) vs Q W hr I1.env0 (hb s1 us I1.kIn hl) (by rw[BV]; exact r) q) fun r s' hq=>?_)
 cases r with
 | error e=>exact⟨H1,s1,I1,hq⟩
 | ok fl =>
  cases fl with
  | ret u=>exact I1.after hq
  | next=>exact BN hq
  | brk=>exact BN hq
  | cont=>exact BN hq
theorem zHU{pins:List (Addr×Obj)}{s s':AH}{σ:St}{H:Hp}{D:Ends}{e:AB}(hst:X.stack=X.env::X.outer)(hex:X.ex=[])(hfr:X.env.frame=some X.env.locals)(hN:X.N.Nodup)(hj:X.N[j]?=some n)(hk:X.env.scope.names.lookup n=some .local)(hgy:Gl X y)(hmy:X.mg y=some (.ref Dc))(hyd:(y == ("__debug__":Str))=false)
  (hs:∀ a E',PSs (X.inn a E') (b₀::suite) ts) (I:Inv X pins σ H s) (c:CXR X.prog X.w X.stack H s (wishX X.K Dc j ts D σ) e s') :
  AZ (model X.prog X.w) X.A (FK e X.env) (fun _ s₂=>AZ (model X.prog X.w) X.A (JL e none) (fun _ s₃=>AZ (model X.prog X.w) X.A (handleBy e X.env [.ExceptHandler (some (.Name y np)) (some n) (b₀::suite) hpos]) (SP X pins D) X.xe s₃) X.xe s₂) X.xe s':=by
 obtain⟨a,C',T,d,H',rfl,os,hg,un,hok,hHa,hHT,ha,hT,x,C,e0,hcat,hts⟩:=c
 cases e0
 have I0:Inv X pins σ H' s':=I.settle (S:=[]) (h'':=s'.heap) os hg un hok ha hT hHa hHT (fun _ z=>nomatch z) ⟨fun _ _ _ _ q=>q,fun _ o _ q=>⟨o.slots,q⟩⟩
 have hfun:s'.heap.FunFrames X.base (X.env::X.outer):=hst ▸ I0.env0.funs
 refine zDZ (base:=X.base) (outer:=X.outer) (hst ▸ I.ok.frames) hfun hfr x fun h2 T2 n2 x2 c2=>?_
 refine land (s:={ s' with heap:=h2 }) x2 fun h3 x3 c3=>?_
 rw[← hst]at c2
 have c23:Ch (frs X.stack) [a,T,T2] s'.heap h3:=(c2.wide (fun _ z=>z) fun b z=>by
  rcases AF.mp z with rfl | z
  ·exact AE
  ·rw[AD.mp z]; exact AG _ AE).trans (c3.wide (fun _ z=>nomatch z) fun b z=>by rw[AD.mp z]; exact AG _ (AG _ AE))
 have inS:∀ b∈[a,T,T2],b=a\/b=T\/s'.heap.get? b=none:=fun b z=>by
  rcases AF.mp z with z | z
  ·exact .inl z
  ·rcases AF.mp z with z | z
   ·exact .inr (.inl z)
   ·exact .inr (.inr (by rw[AD.mp z]; exact n2))
 have I3:Inv X pins σ H' { s' with heap:=h3 }:=I.settle os hg un hok ha hT hHa hHT inS c23
 refine wpAny_handleBy_cons (codeAny_handlers_test (zAu (X:=X.inn a X.xe) I3.inn hgy hmy ?_ hyd)) (by intro z; cases z)
 obtain⟨oe,vs,he,hcl,_,_,_⟩:=x3.ex
 refine zIv (K:=X.K) I3.kIn he hcl hcat ?_
 show EM _ _ (.handlers _ [.ExceptHandler none (some n) (b₀::suite) hpos] X.env) _ _
 refine codeAny_handlers_suite_as ?_
 refine land (s:={ s' with heap:=h3 }) x3 fun h4 x4 c4=>?_
 have c24:Ch (frs X.stack) [a,T,T2] s'.heap h4:=c23.trans (c4.wide (fun _ z=>nomatch z) fun b z=>by rw[AD.mp z]; exact AG _ (AG _ AE))
 have I4:Inv X pins σ H' { s' with heap:=h4 }:=I.settle os hg un hok ha hT hHa hHT inS c24
 obtain⟨oe4,vs4,he4,hcl4,hd4,hda4,_⟩:=x4.ex
 have hnc:C4 oe4=true:=by unfold C4; rw[hda4]
 have a0:X.s₀.heap.get? a=none:=by
  cases q0:X.s₀.heap.get? a with
  | none=>rfl
  | some o=>obtain⟨o',q1⟩:=I.base.there a o q0 (by rw[hex]; exact fun z=>nomatch z); rw[ha]at q1; cases q1
 have I5:Inv X pins σ (upd H' a (xo a C' d)) { s' with heap:=h4 }:=I4.track hHa a0 (fun z=>by
   obtain⟨m,⟨o,_,_,ho,_⟩,_⟩:=I.loc
   rw[z,ha]at ho; cases ho) (fun z c hc q=>by
   obtain⟨v,o,ho,_⟩:=I.cell z c hc
   rw[q,ha]at ho; cases ho) (fun p hp q=>by
   have:=(I.pin p hp).1
   rw[q,ha]at this; cases this) ⟨⟨oe4,he4,hcl4,hd4,hnc⟩,⟨oe4,he4⟩,fun h1 h2 ⟨o,q1,q2,q3⟩ k=>⟨o,k o q1,q2,q3⟩⟩
 have I5':Inv (X.inn a (KW (model X.prog X.w) (X.A.mark (some (.ref a))) X.env n hpos (notedBy (model X.prog X.w) (X.A.mark (some (.ref a))) X.env (cameBackBy (model X.prog X.w) X.A X.env X.xe)))) pins σ (upd H' a (xo a C' d)) { s' with heap:=h4 }:=I5.inn
 refine zAv (X:=X.inn a (KW (model X.prog X.w) (X.A.mark (some (.ref a))) X.env n hpos (notedBy (model X.prog X.w) (X.A.mark (some (.ref a))) X.env (cameBackBy (model X.prog X.w) X.A X.env X.xe)))) (v:=.ref a) I5' hN hj (.inl hk) rfl (fun s5 I6=>?_) (.inr hk)
 refine BG (hs a _ pins s5 _ _ (endsJ j D) I6 (hts a hHa)) (fun fl s6 q=>?_) fun _ _ z=>z
 have ok:=I.ok
 cases fl with
 | next =>
  obtain⟨σ',H2,J,q⟩:=q
  exact zB2 (J.out ok) hN hj hk fun s7 I7=>⟨_,H2,I7,q⟩
 | brk =>
  obtain⟨σ',H2,J,q⟩:=q
  exact zB2 (J.out ok) hN hj hk fun s7 I7=>⟨_,H2,I7,q⟩
 | cont =>
  obtain⟨σ',H2,J,q⟩:=q
  exact zB2 (J.out ok) hN hj hk fun s7 I7=>⟨_,H2,I7,q⟩
 | ret u =>
  obtain⟨v,σ',H2,J,rv,q⟩:=q
  exact zB2 (J.out ok) hN hj hk fun s7 I7=>⟨v,_,H2,I7,rv,q⟩
end
end L2
namespace D
open PySem L2
section
variable {K:Fg}
theorem zIy{C:Fr}{w:W}{Γ1:En}{σ:St}{H1:Hp}{vs:List V}{ss:List S}{gs:List G}(R1:Rep K C w Γ1 σ H1)(o1:SOks K C w σ H1 vs ss)(e2:argsG none Γ1 0 ss=some gs) :
  Rep K ⟨H1,[],[]⟩ ⟨[],fun q=>∃ o,H1 q=some o⟩ (gs.map some) (vs.map some) H1:=by
 have hl:=o1.len
 have hgl:=zBF e2
 refine⟨by simp[hl,hgl],fun j g h=>?_,fun i j p ga gb ma mb h1 h2 h3 h4=>?_,fun p hp=>(nomatch hp),fun p hp=>(nomatch hp),fun p hp=>hp,fun p hp=>nofun,fun b o h _=>h,fun q hq=>(nomatch hq)⟩
 ·rw[Ai]at h
  obtain⟨g',h',h⟩:=zAA h
  cases h
  obtain⟨s,a1,a2⟩:=zAa e2 h'
  obtain⟨v,b1,b2⟩:=o1.get a1
  refine⟨v,by rw[Ai,b1]; rfl,?_⟩
  cases s with
  | v t=>cases a2; exact b2
  | l xs =>
   simp only[argG,reduceCtorEq,if_false,Ak]at a2
   subst a2
   obtain⟨p,us,rfl,n1,n2,ow,h1,h2⟩:=b2
   exact⟨p,us,rfl,h2,h1,nofun,⟨_,h1⟩⟩
  | d xs =>
   simp only[argG,reduceCtorEq,if_false,Ak]at a2
   subst a2
   obtain⟨p,us,rfl,n1,n2,ow,h1,h2⟩:=b2
   exact⟨p,us,rfl,h2,h1,nofun,⟨_,h1⟩⟩
  | s i =>
   have b2':σ[i]?=some (some v):=b2
   unfold argG at a2
   dsimp only at a2
   split at a2
   ·rename_i xs hx
    simp only[reduceCtorEq,if_false,Ak]at a2
    subst a2
    obtain⟨v',c1,p,us,rfl,c2,c3,c4⟩:=R1.val i _ hx
    rw[b2']at c1; cases c1
    exact⟨p,us,rfl,c4,c3,nofun,⟨_,c3⟩⟩
   ·rename_i xs hx
    simp only[reduceCtorEq,if_false,Ak]at a2
    subst a2
    obtain⟨v',c1,p,us,rfl,c2,c3⟩:=R1.val i _ hx
    rw[b2']at c1; cases c1
    exact⟨p,us,rfl,c2,c3.1,nofun,R1.ra p c3.2.2⟩
   ·rename_i xs hx
    simp only[reduceCtorEq,if_false,Ak]at a2
    subst a2
    obtain⟨v',c1,c2⟩:=R1.val i _ hx
    rw[b2']at c1; cases c1
    exact c2
   ·rename_i xs hx
    simp only[reduceCtorEq,if_false,Ak]at a2
    subst a2
    obtain⟨v',c1,p,us,rfl,c2,c3,c4⟩:=R1.val i _ hx
    rw[b2']at c1; cases c1
    exact⟨p,us,rfl,c4,c3,nofun,⟨_,c3⟩⟩
   ·rename_i xs hx
    simp only[reduceCtorEq,if_false,Ak]at a2
    subst a2
    obtain⟨v',c1,p,us,rfl,c2,c3⟩:=R1.val i _ hx
    rw[b2']at c1; cases c1
    exact⟨p,us,rfl,c2,c3.1,nofun,R1.ra p c3.2.2⟩
   ·cases a2
 ·rw[Ai]at h1
  obtain⟨g',h',h⟩:=zAA h1
  cases h
  obtain⟨s,a1,a2⟩:=zAa e2 h'
  cases s with
  | v t=>cases a2; cases ma
  | l xs=>simp[argG]at a2; subst a2; cases ma
  | d xs=>simp[argG]at a2; subst a2; cases ma
  | s i =>
   unfold argG at a2
   dsimp only at a2
   split at a2 <;> simp at a2 <;> (subst a2; cases ma)
theorem Rep.unset{C:Fr}{w:W}{Γ:En}{σ:St}{H:Hp}{j:Nat}(R:Rep K C w Γ σ H)(hn:∀ q∈C.pins,q.1≠j):Rep K C w (Γ.set j none) (σ.set j none) H:=by
 have back:∀ (m:Nat) (g:G),(Γ.set j none)[m]?=some (some g)->m≠j/\Γ[m]?=some (some g):=fun m g h=>by
  by_cases e:m=j
  ·subst e
   rcases Cw m Γ.length with z | z
   ·rw[Aq z]at h; cases h
   ·rw[B1 (by simpa using z)]at h; cases h
  ·rw[AS (Av e)]at h; exact⟨e,h⟩
 refine⟨by simpa using R.len,fun m g h=>?_,fun a b p ga gb ma mb h1 h2 h3 h4=>?_,R.lst,R.own,R.ra,R.rl,R.frame,fun q hq=>?_⟩
 ·obtain⟨n,h'⟩:=back m g h
  obtain⟨v,e1,e2⟩:=R.val m g h'
  exact⟨v,by rw[AS (Av n)]; exact e1,e2⟩
 ·obtain⟨n1,g1⟩:=back a ga h1
  obtain⟨n2,g2⟩:=back b gb h2
  rw[AS (Av n1)]at h3
  rw[AS (Av n2)]at h4
  exact R.apart a b p ga gb ma mb g1 g2 h3 h4
 ·obtain⟨h1,xs,h2⟩:=R.pin q hq
  have:=hn q hq
  exact⟨by rw[AS (Av this)]; exact h1,xs,by rw[AS (Av this)]; exact h2⟩
end
def goO(j:Nat):O->O
 | .nx Γ=>.nx (Γ.set j none)
 | .bk Γ=>.bk (Γ.set j none)
 | .ct Γ=>.ct (Γ.set j none)
 | .rt s Γ=>.rt s Γ
section
variable {K:Fg}{ip:Option Nat}
theorem zK8{C:Fr}{D:Ends}{j:Nat}{o:O}(hn:∀ q∈C.pins,q.1≠j)(k:OkO K C D (goO j o)):OkO K C (endsJ j D) o:=by
 cases o with
 | nx Γ=>exact fun w σ H R=>k w _ H (R.unset hn)
 | bk Γ=>exact fun w σ H R=>k w _ H (R.unset hn)
 | ct Γ=>exact fun w σ H R=>k w _ H (R.unset hn)
 | rt s Γ=>exact k
end
def Cat(K:Fg)(mg:Str->Option AB)(y c:Str):Prop:=∃ D,mg y=some (.ref D)/\∀ C,A8 K AU c=some (some (.ref C))->catches K C D=true
abbrev EE:=AB->AH->Prop
abbrev onF{ι:Type}(X:ι->Cx):ι×EE->Cx:=fun q=>(X q.1).on q.2
abbrev innF{ι:Type}(X:ι->Cx):ι×Addr×EE->Cx:=fun q=>(X q.1).inn q.2.1 q.2.2
end D
namespace L2
open PySem PySem.Spec PyProof.Rows
open PySem.W in
theorem zHA{K:Frag}{prog:Ac}{w:Al}{A:A5}{E:AB->AH->Prop}{s:AH}{x D:Addr}{ox:Obj}{od:Option Obj}{Q:Option AB->AH->Prop}(X:K.In s.heap)(I:InstAt s.heap x ox D od)
  (hga:findIn K (.ref D) "__getattribute__"=some (some (.builtin "BaseException.__getattribute__"))) (hg0:findIn K (.ref D) "__getattr__"=some none)
  (hf:findObj K D od "__class__"=some (.bind (.builtin "getset_descriptor.__get__") (.builtin "object.__class__"))) (hm:mroIn K D (.type "object")=some true) (hb:subIn K (.ref D) (.type "BaseException")=some true)
  (h:Q (some (.ref D)) { s with toks:=s.toks+1 }):AZ (model prog w) A (J8 (.ref x) "__class__") Q E s:=by
 obtain⟨hh,g,d,t,os⟩:=s
 have L0:=I.type (M:=model prog w)
 have L1:=looks_findIn (M:=model prog w) X hga
 have L2:=looks_findIn (M:=model prog w) X hg0
 have L3:=looks_subIn (M:=model prog w) X hb
 have L4:=looks_find (M:=model prog w) X I hf
 have f3:=DY.ga.bind (.ref x)
 have hx1:(GI (Aj D) && B9 "BaseException.__getattribute__" == B9 "object.__getattribute__")=false:=by
  rw[show (B9 "BaseException.__getattribute__" == B9 "object.__getattribute__")=false by decide +kernel]; rfl
 unfold J8 getAttrBy? getAttrBy
 refine AA (Kj (AA (EY (CH (AA (L0.at (AA (L1.at ?_))))))))
 dsimp only
 rw[if_neg (by rw[hx1]; decide)]
 unfold Js hookBefore
 refine AA ?_
 rw[if_pos (show GI (Aj D)=true from rfl)]
 refine L2.at ?_
 refine AA (EY (CH ?_))
 unfold JN
 rw[if_neg (by simp)]
 repeat (any_goals (first | assumption | wp_step))
 refine FG DY.ga.plain Ib ?_
 have hk:Ho "BaseException.__getattribute__"=some .slot:=by decide +kernel
 have hsplit:Kk "BaseException.__getattribute__"=some ("BaseException","__getattribute__"):=by decide +kernel
 simp only[Ef,hk,hsplit]
 unfold Gs
 have ha:=JO (.ref x) (.str "__class__" t)
 dsimp only[BS,Bo]
 refine AA (AA (L0.at (L3.at ?_)))
 simp only[Cd,CQ,if_false]
 repeat (first | assumption | with_reducible refine L0.at ?_ | with_reducible refine L4.at ?_ | wp_step)
 refine PySem.W.class_get (s:=⟨hh,g,d,t+1,os⟩) X I hm ?_
 exact AO (PySem.W.handed_on rfl (AO h))
def excKit(K:AJ)(D:Addr):Bool:=Bb K (.ref D) "__getattribute__" == some (some (.builtin "BaseException.__getattribute__")) && Bb K (.ref D) "__getattr__" == some none && CS K (.ref D) (.type "BaseException") == some true && (CT K D).isSome && Bb K (.ref D) "__class__" == some (some (.builtin "object.__class__")) &&
 PySem.W.specialIn K (.builtin "object.__class__") "__get__" == some (some (.builtin "getset_descriptor.__get__")) && PySem.W.takesIn K (.builtin "object.__class__") == some true && PySem.W.mroIn K D (.type "object") == some true
abbrev xψ(x D:Addr)(d:Option Addr):Heap->Prop:=fun h=>xφ x D d h/\∀ dx,d=some dx->∃ u,h.get? dx=some u
theorem zCK{K:AJ}{x D:Addr}{d:Option Addr}(q:excKit K D=true):Hk K (.ref x) (.ref D) (xψ x D d):=by
 unfold excKit at q
 simp only[Af,beq_iff_eq]at q
 obtain⟨⟨⟨⟨⟨⟨⟨q0,q01⟩,q02⟩,q2⟩,q3⟩,q4⟩,q5⟩,q6⟩:=q
 refine⟨fun M h X p=>?_,fun M h X _=>zDd X q2,fun h tp dd its n sl X htp=>?_,fun {prog w A E Q s} X p k=>?_⟩
 ·obtain⟨⟨o,h1,h2,_⟩,_⟩:=p
  exact h2 ▸ (GH h1).andThen .now
 ·refine Bool.eq_false_iff.mpr fun z=>?_
  have e:D=tp:=Kl (beq_iff_eq.mp z)
  subst e
  unfold CT at q2
  split at q2
  ·rename_i ho
   have z:=(X _ _ ho).symm.trans htp
   cases z
  ·cases q2
 ·obtain⟨⟨o,h1,h2,h3,h4⟩,h5⟩:=p
  have go:∀ od:Option Obj,PySem.W.InstAt s.heap x o D od->AZ (model prog w) A (J8 (.ref x) "__class__") Q E s:=fun od I=>by
   have hf:HK K D od "__class__"=some (.bind (.builtin "getset_descriptor.__get__") (.builtin "object.__class__")):=by
    obtain⟨cd,hc⟩:=B7.mp q2
    unfold HK
    rw[hc,AV,q3,AV]
    simp[q4,q5]
   exact zHA X I q0 q01 hf q6 q02 k
  cases d with
  | none=>exact go none ⟨h1,h2,h4,by rw[h3]; trivial⟩
  | some dx =>
   obtain⟨u,hu⟩:=h5 dx rfl
   exact go (some u) ⟨h1,h2,h4,by rw[h3]; exact hu⟩
def IsA(K:AJ)(H:Hp)(C:Addr)(y:V)(b:Bool):Prop:=(∃ D,y=.ref D/\Bt K (.ref C) (.ref D)=some b)\/(∃ T,y=.ty T/\Bt K (.ref C) (.type T)=some b)\/∃ (q:Addr) (ds:List Addr),y=.ref q/\SqT K H q (ds.map V.ref)/\EZ K (.ref C) (ds.map Aj)=some b
def rIsX(K:AJ):List V->Hp->VK->Prop:=fun xs H Q=>∃ p C d y b,xs=[.ref p,y]/\H p=some (.ext (xφ p C d))/\(∀ dx,d=some dx->∃ fs,H dx=some (.xd fs))/\excKit K C=true/\IsA K H C y b/\Q (.bl b) H
theorem zEC:∀ {ds:List Addr} {its:List AB},Vals (ds.map V.ref) its->its=ds.map Aj
 | [],[],_=>rfl
 | [],_::_,h=>by cases h
 | d::ds,_,h=>by
  cases h with
  | cons a r=>rw[zEC r]; cases a; rfl
theorem zID{X:Cx}:CallR X (.builtin "isinstance") (rIsX X.K):=by
 intro pins s σ H xs us Q I r h
 obtain⟨p,C,d,y,b,rfl,e,ed,k,hy,q⟩:=h
 cases r with
 | cons r1 r =>
  cases r with
  | cons r2 r =>
   cases r
   cases r1
   have φ:xψ p C d s.heap:=⟨(show ObjOk X.prog X.w H s.heap p (.ext (xφ p C d)) from I.hok p _ e).1,fun dx z=>by obtain⟨fs,z⟩:=ed dx z; exact zCE (I.hok dx _ z)⟩
   rcases hy with ⟨D,rfl,e2⟩ | ⟨T,rfl,e2⟩ | ⟨tq,ds,rfl,e2,e3⟩
   ·cases r2
    exact FO (zCK k) I.kIn φ e2 (by intro z; cases z) fun tk=>⟨.bl b,H,I.tok tk,rfl,q⟩
   ·cases r2
    exact FO (zCK k) I.kIn φ e2 (by intro z; cases z) fun tk=>⟨.bl b,H,I.tok tk,rfl,q⟩
   ·cases r2
    obtain⟨its,rv,⟨o,h1,h2,n,h3⟩,_⟩:=I.tuple e2
    obtain⟨oc,od,oda,osl⟩:=o
    simp only at h2 h3
    subst h2 h3
    rw[zEC rv]at h1
    exact HJ (zCK k) I.kIn φ h1 e3 (by intro z; cases z) fun tk=>⟨.bl b,H,I.tok tk,rfl,q⟩
end L2
namespace D
open PySem L2
def XKC(K:Fg)(cs:List Str)(mro:List (Str×List Str)):Bool:=mro.all fun q=>match A8 K AU q.1 with
 | some (some (.ref C))=>excKit K C && Bt K (.ref C) (.type "ValueError") == some true && cs.all fun d=>match A8 K AU d with
  | some (some (.ref D))=>Bt K (.ref C) (.ref D) == some (q.2.contains d)
  | _=>false
 | _=>false
theorem zFy{K:Fg}{cs:List Str}{mro:List (Str×List Str)}(h:XKC K cs mro=true){c:Str}{ms:List Str}(e:mro.lookup c=some ms):∃ C,A8 K AU c=some (some (.ref C))/\excKit K C=true/\Bt K (.ref C) (.type "ValueError")=some true /\
  ∀ d∈cs,∃ D,A8 K AU d=some (some (.ref D))/\Bt K (.ref C) (.ref D)=some (ms.contains d):=by
 have hm:(c,ms)∈mro:=A0 e
 have:=A4.mp h _ hm
 dsimp only at this
 split at this
 ·rename_i C hC
  simp only[Af,beq_iff_eq]at this
  obtain⟨⟨a,b⟩,c'⟩:=this
  refine⟨C,hC,a,b,fun d hd=>?_⟩
  have:=A4.mp c' d hd
  split at this
  ·rename_i D hD
   exact⟨D,hD,beq_iff_eq.mp this⟩
  ·cases this
 ·cases this
def fnsOf:List T->Option (List Str)
 | []=>some []
 | .f d::r=>(fnsOf r).map fun ds=>d::ds
 | _=>none
def isXS(cs:List Str)(mro:List (Str×List Str)):En->List S->Option S:=fun _ as=>match as with
 | [.v (.x c fs),.v (.f d)]=>(mro.lookup c).bind fun ms=>if d∈cs then some (mkB (ms.contains d)) else none
 | [.v (.x c fs),.v (.a (.ty t))]=>if t="ValueError" then (mro.lookup c).map fun _=>mkB true else none
 | [.v (.x c fs),.v (.t ts)]=>(fnsOf ts).bind fun ds=>(mro.lookup c).bind fun ms=>if ∀ d∈ds,d∈cs then some (mkB (ds.any fun d=>ms.contains d)) else none
 | _=>none
theorem zHC{K:Fg}{H:Hp}:∀ {ts:List T} {vs:List V} {ds:List Str},fnsOf ts=some ds->Ims K H vs ts->∃ as:List Addr,vs=as.map V.ref/\Bp (fun d (a:Addr)=>A8 K AU d=some (some (.ref a))) ds as
 | [],vs,ds,e,h=>by cases e; unfold Ims at h; exact⟨[],h,.nil⟩
 | t::r,vs,ds,e,h=>by
  unfold fnsOf at e
  split at e
  ·rename_i h0; cases h0
  ·rename_i d r' h0
   cases h0
   obtain⟨ds',e1,e⟩:=zAA e
   cases e
   unfold Ims at h
   obtain⟨v,vr,rfl,h1,h2⟩:=h
   obtain⟨p,rfl,hp⟩:=h1.invf
   obtain⟨as,rfl,pr⟩:=zHC e1 h2
   exact⟨p::as,rfl,.cons hp pr⟩
  ·cases e
theorem zFF{K:Fg}{C:Addr}{ms cs:List Str}(hk:∀ d∈cs,∃ D,A8 K AU d=some (some (.ref D))/\Bt K (.ref C) (.ref D)=some (ms.contains d)):∀ {ds:List Str} {as:List Addr},Bp (fun d (a:Addr)=>A8 K AU d=some (some (.ref a))) ds as->(∀ d∈ds,d∈cs)->EZ K (.ref C) (as.map Aj)=some (ds.any fun d=>ms.contains d)
 | _,_,.nil,_=>rfl
 | d::ds,a::as,.cons h r,hd=>by
  obtain⟨D,e1,e2⟩:=hk d (hd d AE)
  rw[h]at e1
  cases e1
  rw[Ah,CA]
  unfold EZ
  rw[e2]
  cases hc:ms.contains d with
  | true=>rfl
  | false=>simpa using zFF hk r fun x hx=>hd x (AG _ hx)
theorem zCw{K:Fg}{H:Hp}{v:V}{c:Str}{fs:List (Str×V)}{C:Addr}(h:Im K H v (.x c fs))(hC:A8 K AU c=some (some (.ref C))):∃ p d,v=.ref p/\H p=some (.ext (xφ p C d))/\∀ dx,d=some dx->∃ fs,H dx=some (.xd fs):=by
 obtain⟨p,rfl,C',d,h1,h2,h3⟩:=h.invx
 rw[hC]at h1
 cases h1
 refine⟨p,d,rfl,h2,fun dx z=>?_⟩
 rcases h3 with ⟨rfl,_⟩ | ⟨dx',rfl,h4⟩
 ·cases z
 ·cases z; exact⟨fs,h4⟩
theorem zGr{K:Fg}{cs:List Str}{mro:List (Str×List Str)}(hx:XKC K cs mro=true):SimRs K (rIsX K) (isXS cs mro):=by
 intro C w Γ σ H vs as s Q R o e k
 unfold isXS at e
 split at e
 ·rename_i c fs d
  obtain⟨ms,e1,e⟩:=bind_some e
  split at e
  ·rename_i hd
   cases e
   obtain⟨v,u,rfl,o1,o2⟩:=soks2 o
   obtain⟨Cc,c1,c2,c3,c4⟩:=zFy hx e1
   obtain⟨p,dd,rfl,h1,h2⟩:=zCw (show Im K H v (.x c fs) from o1) c1
   obtain⟨q,rfl,hq⟩:=(show Im K H u (.f d) from o2).invf
   obtain⟨D,d1,d2⟩:=c4 d hd
   rw[hq]at d1
   cases d1
   exact⟨p,Cc,dd,_,_,rfl,h1,h2,c2,.inl ⟨q,rfl,d2⟩,k _ H R .refl SOk.atom trivial⟩
  ·cases e
 ·rename_i c fs t
  split at e
  ·rename_i ht
   subst ht
   obtain⟨ms,e1,e⟩:=zAA e
   cases e
   obtain⟨v,u,rfl,o1,o2⟩:=soks2 o
   obtain⟨Cc,c1,c2,c3,c4⟩:=zFy hx e1
   obtain⟨p,dd,rfl,h1,h2⟩:=zCw (show Im K H v (.x c fs) from o1) c1
   exact⟨p,Cc,dd,_,_,rfl,h1,h2,c2,.inr (.inl ⟨_,o2.inva,c3⟩),k _ H R .refl SOk.atom trivial⟩
  ·cases e
 ·rename_i c fs ts
  obtain⟨ds,e0,e⟩:=bind_some e
  obtain⟨ms,e1,e⟩:=bind_some e
  split at e
  ·rename_i hd
   cases e
   obtain⟨v,u,rfl,o1,o2⟩:=soks2 o
   obtain⟨Cc,c1,c2,c3,c4⟩:=zFy hx e1
   obtain⟨p,dd,rfl,h1,h2⟩:=zCw (show Im K H v (.x c fs) from o1) c1
   obtain⟨q,us,rfl,hq,hi⟩:=o2.invt
   obtain⟨ads,rfl,pr⟩:=zHC e0 hi
   exact⟨p,Cc,dd,_,_,rfl,h1,h2,c2,.inr (.inr ⟨q,ads,rfl,hq.sq,zFF c4 pr hd⟩),k _ H R .refl SOk.atom trivial⟩
  ·cases e
 ·cases e
end D
namespace D
open PySem L2
@[simp low] theorem zP2{α:Type}{b:Bool}{x y:α}:ifB b (x:=⟨x⟩) (y:=⟨y⟩)=if b=true then x else y:=rfl
@[simp low] theorem zP1{α:Type}{p:Option Nat}{k:Nat}{x y:α}:ifO p k x y=if p=some k then x else y:=rfl
@[simp low] theorem zPV{α:Type}{m k:Nat}{x y:α}:ifN m k x y=if m=k then x else y:=rfl
@[simp low] theorem zPS{α:Type}{k:Nat}{l:List Nat}{x y:α}:ifM k l x y=if k∈l then x else y:=rfl
end D
namespace L2
open PySem PySem.Spec PyProof.Rows
theorem zCi{prog:Ac}{w:Al}{A:A5}{E:AB->AH->Prop}{h:Heap}
 {g:Array Fl} {d:IP} {t:Nat} {os:Ic} {nm q:Str} {C N:Addr} {bs bm bmB:List AB}
 {hdct:Bool} {sn:List Str} {sub:List AB} {ab:Bool} {col:Option Bool} {dd:Option Addr}
 {k0 k1 k2 k3 k5:Option AB} {B newId initId:String} {mN:Str->Option AB} {rest:List AB} {fI:Addr} {oI:Obj} {Q:PySem.Fin->AH->Prop}
 (F:Km B newId initId bmB) (T:Kn h bmB bm) (hbase:bm.contains (.type "BaseException")=true)
 (hC:h.get? C=some (Hq nm q C N bs bm hdct sn sub ab col dd k0 k1 k2 k3 k5 newId)) (hN:h.Ns N mN) (hi:mN (Bl "__init__")=some (Aj fI)) (hf:h.get? fI=some oI) (hfc:oI.cls=Bc "function")
 (hK:∀ (h':Heap) (e:Addr),h.MadeExcOf h' e (Aj C) rest->AZ (model prog w) A (call (Aj fI) (Aj e::rest)) (fun r s'=>r=A6/\Q (Fin.done (KY (Aj e))) s') E { heap:=h',gens:=g,drawn:=d,toks:=t,os:=os })
 (hr:rest.length<=AC:=by decide) :
  AZ (model prog w) A (Builtin.«type.__call__» { pos:=Aj C::rest }) Q E { heap:=h,gens:=g,drawn:=d,toks:=t,os:=os }:=by
 have hB:bmB.contains (Bc B)=true:=F.hasB
 unfold Builtin.«type.__call__»
 repeat (any_goals (first | assumption | wp_step))
 have e0:=F.entry
 refine Gz (HL _ F.quiet) (wpAny_check_new_subU F hB T hC (codeAny_exc_new_subU F hB F T hC ?_ hr))
 dsimp only
 have hm:h.MadeExcOf ((h.push { cls:=Bc "tuple",data:=Gw rest.toArray }).push { cls:=Aj C,data:=Gv #[Aj h.objs.size,A6,A6,A6,EG false,A6] }) (h.objs.size+1) (.ref C) rest:=by
  have sz:(h.push { cls:=Bc "tuple",data:=Gw rest.toArray }).objs.size=h.objs.size+1:=Bx ..
  refine⟨fun b o e=>AI _ (AI _ e),Cn (G8 _),h.objs.size,?_,Cn (AL _),AI _ (Ad _ rfl)⟩
  rw[← sz]
  exact Ad _ rfl
 have hC':=hm.keeps _ _ hC
 have hN':=hN.keeps hm.keeps
 have hf':=hm.keeps _ _ hf
 have T':=T.keeps hm.keeps
 have hk:=hK _ _ hm
 obtain⟨tt,he,_,_⟩:=hm.there
 generalize (h.push { cls:=Bc "tuple",data:=Gw rest.toArray }).push { cls:=Aj C,data:=Gv #[Aj h.objs.size,A6,A6,A6,EG false,A6] }=h2 at *
 repeat (any_goals (first | assumption | wp_step))
 show AZ (model prog w) A (JM (.ref C) (.ref C)) _ E _
 unfold JM
 repeat (any_goals (first | assumption | wp_step))
 show AZ (model prog w) A (DX (.ref C) (Bl "__init__")) _ E _
 refine wpAny_typeLookup_tail hC' hN' T' F.mroIs F.init.lookup ?_
 rw[hi]
 dsimp only
 repeat (any_goals (first | assumption | wp_step))
 refine wpAny_bindSpecial_def hf' hfc ?_
 refine AA (BG hk (fun r s' hrr=>?_) (fun _ _ z=>z))
 obtain⟨rfl,hq⟩:=hrr
 repeat (any_goals (first | assumption | wp_step))
theorem zC7{prog:Ac}{w:Al}{A:A5}{E:AB->AH->Prop}{h:Heap}
 {g:Array Fl} {d:IP} {t:Nat} {os:Ic} {nm q:Str} {C N:Addr} {bs bm bmB:List AB}
 {hdct:Bool} {sn:List Str} {sub:List AB} {ab:Bool} {col:Option Bool} {dd:Option Addr}
 {k0 k1 k2 k3 k5:Option AB} {B newId initId:String} {mN:Str->Option AB} {rest:List AB} {fI:Addr} {oI:Obj} {Q:AB->AH->Prop}
 (F:Km B newId initId bmB) (T:Kn h bmB bm) (hbase:bm.contains (.type "BaseException")=true)
 (hC:h.get? C=some (Hq nm q C N bs bm hdct sn sub ab col dd k0 k1 k2 k3 k5 newId)) (hN:h.Ns N mN) (hi:mN (Bl "__init__")=some (Aj fI)) (hf:h.get? fI=some oI) (hfc:oI.cls=Bc "function")
 (hK:∀ (h':Heap) (e:Addr),h.MadeExcOf h' e (Aj C) rest->AZ (model prog w) (A.under (Df "type.__call__" { pos:=Aj C::rest })) (call (Aj fI) (Aj e::rest)) (fun r s'=>r=A6/\Q (Aj e) s') E { heap:=h',gens:=g,drawn:=d,toks:=t,os:=os })
 (hr:rest.length<=AC:=by decide) :
  AZ (model prog w) A (call (.ref C) rest) Q E { heap:=h,gens:=g,drawn:=d,toks:=t,os:=os }:=by
 refine Fd (codeAny_of_tree ?_)
 repeat (any_goals (first | assumption | wp_step))
 show AZ _ _ (DX (.type "type") (Bl "__call__")) _ _ _
 rw[show DX (.type "type") (Bl "__call__")=pure (some (.builtin "type.__call__")) from by rw[E3,DU]; kernel_rfl]
 refine AO ?_
 dsimp only
 unfold bindSpecial callAny.plainCallee
 repeat (any_goals (first | assumption | wp_step))
 refine⟨rfl,Gz (HL _ (by decide +kernel)) ?_⟩
 show AZ _ _ (Ef "type.__call__" { pos:=.ref C::rest }) _ _ _
 have go:EM (model prog w) A (Df "type.__call__" { pos:=.ref C::rest }) (fun r s'=>match r with | JP (KY v)=>Q v s' | JP _=>False | GS e=>E e s') { heap:=h,gens:=g,drawn:=d,toks:=t,os:=os }:=by
  refine codeAny_builtin PySem.F.entry_type_call ?_
  exact zCi F T hbase hC hN hi hf hfc hK hr
 exact wpAny_check_type_call_sub hC go
def dropRefs:List AB->List AB
 | .ref _::l=>dropRefs l
 | l=>l
theorem zBk(self:AB):∀ {l:List AB},dropRefs l=veB->refuseLoop self "__setattr__" l=pure ()
 | .ref C::l,h=>by rw[refuseLoop_ref]; exact zBk self h
 | [],h=>by cases h
 | .none::l,h=>by cases h
 | .bool _::l,h=>by cases h
 | .int _ _::l,h=>by cases h
 | .float _ _::l,h=>by cases h
 | .str _ _::l,h=>by cases h
 | .bytes _ _::l,h=>by cases h
 | .builtin _::l,h=>by cases h
 | .type _::l,h=>by
  have e:Bc _::l=veB:=h
  rw[e]; exact B2.passes self
 | .notImplemented::l,h=>by cases h
 | .ellipsis::l,h=>by cases h
open PySem.W in
theorem zJn{K:Frag}{prog:Ac}{w:Al}{A:A5}{E:AB->AH->Prop}{h:Heap}{g:Array Fl}{d:IP}{t:Nat}{os:Ic}{x C:Addr}{ox:Obj}{name:Str}{v:AB}{mA:Str->Option AB}{ns:List Str}{cd:ClassData}{Q:Unit->AH->Prop}
  (X:K.In h) (hx:h.get? x=some ox) (hc:ox.cls=.ref C) (hnc:notCls ox=true) (hdx:(ox.dict=none/\∀ n,mA n=none)\/∃ dx,ox.dict=some dx/\dx≠x/\h.Ns1 dx mA)
  (q1:findIn K (.ref C) "__setattr__"=some (some (.builtin "object.__setattr__"))) (q2:findIn K (.ref C) name=some none) (q3:clsIn K C=some cd) (q4:dropRefs cd.mro=veB) (q5:cd.hasDict=true) (q6:subIn K (.ref C) (.type "object")=some true)
  (hw:Within mA ns) (hsz:ns.length<=1000)
  (hq:∀ h' tk' dx,(ox.dict=some dx\/(ox.dict=none/\h.get? dx=none))->h'.get? x=some { ox with dict:=some dx }->dx≠x->h'.Ns1 dx (fun y=>if y=name then some v else mA y)->(∀ b o,b≠x->b≠dx->h.get? b=some o->h'.get? b=some o)->Q () ⟨h',g,d,tk',os⟩) :
  AZ (model prog w) A (Ko (.ref x) name v) Q E ⟨h,g,d,t,os⟩:=by
 have L0:Looks (model prog w) h (Gm (.ref x)) (.ref C):=hc ▸ (Looks.ld hx).andThen .now
 have L1:=looks_findIn (M:=model prog w) X q1
 have L2:=looks_findIn (M:=model prog w) X q2
 have L3:=looks_subIn (M:=model prog w) X q6
 have L4:=looks_clsIn (M:=model prog w) X q3
 have f3:=B2.slot.bind (.ref x)
 unfold Ko callSpecial? specialOf
 repeat (any_goals (first | assumption | with_reducible refine L0.at ?_ | with_reducible refine L1.at ?_ | wp_step))
 refine FG B2.slot.plain B2.entry ?_
 have hk:Ho "object.__setattr__"=some .slot:=B2.kind
 have hsplit:Kk "object.__setattr__"=some ("object","__setattr__"):=B2.split
 have ha:=B2.args (.ref x) (.str name t) v
 simp only[Ef,hk,hsplit]
 unfold Gs
 dsimp only[BS,Bo]
 refine AA (AA (L0.at (L3.at ?_)))
 simp only[Cd,CQ,if_false]
 have hpass:=zBk (.ref x) q4
 repeat (any_goals (first | assumption | with_reducible refine L0.at ?_ | with_reducible refine L2.at ?_ | with_reducible refine L4.at ?_ | rw[refuse_eq] | rw[hpass] | wp_step))
 rw[hc]
 refine AA (L4.at ?_)
 simp only[q5,Cd,CQ,if_false]
 obtain⟨oc,odc,oda,osl⟩:=ox
 dsimp only at hc hnc hdx hq ⊢
 subst hc
 rcases hdx with ⟨hdn,hmA⟩ | ⟨dx,hde,hne,hns⟩
 ·subst hdn
  dsimp only
  have hxs:h.objs.size≠x:=C9 (Aa hx)
  have hx1:=AI { cls:=Bc "dict",data:=FT #[] } hx
  have hnd:∀ c,oda≠.cls c:=fun c z=>by rw[z]at hnc; cases hnc
  have fr:(Obj.mk (Aj C) (some h.objs.size) oda osl).isFreed=false:=by
   have:=(Heap.get?_some_iff.mp hx).2
   cases oda <;> first | rfl | exact this
  have hD:((h.push { cls:=Bc "dict",data:=FT #[] }).update x fun o=>{ cls:=o.cls,dict:=some h.objs.size,data:=o.data,slots:=o.slots }).get? h.objs.size=some { cls:=Bc "dict",data:=FT #[] } :=
   (BO _ _ (Av hxs)).trans (Ad h rfl)
  have hN0:=Heap.Ns1.of_empty (⟨_,#[],_,hD,rfl,fun e he=>absurd he (by simp),fun _=>rfl⟩:Heap.Ns _ h.objs.size fun _=>none)
  have hX2:=Bz (fun o=>{ cls:=o.cls,dict:=some h.objs.size,data:=o.data,slots:=o.slots }) hx1 fr
  have kp:∀ b o,b≠x->h.get? b=some o->((h.push { cls:=Bc "dict",data:=FT #[] }).update x fun o=>{ cls:=o.cls,dict:=some h.objs.size,data:=o.data,slots:=o.slots }).get? b=some o:=fun b o n e=>(BO _ _ (Av n)).trans (AI _ e)
  rw[if_neg (by simp[typeHasDict])]
  split
  ·rename_i c; exact absurd rfl (hnd c)
  ·refine AA (wpAny_alloc' (AA (wpAny_update' hx1 (AO ?_))))
   show AZ _ _ (Bu h.objs.size (.str name t) name v) _ _ _
   unfold Bu EF
   refine AA (AO (AA (Kp hN0 fun h2 hn2 hs2=>?_)))
   obtain⟨oD,eD,pD,gD,dD,lD⟩:=hn2.count (IJ name v Within.nil)
   refine AA (JQ gD (by rw[dD]; exact JR (As lD (by rw[AW,DR,EL]; omega))) ?_)
   wp_walk
   obtain⟨o',es,ep,r1,r2,r3,r4,r5⟩:=hn2
   exact hq h2 _ h.objs.size (.inr ⟨rfl,Cn (AL _)⟩) ((hs2.2 x (Av hxs)).trans hX2) hxs ⟨o',es,ep,r1,r2,r3,r4,fun y=>by rw[r5 y]; by_cases hy:y=name <;> simp[hy,hmA]⟩ fun b o n1 n2 e=>(hs2.2 b n2).trans (kp b o n1 e)
 ·subst hde
  dsimp only
  refine AO ?_
  show AZ _ _ (Bu dx (.str name t) name v) _ _ _
  unfold Bu EF
  refine AA (AO (AA (Kp hns fun h2 hn2 hs2=>?_)))
  obtain⟨oD,eD,pD,gD,dD,lD⟩:=hn2.count (IJ name v hw)
  refine AA (JQ gD (by rw[dD]; exact JR (As lD (by rw[AW,EL]; omega))) ?_)
  wp_walk
  exact hq h2 _ dx (.inl rfl) ((hs2.2 x (Av hne)).trans hx) hne hn2 fun b o n1 n2 e=>(hs2.2 b n2).trans e
open PySem.W in
theorem zJ8{K:Frag}{prog:Ac}{w:Al}{A:A5}{E:AB->AH->Prop}{h:Heap}{g:Array Fl}{d:IP}{t:Nat}{os:Ic}{x C dx:Addr}{ox:Obj}{name:Str}{v:AB}{mA:Str->Option AB}{cd:ClassData}{ex:Bool}{Q:AB->AH->Prop}
  (X:K.In h) (hx:h.get? x=some ox) (hc:ox.cls=.ref C) (hnc:notCls ox=true) (hde:ox.dict=some dx) (hns:h.Ns1 dx mA) (hv:mA name=some v)
  (q0:findIn K (.ref C) "__getattribute__"=some (some (.builtin "BaseException.__getattribute__"))) (q01:findIn K (.ref C) "__getattr__"=some none) (q2:findIn K (.ref C) name=some none) (q3:clsIn K C=some cd) (q5:cd.hasDict=true) (q6:subIn K (.ref C) (.type "BaseException")=some true)
  (hh:handedOut v=pure v) (hq:Q v ⟨h,g,d,t+1,os⟩):AZ (model prog w) A (Kb (.ref x) name ex) Q E ⟨h,g,d,t,os⟩:=by
 have L0:Looks (model prog w) h (Gm (.ref x)) (.ref C):=hc ▸ (Looks.ld hx).andThen .now
 have L1:=looks_findIn (M:=model prog w) X q0
 have L2:=looks_findIn (M:=model prog w) X q01
 have L3:=looks_subIn (M:=model prog w) X q6
 have L4:=looks_findIn (M:=model prog w) X q2
 have L5:=looks_clsIn (M:=model prog w) X q3
 have f3:=DY.ga.bind (.ref x)
 have hx1:(GI (Aj C) && B9 "BaseException.__getattribute__" == B9 "object.__getattribute__")=false:=by
  rw[show (B9 "BaseException.__getattribute__" == B9 "object.__getattribute__")=false by decide +kernel]; rfl
 unfold Kb getAttrBy
 refine AA (Kj (CH (AA (L0.at (AA (L1.at ?_))))))
 dsimp only
 rw[if_neg (by rw[hx1]; decide)]
 unfold Js hookBefore
 refine AA ?_
 rw[if_pos (show GI (Aj C)=true from rfl)]
 refine L2.at ?_
 refine AA (EY (CH ?_))
 unfold JN
 rw[if_neg (by rw[show GI (B9 "BaseException.__getattribute__")=false from rfl]; simp)]
 repeat (any_goals (first | assumption | wp_step))
 refine FG DY.ga.plain Ib ?_
 have hk:Ho "BaseException.__getattribute__"=some .slot:=by decide +kernel
 have hsplit:Kk "BaseException.__getattribute__"=some ("BaseException","__getattribute__"):=by decide +kernel
 simp only[Ef,hk,hsplit]
 unfold Gs
 have ha:=JO (.ref x) (.str name t)
 dsimp only[BS,Bo]
 refine AA (AA (L0.at (L3.at ?_)))
 simp only[Cd,CQ,if_false]
 repeat (first | assumption | with_reducible refine L0.at ?_ | with_reducible refine L4.at ?_ | with_reducible refine L5.at ?_ | wp_step)
 obtain⟨oc,odc,oda,osl⟩:=ox
 dsimp only at hc hnc hde ⊢
 subst hc hde
 split
 ·rename_i c; cases hnc
 ·unfold instanceDict
  have hn1:=hns.ns
  repeat (first | with_reducible refine Fv hx ?_ | with_reducible refine L5.at ?_ | (with_reducible refine wpAny_nsGet hn1 ?_; rw[hv]) | wp_step)
  exact hq
abbrev xδ(x C:Addr)(d:Option Addr)(da:Data):Heap->Prop:=fun h=>∃ o,h.get? x=some o/\o.cls=.ref C/\o.dict=d/\o.data=da
def setKit(K:AJ)(C:Addr)(ns:List Str):Bool:=Bb K (.ref C) "__setattr__" == some (some (.builtin "object.__setattr__")) && CS K (.ref C) (.type "object") == some true &&
 (match CT K C with
  | some cd=>decide (dropRefs cd.mro=veB) && cd.hasDict
  | none=>false) && ns.all fun n=>Bb K (.ref C) n == some none
theorem zGc{K:AJ}{C:Addr}{ns:List Str}{n:Str}(h:setKit K C ns=true)(hn:n∈ns):Bb K (.ref C) "__setattr__"=some (some (.builtin "object.__setattr__"))/\CS K (.ref C) (.type "object")=some true /\
  Bb K (.ref C) n=some none/\∃ cd,CT K C=some cd/\dropRefs cd.mro=veB/\cd.hasDict=true:=by
 unfold setKit at h
 simp only[Af,beq_iff_eq]at h
 obtain⟨⟨⟨h1,h2⟩,h3⟩,h4⟩:=h
 refine⟨h1,h2,by simpa using A4.mp h4 n hn,?_⟩
 split at h3
 ·rename_i cd e
  rw[Af]at h3
  exact⟨cd,e,of_decide_eq_true h3.1,h3.2⟩
 ·cases h3
theorem zCY{α:Type}:∀ {fs:List (Str×α)} {y:Str},fs.lookup y≠none->y∈fs.map (·.1)
 | [],_,h=>absurd rfl h
 | (n,v)::r,y,h=>by
  by_cases e:y=n
  ·rw[e]; simp
  ·have:(y == n)=false:=by simpa using e
   rw[BR,this]at h
   exact AG _ (zCY h)
section
variable {X:Cx}{pins:List (Addr×Obj)}{σ:St}{H:Hp}{s:AH}{x C:Addr}{d:Option Addr}{da:Data}{fs:List (Str×V)}{name:Str}{ns:List Str}{v:V}{u:AB}{Q:Unit->AH->Prop}
theorem Inv.setX(I:Inv X pins σ H s)(hx:H x=some (.ext (xδ x C d da)))(hda:∃ vs,da=.fields vs)(hd:(d=none/\fs=[])\/∃ dx,d=some dx/\dx≠x/\H dx=some (.xd fs))(q:setKit X.K C ns=true)(hn:name∈ns)(rv:RelV v u)(hl:fs.length<=900)
  (k:∀ s' H' dx,Inv X pins σ H' s'->(d=some dx\/(d=none/\H dx=none))->dx≠x->(∀ b o,b≠x->b≠dx->H b=some o->H' b=some o)->H' x=some (.ext (xδ x C (some dx) da))->H' dx=some (.xd ((name,v)::fs))->Q () s'):AZ (model X.prog X.w) X.A (Ko (.ref x) name u) Q X.xe s:=by
 obtain⟨vs,hda⟩:=hda
 obtain⟨q1,q2,q3,cd,q4,q5,q6⟩:=zGc q hn
 obtain⟨⟨ox,hox,hc,hdc,hdat⟩,_,_⟩:=(show ObjOk X.prog X.w H s.heap x (.ext (xδ x C d da)) from I.hok x _ hx)
 have hnc:C4 ox=true:=by unfold C4; rw[hdat,hda]
 obtain⟨mA,hmA,hrel⟩:∃ mA:Str->Option AB,((ox.dict=none/\∀ n,mA n=none)\/∃ dx,ox.dict=some dx/\dx≠x/\s.heap.Ns1 dx mA)/\∀ f,RelO (fs.lookup f) (mA f):=by
  rcases hd with ⟨rfl,rfl⟩ | ⟨dx,rfl,hne,hxd⟩
  ·exact⟨fun _=>none,.inl ⟨hdc,fun _=>rfl⟩,fun f=>trivial⟩
  ·obtain⟨mA,n1,r1⟩:=(show ObjOk X.prog X.w H s.heap dx (.xd fs) from I.hok dx _ hxd)
   exact⟨mA,.inr ⟨dx,hdc,hne,n1⟩,r1⟩
 have hw:Within mA (fs.map (·.1)):=fun y hy=>by
  refine zCY fun z=>hy ?_
  have:=hrel y
  rw[z]at this
  cases e:mA y with
  | none=>rfl
  | some _=>rw[e]at this; exact this.elim
 obtain⟨h,g,dr,t,os⟩:=s
 refine zJn I.kIn hox hc hnc hmA q1 q3 q4 q5 q6 q2 hw (by rw[BA]; omega) fun h' tk dx c1 c2 c3 c4 c5=>?_
 dsimp only at hox hmA c1 c2 c4 c5
 have dxs:d=some dx\/(d=none/\h.get? dx=none):=by rw[← hdc]; exact c1
 have dxH:d=some dx\/(d=none/\H dx=none):=dxs.imp id fun ⟨a,b⟩=>⟨a,zA7 I.hok b⟩
 have xdT:∀ {o:HO},H dx=some o->o=.xd fs:=fun {o} e=>by
  rcases hd with ⟨rfl,rfl⟩ | ⟨dx',rfl,hne,hxd⟩
  ·rcases dxH with z | ⟨_,z⟩
   ·cases z
   ·rw[z]at e; cases e
  ·rcases dxH with z | ⟨z,_⟩
   ·cases z; rw[hxd]at e; cases e; rfl
   ·cases z
 have nd:∀ {b:Addr} {o:Obj},h.get? b=some o->H b=none->b≠dx:=fun {b o} e n z=>by
  subst z
  rcases dxs with z | ⟨_,z⟩
  ·rcases hd with ⟨rfl,_⟩ | ⟨dx',rfl,_,hxd⟩
   ·cases z
   ·cases z; rw[hxd]at n; cases n
  ·rw[z]at e; cases e
 have nx:∀ {b:Addr},H b=none->b≠x:=fun {b} n z=>by rw[z,hx]at n; cases n
 let H':Hp:=upd (upd H x (.ext (xδ x C (some dx) da))) dx (.xd ((name,v)::fs))
 have oth:∀ b o,b≠x->b≠dx->H b=some o->H' b=some o:=fun b o n1 n2 e=>by show upd _ _ _ b=_; rw[zAC n2,zAC n1]; exact e
 have atx:H' x=some (.ext (xδ x C (some dx) da)):=by show upd _ _ _ x=_; rw[zAC (Av c3),zAG]
 have atd:H' dx=some (.xd ((name,v)::fs)):=zAG
 have kind:∀ {b:Addr} {o:HO},H b=some o->(∀ φ,o≠.ext φ)->(∀ l,o≠.xd l)->H' b=some o:=fun {b o} e n1 n2=>oth b o (fun z=>by rw[z,hx]at e; exact n1 _ (Ap e).symm) (fun z=>n2 fs (xdT (z ▸ e))) e
 refine k _ H' dx (I.un (t':=tk) { keep:=fun b o e n hb hx'=>c5 b o (nx n) (nd e n) e,slot:=fun b o e n hb hx'=>⟨o.slots,c5 b o (nx n) (nd e n) e⟩,free:=fun b o e n hx'=>?_,there:=fun b o e hx'=>?_,tups:=fun b xs e=>kind e (fun _ z=>by cases z) (fun _ z=>by cases z),frzs:=fun b o w e=>kind e (fun _ z=>by cases z) (fun _ z=>by cases z),tbls:=fun b ps e=>⟨#[],by rw[Array.append_empty]; exact kind e (fun _ z=>by cases z) fun _ z=>by cases z⟩ } fun b o e=>?_) dxH c3 oth atx atd
 ·show upd _ _ _ b=none; rw[zAC (nd e n),zAC (nx n)]; exact n
 ·by_cases z1:b=x
  ·rw[z1]; exact⟨_,c2⟩
  ·by_cases z2:b=dx
   ·rw[z2]
    obtain⟨o',es,ep,r,_⟩:=c4
    exact⟨o',r⟩
   ·exact⟨o,c5 b o z1 z2 e⟩
 ·by_cases z2:b=dx
  ·subst z2
   rw[atd]at e; cases e
   refine⟨_,c4,fun f=>?_⟩
   by_cases hf:f=name
   ·subst hf
    have:(f == f)=true:=by simp
    rw[BR,this,if_pos rfl]; exact rv
   ·have:(f == name)=false:=by simpa using hf
    rw[BR,this,if_neg hf]; exact hrel f
  ·by_cases z1:b=x
   ·subst z1
    rw[atx]at e; cases e
    exact⟨⟨_,c2,hc,rfl,hdat⟩,⟨_,c2⟩,fun h1 h2 ⟨o,r1,r2⟩ kk=>⟨o,kk o r1,r2⟩⟩
   ·have e':H b=some o:=by
     have e0:upd (upd H x (.ext (xδ x C (some dx) da))) dx (.xd ((name,v)::fs)) b=some o:=e
     rw[zAC z2,zAC z1]at e0; exact e0
    refine (I.hok b o e').stay (fun c w hc' ec=>c5 c w ?_ ?_ ec) (fun c ec=>kind ec (fun _ z=>by cases z) fun _ z=>by cases z) (fun c xs ec=>kind ec (fun _ z=>by first | cases z | (cases xs <;> cases z)) fun _ z=>by first | cases z | (cases xs <;> cases z))
    ·rcases hc' with rfl | hc'
     ·exact z1
     ·intro z; rw[z,hx]at hc'; cases hc'
    ·rcases hc' with rfl | hc'
     ·exact z2
     ·intro z; rw[z]at hc'; cases xdT hc'
end
def sSetX(C:Addr)(i:Nat)(name:Str):TS:=fun D σ H=>∃ x v d da fs,σ[0]?=some (some (.ref x))/\σ[i]?=some (some v)/\H x=some (.ext (xδ x C d da))/\(∃ vs,da=.fields vs)/\((d=none/\fs=[])\/∃ dx,d=some dx/\dx≠x/\H dx=some (.xd fs))/\fs.length<=900 /\
 ∀ H' dx,(d=some dx\/(d=none/\H dx=none))->dx≠x->(∀ b o,b≠x->b≠dx->H b=some o->H' b=some o)->H' x=some (.ext (xδ x C (some dx) da))->H' dx=some (.xd ((name,v)::fs))->D.nx σ H'
theorem zJJ{X:Cx}{self y name:Str}{p0 p1 p2 pos:Pos}{i:Nat}{C:Addr}{ns:List Str}(h0:PE X (.Name self p0) (tVar 0))(hi:PE X (.Name y p1) (tVar i))(q:setKit X.K C ns=true)(hn:name∈ns)
  (hs:DG (.Name y p1) (some (.Attribute (.Name self p0) name p2)) pos.line X.env=pure false):PS X (.Assign [.Attribute (.Name self p0) name p2] (.Name y p1) pos) (sSetX C i name):=by
 intro pins s σ H D I h
 obtain⟨x,v,d,da,fs,e0,ei,hx,hda,hd,hl,k⟩:=h
 refine plainObj_wpAny_Assign_Attribute (thn (hi pins s σ H (fun w H1=>w=v/\H1=H) I ⟨v,ei,rfl,rfl⟩) fun u s1 ⟨w,H1,I1,rw1,z1,z2⟩=>?_) hs
 subst z1 z2
 refine thn (h0 pins s1 σ H1 (fun w H2=>w=.ref x/\H2=H1) I1 ⟨_,e0,rfl,rfl⟩) fun ov s2 ⟨w2,H2,I2,rw2,z1,z2⟩=>?_
 subst z1 z2
 cases rw2
 exact I2.setX hx hda hd q hn rw1 hl fun s' H' dx I' c1 c2 c3 c4 c5=>⟨σ,H',I',k H' dx c1 c2 c3 c4 c5⟩
def spI(C:Addr)(names:List Str):Sp:=fun vs H Q _=>∃ x args da,vs=.ref x::args/\args.length=names.length/\(∃ fl,da=.fields fl)/\H x=some (.ext (xδ x C none da)) /\
 ∀ dx H',H dx=none->dx≠x->(∀ b o,b≠x->H b=some o->H' b=some o)->H' x=some (.ext (xδ x C (some dx) da))->H' dx=some (.xd (names.zip args).reverse)->Q .non H'
section
variable {P:Ac}{w:Al}{K:AJ}{mg:Str->Option AB}{base:Heap}{k:Nat}{qual self a1 a2 f1 f2:Str}{st:Stmt}{f C:Addr}{fd:An}{p0 p1 p2 p3 p4 p5 p6 p7:Pos}
theorem zFI{N ps:List Str}{sc:Bv}{x:Str}(S:FnScope N ps sc)(h:x∈ps):Vis sc x:=(S.par x h).imp id .inl
theorem zI0(F:Fun K "__init__" qual st f fd)(S:FnScope [self,a1] [self,a1] (defScope st))(hb:defBody st=[.Assign [.Attribute (.Name self p0) f1 p1] (.Name a1 p2) p3])(q:setKit K C [f1]=true)
  (d0:(self == ("__debug__":Str))=false) (d1:(a1 == ("__debug__":Str))=false) (c0:(self == ("__classdict__":Str))=false) (c1:(a1 == ("__classdict__":Str))=false):FnOk P w K mg base CX0 (k+1) f fd [self,a1] (spI C [f1]):=by
 refine F.ok S (fun vs H Q E ⟨x,args,da,e,hl,_⟩=>by rw[e]; simp at hl ⊢; exact hl) fun cdv A outer s H vs Q E hr h=>?_
 obtain⟨x,args,da,rfl,hl,hda,hx,hq⟩:=h
 obtain⟨v,rfl⟩:=GY.mp hl
 rw[hb]
 refine⟨_,zAk (zJJ (i:=1) (C:=C) (ns:=[f1]) (pe_var rfl (zFI S (by simp)) d0 c0) (pe_var rfl (zFI S (by simp)) d1 c1) q (by simp) rfl),x,v,none,da,[],rfl,rfl,hx,hda,.inl ⟨rfl,rfl⟩,by simp,fun H' dx z1 z2 z3 z4 z5=>?_⟩
 have hn:H dx=none:=by rcases z1 with z | ⟨_,z⟩; cases z; exact z
 exact hq dx H' hn z2 (fun b o n e=>z3 b o n (fun z=>by rw[z,hn]at e; cases e) e) z4 z5
end
def excI(K:AJ)(C fI:Addr):Bool:=(match K.lookup C with
 | some ⟨.type "type",_,.cls cd,sl⟩=>(match cd.mro,sl.toList with
  | .ref D::bm,[_,_,_,_,some (.builtin n),_]=>D == C && (n == "ValueError.__new__" && (!cd.hasDel && (PySem.W.tailIn K veB bm && (PySem.W.nsOkIn K cd.ns && A8 K cd.ns "__init__" == some (some (.ref fI))))))
  | _,_=>false)
 | _=>false) && (match K.lookup fI with
 | some o=>o.cls == .type "function"
 | none=>false) && CS K (.ref C) (.type "BaseException") == some true
theorem zLy{K:AJ}{h:Heap}{N:Addr}{m:Str->Option AB}{n:Str}{v:AB}(X:K.In h)(G:h.Ns N m)(e:A8 K N n=some (some v)):m n=some v:=by
 obtain⟨o,es,ep,ho,hd,_,hf⟩:=G
 unfold A8 at e
 split at e
 ·rename_i hq
  have z:=(X _ _ hq).symm.trans ho
  cases z; cases hd
  split at e
  ·rename_i en he
   cases e
   rw[← hf,show nsFind _ n=_ from rfl]
   unfold nsFind findBy
   rw[← Array.find?_toList,he]; rfl
  ·split at e <;> cases e
 ·cases e
theorem zFE{K:AJ}{h:Heap}{C fI:Addr}(X:K.In h)(q:excI K C fI=true) :
  (∃ bm N nm qn bs hdct sn sub ab col dd k0 k1 k2 k3 k5 mN,h.get? C=some (Hq nm qn C N bs bm hdct sn sub ab col dd k0 k1 k2 k3 k5 "ValueError.__new__")/\h.Ns N mN/\mN "__init__"=some (.ref fI)/\Kn h veB bm)/\(∃ oI,h.get? fI=some oI/\oI.cls=.type "function")/\CS K (.ref C) (.type "BaseException")=some true:=by
 unfold excI at q
 simp only[Af,beq_iff_eq]at q
 obtain⟨⟨q,q2⟩,q3⟩:=q
 refine⟨?_,?_,q3⟩
 ·split at q
  ·rename_i dd cdat sl ho
   split at q
   ·rename_i D bm k0 k1 k2 k3 n k5 hm hs
    simp only[Af,beq_iff_eq,D3]at q
    obtain⟨rfl,rfl,hdel,ht,hok,hni⟩:=q
    obtain⟨nm,bs,mro,ns,qn,hd,sn,sub,ab,col,del⟩:=cdat
    dsimp only at hm hdel hok hni
    subst hm hdel
    obtain rfl:sl=#[k0,k1,k2,k3,some (.builtin "ValueError.__new__"),k5]:=by
     obtain⟨l⟩:=sl
     simp only at hs
     rw[hs]
    have G:=Heap.Ns.of_isNs (PySem.W.isNs_of_in X hok)
    exact⟨bm,ns,nm,qn,bs,hd,sn,sub,ab,col,dd,k0,k1,k2,k3,k5,_,X _ _ ho,G,zLy X G hni,PySem.W.tail_of_in X ht⟩
   ·cases q
  ·cases q
 ·split at q2
  ·rename_i o ho; exact⟨o,X _ _ ho,beq_iff_eq.mp q2⟩
  ·cases q2
abbrev excD(t:Addr):Data:=.fields #[.ref t,.none,.none,.none,.bool false,.none]
section
variable {X:Cx}{pins:List (Addr×Obj)}{σ:St}{H:Hp}{s:AH}{C fI:Addr}{fd:An}{ps names:List Str}{k:Nat}{vs:List V}{us:List AB}{Q:AB->AH->Prop}
theorem zIO(I:Inv X pins σ H s)(hex:X.ex=[])(q:excI X.K C fI=true)(Fi:FnOk X.prog X.w X.K X.mg X.base CX0 k fI fd ps (spI C names))(hbd:Binds X.K fd ps [])(hr:Room (k+1) X.A)(rv:Vals vs us)(hl:vs.length=names.length)(hl2:names.length<=900)(hlp:ps.length=names.length+1)
  (kont:∀ e dx t s' H',Inv X pins σ H' s'->(∀ b o,H b=some o->H' b=some o)->H e=none->H dx=none->dx≠e->X.s₀.heap.get? e=none->H' e=some (.ext (xδ e C (some dx) (excD t)))->H' dx=some (.xd (names.zip vs).reverse)->Q (.ref e) s'):AZ (model X.prog X.w) X.A (call (.ref C) us) Q X.xe s:=by
 obtain⟨⟨bm,N,nm,qn,bs,hdct,sn,sub,ab,col,dd,k0,k1,k2,k3,k5,mN,hC,hN,hi,T⟩,⟨oI,hoI,hcI⟩,_⟩:=zFE I.kIn q
 obtain⟨h,g,dr,t,os⟩:=s
 have hul:=rv.length
 refine zC7 PySem.F.excBase_ValueError T (T.hasType (by decide)) hC hN hi hoI hcI (fun h' e hm=>?_) (As (by omega:us.length<=900) (by decide))
 obtain⟨tt,he,_,_⟩:=hm.there
 have new:=hm.new
 have hHe:H e=none:=zA7 I.hok new
 have a0:X.s₀.heap.get? e=none:=by
  cases q0:X.s₀.heap.get? e with
  | none=>rfl
  | some o=>obtain⟨o',q1⟩:=I.base.there e o q0 (by rw[hex]; exact fun z=>nomatch z); rw[show h.get? e=none from new]at q1; cases q1
 have I1:Inv X pins σ (upd H e (.ext (xδ e C none (excD tt)))) ⟨h',g,dr,t,os⟩:=(I.kept (t':=t) hm.keeps).track hHe a0 (fun z=>by
   obtain⟨m,⟨o,_,_,ho,_⟩,_⟩:=I.loc
   rw[z,show h.get? e=none from new]at ho; cases ho) (fun z c hc q=>by
   obtain⟨v,o,ho,_⟩:=I.cell z c hc
   rw[q,show h.get? e=none from new]at ho; cases ho) (fun p hp q=>by
   have:=(I.pin p hp).1
   rw[q,show h.get? e=none from new]at this; cases this) ⟨⟨_,he,rfl,rfl,rfl⟩,⟨_,he⟩,fun h1 h2 ⟨o,r1,r2⟩ kk=>⟨o,kk o r1,r2⟩⟩
 have hrA:Room k (X.A.under (Df "type.__call__" { pos:=.ref C::us })):=⟨hr.hd,by rw[zGB]; have:=hr.dp; omega,by rw[zGG]; have:=hr.un; omega,by
  have e:(X.A.under (Df "type.__call__" { pos:=.ref C::us })).guards=X.A.guards:=by first | rfl | simp[E9,Code.guards,IS,guardIds,pushGuards]
  rw[e]; exact hr.gd⟩
 have hfrA:(X.A.under (Df "type.__call__" { pos:=.ref C::us })).frames=X.A.frames:=by first | rfl | simp[E9,Code.envs,GV,pushEnvs]
 generalize X.A.under (Df "type.__call__" { pos:=.ref C::us })=A' at *
 have e0:Env0 X.prog X.w X.K X.mg X.base A' X.stack ⟨h',g,dr,t,os⟩ (upd H e (.ext (xδ e C none (excD tt)))):=let z:=I1.env0; ⟨hfrA.trans z.frames,z.mod,z.bs,z.bsz,z.funs,z.frf,z.hok,z.bare⟩
 have lenA:((.ref e::us)++([]:List AB)).length=ps.length:=by rw[BV,AW]; omega
 refine Fd (Dx (Fi.run A' X.stack ⟨h',g,dr,t,os⟩ (upd H e (.ext (xδ e C none (excD tt)))) ⟨.ref e::us,[]⟩ ((.ref e::us)++[]) (.ref e::vs) (fun v H'=>v=.non/\∃ dx,H dx=none/\dx≠e/\(∀ b o,H b=some o->H' b=some o)/\H' e=some (.ext (xδ e C (some dx) (excD tt)))/\H' dx=some (.xd (names.zip vs).reverse)) (fun _ _ _=>False) hrA e0 (hbd _ _ I1.kIn lenA) (by rw[BV]; exact .cons rfl rv)
  ⟨e,vs,_,rfl,hl,⟨_,rfl⟩,zAG,fun dx H' z1 z2 z3 z4 z5=>⟨rfl,dx,by rw[zAC z2]at z1; exact z1,z2,fun b o eb=>z3 b o (fun z=>by rw[z,hHe]at eb; cases eb) (by rw[zAC (fun z=>by rw[z,hHe]at eb; cases eb)]; exact eb),z4,z5⟩⟩) fun r s' hq=>?_)
 cases r with
 | error e=>exact hq.elim
 | ok fl =>
  cases fl with
  | ret u =>
   obtain⟨v,H',I',rv',rfl,dx,y1,y2,y3,y4,y5⟩:=I1.after hq
   exact⟨rv',kont e dx tt s' H' I' y3 hHe y1 y2 a0 y4 y5⟩
  | next=>exact BN hq
  | brk=>exact BN hq
  | cont=>exact BN hq
end
noncomputable def rmv (H:Hp) (e:Addr):Hp:=fun b=>if b=e then none else H b
theorem zBZ{H:Hp}{e:Addr}:rmv H e e=none:=by unfold rmv; rw[if_pos rfl]
theorem zBs{H:Hp}{e b:Addr}(h:b≠e):rmv H e b=H b:=by unfold rmv; rw[if_neg h]
section
variable {X:Cx}{pins:List (Addr×Obj)}{σ:St}{H:Hp}{s:AH}{e:Addr}{φ:Heap->Prop}
theorem Inv.untrack(I:Inv X pins σ H s)(he:H e=some (.ext φ)):Inv X pins σ (rmv H e) s:=by
 have oth:∀ {b:Addr} {o:HO},H b=some o->(∀ φ,o≠.ext φ)->rmv H e b=some o:=fun {b o} eb n=>by rw[zBs (fun z=>by rw[z,he]at eb; exact n _ (Ap eb).symm)]; exact eb
 have non:∀ {b:Addr},H b=none->rmv H e b=none:=fun {b} n=>by
  by_cases z:b=e
  ·rw[z]; exact zBZ
  ·rw[zBs z]; exact n
 refine⟨I.ok,I.os,I.bare,{ keep:=I.base.keep,slot:=I.base.slot,free:=fun b ob q n hx=>non (I.base.free b ob q n hx),there:=I.base.there,tups:=fun b xs q=>oth (I.base.tups b xs q) (fun _ z=>by cases z),frzs:=fun b ob u q=>oth (I.base.frzs b ob u q) (fun _ z=>by cases z),tbls:=fun b ps q=>?_ },I.loc,I.cell,non I.free,fun x c q=>non (I.freeC x c q),fun p hp=>?_,fun b u q=>?_,I.len⟩
 ·obtain⟨m,e'⟩:=I.base.tbls b ps q; exact⟨m,oth e' fun _ z=>by cases z⟩
 ·obtain⟨p1,p2,p3,p4,p5⟩:=I.pin p hp
  exact⟨p1,non p2,p3,p4,p5⟩
 ·by_cases z:b=e
  ·rw[z,zBZ]at q; cases q
  ·rw[zBs z]at q
   exact (I.hok b u q).stay (fun c v _ ec=>ec) (fun c ec=>oth ec fun _ z=>by cases z) (fun c xs ec=>oth ec fun _ z=>by first | cases z | (cases xs <;> cases z))
end
section
variable {P:Ac}{w:Al}{K:AJ}{mg:Str->Option AB}{base:Heap}{N:List Str}{qual:Str}{scope:Bv}{f:Addr}{cd:AB}{A:A5}{outer:List Env}{s₀ s:AH}{H₀ H:Hp}{E:XK}{pins:List (Addr×Obj)}{σ:St}
theorem zGW{e C T:Addr}{d:Option Addr}{h3:Heap}{S:List Addr}(I:Inv (cxOf (CXR P w) P w K mg base N qual scope f cd A outer s₀ H₀ E) pins σ H s)(hHe:H e=none)(e0:s₀.heap.get? e=none)(hS:∀ b∈S,H b=none/\s₀.heap.get? b=none)
  (c:Ch (frs ((cxOf (CXR P w) P w K mg base N qual scope f cd A outer s₀ H₀ E).env::outer)) S s.heap h3) (x3:Exc h3 e T (.ref C) d .none) (nT:s.heap.get? T=none) (hE:E (.ref C) d H):CXR P w outer H₀ s₀ E (.ref e) { s with heap:=h3 }:=by
 have habove:s₀.heap.objs.size<=(cxOf (CXR P w) P w K mg base N qual scope f cd A outer s₀ H₀ E).env.locals:=I.ok.above
 have hfs:frs ((cxOf (CXR P w) P w K mg base N qual scope f cd A outer s₀ H₀ E).env::outer)=(cxOf (CXR P w) P w K mg base N qual scope f cd A outer s₀ H₀ E).env.locals::frs outer:=rfl
 have hstk:∀ b∈frs ((cxOf (CXR P w) P w K mg base N qual scope f cd A outer s₀ H₀ E).env::outer),H b=none:=I.stackFree
 have bL:∀ b o,s₀.heap.get? b=some o->b∉frs outer->b∉frs ((cxOf (CXR P w) P w K mg base N qual scope f cd A outer s₀ H₀ E).env::outer):=fun b o eo hb z=>by
  rw[hfs]at z
  rcases AF.mp z with z | z
  ·exact absurd (z ▸ Aa eo) (J2.mpr habove)
  ·exact hb z
 have nS:∀ b o,s₀.heap.get? b=some o->b∉S:=fun b o q z=>by rw[(hS b z).2]at q; cases q
 have T0:s₀.heap.get? T=none:=by
  cases q0:s₀.heap.get? T with
  | none=>rfl
  | some o=>obtain⟨o',q1⟩:=I.base.there T o q0 (fun z=>nomatch z); rw[nT]at q1; cases q1
 refine⟨e,C,T,d,H,rfl,I.os,I.bare,{ keep:=fun b o q n hb hx'=>c.keep b o (bL b o q hb) (nS b o q) (I.base.keep b o q n hb hx'),slot:=fun b o q n hb hx'=>?_,free:=I.base.free,there:=fun b o q hx'=>?_,tups:=I.base.tups,frzs:=I.base.frzs,tbls:=I.base.tbls },I.hok.ch c hstk fun b z=>(hS b z).1,hHe,zA7 I.hok nT,e0,T0,x3,hE⟩
 ·obtain⟨sl,q1⟩:=I.base.slot b o q n hb hx'
  obtain⟨sl2,q2⟩:=c.slot b _ (nS b o q) q1
  exact⟨sl2,q2⟩
 ·obtain⟨o1,q1⟩:=I.base.there b o q hx'
  obtain⟨sl,q2⟩:=c.slot b o1 (nS b o q) q1
  exact⟨_,q2⟩
theorem zDj{e C dx t:Addr}(I:Inv (cxOf (CXR P w) P w K mg base N qual scope f cd A outer s₀ H₀ E) pins σ H s)(he:H e=some (.ext (xδ e C (some dx) (excD t))))(e0:s₀.heap.get? e=none)(hE:E (.ref C) (some dx) (rmv H e)) :
  (cxOf (CXR P w) P w K mg base N qual scope f cd A outer s₀ H₀ E).xe (.ref e) s:=by
 obtain⟨⟨oe,hoe,hc,hd,hda⟩,_,_⟩:=(show ObjOk P w H s.heap e (.ext (xδ e C (some dx) (excD t))) from I.hok e _ he)
 have hfun:s.heap.FunFrames base ((cxOf (CXR P w) P w K mg base N qual scope f cd A outer s₀ H₀ E).env::outer):=I.env0.funs
 show AZ (model P w) _ (leaving _ (.ref e)) (fun _ s''=>CXR P w outer H₀ s₀ E (.ref e) s'') (fun e' s''=>CXR P w outer H₀ s₀ E e' s'') _
 unfold leaving
 refine AA (zGH (s:=s) (base:=base) I.ok.frames hfun rfl hoe hda rfl fun h2 T nT x2 c2=>?_)
 refine land (s:={ s with heap:=h2 }) x2 fun h3 x3 c3=>?_
 rw[hc,hd]at x3
 refine zGW (s:=s) (S:=[e,T]) (I.untrack he) zBZ e0 (fun b z=>?_) ((c2.wide (fun _ z=>z) fun b z=>by rw[AD.mp z]; exact AE).trans (c3.wide (fun _ z=>nomatch z) fun b z=>by rw[AD.mp z]; exact AG _ AE)) x3 nT hE
 rcases AF.mp z with rfl | z
 ·exact⟨zBZ,e0⟩
 ·rw[AD.mp z]
  refine⟨zA7 (I.untrack he).hok nT,?_⟩
  cases q0:s₀.heap.get? T with
  | none=>rfl
  | some o=>obtain⟨o',q1⟩:=I.base.there T o q0 (fun z=>nomatch z); rw[nT]at q1; cases q1
theorem zB8{H1:Hp}{s1:AH}{ev:AB}(I:Inv (cxOf (CXR P w) P w K mg base N qual scope f cd A outer s₀ H₀ E) pins σ H1 s1)(c:CXR P w ((cxOf (CXR P w) P w K mg base N qual scope f cd A outer s₀ H₀ E).env::outer) H1 s1 E ev s) :
  (cxOf (CXR P w) P w K mg base N qual scope f cd A outer s₀ H₀ E).xe ev s:=by
 obtain⟨a,C,T,d,H',rfl,os,hg,un,hok,hHa,hHT,ha,hT,x,hE⟩:=c
 have I0:Inv (cxOf (CXR P w) P w K mg base N qual scope f cd A outer s₀ H₀ E) pins σ H' s:=I.settle (S:=[]) (h'':=s.heap) os hg un hok ha hT hHa hHT (fun _ z=>nomatch z) ⟨fun _ _ _ _ q=>q,fun _ o _ q=>⟨o.slots,q⟩⟩
 have back:∀ b,s1.heap.get? b=none->s₀.heap.get? b=none:=fun b q=>by
  cases q0:s₀.heap.get? b with
  | none=>rfl
  | some o=>obtain⟨o',q1⟩:=I.base.there b o q0 (fun z=>nomatch z); rw[q]at q1; cases q1
 have hfun:s.heap.FunFrames base ((cxOf (CXR P w) P w K mg base N qual scope f cd A outer s₀ H₀ E).env::outer):=I0.env0.funs
 show AZ (model P w) _ (leaving _ (.ref a)) (fun _ s''=>CXR P w outer H₀ s₀ E (.ref a) s'') (fun e' s''=>CXR P w outer H₀ s₀ E e' s'') _
 unfold leaving
 refine AA (zDZ (base:=base) I0.ok.frames hfun rfl x fun h2 T2 n2 x2 c2=>?_)
 refine land (s:={ s with heap:=h2 }) x2 fun h3 x3 c3=>?_
 refine zGW (s:=s) (S:=[a,T,T2]) I0 hHa (back a ha) (fun b z=>?_) ((c2.wide (fun _ z=>z) fun b z=>?_).trans (c3.wide (fun _ z=>nomatch z) fun b z=>by rw[AD.mp z]; exact AG _ (AG _ AE))) x3 n2 hE
 ·rcases AF.mp z with rfl | z
  ·exact⟨hHa,back b ha⟩
  ·rcases AF.mp z with rfl | z
   ·exact⟨hHT,back b hT⟩
   ·rw[AD.mp z]
    refine⟨zA7 hok n2,?_⟩
    cases q0:s₀.heap.get? T2 with
    | none=>rfl
    | some o=>obtain⟨o',q1⟩:=I0.base.there T2 o q0 (fun z=>nomatch z); rw[n2]at q1; cases q1
 ·rcases AF.mp z with rfl | z
  ·exact AE
  ·rw[AD.mp z]; exact AG _ AE
end
open PySem.W in
theorem zHl{K:Frag}{M:GM}{A:A5}{E:AB->AH->Prop}{s:AH}{env:Env}{x:Sem AB}{Q:Flow->AH->Prop}(hh:A.handled=none)
  (h:AZ M A x (fun v s₁=>∃ e oe C t oC,v=.ref e/\K.In s₁.heap/\s₁.heap.get? C=some oC/\oC.cls=.type "type"/\s₁.heap.get? e=some oe/\oe.cls=.ref C/\oe.data=excD t/\subIn K (.ref C) (.type "BaseException")=some true/\E (.ref e) s₁) E s) :
  AZ M A (raiseStmt env (some x) none) Q E s:=by
 unfold raiseStmt
 refine AA (BG h (fun v s₁ h₁=>?_) fun _ _ x=>x)
 obtain⟨e,oe,C,t,oC,rfl,KX,hC,hCt,he,hc,hda,hb,hE⟩:=h₁
 obtain⟨hp,g,d,tk,os⟩:=s₁
 obtain⟨oc,od,oda,osl⟩:=oe
 dsimp only at hc hda
 subst hc hda
 have L3:=looks_subIn (M:=M) KX hb
 repeat (first | with_reducible refine Fv he ?_ | (with_reducible refine Fv hC ?_; rw[hCt]) | with_reducible refine L3.at ?_ | wp_step)
 exact wpAny_raiseNew_none hh hE
section
variable {P:Ac}{w:Al}{K:AJ}{mg:Str->Option AB}{base:Heap}{N:List Str}{qual:Str}{scope:Bv}{f:Addr}{cd:AB}{A:A5}{outer:List Env}{s₀:AH}{H₀:Hp}{E:XK}
def tRaiseX(C:Addr)(names:List Str)(E:XK)(ta:TA):TS:=fun _ σ H=>ta σ H fun vs H1=>vs.length=names.length/\∀ dx H',H1 dx=none->(∀ b o,H1 b=some o->H' b=some o)->H' dx=some (.xd (names.zip vs).reverse)->E (.ref C) (some dx) H'
theorem zGy{x:Str}{np cpos pos:Pos}{e:Expr}{es:List Expr}{ta:TA}{C fI:Addr}{fd:An}{ps names:List Str}{k:Nat}(q:excI K C fI=true)(Fi:FnOk P w K mg base CX0 k fI fd ps (spI C names))(hbd:Binds K fd ps [])(hl2:names.length<=900)(hlp:ps.length=names.length+1)
  (hr:Room (k+1) (cxOf (CXR P w) P w K mg base N qual scope f cd A outer s₀ H₀ E).A) (hkp:BC K (.ref C)=true)
  (hg:Gl (cxOf (CXR P w) P w K mg base N qual scope f cd A outer s₀ H₀ E) x) (hm:mg x=some (.ref C)) (ha:PA (cxOf (CXR P w) P w K mg base N qual scope f cd A outer s₀ H₀ E) (e::es) ta) (hdb:(x == ("__debug__":Str))=false)
  (he:AR (e::es) (cxOf (CXR P w) P w K mg base N qual scope f cd A outer s₀ H₀ E).env=(false,eval e (cxOf (CXR P w) P w K mg base N qual scope f cd A outer s₀ H₀ E).env)::AR es (cxOf (CXR P w) P w K mg base N qual scope f cd A outer s₀ H₀ E).env) (hpl:(Bg cpos (AR es (cxOf (CXR P w) P w K mg base N qual scope f cd A outer s₀ H₀ E).env)).any (·.1)=false) :
  PS (cxOf (CXR P w) P w K mg base N qual scope f cd A outer s₀ H₀ E) (.Raise (some (.Call (.Name x np) (e::es) [] cpos)) none pos) (tRaiseX C names E ta):=by
 intro pins s σ H D I h
 rw[arm_exec_Raise]
 simp only[evalOpt,Option.map]
 refine AA (De (zHl (K:=K) hr.hd (AA (BG ?_ (fun v s₃ h₃=>AA (De (AO h₃))) fun _ _ z=>z))))
 refine B5 (zAu I hg hm ?_ hdb)
 refine DW (h₀:=base) I.ok.mod.kin hkp (thn (ha cpos pins s σ H _ I h) fun us s1 z=>?_) he hpl
 obtain⟨vs,H1,I1,r,hl,hq⟩:=z
 refine⟨I1.kIn,?_⟩
 rw[Bo]
 refine zIO I1 rfl q Fi hbd hr r hl hl2 hlp fun e' dx t s' H' I' y3 hHe y1 y2 a0 y4 y5=>?_
 obtain⟨⟨bm,N',nm,qn,bs,hdct,sn,sub,ab,col,dd,k0,k1,k2,k3,k5,mN,hC,_⟩,_,hb⟩:=zFE I'.kIn q
 obtain⟨⟨oe,hoe,hc,_,hda⟩,_,_⟩:=(show ObjOk P w H' s'.heap e' (.ext (xδ e' C (some dx) (excD t))) from I'.hok e' _ y4)
 exact⟨e',oe,C,t,_,rfl,I'.kIn,hC,rfl,hoe,hc,hda,hb,zDj I' y4 a0 (hq dx (rmv H' e') y1 (fun b o eb=>by rw[zBs (fun z=>by rw[z,hHe]at eb; cases eb)]; exact y3 b o eb) (by rw[zBs y2]; exact y5))⟩
def tExprX(sp:Sp)(E:XK)(t:TA):TS:=fun D σ H=>t σ H fun vs H1=>sp vs H1 (fun _ H2=>D.nx σ H2) E
theorem ps_exprX{x:Str}{p pos epos:Pos}{e:Expr}{es:List Expr}{t:TA}{f':Addr}{fd:An}{ps:List Str}{sp:Sp}{k:Nat}(F:FnOk P w K mg base (CXR P w) k f' fd ps sp)(hr:Room k (cxOf (CXR P w) P w K mg base N qual scope f cd A outer s₀ H₀ E).A)
  (hg:Gl (cxOf (CXR P w) P w K mg base N qual scope f cd A outer s₀ H₀ E) x) (hm:mg x=some (.ref f')) (hk:BC K (.ref f')=true) (hb:Binds K fd ps [])
  (ha:∀ E',PA ((cxOf (CXR P w) P w K mg base N qual scope f cd A outer s₀ H₀ E).on E') (e::es) t) (hdb:(x == ("__debug__":Str))=false)
  (he:AR (e::es) (cxOf (CXR P w) P w K mg base N qual scope f cd A outer s₀ H₀ E).env=(false,eval e (cxOf (CXR P w) P w K mg base N qual scope f cd A outer s₀ H₀ E).env)::AR es (cxOf (CXR P w) P w K mg base N qual scope f cd A outer s₀ H₀ E).env) (hpl:(Bg pos (AR es (cxOf (CXR P w) P w K mg base N qual scope f cd A outer s₀ H₀ E).env)).any (·.1)=false)
  (hsw:DG (.Call (.Name x p) (e::es) [] pos) none epos.line (cxOf (CXR P w) P w K mg base N qual scope f cd A outer s₀ H₀ E).env=pure false) :
  PS (cxOf (CXR P w) P w K mg base N qual scope f cd A outer s₀ H₀ E) (.Expr (.Call (.Name x p) (e::es) [] pos) epos) (tExprX sp E t):=by
 intro pins s σ H D I h
 refine Jv (BG (zC2 (W:=E) (Q:=fun _ H2=>D.nx σ H2) F hr hg hm hk hb ha hdb he hpl I h) (fun v s1 z=>?_) fun e' s1 z=>?_) I.quiet hsw
 ·obtain⟨v',H1,I1,r1,q1⟩:=z
  exact⟨σ,H1,I1,q1⟩
 ·obtain⟨H1,s0,I1,c⟩:=z
  exact zB8 I1 c
end
def getKit(K:AJ)(C:Addr)(n:Str):Bool:=Bb K (.ref C) "__getattribute__" == some (some (.builtin "BaseException.__getattribute__")) && Bb K (.ref C) "__getattr__" == some none && Bb K (.ref C) n == some none && CS K (.ref C) (.type "BaseException") == some true &&
 (match CT K C with
  | some cd=>cd.hasDict
  | none=>false)
def handV:V->Bool
 | .int _=>true
 | .str _=>true
 | _=>false
def tGetX(K:AJ)(to:TE)(n:Str):TE:=fun σ H Q=>to σ H fun x H1=>∃ a C dx fs v,x=.ref a/\H1 a=some (.ext (xφ a C (some dx)))/\H1 dx=some (.xd fs)/\fs.lookup n=some v/\getKit K C n=true/\handV v=true/\Q v H1
theorem zJA{X:Cx}{o:Expr}{to:TE}{n:Str}{pos:Pos}(ho:PE X o to)(hb:CK o n X.env (eval o X.env)=eval o X.env):PE X (.Attribute o n pos) (tGetX X.K to n):=by
 intro pins s σ H Q I h
 refine zJs hb (thn (ho pins s σ H _ I h) fun u s1 ⟨x,H1,I1,rx,a,C,dx,fs,v,ex,ha,hd,hlk,q,hv,k⟩=>?_)
 subst ex
 obtain rfl:u=Aj a:=rx
 unfold getKit at q
 simp only[Af,beq_iff_eq]at q
 obtain⟨⟨⟨⟨q1,q2⟩,q3⟩,q4⟩,q5⟩:=q
 split at q5
 rotate_left
 ·cases q5
 rename_i cd hcd
 obtain⟨⟨oe,hoe,hc,hdc,hnc⟩,_,_⟩:=(show ObjOk X.prog X.w H1 s1.heap a (.ext (xφ a C (some dx))) from I1.hok a _ ha)
 obtain⟨mA,hns,hrel⟩:=(show ObjOk X.prog X.w H1 s1.heap dx (.xd fs) from I1.hok dx _ hd)
 have hr:=hrel n
 rw[hlk]at hr
 cases hm:mA n with
 | none=>rw[hm]at hr; exact hr.elim
 | some w =>
  rw[hm]at hr
  have hh:handedOut w=pure w:=by
   cases v with
   | int i=>obtain⟨t,rfl⟩:=(show ∃ t,w=Eg i t from hr); rfl
   | str x=>obtain⟨t,rfl⟩:=(show ∃ t,w=Eh x t from hr); rfl
   | _=>cases hv
  obtain⟨hp,g,d,t,os⟩:=s1
  exact zJ8 I1.kIn hoe hc hnc hdc hns hm q1 q2 q3 hcd q5 q4 hh ⟨v,H1,I1.tok _,hr,k⟩
end L2
namespace D
open PySem L2
def isXs:S->Option (Str×List (Str×V))
 | .v (.x c fs)=>some (c,fs)
 | _=>none
def isXg:G->Option (Str×List (Str×V))
 | .v (.x c fs)=>some (c,fs)
 | _=>none
theorem zJb{s:S}{z:Str×List (Str×V)}(h:isXs s=some z):s=.v (.x z.1 z.2):=by
 unfold isXs at h
 split at h
 ·cases h; rfl
 ·cases h
theorem zCy{s:G}{z:Str×List (Str×V)}(h:isXg s=some z):s=.v (.x z.1 z.2):=by
 unfold isXg at h
 split at h
 ·cases h; rfl
 ·cases h
def XiE(K:Fg)(E:XK)(c:Str)(fs:List (Str×V))(H:Hp):Prop:=∀ (C:Addr) (d:Option Addr) (H':Hp),A8 K AU c=some (some (.ref C))->(∀ b o,H b=some o->H' b=some o)->((d=none/\fs=[])\/∃ dx,d=some dx/\H' dx=some (.xd fs))->E (.ref C) d H'
def OkX(K:Fg)(C:Fr)(E:XK)(D:Ends):O->Prop
 | .rt s Γ=>(∀ z,isXs s=some z->∀ w σ H,Rep K C w Γ σ H->XiE K E z.1 z.2 H)/\(isXs s=none->∀ w σ H v,Rep K C w Γ σ H->SOk K C w σ H v s->D.rt v H)
 | o=>OkO K C D o
def SimX(K:Fg)(E:XK)(ts:TS)(g:DS):Prop:=∀ (C:Fr) (w:W) (Γ:En) (σ:St) (H:Hp) (D:Ends) (o:O),C.pins.map (·.1)=(none:Option Nat).toList->Rep K C w Γ σ H->g Γ=some o->OkX K C E D o->ts D σ H
def noX:O->Option O
 | .rt s Γ=>match isXs s with
  | some _=>none
  | none=>some (.rt s Γ)
 | o=>some o
def dN(g:DS):DS:=fun Γ=>(g Γ).bind noX
theorem zGQ{o o':O}(h:noX o=some o'):o=o'/\∀ K C E D,OkX K C E D o' ↔ OkO K C D o':=by
 cases o with
 | nx Γ=>cases h; exact⟨rfl,fun _ _ _ _=>JS⟩
 | bk Γ=>cases h; exact⟨rfl,fun _ _ _ _=>JS⟩
 | ct Γ=>cases h; exact⟨rfl,fun _ _ _ _=>JS⟩
 | rt s Γ =>
  unfold noX at h
  dsimp only at h
  split at h
  ·cases h
  ·rename_i hn
   cases h
   exact⟨rfl,fun K C E D=>⟨fun z=>z.2 hn,fun z=>⟨fun y hy=>by (rw[hn]at hy; cases hy),fun _=>z⟩⟩⟩
section
variable {K:Fg}{E:XK}
theorem zJ4{ts:TS}{g:DS}(h:SimS K none ts g):SimX K E ts (dN g):=by
 intro C w Γ σ H D o hp R e k
 obtain⟨o1,e1,e⟩:=bind_some e
 obtain⟨rfl,hk⟩:=zGQ e
 exact h C w Γ σ H D o1 hp R e1 ((hk K C E D).mp k)
theorem zHt{ts:TS}{g:DS}(h:SimX K E ts g):SimS K none ts (dN g):=by
 intro C w Γ σ H D o hp R e k
 obtain⟨o1,e1,e⟩:=bind_some e
 obtain⟨rfl,hk⟩:=zGQ e
 exact h C w Γ σ H D o1 hp R e1 ((hk K C E D).mpr k)
theorem zG3:SimX K E tNext dNext:=fun C w Γ σ H D o _ R e k=>by cases e; exact k w σ H R
theorem zIj{t u:TS}{f g:DS}(h1:SimX K E t f)(h2:SimX K E u g):SimX K E (tSeq t u) (dSeq f g):=by
 intro C w Γ σ H D o hp R e k
 obtain⟨o1,e1,e⟩:=bind_some e
 refine h1 C w Γ σ H _ o1 hp R e1 ?_
 cases o1 with
 | nx Γ1=>exact fun w' σ' H' R'=>h2 C w' Γ1 σ' H' D o hp R' e k
 | rt s Γ1=>cases e; exact k
 | bk Γ1=>cases e; exact k
 | ct Γ1=>cases e; exact k
theorem zJ9{tc:TT}{t u:TS}{c:DT}{f g:DS}(hc:SimT K tc c)(h1:SimX K E t f)(h2:SimX K E u g):SimX K E (tIfS tc t u) (dIf c f g):=by
 intro C w Γ σ H D o hp R e k
 obtain⟨⟨p,G1⟩,e1,e⟩:=bind_some e
 refine hc C w Γ σ H p G1 _ R e1 fun H1 R1 _=>?_
 cases p with
 | true=>exact (if_pos rfl).mpr (h1 C w G1 σ H1 D o hp R1 (by simpa using e) k)
 | false=>exact (if_neg AQ).mpr (h2 C w G1 σ H1 D o hp R1 (by simpa using e) k)
def atomsS:List S->Option (List V)
 | []=>some []
 | .v (.a v)::r=>(atomsS r).map fun vs=>v::vs
 | _=>none
def dRaiseX(c:Str)(names:List Str)(fa:DA):DS:=fun Γ=>(fa Γ).bind fun p=>(atomsS p.1).bind fun vs=>if vs.length=names.length then some (.rt (.v (.x c (names.zip vs).reverse)) p.2) else none
theorem zDa{C:Fr}{w:W}{σ:St}{H:Hp}:∀ {ss:List S} {vs us:List V},atomsS ss=some us->SOks K C w σ H vs ss->vs=us
 | [],[],us,e,_=>by cases e; rfl
 | [],_::_,us,e,h=>h.elim
 | s::ss,[],us,e,h=>h.elim
 | s::ss,v::vs,us,e,h=>by
  unfold atomsS at e
  split at e
  ·rename_i z; cases z
  ·rename_i u r z
   cases z
   obtain⟨us',e1,e2⟩:=zAA e
   subst e2
   have h1:v=u:=(show Im K H v (.a u) from h.1).inva
   rw[h1,zDa e1 h.2]
  ·cases e
theorem zFj{c:Str}{names:List Str}{Ca:Addr}{ta:TA}{fa:DA}(ha:SimA K ta fa)(hc:A8 K AU c=some (some (.ref Ca))):SimX K E (tRaiseX Ca names E ta) (dRaiseX c names fa):=by
 intro C w Γ σ H D o hp R e k
 obtain⟨⟨ss,Γ1⟩,e1,e⟩:=bind_some e
 obtain⟨us,e2,e⟩:=bind_some e
 split at e
 ·rename_i hl
  cases e
  refine ha C w Γ σ H ss Γ1 _ R e1 fun vs H1 R1 ev1 o1 _=>?_
  have hv:=zDa e2 o1
  subst hv
  exact⟨hl,fun dx H' _ ext hx=>k.1 (c,(names.zip vs).reverse) rfl w σ H1 R1 Ca (some dx) H' hc ext (.inr ⟨dx,rfl,hx⟩)⟩
 ·cases e
end
def spX(K:Fg)(n:Nat)(F:DF):Sp:=fun vs H Q E=>vs.length=n/\∃ (w:W) (gs:List G) (r:G) (ys:List T),w.L=[]/\F gs=some (r,ys)/\Rep K ⟨H,w.L,[]⟩ w (gs.map some) (vs.map some) H /\
 (∀ z,isXg r=some z->∀ H',(∀ b o,H b=some o->H' b=some o)->XiE K E z.1 z.2 H')/\(isXg r=none->∀ v H',(∀ b o,H b=some o->H' b=some o)->ROk K H H' v r->Q v H')
section
variable {K:Fg}
theorem zIH{ts:TS}{g:DS}{N:List Str}{np:Nat}{vs:List V}{H:Hp}{Q:VK}{E:XK}(hb:SimX K E ts g)(h:spX K np (fnD none np N.length g) vs H Q E):ts { nx:=fun _ H'=>Q .non H',rt:=Q } (L2.start N vs) H:=by
 obtain⟨hn,w,gs,r,ys,hw,e,R,k1,k2⟩:=h
 have hg:gs.length=np:=zB4 _ _ e
 have e0:=e
 unfold fnD at e0
 rw[if_pos hg]at e0
 obtain⟨o,e1,e0⟩:=bind_some e0
 have plain:isXg r=none->noX o=some o->ts { nx:=fun _ H'=>Q .non H',rt:=Q } (L2.start N vs) H:=fun hr ho=>by
  have e':fnD none np N.length (dN g) gs=some (r,ys):=by
   unfold fnD dN
   rw[if_pos hg,e1,AV,ho,AV]
   exact e0
  exact zB0 (E:=E) (zHt hb) ⟨hn,w,gs,r,ys,e',R,rfl,(fun p hp=>by rw[hw]at hp; cases hp),fun v H' ev _ hv=>k2 hr v H' (fun b o hb=>ev b o hb (by rw[hw]; exact nofun)) hv⟩
 cases o with
 | nx Γ'=>cases e0; exact plain rfl rfl
 | bk Γ'=>cases e0
 | ct Γ'=>cases e0
 | rt s Γ' =>
  obtain⟨r',e2,e0⟩:=zAA e0
  cases e0
  cases hs:isXs s with
  | none =>
   refine plain ?_ (by unfold noX; dsimp only; rw[hs])
   cases s with
   | v t=>cases e2; cases t <;> first | rfl | cases hs
   | l xs=>cases e2; rfl
   | d xs=>cases e2; rfl
   | s i =>
    unfold resG at e2
    dsimp only at e2
    split at e2
    ·cases e2
    ·split at e2 <;> cases e2 <;> rfl
  | some z =>
   have:=zJb hs
   subst this
   cases e2
   have R0:Rep K ⟨H,w.L,[]⟩ w (gs.map some++AM (N.length - np) none) (L2.start N vs) H:=by
    unfold L2.start
    rw[hn]
    exact R.more _
   exact hb _ w _ _ H _ _ rfl R0 e1 ⟨fun y hy w' σ' H' R'=>by cases hy; exact k1 z rfl H' fun b o hb=>R'.frame b o hb (by rw[hw]; exact nofun),fun hy=>by cases hy⟩
end
def SXX{ι:Type}(K:Fg)(E:XK)(X:ι->Cx)(s:Stmt)(f:DS):Prop:=∃ t,(∀ j,PS (X j) s t)/\SimX K E t f
def BXX{ι:Type}(K:Fg)(E:XK)(X:ι->Cx)(s:List Stmt)(f:DS):Prop:=∃ t,(∀ j,PSs (X j) s t)/\SimX K E t f
structure FX(P:Ac)(wd:Al)(K:Fg)(mg:Str->Option AB)(base:Heap)(k:Nat)(x:Str)(n:Nat)(F:DF):Prop where
 ex:∃ (f:Addr) (fd:An) (ps:List Str),FnOk P wd K mg base (CXR P wd) k f fd ps (spX K n F)/\mg x=some (.ref f)/\BC K (.ref f)=true/\Binds K fd ps []
 len:∀ gs r,F gs=some r->gs.length=n
structure XC(P:Ac)(wd:Al)(K:Fg)(mg:Str->Option AB)(base:Heap)(k:Nat)(c:Str)(names:List Str):Prop where
 ex:∃ (C fI:Addr) (fd:An) (ps:List Str),A8 K AU c=some (some (.ref C))/\mg c=some (.ref C)/\excI K C fI=true/\FnOk P wd K mg base CX0 k fI fd ps (spI C names)/\Binds K fd ps []/\names.length<=900/\ps.length=names.length+1/\BC K (.ref C)=true
section
variable {ι:Type}{P:Ac}{wd:Al}{base:Heap}{K:Fg}{mg:Str->Option AB}{E:XK}{k k' n:Nat}{X:ι->Cx}{c e:Expr}{es:List Expr}{st:Stmt}{sts sts':List Stmt}{f g:DS}{ta:DT}{da:DA}{F:DF}{pos:Pos}{x y cn nm:Str}
theorem sxx_plain(h:SX K X none st f):SXX K E X st (dN f):=let ⟨_,p,s⟩:=h; ⟨_,p,zJ4 s⟩
theorem bxx_nil:BXX K E X [] dNext:=⟨_,fun _=>zBy,zG3⟩
theorem bxx_one(h:SXX K E X st f):BXX K E X [st] f:=let ⟨_,p,s⟩:=h; ⟨_,fun j=>zAk (p j),s⟩
theorem bxx_cons(h:SXX K E X st f)(h2:BXX K E X sts g):BXX K E X (st::sts) (dSeq f g):=let ⟨_,p,s⟩:=h; let ⟨_,q,u⟩:=h2; ⟨_,fun j=>zAc (p j) (q j),zIj s u⟩
theorem sxx_if(hc:TX K X c ta)(h1:BXX K E X sts f)(h2:BXX K E X sts' g):SXX K E X (.If c sts sts' pos) (dIf ta f g):=let ⟨_,p,s⟩:=hc; let ⟨_,q,u⟩:=h1; let ⟨_,q',u'⟩:=h2; ⟨_,fun j=>zCp (p j) (q j) (q' j),zJ9 s u u'⟩
def CatX(K:Fg)(mg:Str->Option AB)(y:Str)(cs:List Str):Prop:=∃ D,mg y=some (.ref D)/\∀ c∈cs,∀ C,A8 K AU c=some (some (.ref C))->catches K C D=true
def XGC(K:Fg)(gk:List (Str×Str)):Bool:=gk.all fun q=>match A8 K AU q.1 with
 | some (some (.ref C))=>getKit K C q.2
 | _=>false
def dGetX(gk:List (Str×Str))(n:Str)(f:DE):DE:=fun Γ=>(f Γ).bind fun p=>match p.1 with
 | .v (.x c fs)=>if (c,n)∈gk then (fs.lookup n).bind fun v=>if handV v=true then some (.v (.a v),p.2) else none else none
 | _=>none
theorem zI1{gk:List (Str×Str)}{n:Str}{to:TE}{fo:DE}(hk:XGC K gk=true)(ho:SimE K to fo):SimE K (tGetX K to n) (dGetX gk n fo):=by
 intro C w Γ σ H s Γ' Q R e k
 obtain⟨⟨a,G1⟩,e1,e⟩:=bind_some e
 dsimp only at e
 split at e
 ·rename_i c fs
  split at e
  ·rename_i hc
   obtain⟨v,e2,e⟩:=bind_some e
   split at e
   ·rename_i hv
    cases e
    refine ho C w Γ σ H _ _ _ R e1 fun u H1 R1 ev1 o1 n1=>?_
    obtain⟨p,rfl,Ca,d,h1,h2,h3⟩:=(show Im K H1 u (.x c fs) from o1).invx
    have hq:=A4.mp hk _ hc
    dsimp only at hq
    rw[h1]at hq
    rcases h3 with ⟨rfl,rfl⟩ | ⟨dx,rfl,h4⟩
    ·cases e2
    ·exact⟨p,Ca,dx,fs,v,rfl,h2,h4,e2,hq,hv,k _ H1 R1 ev1 SOk.atom trivial⟩
   ·cases e
  ·cases e
 ·cases e
end
section
variable {P:Ac}{wd:Al}{base:Heap}{K:Fg}{mg:Str->Option AB}{E:XK}{k k' n:Nat}{N:List Str}{qual:Str}{sc:Bv}{f:Addr}{cdv:AB}{A:A5}{outer:List Env}{s:AH}{H:Hp}{e:Expr}{es:List Expr}{da:DA}{F:DF}{x:Str}{names:List Str}{p np cpos pos epos:Pos}
theorem sxx_raise(M:Fm K mg k (cxR P wd K mg base N qual sc f cdv A outer s H E))(G:XC P wd K mg base k' x names)(ha:AX K (cxR P wd K mg base N qual sc f cdv A outer s H E) (e::es) da)(hk:k'+1<=k:=by first | exact AL _ | decide | omega)
  (hg:Gl ((cxR P wd K mg base N qual sc f cdv A outer s H E) ()) x:=by rfl) (hdb:(x == ("__debug__":Str))=false:=by decide)
  (he:AR (e::es) ((cxR P wd K mg base N qual sc f cdv A outer s H E) ()).env=(false,eval e ((cxR P wd K mg base N qual sc f cdv A outer s H E) ()).env)::AR es ((cxR P wd K mg base N qual sc f cdv A outer s H E) ()).env:=by rfl) (hpl:(Bg cpos (AR es ((cxR P wd K mg base N qual sc f cdv A outer s H E) ()).env)).any (·.1)=false:=by rfl) :
  SXX K E (cxR P wd K mg base N qual sc f cdv A outer s H E) (.Raise (some (.Call (.Name x np) (e::es) [] cpos)) none pos) (dRaiseX x names da):=by
 obtain⟨t,pa,sa⟩:=ha
 obtain⟨C,fI,fd,ps,h1,h2,h3,h4,h5,h6,h7,h8⟩:=G.ex
 exact⟨_,fun j=>zGy h3 h4 h5 h6 h7 ((M.room ()).mono hk) h8 hg h2 (pa ()) hdb he hpl,zFj sa h1⟩
end
section
variable {P:Ac}{wd:Al}{base:Heap}{K:Fg}{mg:Str->Option AB}{k:Nat}
theorem fx_of{x:Str}{st:Stmt}{f:Addr}{fd:An}{N ps:List Str}{g:DS}(F:Fun K x x st f fd)(S:FnScope N ps (defScope st))(hm:mg x=some (.ref f))(hb:Binds K fd ps [])
  (body:∀ (cdv:AB) (A:A5) (outer:List Env) (s:AH) (H:Hp) (E:XK),Fm K mg k (cxR P wd K mg base N x (defScope st) f cdv A outer s H E)->Fb P wd base (cxR P wd K mg base N x (defScope st) f cdv A outer s H E)->BXX K E (cxR P wd K mg base N x (defScope st) f cdv A outer s H E) (defBody st) g) :
  FX P wd K mg base (k+1) x ps.length (fnD none ps.length N.length g):=by
 refine⟨⟨f,fd,ps,?_,hm,F.kp,hb⟩,zB4⟩
 obtain⟨oc,od,kV,doc,pm,an,cdv,ct,osl,rfl,lk,hcd⟩:=F.ex
 refine fn_of lk hcd S (fun vs H Q E h=>h.1) fun A outer s H vs Q E hr h=>?_
 obtain⟨t,p,u⟩:=body cdv A outer s H E ⟨fun _=>rfl,fun _=>rfl,fun _=>rfl,fun _=>hr⟩ ⟨fun _=>rfl,fun _=>rfl,fun _=>rfl⟩
 exact⟨t,p (),zIH u h⟩
theorem zLu{C fI:Addr}{fd:An}{ps names:List Str}{c:Str}(h1:A8 K AU c=some (some (.ref C)))(h2:mg c=some (.ref C))(h3:excI K C fI=true)(h4:FnOk P wd K mg base CX0 k fI fd ps (spI C names))(h5:Binds K fd ps [])(h6:names.length<=900)(h7:ps.length=names.length+1)(h8:BC K (.ref C)=true):XC P wd K mg base k c names:=⟨⟨C,fI,fd,ps,h1,h2,h3,h4,h5,h6,h7,h8⟩⟩
end
section
variable {g:DS}{Γ:En}{n:Nat}{F:DF}{fa:DA}{c nn:Str}{names cs:List Str}{i:Option Nat}{j:Nat}{fs:DS}{gk:List (Str×Str)}{f:DE}
@[simp] theorem zPl:dN g Γ=bnd (g Γ) (f:=⟨noX⟩):=(rfl)
@[simp] theorem zN7{Γ:En}:noX (.nx Γ)=some (.nx Γ):=(rfl)
theorem zA5:dRaiseX c names fa Γ=bnd (fa Γ) (f:=⟨fun p=>(atomsS p.1).bind fun vs=>if vs.length=names.length then some (.rt (.v (.x c (names.zip vs).reverse)) p.2) else none⟩):=(rfl)
end
end D
namespace L2
open PySem PySem.Spec PyProof.Rows
def strsV(ys:List Str):List V:=ys.map V.str
theorem zD0:∀ {ys:List Str} {us:List AB},Vals (strsV ys) us->StrsAre us ys
 | [],us,h=>by cases h; exact .nil
 | y::r,us,h=>by
  cases h with
  | cons h1 h2 =>
   obtain⟨t,rfl⟩:=h1
   exact .cons y t (zD0 h2)
def rJoin(K:AJ):V->List V->Hp->VK->Prop:=fun x vs H Q=>∃ z p ys,x=.str z/\vs=[.ref p]/\SqL K H p (strsV ys)/\(ys.map (·.length)).sum+ys.length * z.length<=16777216/\Q (.str (DP z ys)) H
theorem mt_join{X:Cx}:MtM X "str.join" (rJoin X.K):=by
 intro pins s σ H x vs v us Q I rx rv h
 obtain⟨z,p,ys,rfl,rfl,hq,hz,q⟩:=h
 obtain⟨t,rfl⟩:=rx
 obtain⟨u,rfl,ru⟩:=rv.one
 cases ru
 obtain⟨its,rw',⟨⟨cls,dd,data,sl⟩,n,ho,hc,hdd,hd⟩,hz'⟩:=I.list hq
 exact join_list (items:=its.toArray) ⟨_,ho,hc,n,hd⟩ (by simpa using zD0 rw') hz fun t' k=>⟨.str (DP z ys),H,I.tok _,⟨_,rfl⟩,q⟩
end L2
namespace D
open PySem L2
def strsOf:List T->Option (List Str)
 | []=>some []
 | .a (.str y)::r=>(strsOf r).map fun ys=>y::ys
 | _=>none
theorem zDE{K:Fg}{H:Hp}:∀ {ts:List T} {vs:List V} {ys:List Str},strsOf ts=some ys->Ims K H vs ts->vs=strsV ys
 | [],vs,ys,e,h=>by cases e; unfold Ims at h; exact h
 | t::r,vs,ys,e,h=>by
  unfold strsOf at e
  split at e
  ·rename_i h0; cases h0
  ·rename_i d r' h0
   cases h0
   obtain⟨ds',e1,e⟩:=zAA e
   cases e
   unfold Ims at h
   obtain⟨v,vr,rfl,h1,h2⟩:=h
   rw[h1.inva,zDE e1 h2]; rfl
  ·cases e
abbrev rSM(r:V->List V->Hp->VK->Prop):List V->Hp->VK->Prop:=fun vs H Q=>match vs with
 | x::xs=>r x xs H Q
 | []=>False
def dSM(g:En->List S->Option S)(fo:DE)(fa:DA):DE:=fun Γ=>(fo Γ).bind fun p=>match p.1 with
 | .v (.a (.str z))=>(fa p.2).bind fun q=>(g q.2 (.v (.a (.str z))::q.1)).map fun s=>(s,q.2)
 | _=>none
theorem zLS{K:Fg}{r:V->List V->Hp->VK->Prop}{g:En->List S->Option S}{to:TE}{ta:TA}{fo:DE}{fa:DA}(hr:SimRs K (rSM r) g)(ho:SimE K to fo)(ha:SimA K ta fa):SimE K (tBM K "str" r to ta) (dSM g fo fa):=by
 intro C w Γ σ H s Γ' Q R e k
 obtain⟨⟨a,G1⟩,e1,e⟩:=bind_some e
 dsimp only at e
 split at e
 ·rename_i z
  obtain⟨⟨as,G2⟩,e2,e⟩:=bind_some e
  obtain⟨y,e3,e⟩:=zAA e
  cases e
  refine ho C w Γ σ H _ _ _ R e1 fun u H1 R1 ev1 o1 n1=>?_
  have hu:u=.str z:=o1.inva
  subst hu
  refine⟨rfl,ha C w G1 σ H1 as G2 _ R1 e2 fun vs H2 R2 ev2 o2 n2=>?_⟩
  exact hr C w G2 σ H2 (.str z::vs) (.v (.a (.str z))::as) _ Q R2 ⟨SOk.atom,o2⟩ e3 fun v H3 R3 ev3 o3 n3=>k v H3 R3 ((ev1.trans ev2).trans ev3) o3 (n3.back (ev1.trans ev2) R2.lst)
 ·cases e
def joinS:En->List S->Option S:=fun Γ as=>match as with
 | [.v (.a (.str z)),a]=>(sqlOf Γ a).bind fun ts=>(strsOf ts).bind fun ys=>if (ys.map (·.length)).sum+ys.length * z.length<=16777216 then some (.v (.a (.str (DP z ys)))) else none
 | _=>none
theorem sims_join{K:Fg}:SimRs K (rSM (rJoin K)) joinS:=by
 intro C w Γ σ H vs as s Q R o e k
 unfold joinS at e
 split at e
 ·rename_i z a
  obtain⟨ts,e1,e⟩:=bind_some e
  obtain⟨ys,e2,e⟩:=bind_some e
  split at e
  ·rename_i hz
   cases e
   match vs,o with
   | [x,y],o =>
    have hx:x=.str z:=(show Im K H x _ from o.1).inva
    obtain⟨p,us,rfl,h1,h2⟩:=zAd R o.2.1 e1
    have:=zDE e2 h2
    subst this
    exact⟨z,p,ys,hx,rfl,h1,hz,k _ H R .refl SOk.atom trivial⟩
   | [],o=>exact o.elim
   | [x],o=>exact o.2.elim
   | x::y::w::l,o=>exact o.2.2.elim
  ·cases e
 ·cases e
section
variable {ι:Type}{K:Fg}{mg:Str->Option AB}{k:Nat}{X:ι->Cx}{o e:Expr}{es:List Expr}{fo:DE}{da:DA}
theorem ex_sm{r:Fg->V->List V->Hp->VK->Prop}{g:En->List S->Option S}{name:Str}{id:String}{apos cpos:Pos}(M:Fm K mg k X)(slot:Slot "str" name id)(hty:Gm (.builtin id)=pure (.type "method_descriptor"))(hm:∀ j,MtM (X j) id (r (X j).K))(hr:SimRs K (rSM (r K)) g)(ho:EX K X o fo)(ha:AX K X (e::es) da)
  (hbase:∀ j,CK o name (X j).env (eval o (X j).env)=eval o (X j).env:=by intro _; rfl)
  (hfew:∀ j,((Bg cpos (AR (e::es) (X j).env)).all (fun x=>!x.1) && (Gn cpos (FC [] (X j).env)).all (fun x=>x.1.isSome) && decide ((e::es).length+([]:List EO).length+(if ([]:List EO).isEmpty then 0 else 1) < 30))=true:=by intro _; rfl)
  (hline:(apos.endLine == cpos.line)=true:=by rfl) (hs:∀ j,AR (e::es) (X j).env=(false,eval e (X j).env)::AR es (X j).env:=by intro _; rfl) (hplain:∀ j,(Bg cpos (AR es (X j).env)).any (·.1)=false:=by intro _; rfl) :
  EX K X (.Call (.Attribute o name apos) (e::es) [] cpos) (dSM g fo da) :=
 let ⟨t0,q0,u0⟩:=ho; let ⟨t,q,u⟩:=ha
 ⟨tBM K "str" (r K) t0 t,fun j=>by have:=zGL PySem.F.plainAttrs_str slot hty (hm j) (q0 j) (q j) (hbase j) (hfew j) hline (hs j) (hplain j); rw[M.K j]at this; exact this,zLS hr u0 u⟩
end
section
variable {g:En->List S->Option S}{fo:DE}{fa:DA}{Γ:En}{z y:Str}{r:List T}
@[simp] theorem zOv:dSM g fo fa Γ=(fo Γ).bind fun p=>match p.1 with
 | .v (.a (.str z))=>(fa p.2).bind fun q=>(g q.2 (.v (.a (.str z))::q.1)).map fun s=>(s,q.2)
 | _=>none:=(rfl)
@[simp] theorem zEu:strsOf (.a (.str y)::r)=(strsOf r).map fun ys=>y::ys:=(rfl)
@[simp] theorem zAg{a:S}:joinS Γ [.v (.a (.str z)),a]=(sqlOf Γ a).bind fun ts=>(strsOf ts).bind fun ys=>if (ys.map (·.length)).sum+ys.length * z.length<=16777216 then some (.v (.a (.str (DP z ys)))) else none:=(rfl)
end
end D
namespace L2
open PySem PySem.Spec PyProof.Rows
theorem zG6{X:Cx}:CallR X (.type "str") (fun xs H Q=>∃ i:Int,xs=[.int i]/\i.natAbs.log2 < 1920/\Q (.str (toString i)) H):=by
 intro pins s σ H xs us Q I r h
 obtain⟨i,rfl,hi,q⟩:=h
 obtain⟨u,rfl,t,rfl⟩:=vals1 r
 exact PySem.P.str_of_int hi ⟨.str (toString i),H,I.tok _,⟨_,rfl⟩,q⟩
def Its(x:Str):It:=⟨fun i _=>i < x.cps.size,fun i H v H'=>H'=H/\∃ c,x.cps[i]?=some c/\v=.str ⟨#[c]⟩,fun i _=>x.cps.size<=i⟩
theorem zIx{P:Ac}{w:Al}{K:AJ}{tg:Expr}(it:Addr)(x:Str)(t:Tok):Turn P w K tg (Its x) [it] it (fun i h=>h.IsStrIter it "str_ascii_iterator" x t i) where
 mem:=by simp
 obj:=fun i h st b hb=>by
  have e:b=it:=by simpa using hb
  subst e
  obtain⟨o,e,c,d⟩:=st
  exact⟨o,e,fun v z=>by rw[d]at z; cases z⟩
 keep:=fun i h h' st k=>by obtain⟨o,e,r⟩:=st; exact⟨o,k it (by simp) o e,r⟩
 item:=by
  intro X hP hw hK hc i pins s σ H E I hf st hg
  subst hP hw hK
  obtain⟨f0,f1,f2,f3,f4,f5⟩:=hf it (by simp)
  have hg':i < x.cps.size:=hg
  refine wpAny_pyNext_ascii_item st (c:=x.cps[i]) (by simp[hg']) fun h' st' sb=>?_
  have I1:Inv X pins σ H { s with heap:=h',toks:=s.toks+1 }:=I.turned (fun b o hb e=>(sb.2 b hb).trans e) f0 f1 f3 f4 f5
  obtain⟨o,e,c,d⟩:=id st'
  exact⟨_,rfl,zDm (s:={ s with heap:=h',toks:=s.toks+1 }) e c d (by decide) ⟨.str ⟨#[x.cps[i]]⟩,H,I1,⟨_,rfl⟩,⟨rfl,x.cps[i],by simp[hg'],rfl⟩,st',fun b hb=>(hf b hb).1⟩⟩
 done:=by
  intro X hP hw hK hc i pins s σ H E I hf st hg
  subst hP hw hK
  obtain⟨f0,f1,f2,f3,f4,f5⟩:=hf it (by simp)
  exact wpAny_pyNext_ascii_end (I.ok.hd hc) st (by have z:x.cps.size<=i:=hg; simpa using z) fun h' eb=>⟨rfl,I.turned (t':=s.toks) (fun b o hb e=>eb b o hb e) f0 f1 f3 f4 f5⟩
 self:=fun _ _ _ _ _ st h=>wpAny_pyIter_striter_ascii st h
def iStr(tl:TE):TI:=fun σ H R=>tl σ H fun v H1=>∃ x,v=.str x/\x.cps.all (· < 128)=true/\R (Its x) H1
theorem zHp{X:Cx}{tg l:Expr}{tl:TE}(hl:PE X l tl):PI X tg l (iStr tl):=by
 intro pins s σ H R I h
 refine thn (hl pins s σ H _ I h) fun v s1 ⟨x',H1,I1,r1,q1⟩=>?_
 obtain⟨x,e,ha,q⟩:=q1
 subst e
 obtain⟨t,rfl⟩:=r1
 refine wpAny_pyIter_ascii ha ?_
 refine⟨s1.heap.objs.size,[s1.heap.objs.size],_,_,H1,rfl,I1.kept (t':=s1.toks) fun b o e=>AI _ e,zIx _ x t,⟨_,Ad _ rfl,rfl,rfl⟩,fun b hb=>?_,q⟩
 have e:b=s1.heap.objs.size:=by simpa using hb
 subst e
 exact I1.fpOk (AL _) (I1.hok.fresh (AL _))
end L2
namespace D
open PySem L2
def strS:En->List S->Option S:=fun _ as=>match as with
 | [.v (.a (.int i))]=>if i.natAbs.log2 < 1920 then some (.v (.a (.str (toString i)))) else none
 | _=>none
theorem zHN{K:Fg}:SimRs K (fun xs H Q=>∃ i:Int,xs=[.int i]/\i.natAbs.log2 < 1920/\Q (.str (toString i)) H) strS:=by
 intro C w Γ σ H vs as s Q R o e k
 unfold strS at e
 split at e
 ·rename_i i
  split at e
  ·rename_i hi
   cases e
   obtain⟨v,rfl,o1⟩:=soks1 o
   exact⟨i,by rw[o1.inva],hi,k _ H R .refl SOk.atom trivial⟩
  ·cases e
 ·cases e
def sgnT(x:Str):List T:=x.cps.toList.map fun c=>.a (.str ⟨#[c]⟩)
def dStrI(fa:DE):DI:=fun Γ=>(fa Γ).bind fun p=>match p.1 with
 | .v (.a (.str x))=>if x.cps.all (· < 128)=true/\x.length<=AC then some ((sgnT x,[]),p.2) else none
 | _=>none
theorem zH8{K:Fg}{tl:TE}{fa:DE}(ha:SimE K tl fa):SimI K (iStr tl) (dStrI fa):=by
 intro C w Γ σ H its src Γ' R Rp e k
 obtain⟨⟨a,G1⟩,e1,e⟩:=bind_some e
 dsimp only at e
 split at e
 ·rename_i x
  split at e
  ·rename_i hx
   cases e
   refine ha C w Γ σ H _ _ _ Rp e1 fun v H1 R1 ev1 o1 n1=>?_
   have hl:(sgnT x).length=x.cps.size:=by simp[sgnT]
   refine⟨x,o1.inva,hx.1,k _ H1 R1 ev1 ⟨by rw[hl]; exact hx.2,fun L' _ _ H2 ev=>⟨fun i t ht=>?_,?_⟩⟩⟩
   ·have ht':(x.cps.toList[i]?).map (fun c=>T.a (.str ⟨#[c]⟩))=some t:=by rw[← Ai]; exact ht
    obtain⟨c,hc,rfl⟩:=zAA ht'
    have hi:i < x.cps.size:=by
     have:=(Ao.mp hc).1
     simpa using this
    refine⟨hi,fun y H3 hy=>?_⟩
    obtain⟨rfl,c',hc',rfl⟩:=hy
    have:c'=c:=by
     have e:x.cps.toList[i]?=x.cps[i]?:=by simp
     rw[e,hc']at hc; exact Ap hc
    subst this
    exact⟨fun _ _ z=>z,Im.atom⟩
   ·show x.cps.size<=_
    rw[hl]; exact AL _
  ·cases e
 ·cases e
section
variable {ι:Type}{K:Fg}{mg:Str->Option AB}{k:Nat}{X:ι->Cx}{fa:DE}{Γ:En}
theorem zKb:CalR K X (.type "str") strS:=⟨_,fun j=>zG6,zHN⟩
theorem ix_str'{tg l:Expr}(M:Fm K mg k X)(hl:EX K X l fa):IX K X tg l (dStrI fa):=let ⟨t,p,s⟩:=hl; ⟨iStr t,fun j=>zHp (tg:=tg) (p j),zH8 s⟩
@[simp] theorem zGv{i:Int}:strS Γ [.v (.a (.int i))]=if i.natAbs.log2 < 1920 then some (.v (.a (.str (toString i)))) else none:=(rfl)
@[simp] theorem zAn:dStrI fa Γ=(fa Γ).bind fun p=>match p.1 with
 | .v (.a (.str x))=>if x.cps.all (· < 128)=true/\x.length<=AC then some ((sgnT x,[]),p.2) else none
 | _=>none:=(rfl)
end
end D
namespace L2
open PySem PySem.Spec PyProof.Rows
theorem zF8:DX (.type "str") "__int__"=pure none:=by rw[E3,DU]; kernel_rfl
theorem zEf:DX (.type "str") "__index__"=pure none:=by rw[E3,DU]; kernel_rfl
theorem zDx:DX (.type "str") "__trunc__"=pure none:=by rw[E3,DU]; kernel_rfl
noncomputable def intTail (x:Str) (u:Tok):{m:Sem AB // ∀ i:Int,m=mkInt i->Gives (Builtin.«int.__new__» ⟨[.type "int",.str x u],[]⟩) (.int i)}:=by
 apply Subtype.mk
 intro i hf
 refine .of_wp fun M A E s Q h=>?_
 obtain⟨hp,g,d,tk,os⟩:=s
 have f1:=F.conv_sub_int
 have f2:=F.madeHere_int
 have f3:=zF8
 have f4:=zEf
 have f5:=zDx
 repeat (any_goals (first | assumption | wp_step))
 refine Eq.mpr (congrArg (fun m=>AZ M A m _ E _) hf) ?_
 repeat (any_goals (first | assumption | wp_step))
 exact⟨_,rfl,h⟩
def oneC(c:Nat):Str:=⟨#[c]⟩
def sgnS(x:Str):List Str:=x.cps.toList.map oneC
def rSplit(K:AJ):V->List V->Hp->VK->Prop:=fun x vs H Q=>∃ z y,x=.str z/\vs=[.str y]/\(y.length == 0)=false/\z.length<=AC/\(Ar z y).length<=AC/\∀ l,H l=none->Q (.ref l) (upd H l (.lst (strsV (Ar z y))))
theorem zCC:∀ l:List (Str×Tok),Vals (strsV (l.map (·.1))) (JT l)
 | []=>.nil
 | p::r=>.cons ⟨p.2,rfl⟩ (zCC r)
theorem mt_split{X:Cx}:MtM X "str.split" (rSplit X.K):=by
 intro pins s σ H x' vs v us Q I rx rv h
 obtain⟨x,y,rfl,rfl,hy,hx,hn,q⟩:=h
 obtain⟨t,rfl⟩:=rx
 obtain⟨u',rfl,u,rfl⟩:=rv.one
 have fin:∀ (nl:List (Str×Tok)) (tk:Nat),nl.map (·.1)=Ar x y->EP X pins σ Q (.ref s.heap.objs.size) { s with toks:=tk,heap:=s.heap.push { cls:=.type "list",data:=.seq (JT nl).toArray } }:=fun nl tk e =>
  ⟨.ref s.heap.objs.size,_,I.laid (t':=tk) (fun b o eb=>AI _ eb) (AL _) (show ObjOk X.prog X.w _ _ _ (.lst (strsV (Ar x y))) from ⟨by simpa [strsV] using hn,JT nl,0,by rw[← e]; exact zCC nl,Ad _ rfl⟩),rfl,q _ (I.hok.fresh (AL _))⟩
 cases h1:(decide (x.length < y.length) || decide (B3 x < B3 y))
 ·cases hf:(Di x y 0 x.length (x.length+1)).isEmpty
  ·have e:Ar x y=FP x (Di x y 0 x.length (x.length+1)) y.length:=(if_neg (ne_true_of_eq_false h1)).trans (if_neg (ne_true_of_eq_false hf))
   refine DB CM (Es _ _ _) D4 (Dt _ _) (meets_str_split_sep x y t u h1 hy hf hx (by rw[← e]; exact hn)) ?_
   show wants _ _ _ { s with toks:=_,heap:=s.heap.push { cls:=.type "list",data:=.seq (strsFrom s.toks (FP x (Di x y 0 x.length (x.length+1)) y.length)).toArray } }
   rw[strsFrom_eq]
   exact fin (numbered s.toks _) _ ((numbered_texts _ _).trans e.symm)
  ·exact DB CM (Es _ _ _) D4 (Dt _ _) (meets_str_split_not_found x y t u h1 hy hf) (fin [(x,t)] s.toks ((if_neg (ne_true_of_eq_false h1)).trans (if_pos hf)).symm)
 ·exact DB CM (Es _ _ _) D4 (Dt _ _) (meets_str_split_cannot_occur x y t u h1) (fin [(x,t)] s.toks (if_pos h1).symm)
def sliceT(x:Str)(l u:Option Int):Str :=
 if ((1:Int) == 1 && (CP l u 1 x.length).length == x.length)=true then x else ⟨((CP l u 1 x.length).filterMap (x.cps[·]?)).toArray⟩
def rSlStr:V->Option Int->Option Int->Hp->VK->Prop:=fun v lo hi H Q=>∃ x,v=.str x/\(sliceT x lo hi).length<=AC/\Q (.str (sliceT x lo hi)) H
theorem zFX{v:AB}{o:Option Int}(h:Er v o):∃ p:Option (Int×Tok),v=partValue p/\p.map (·.1)=o:=by
 cases h with
 | none=>exact⟨none,rfl,rfl⟩
 | int i t=>exact⟨some (i,t),rfl,rfl⟩
theorem zLU{X:Cx}:SlR X rSlStr:=by
 intro pins s σ H v' v vl vu lo hi sl Q I rx hs pl pu h
 obtain⟨x,rfl,hz,q⟩:=h
 obtain⟨t,rfl⟩:=rx
 obtain⟨l,rfl,rfl⟩:=zFX pl
 obtain⟨u,rfl,rfl⟩:=zFX pu
 refine⟨"str",_,PySem.F.slot_str_getitem.lookup,Es _ _ _,wpAny_getItem_str_slice (l:=l) (u:=u) (st:=none) hs rfl ?_⟩
 unfold sliceT at hz q
 by_cases e:((1:Int) == 1 && (CP (l.map (·.1)) (u.map (·.1)) 1 x.length).length == x.length)=true
 ·rw[if_pos e]at q
  rw[show sliceMade x t l u none=.val (.str x t) from if_pos e]
  exact⟨.str x,H,I,⟨t,rfl⟩,q⟩
 ·rw[if_neg e]at q hz
  rw[show sliceMade x t l u none=.str ⟨((CP (l.map (·.1)) (u.map (·.1)) 1 x.length).filterMap (x.cps[·]?)).toArray⟩ from if_neg e]
  exact⟨hz,.str _,H,I.tok _,⟨_,rfl⟩,q⟩
end L2
namespace D
open PySem L2
def strsT(ys:List Str):List T:=ys.map fun y=>.a (.str y)
theorem zDo{K:Fg}{H:Hp}:∀ ys:List Str,Ims K H (strsV ys) (strsT ys)
 | []=>.nil
 | y::r=>.cons Im.atom (zDo r)
def listTS:En->List S->Option S:=fun _ as=>match as with
 | [.v (.a (.str x))]=>if x.length<=AC then some (.l (strsT (sgnS x))) else none
 | _=>none
def splitS:En->List S->Option S:=fun _ as=>match as with
 | [.v (.a (.str z)),.v (.a (.str y))]=>if (y.length == 0)=false/\z.length<=AC/\(Ar z y).length<=AC then some (.l (strsT (Ar z y))) else none
 | _=>none
theorem sims_split{K:Fg}:SimRs K (rSM (rSplit K)) splitS:=by
 intro C w Γ σ H vs as s Q R o e k
 unfold splitS at e
 split at e
 ·rename_i z y
  split at e
  ·rename_i h
   cases e
   match vs,o with
   | [a,b],o =>
    have ha:a=.str z:=(show Im K H a _ from o.1).inva
    have hb:b=.str y:=(show Im K H b _ from o.2.1).inva
    exact⟨z,y,ha,by rw[hb],h.1,h.2.1,h.2.2,fun l hl=>k _ _ (R.new hl) (Evo.new hl) (R.newl hl (zDo _)) ⟨l,rfl,hl⟩⟩
   | [],o=>exact o.elim
   | [x],o=>exact o.2.elim
   | x::y::w::l,o=>exact o.2.2.elim
  ·cases e
 ·cases e
def dSlT(f:DE)(lo hi:DO):DE:=fun Γ=>(f Γ).bind fun p=>(lo p.2).bind fun l=>(hi l.2).bind fun h=>match p.1 with
 | .v (.a (.str x))=>if (sliceT x l.1 h.1).length<=AC then some (.v (.a (.str (sliceT x l.1 h.1))),h.2) else none
 | _=>none
theorem zJV{K:Fg}{te:TE}{f:DE}{tl th:TO}{lo hi:DO}(he:SimE K te f)(hl:SimO K tl lo)(hh:SimO K th hi):SimE K (tSl rSlStr te tl th) (dSlT f lo hi):=by
 intro C w Γ σ H s Γ' Q R e k
 obtain⟨⟨a,G1⟩,e1,e⟩:=bind_some e
 obtain⟨⟨i,G2⟩,e2,e⟩:=bind_some e
 obtain⟨⟨j,G3⟩,e3,e⟩:=bind_some e
 dsimp only at e
 split at e
 ·split at e
  ·rename_i hz
   cases e
   refine he C w Γ σ H _ _ _ R e1 fun v H1 R1 ev1 o1 n1=>?_
   refine hl C w _ σ H1 _ _ _ R1 e2 fun H2 R2 ev2=>?_
   refine hh C w _ σ H2 _ _ _ R2 e3 fun H3 R3 ev3=>?_
   exact⟨_,o1.inva,hz,k _ H3 R3 ((ev1.trans ev2).trans ev3) SOk.atom trivial⟩
  ·cases e
 ·cases e
abbrev DJ:=Str->En->Option (Str×En)
section
variable {ι:Type}{K:Fg}{mg:Str->Option AB}{k:Nat}{X:ι->Cx}{fa:DE}{Γ:En}{e e2 a:Expr}{es:List Expr}{g:DJ}{pos:Pos}
theorem ex_slT{lo hi:Option Expr}{p2:Pos}{dl dh:DO}(ha:EX K X a fa)(hl:OX K X lo dl)(hh:OX K X hi dh):EX K X (.Subscript a (.Slice lo hi none p2) pos) (dSlT fa dl dh) :=
 let ⟨_,p,s⟩:=ha; let ⟨_,q,u⟩:=hl; let ⟨_,q',u'⟩:=hh; ⟨_,fun j=>zEn zLU (p j) (q j) (q' j),zJV s u u'⟩
end
section
variable {f:DE}{g:DJ}{Γ:En}{acc x z y:Str}{lo hi:DO}
@[simp] theorem zAh:splitS Γ [.v (.a (.str z)),.v (.a (.str y))]=if (y.length == 0)=false/\z.length<=AC/\(Ar z y).length<=AC then some (.l (strsT (Ar z y))) else none:=(rfl)
@[simp] theorem zAR:dSlT f lo hi Γ=(f Γ).bind fun p=>(lo p.2).bind fun l=>(hi l.2).bind fun h=>match p.1 with
 | .v (.a (.str x))=>if (sliceT x l.1 h.1).length<=AC then some (.v (.a (.str (sliceT x l.1 h.1))),h.2) else none
 | _=>none:=(rfl)
end
end D
namespace L2
open PySem PySem.Spec PyProof.Rows
def rStarts(K:AJ):V->List V->Hp->VK->Prop:=fun x vs H Q=>∃ z y,x=.str z/\vs=[.str y]/\Q (.bl (BL z y)) H
theorem mt_startswith{X:Cx}:MtM X "str.startswith" (rStarts X.K):=by
 intro pins s σ H x vs v us Q I rx rv h
 obtain⟨z,y,rfl,rfl,q⟩:=h
 obtain⟨t,rfl⟩:=rx
 obtain⟨u',rfl,u,rfl⟩:=rv.one
 exact PySem.SC.startswith ⟨.bl (BL z y),H,I,rfl,q⟩
def rRstrip(K:AJ):V->List V->Hp->VK->Prop:=fun x vs H Q=>∃ z y,x=.str z/\vs=[.str y]/\z.length<=AC/\Q (.str (BK z y)) H
theorem mt_rstrip{X:Cx}:MtM X "str.rstrip" (rRstrip X.K):=by
 intro pins s σ H x vs v us Q I rx rv h
 obtain⟨z,y,rfl,rfl,hz,q⟩:=h
 obtain⟨t,rfl⟩:=rx
 obtain⟨u',rfl,u,rfl⟩:=rv.one
 exact PySem.SC.rstripChars (fun t' k=>⟨.str (BK z y),H,I.tok _,⟨_,rfl⟩,q⟩) hz
theorem zGI{X:Cx}:OpR X (BQ .In) (fun x y H Q=>∃ a b,x=.str a/\y=.str b/\Q (.bl (DD b a)) H):=by
 intro pins s σ H x y v u Q I rx ry h
 obtain⟨a,b,rfl,rfl,q⟩:=h
 obtain⟨t,rfl⟩:=rx
 obtain⟨t',rfl⟩:=ry
 exact PySem.P.in_str ⟨.bl (DD b a),H,I,rfl,q⟩
end L2
namespace D
open PySem L2
def startswithS:En->List S->Option S:=fun _ as=>match as with
 | [.v (.a (.str z)),.v (.a (.str y))]=>some (mkB (BL z y))
 | _=>none
theorem sims_startswith{K:Fg}:SimRs K (rSM (rStarts K)) startswithS:=by
 intro C w Γ σ H vs as s Q R o e k
 unfold startswithS at e
 split at e
 ·rename_i z y
  cases e
  match vs,o with
  | [a,b],o=>exact⟨z,y,(show Im K H a _ from o.1).inva,by rw[(show Im K H b _ from o.2.1).inva],k _ H R .refl SOk.atom trivial⟩
  | [],o=>exact o.elim
  | [x],o=>exact o.2.elim
  | x::y::w::l,o=>exact o.2.2.elim
 ·cases e
def rstripS:En->List S->Option S:=fun _ as=>match as with
 | [.v (.a (.str z)),.v (.a (.str y))]=>if z.length<=AC then some (.v (.a (.str (BK z y)))) else none
 | _=>none
theorem sims_rstrip{K:Fg}:SimRs K (rSM (rRstrip K)) rstripS:=by
 intro C w Γ σ H vs as s Q R o e k
 unfold rstripS at e
 split at e
 ·rename_i z y
  split at e
  ·rename_i hz
   cases e
   match vs,o with
   | [a,b],o=>exact⟨z,y,(show Im K H a _ from o.1).inva,by rw[(show Im K H b _ from o.2.1).inva],hz,k _ H R .refl SOk.atom trivial⟩
   | [],o=>exact o.elim
   | [x],o=>exact o.2.elim
   | x::y::w::l,o=>exact o.2.2.elim
  ·cases e
 ·cases e
def inXS:En->S->S->Option S:=fun _ a b=>match a,b with
 | .v (.a (.str x)),.v (.a (.str y))=>some (mkB (DD y x))
 | _,_=>none
theorem zGh{K:Fg}:SimR2 K (fun x y H Q=>∃ a b,x=.str a/\y=.str b/\Q (.bl (DD b a)) H) inXS:=by
 intro C w Γ σ H x y a b s Q R ox oy e k
 unfold inXS at e
 split at e
 ·cases e
  exact⟨_,_,ox.inva,oy.inva,k _ H R .refl SOk.atom trivial⟩
 ·cases e
section
variable {ι:Type}{K:Fg}{X:ι->Cx}{Γ:En}{x y z:Str}
theorem cr_inX:CmpR K X .In inXS:=⟨_,fun _=>zGI,zGh⟩
@[simp] theorem zKR:startswithS Γ [.v (.a (.str z)),.v (.a (.str y))]=some (.v (.a (.bl (BL z y)))):=(rfl)
@[simp] theorem zML:rstripS Γ [.v (.a (.str z)),.v (.a (.str y))]=if z.length<=AC then some (.v (.a (.str (BK z y)))) else none:=(rfl)
end
theorem zKK(ys:List Str):strsT ys=(strsV ys).map T.a:=by simp[strsT,strsV]
end D
namespace L2
open PySem PySem.Spec PyProof.Rows
def numX(k:Nat):Str:=Bl (toString (k:Int))
theorem zIe(u:Tok):((Az 1000).map fun k=>(intTail (numX k) u).1)=(Az 1000).map fun (k:Nat)=>mkInt (k:Int):=by kernel_rfl
theorem zJt(u:Tok)(k:Nat)(h:k < 1000):(intTail (numX k) u).1=mkInt (k:Int):=(HX.mp (zIe u)) k (Ei.mpr h)
theorem zHj{X:Cx}:CallR X (.type "int") (fun xs H Q=>∃ k:Nat,k < 1000/\xs=[.str (numX k)]/\Q (.int (k:Int)) H):=by
 intro pins s σ H xs us Q I r h
 obtain⟨k,hk,rfl,q⟩:=h
 obtain⟨u,rfl,t,rfl⟩:=vals1 r
 exact call_int_1 ((intTail (numX k) t).2 (k:Int) (zJt t k hk)).meets (show (Made.int (k:Int)).post _ s from ⟨rfl,⟨.int (k:Int),H,I.tok _,⟨_,rfl⟩,q⟩⟩)
end L2
namespace D
open PySem L2
def parseN(x:Str):Nat:=x.cps.foldl (fun a c=>10 * a+(c - 48)) 0
def intNS:En->List S->Option S:=fun _ as=>match as with
 | [.v (.a (.str x))]=>if parseN x < 1000/\numX (parseN x)=x then some (mkI ((parseN x:Nat):Int)) else none
 | _=>none
theorem zFu{K:Fg}:SimRs K (fun xs H Q=>∃ k:Nat,k < 1000/\xs=[.str (numX k)]/\Q (.int (k:Int)) H) intNS:=by
 intro C w Γ σ H vs as s Q R o e k
 unfold intNS at e
 split at e
 ·rename_i x
  split at e
  ·rename_i h
   cases e
   obtain⟨v,rfl,o1⟩:=soks1 o
   exact⟨parseN x,h.1,by rw[h.2,o1.inva],k _ H R .refl SOk.atom trivial⟩
  ·cases e
 ·cases e
section
variable {ι:Type}{K:Fg}{mg:Str->Option AB}{k:Nat}{X:ι->Cx}{Γ:En}
theorem tr_intN:CalR K X (.type "int") intNS:=⟨_,fun j=>zHj,zFu⟩
theorem zHd(k:Nat)(h:k < 1000):parseN (numX k)=k:=(show ∀ k:Fin 1000,parseN (numX k.1)=k.1 by decide +kernel) ⟨k,h⟩
theorem zDJ{k:Nat}(h:k < 1000):intNS Γ [.v (.a (.str (numX k)))]=some (.v (.a (.int (k:Int)))):=by
 show (if parseN (numX k) < 1000/\numX (parseN (numX k))=numX k then some (mkI ((parseN (numX k):Nat):Int)) else none)=_
 rw[zHd k h,if_pos ⟨h,rfl⟩]; rfl
end
end D
namespace L2
open PySem PySem.Spec PyProof.Rows
section
variable {P:Ac}{w:Al}{K:AJ}{mg:Str->Option AB}{base:Heap}{N:List Str}{qual:Str}{scope:Bv}{f:Addr}{cd:AB}{A:A5}{outer:List Env}{s₀:AH}{H₀:Hp}{E:XK}
def tCallX(sp:Sp)(E:XK)(t:TA):TE:=fun σ H Q=>t σ H fun vs H1=>sp vs H1 Q E
theorem zIh{x:Str}{p pos:Pos}{e:Expr}{es:List Expr}{t:TA}{f':Addr}{fd:An}{ps:List Str}{sp:Sp}{k:Nat}(F:FnOk P w K mg base (CXR P w) k f' fd ps sp)(hr:Room k (cxOf (CXR P w) P w K mg base N qual scope f cd A outer s₀ H₀ E).A)
  (hg:Gl (cxOf (CXR P w) P w K mg base N qual scope f cd A outer s₀ H₀ E) x) (hm:mg x=some (.ref f')) (hk:BC K (.ref f')=true) (hb:Binds K fd ps [])
  (ha:∀ E',PA ((cxOf (CXR P w) P w K mg base N qual scope f cd A outer s₀ H₀ E).on E') (e::es) t) (hdb:(x == ("__debug__":Str))=false)
  (he:AR (e::es) (cxOf (CXR P w) P w K mg base N qual scope f cd A outer s₀ H₀ E).env=(false,eval e (cxOf (CXR P w) P w K mg base N qual scope f cd A outer s₀ H₀ E).env)::AR es (cxOf (CXR P w) P w K mg base N qual scope f cd A outer s₀ H₀ E).env) (hpl:(Bg pos (AR es (cxOf (CXR P w) P w K mg base N qual scope f cd A outer s₀ H₀ E).env)).any (·.1)=false) :
  PE (cxOf (CXR P w) P w K mg base N qual scope f cd A outer s₀ H₀ E) (.Call (.Name x p) (e::es) [] pos) (tCallX sp E t):=by
 intro pins s σ H Q I h
 refine BG (zC2 (W:=E) (Q:=Q) F hr hg hm hk hb ha hdb he hpl I h) (fun v s1 z=>z) fun e' s1 z=>?_
 obtain⟨H1,s0,I1,c⟩:=z
 exact zB8 I1 c
end
end L2
namespace D
open PySem L2
abbrev Xv:=(Str×List (Str×V))×En
abbrev DEX:=En->Option (Except Xv (S×En))
abbrev DAX:=En->Option (Except Xv (List S×En))
def OkR(K:Fg)(C:Fr)(w:W)(E:XK)(σ:St)(H:Hp)(Q:VK):Except Xv (S×En)->Prop
 | .ok p=>∀ v H',Rep K C w p.2 σ H'->Evo w.L H H'->SOk K C w σ H' v p.1->Nw H v p.1->Q v H'
 | .error z=>∀ H',Rep K C w z.2 σ H'->XiE K E z.1.1 z.1.2 H'
def OkRs(K:Fg)(C:Fr)(w:W)(E:XK)(σ:St)(H:Hp)(Q:List V->Hp->Prop):Except Xv (List S×En)->Prop
 | .ok p=>∀ vs H',Rep K C w p.2 σ H'->Evo w.L H H'->SOks K C w σ H' vs p.1->Nws H vs p.1->Q vs H'
 | .error z=>∀ H',Rep K C w z.2 σ H'->XiE K E z.1.1 z.1.2 H'
def SimEX(K:Fg)(E:XK)(te:TE)(f:DEX):Prop:=∀ (C:Fr) (w:W) (Γ:En) (σ:St) (H:Hp) (r:Except Xv (S×En)) (Q:VK),Rep K C w Γ σ H->f Γ=some r->OkR K C w E σ H Q r->te σ H Q
def SimAX(K:Fg)(E:XK)(ta:TA)(f:DAX):Prop:=∀ (C:Fr) (w:W) (Γ:En) (σ:St) (H:Hp) (r:Except Xv (List S×En)) (Q:List V->Hp->Prop),Rep K C w Γ σ H->f Γ=some r->OkRs K C w E σ H Q r->ta σ H Q
section
variable {K:Fg}{E:XK}{n:Nat}{F:DF}
def dPl(f:DE):DEX:=fun Γ=>(f Γ).map .ok
theorem zIC{te:TE}{f:DE}(h:SimE K te f):SimEX K E te (dPl f):=by
 intro C w Γ σ H r Q R e k
 obtain⟨p,e1,e⟩:=zAA e
 subst e
 exact h C w Γ σ H p.1 p.2 Q R e1 k
def dCallX(n:Nat)(F:DF)(fa:DA):DEX:=fun Γ=>(fa Γ).bind fun p=>(argsG none p.2 0 p.1).bind fun gs=>if gs.length=n then (F gs).bind fun q=>match q.1 with
 | .v (.x c fs)=>some (.error ((c,fs),p.2))
 | .v t=>some (.ok (.v t,p.2))
 | _=>none else none
theorem zFl{t:TA}{fa:DA}(ha:SimA K t fa):SimEX K E (tCallX (spX K n F) E t) (dCallX n F fa):=by
 intro C w Γ σ H o Q R e k
 obtain⟨⟨ss,Γ1⟩,e1,e⟩:=bind_some e
 obtain⟨gs,e2,e⟩:=bind_some e
 dsimp only at e e2
 split at e
 rotate_left
 ·cases e
 rename_i hn
 obtain⟨⟨r,ys⟩,e3,e⟩:=bind_some e
 refine ha C w Γ σ H ss Γ1 _ R e1 fun vs H1 R1 ev1 o1 _=>?_
 have Rc:=zIy R1 o1 e2
 refine⟨by rw[o1.len,← zBF e2]; exact hn,⟨[],fun q=>∃ o,H1 q=some o⟩,gs,r,ys,rfl,e3,Rc,fun z hz H' ext=>?_,fun hz v H' ext hr=>?_⟩
 ·dsimp only at e
  have:=zCy hz
  subst this
  cases e
  exact k H' (R1.evo0 ext)
 ·dsimp only at e
  split at e
  ·cases hz
  ·cases e
   exact k v H' (R1.evo0 ext) (ev1.trans fun b o eb _=>ext b o eb) (show Im K H' v _ from hr) trivial
  ·cases e
def dNilX:DAX:=fun Γ=>some (.ok ([],Γ))
theorem zHe:SimAX K E tNil dNilX:=by
 intro C w Γ σ H r Q R e k
 cases e
 exact k [] H R .refl trivial trivial
def dConsX(f:DEX)(g:DAX):DAX:=fun Γ=>(f Γ).bind fun r=>match r with
 | .error z=>some (.error z)
 | .ok p=>(g p.2).map fun r=>match r with
  | .error z=>.error z
  | .ok q=>.ok (p.1::q.1,q.2)
theorem zF6{ta:TE}{tr:TA}{fa:DEX}{fr:DAX}(ha:SimEX K E ta fa)(hr:SimAX K E tr fr):SimAX K E (tCons ta tr) (dConsX fa fr):=by
 intro C w Γ σ H r Q R e k
 obtain⟨r1,e1,e⟩:=bind_some e
 refine ha C w Γ σ H r1 _ R e1 ?_
 cases r1 with
 | error z=>cases e; exact k
 | ok p =>
  obtain⟨r2,e2,e⟩:=zAA e
  intro v1 H1 R1 ev1 o1 n1
  refine hr C w p.2 σ H1 r2 _ R1 e2 ?_
  cases r2 with
  | error z=>cases e; exact k
  | ok q =>
   cases e
   exact fun vs H2 R2 ev2 o2 n2=>k (v1::vs) H2 R2 (ev1.trans ev2) ⟨o1.evo ev2 R1.lst,o2⟩ ⟨n1,n2.back ev1 R1.lst⟩
def dTupX(g:DAX):DEX:=fun Γ=>(g Γ).bind fun r=>match r with
 | .error z=>some (.error z)
 | .ok p=>(trees p.1).bind fun ts=>gd ts.length (.ok (.v (.t ts),p.2))
theorem zGw{ta:TA}{fa:DAX}(ha:SimAX K E ta fa):SimEX K E (tTup ta) (dTupX fa):=by
 intro C w Γ σ H r Q R e k
 obtain⟨r1,e1,e⟩:=bind_some e
 refine ha C w Γ σ H r1 _ R e1 ?_
 cases r1 with
 | error z=>cases e; exact k
 | ok p =>
  obtain⟨ts,e2,e⟩:=bind_some e
  obtain⟨hn,e⟩:=zAw e
  cases e
  intro vs H1 R1 ev1 o1 _
  have hi:=zBA o1 e2
  exact⟨by rw[hi.len]; exact hn,fun q hq=>k _ _ (R1.new hq) (ev1.trans (Evo.new hq)) (R1.newt hq hi) trivial⟩
end
section
variable {ι:Type}{P:Ac}{wd:Al}{base:Heap}{K:Fg}{mg:Str->Option AB}{E:XK}{k k' n:Nat}{X:ι->Cx}{e:Expr}{es:List Expr}{fa:DE}{fx:DEX}{gx:DAX}{pos:Pos}{x:Str}
theorem ex_call0{ip:Option Nat}{F:DF}{p:Pos}(M:Fm K mg k X)(B:Fb P wd base X)(D0:FD P wd K mg base k' x ip n F)(hk:k'<=k:=by first | exact AL _ | decide | omega)(hg:∀ j,Gl (X j) x:=by intro _; rfl)(hdb:(x == ("__debug__":Str))=false:=by decide):EX K X (.Call (.Name x p) [] [] pos) (dCall ip F [] qQ):=by
 obtain⟨f,fd,ps,h1,h2,h3,h4⟩:=D0.ex
 refine⟨tCall (spD K ip n F) [] E0 tNil,fun j=>?_,zCS D0.len zFM⟩
 have hF:FnOk (X j).prog (X j).w (X j).K (X j).mg (X j).base CX0 k' f fd ps (spD K ip n F):=by rw[B.P,B.w,M.K,M.mg,B.b]; exact h1
 exact zIg hF ((M.room j).mono hk) (hg j) (by rw[M.mg]; exact h2) (by rw[M.K]; exact h3) (by rw[M.K]; exact h4) .nil pass0 hdb
end
section
variable {Γ:En}{f:DE}{fx:DEX}{gx:DAX}{n i:Nat}{F:DF}{fa:DA}
@[simp] theorem zN0:dPl f Γ=(f Γ).map .ok:=(rfl)
@[simp] theorem zME:dCallX n F fa Γ=(fa Γ).bind fun p=>(argsG none p.2 0 p.1).bind fun gs=>if gs.length=n then (F gs).bind fun q=>match q.1 with
 | .v (.x c fs)=>some (.error ((c,fs),p.2))
 | .v t=>some (.ok (.v t,p.2))
 | _=>none else none:=(rfl)
@[simp] theorem zMR:dNilX Γ=some (.ok ([],Γ)):=(rfl)
@[simp] theorem zMB:dConsX fx gx Γ=(fx Γ).bind fun r=>match r with
 | .error z=>some (.error z)
 | .ok p=>(gx p.2).map fun r=>match r with
  | .error z=>.error z
  | .ok q=>.ok (p.1::q.1,q.2):=(rfl)
@[simp] theorem zMz:dTupX gx Γ=(gx Γ).bind fun r=>match r with
 | .error z=>some (.error z)
 | .ok p=>(trees p.1).bind fun ts=>gd ts.length (.ok (.v (.t ts),p.2)):=(rfl)
end
end D
namespace L2
open PySem PySem.Spec PyProof.Rows
def PEX(X:Cx)(E:XK)(e:Expr)(te:TE):Prop:=∀ (pins:List (Addr×Obj)) (s:AH) (σ:St) (H:Hp) (Q:VK),Inv X pins σ H s->te σ H Q ->
 AZ (model X.prog X.w) X.A (eval e X.env) (EP X pins σ Q) (fun e s'=>∃ H1 s1,Inv X pins σ H1 s1/\CXR X.prog X.w X.stack H1 s1 E e s') s
section
variable {X:Cx}{E:XK}{e:Expr}{es:List Expr}{te:TE}{t:TA}{pos:Pos}
abbrev xeP(X:Cx)(E:XK)(pins:List (Addr×Obj))(σ:St):AB->AH->Prop:=fun e s'=>∃ H1 s1,Inv X pins σ H1 s1/\CXR X.prog X.w X.stack H1 s1 E e s'
def PAX(X:Cx)(E:XK)(es:List Expr)(t:TA):Prop :=
 ∀ (pos:Pos) (pins:List (Addr×Obj)) (s:AH) (σ:St) (H:Hp) (Q:List V->Hp->Prop),Inv X pins σ H s->t σ H Q->AZ (model X.prog X.w) X.A (spliced (Bg pos (AR es X.env))) (AP X pins σ Q) (xeP X E pins σ) s
theorem zLA(h:∀ E',PE (X.on E') e te):PEX X E e te:=fun pins s σ H Q I hq=>by
 refine BG (h (xeP X E pins σ) pins s σ H Q I.on hq) (fun v s1 z=>?_) fun _ _ z=>z
 obtain⟨v',H1,I1,r1,q1⟩:=z
 exact⟨v',H1,I1.off,r1,q1⟩
theorem zKM:PAX X E [] tNil:=fun pos pins s σ H Q I hq=>by
 refine BG (pa_nil (X:=X.on (xeP X E pins σ)) pos pins s σ H Q I.on hq) (fun v s1 z=>?_) fun _ _ z=>z
 obtain⟨v',H1,I1,r1,q1⟩:=z
 exact⟨v',H1,I1.off,r1,q1⟩
theorem zH6(ha:PEX X E e te)(hr:PAX X E es t)(hs:AR (e::es) X.env=(false,eval e X.env)::AR es X.env:=by rfl):PAX X E (e::es) (tCons te t):=by
 intro pos pins s σ H Q I h
 rw[hs]
 show AZ _ _ (spliced ((false,eval e X.env)::Bg pos (AR es X.env))) _ _ s
 refine Dg (thn (ha pins s σ H _ I h) fun u s1 ⟨x,H1,I1,r1,q1⟩=>?_)
 exact thn (hr pos pins s1 σ H1 _ I1 q1) fun us s2 ⟨xs,H2,I2,r2,q2⟩=>⟨x::xs,H2,I2,.cons r1 r2,q2⟩
theorem zJm{x1}(h:PAX X E es t):PEX X E (.Tuple es x1 pos) (tTup t):=by
 intro pins s σ H Q I hq
 refine Hw (thn (h pos pins s σ H _ I hq) fun us s1 ⟨xs,H1,I1,r,z,q⟩=>⟨by rw[← r.length]; exact z,?_⟩)
 have hf:H1 s1.heap.objs.size=none:=I1.hok.fresh (AL _)
 refine⟨.ref s1.heap.objs.size,upd H1 s1.heap.objs.size (.tup xs),I1.laid (t':=s1.toks) (fun b u e=>AI _ e) (AL _) ?_,rfl,q _ hf⟩
 exact⟨z,us,r,⟨_,Ad _ rfl,rfl,⟨_,rfl⟩,rfl⟩⟩
end
section
variable {X:Cx}{e:Expr}{te:XK->TE}{ts:TS}{j i:Nat}{n y z:Str}{Dc:Addr}{np hpos epos tpos zpos:Pos}{b₀:Stmt}{suite:List Stmt}
def tTryF(K:AJ)(Dc:Addr)(j i:Nat)(te:XK->TE)(ts:TS):TS:=fun D σ H=>te (wishX K Dc j ts D σ) σ H (fun v H2=>D.nx (σ.set i (some v)) H2)
theorem zJI(ha:∀ E,PEX X E e (te E))(hi:X.N[i]?=some z)(hzl:Loc X.env.scope z)(hzf:X.fn z=true\/X.env.scope.names.lookup z=some .local)
  (hst:X.stack=X.env::X.outer) (hex:X.ex=[]) (hfr:X.env.frame=some X.env.locals) (hN:X.N.Nodup) (hj:X.N[j]?=some n) (hk:X.env.scope.names.lookup n=some .local) (hgy:Gl X y) (hmy:X.mg y=some (.ref Dc)) (hyd:(y == ("__debug__":Str))=false)
  (hs:∀ a E',PSs (X.inn a E') (b₀::suite) ts) (hsw:DG e (some (.Name z zpos)) epos.line X.env=pure false) :
  PS X (.Try [.Assign [.Name z zpos] e epos] [.ExceptHandler (some (.Name y np)) (some n) (b₀::suite) hpos] [] [] tpos) (tTryF X.K Dc j i te ts):=by
 intro pins s σ H D I h
 refine wpAny_Try_except ?_
 refine GB (IR (BG (ha _ pins s σ H _ I h) (fun v s1 z=>?_) fun e' s1 z=>?_) hsw)
 ·obtain⟨v',H1,I1,r1,q1⟩:=z
  exact zAv I1 hN hi hzl r1 (fun s2 I2=>Dn (Dn ⟨_,H1,I2,q1⟩)) hzf
 ·obtain⟨H1,s0,I1,c⟩:=z
  exact zHU hst hex hfr hN hj hk hgy hmy hyd hs I1 c
end
end L2
namespace D
open PySem L2
def compDX(tg:En->T->Option En)(dc:DT)(de:DEX):List T->En->Option (Except Xv (List T×En))
 | [],Γ=>some (.ok ([],Γ))
 | t::r,Γ=>(tg Γ t).bind fun Γ1=>(dc Γ1).bind fun p=>if p.1=true then (de p.2).bind fun a=>match a with
   | .error z=>some (.error z)
   | .ok q=>q.1.tree.bind fun t'=>(compDX tg dc de r q.2).map fun z=>match z with
    | .error z=>.error z
    | .ok z=>.ok (t'::z.1,z.2)
  else compDX tg dc de r p.2
def EXF{ι:Type}(K:Fg)(X:ι->Cx)(e:Expr)(f:DEX):Prop:=∃ te:XK->TE,(∀ j E,PEX (X j) E e (te E))/\∀ E,SimEX K E (te E) f
def AXF{ι:Type}(K:Fg)(X:ι->Cx)(es:List Expr)(f:DAX):Prop:=∃ te:XK->TA,(∀ j E,PAX (X j) E es (te E))/\∀ E,SimAX K E (te E) f
section
variable {ι:Type}{P:Ac}{wd:Al}{base:Heap}{K:Fg}{mg:Str->Option AB}{E:XK}{k k' n:Nat}{X:ι->Cx}{e:Expr}{es:List Expr}{fa:DE}{fx:DEX}{gx:DAX}{da:DA}{F:DF}{p pos:Pos}{x:Str}
theorem exf_plain(h:EX K (onF X) e fa):EXF K X e (dPl fa):=let ⟨t,p,s⟩:=h; ⟨fun _=>t,fun j E=>zLA fun E'=>p (j,E'),fun _=>zIC s⟩
theorem axf_nil:AXF K X [] dNilX:=⟨fun _=>tNil,fun j E=>zKM,fun _=>zHe⟩
theorem axf_cons(ha:EXF K X e fx)(hr:AXF K X es gx)(hs:∀ j,AR (e::es) (X j).env=(false,eval e (X j).env)::AR es (X j).env:=by intro _; rfl):AXF K X (e::es) (dConsX fx gx) :=
 let ⟨a,p,s⟩:=ha; let ⟨b,q,u⟩:=hr; ⟨fun E=>tCons (a E) (b E),fun j E=>zH6 (p j E) (q j E) (hs j),fun E=>zF6 (s E) (u E)⟩
theorem exf_tup{x1}(h:AXF K X es gx):EXF K X (.Tuple es x1 pos) (dTupX gx):=let ⟨a,p,s⟩:=h; ⟨fun E=>tTup (a E),fun j E=>zJm (p j E),fun E=>zGw (s E)⟩
theorem exf_call(M:Fm K mg k X)(B:Fb P wd base X)(G:FX P wd K mg base k' x n F)(ha:AX K (onF X) (e::es) da)(hk:k'<=k:=by first | exact AL _ | decide | omega)
  (hg:∀ j,Gl (X j) x:=by intro _; rfl) (hdb:(x == ("__debug__":Str))=false:=by decide) (he:∀ i,AR (e::es) (X i).env=(false,eval e (X i).env)::AR es (X i).env:=by intro _; rfl) (hpl:∀ i,(Bg pos (AR es (X i).env)).any (·.1)=false:=by intro _; rfl) :
  EXF K X (.Call (.Name x p) (e::es) [] pos) (dCallX n F da):=by
 obtain⟨t,pa,sa⟩:=ha
 obtain⟨f,fd,ps,g1,g2,g3,g4⟩:=G.ex
 refine⟨fun E=>tCallX (spX K n F) E t,fun i E pins s σ H Q I h=>?_,fun E=>zFl sa⟩
 exact zC2 (X:=X i) (W:=E) (k:=k') (f:=f) (fd:=fd) (ps:=ps) (sp:=spX K n F) (t:=t) (by rw[B.P,B.w,M.K,M.mg,B.b]; exact g1) ((M.room i).mono hk) (hg i) (by rw[M.mg]; exact g2) (by rw[M.K]; exact g3) (by rw[M.K]; exact g4) (fun E'=>pa (i,E')) hdb (he i) (hpl i) I h
def dTryF(i:Nat)(f:DEX)(cs:List Str)(j:Nat)(fs:DS):DS:=fun Γ=>(f Γ).bind fun r=>match r with
 | .error z=>if z.1.1∈cs then (fs (z.2.set j (some (.v (.x z.1.1 z.1.2))))).map (goO j) else none
 | .ok p=>(setS i p.1 p.2).map .nx
theorem zHP{ip:Option Nat}{i:Nat}{cs:List Str}{Dc:Addr}{j:Nat}{te:XK->TE}{ts:TS}{f:DEX}{fs:DS}(ha:∀ E,SimEX K E (te E) f)(hs:SimS K ip ts fs)(hj:ip≠some j)(hi:ip≠some i)
  (hcat:∀ c∈cs,∀ C,A8 K AU c=some (some (.ref C))->catches K C Dc=true):SimS K ip (tTryF K Dc j i te ts) (dTryF i f cs j fs):=by
 intro C w Γ σ H D o hp R e k
 have hnj:∀ q∈C.pins,q.1≠j:=zAt hp hj
 obtain⟨r,e1,e⟩:=bind_some e
 refine ha _ C w Γ σ H r _ R e1 ?_
 cases r with
 | error z =>
  dsimp only at e
  split at e
  rotate_left
  ·cases e
  rename_i hc
  obtain⟨o',e4,rfl⟩:=zAA e
  intro H' R' Ca d H'' hns ext' hd
  refine⟨Ca,rfl,hcat z.1.1 hc Ca hns,fun a ha'=>?_⟩
  have R2:Rep K C w z.2 σ H'':=R'.evo0 ext'
  have R3:Rep K C w z.2 σ (upd H'' a (xo a Ca d)):=R2.new ha'
  have hx:GOk K w (upd H'' a (xo a Ca d)) (.ref a) (.v (.x z.1.1 z.1.2)):=Im.exc ⟨Ca,d,hns,zAG,hd.imp id fun ⟨dx,q1,q2⟩=>⟨dx,q1,by rw[zAC (fun y=>by rw[y,ha']at q2; cases q2)]; exact q2⟩⟩
  exact hs C w _ _ _ (endsJ j D) o' hp (R3.setv rfl hx hnj) e4 (zK8 hnj k)
 | ok p =>
  obtain⟨Γ2,e4,rfl⟩:=zAA e
  intro v H1 R1 _ o1 _
  obtain⟨w',R'⟩:=zFc R1 o1 e4 (zAt hp hi)
  exact k w' _ H1 R'
section
variable {ip:Option Nat}{fs:DS}{cs:List Str}{b₀:Stmt}{suite:List Stmt}{np hpos epos tpos zpos:Pos}{y z nm:Str}
theorem sx_tryF(m j:Nat)(M:Fm K mg k X)(hcat:CatX K mg y cs)(ha:EXF K X e fx)(hs:BX K (innF X) ip (b₀::suite) fs)
  (hjp:ip≠some j:=by decide) (hmp:ip≠some m:=by decide) (hN:∀ i,(X i).N.Nodup:=by intro _; show (FA _); decide +kernel) (hj:∀ i,(X i).N[j]?=some nm:=by intro _; rfl) (hkl:∀ i,(X i).env.scope.names.lookup nm=some .local:=by intro _; rfl)
  (hm:∀ i,(X i).N[m]?=some z:=by intro _; rfl) (hzl:∀ i,Loc (X i).env.scope z:=by intro _; first | exact CO rfl | exact Ez rfl) (hzf:∀ i,(X i).fn z=true\/(X i).env.scope.names.lookup z=some .local:=by intro _; first | exact .inl rfl | exact .inr rfl)
  (hgy:∀ i,Gl (X i) y:=by intro _; rfl) (hst:∀ i,(X i).stack=(X i).env::(X i).outer:=by intro _; rfl) (hex:∀ i,(X i).ex=[]:=by intro _; rfl) (hfr:∀ i,(X i).env.frame=some (X i).env.locals:=by intro _; rfl) (hyd:(y == ("__debug__":Str))=false:=by decide)
  (hsw:∀ i,DG e (some (.Name z zpos)) epos.line (X i).env=pure false:=by intro _; rfl) :
  SX K X ip (.Try [.Assign [.Name z zpos] e epos] [.ExceptHandler (some (.Name y np)) (some nm) (b₀::suite) hpos] [] [] tpos) (dTryF m fx cs j fs):=by
 obtain⟨te,pa,sa⟩:=ha
 obtain⟨ts,pss,ss⟩:=hs
 obtain⟨Dc,d1,d2⟩:=hcat
 refine⟨tTryF K Dc j m te ts,fun i=>?_,zHP sa ss hjp hmp d2⟩
 have:=zJI (X:=X i) (Dc:=Dc) (j:=j) (n:=nm) (te:=te) (ts:=ts) (np:=np) (hpos:=hpos) (tpos:=tpos) (epos:=epos) (zpos:=zpos) (pa i) (hm i) (hzl i) (hzf i) (hst i) (hex i) (hfr i) (hN i) (hj i) (hkl i) (hgy i) (by rw[M.mg]; exact d1) hyd (fun a E'=>pss (i,a,E')) (hsw i)
 rw[M.K i]at this
 exact this
end
end
section
variable {Γ:En}{fx:DEX}{i j:Nat}{cs:List Str}{fs:DS}{ix:List (Option Nat)}{di:DI}{tg:En->T->Option En}{dc:DT}{t:T}{r:List T}
theorem zEO:dTryF i fx cs j fs Γ=(fx Γ).bind fun r=>match r with
 | .error z=>if z.1.1∈cs then (fs (z.2.set j (some (.v (.x z.1.1 z.1.2))))).map (goO j) else none
 | .ok p=>(setS i p.1 p.2).map .nx:=(rfl)
end
end D
namespace L2
open PySem PySem.Spec PyProof.Rows
structure RoomH(k:Nat)(A:A5):Prop where
 dp:A.depth+3 * k+5 < Gg
 un:A.units+16 * k+200 < HD
 gd:A.guards=some []
theorem RoomH.mono{j k:Nat}{A:A5}(r:RoomH k A)(h:j<=k):RoomH j A:=⟨by have:=r.dp; omega,by have:=r.un; omega,r.gd⟩
structure FnOkH(P:Ac)(w:Al)(K:AJ)(mg:Str->Option AB)(base:Heap)(k:Nat)(f:Addr)(fd:An)(ps:List Str)(sp:Sp):Prop where
 len:∀ vs H Q E,sp vs H Q E->vs.length=ps.length
 run:∀ (A:A5) (outer:List Env) (s:AH) (H:Hp) (args:Args) (us:List AB) (vs:List V) (Q:VK) (E:XK),RoomH k A->Env0 P w K mg base A outer s H->Fq s fd args (ps.zip us)->Vals vs us->sp vs H Q E ->
  EM (model P w) A (.call (.ref f) args) (CR CX0 outer P w H s Q E) s
abbrev cxH(CX:CXT)(P:Ac)(w:Al)(K:AJ)(mg:Str->Option AB)(base:Heap)(N:List Str)(qual:Str)(scope:Bv)(f:Addr)(cd:AB)(A:A5)(outer:List Env)(s:AH)(H:Hp)(E:XK):Cx:={ cxOf CX P w K mg base N qual scope f cd A outer s H E with calm:=false }
theorem zFw{CX:CXT}{P:Ac}{w:Al}{K:AJ}{mg:Str->Option AB}{base:Heap}{N ps:List Str}{qual:Str}{scope:Bv}{f:Addr}{cd:AB}{A:A5}{outer:List Env}{s s1:AH}{H:Hp}{E:XK}{us:List AB}{vs:List V}
  (S:FnScope N ps scope) (e0:Env0 P w K mg base A outer s H) (hl:vs.length=ps.length) (r:Vals vs us)
  (x:InCallC s s.heap.objs.size (Gh (Ep qual scope s.heap.objs.size f cd).kindOf (ps.zip us) fun _=>none) (BI (s.heap.objs.size+1) scope.names []) (Gi (Ep qual scope s.heap.objs.size f cd).kindOf (ps.zip us) fun _=>none) s1) :
  Inv (cxH CX P w K mg base N qual scope f cd A outer s H E) [] (start N vs) H s1:=by
 have hpl:ps.length<=N.length:=by have:=congrArg Be S.pre; rw[DK]at this; omega
 obtain⟨h1,tk,rfl,hk⟩:=x.done
 have noA:∀ b:Addr,b∉(cxH CX P w K mg base N qual scope f cd A outer s H E).ex:=fun b z=>absurd (show b∈([]:List Addr) from z) (by simp)
 refine⟨⟨e0.mod,S.kind,rfl,rfl,AL _,fun y z c h1 h2=>?_,fun y hy=>?_,fun y c _ h=>?_,fun z=>He z,GW e0.frames,.inr ⟨rfl,rfl⟩,fun b z=>absurd z (noA b),e0.bs,e0.bsz,fun b _ _=>noA b,fun b z=>absurd z (noA b),e0.funs,e0.frf⟩,
  rfl,e0.bare,Un.kept hk,⟨_,x.toInCall.ns,fun i y v h1 h2 h3=>?_⟩,fun y c h=>⟨_,x.cell y c h⟩,e0.hok.fresh (AL _),fun y c h=>?_,fun p hp=>absurd (show p∈([]:List (Addr×Obj)) from hp) (by simp),e0.hok.kept hk,?_⟩
 ·exact Kc x.apart (A0 h1) (A0 h2)
 ·have hy:scope.names.lookup y=some .cell\/scope.names.lookup y=some .free:=hy
  rcases hy with hy | hy
  ·exact zBe hy
  ·exact absurd rfl (S.nofree _ (A0 hy))
 ·exact Bk (x.above y c (A0 h))
 ·have hi:i < vs.length:=by
   unfold start at h2
   by_cases hi:i < vs.length
   ·exact hi
   ·rw[Bw (by simpa using hi)]at h2
    rw[CG]at h2
    split at h2 <;> cases h2
  have ha:vs[i]?=some v:=by
   unfold start at h2
   rw[BH (by simpa using hi),Ai]at h2
   cases e:vs[i]? with
   | none=>rw[e]at h2; cases h2
   | some a=>rw[e]at h2; cases h2; rfl
  obtain⟨u,hu,rv⟩:=r.get ha
  have hp:ps[i]?=some y:=by
   rw[← S.pre,GO (by omega)]; exact h1
  have ndP:ps.Nodup:=by rw[← S.pre]; exact S.nd.sublist (HQ _ _)
  refine⟨u,rv,?_⟩
  rcases S.par y (B8 hp) with k | k
  ·exact .inl ⟨k,zBx ndP hp hu k⟩
  ·obtain⟨c,e⟩:=zBe (n:=s.heap.objs.size+1) k
   refine .inr ⟨.inl k,c,e,?_⟩
   have q:=x.cell y c e
   rw[zBo ndP hp hu (by show scope.names.lookup y≠_; rw[k]; decide)]at q
   exact q
 ·exact e0.hok.fresh (Bk (x.above y c (A0 h)))
 ·unfold start
  show _=N.length
  rw[Am,BA,By]
  omega
theorem zLK{P:Ac}{w:Al}{K:AJ}{mg:Str->Option AB}{base:Heap}{k:Nat}{f:Addr}{name qual:Str}{params:Iz}{body:List Stmt}{scope:Bv}{dV kV doc pm cdv ct oc:AB}{an od:Option Addr}
  {osl:Array (Option AB)} {N ps:List Str} {sp:Sp} (lk:K.lookup f=some ⟨oc,od,.func (Ck name qual params body scope dV kV doc pm an cdv ct),osl⟩) (hcd:Ce K cdv qual=true) (S:FnScope N ps scope)
  (len:∀ vs H Q E,sp vs H Q E->vs.length=ps.length)
  (hbody:∀ (A:A5) (outer:List Env) (s:AH) (H:Hp) (vs:List V) (Q:VK) (E:XK),sp vs H Q E ->
   ∃ t,PSs (cxH CX0 P w K mg base N qual scope f cdv A outer s H E) body t/\t { nx:=fun _ H'=>Q .non H',rt:=Q } (start N vs) H) :
  FnOkH P w K mg base (k+1) f (Ck name qual params body scope dV kV doc pm an cdv ct) ps sp:=by
 refine⟨len,fun A outer s H args us vs Q E hr e0 hb r hsp=>?_⟩
 have hl:=len _ _ _ _ hsp
 have KX:K.In s.heap:=e0.mod.kin.keeps fun b o e=>(e0.bs b o e).1
 have lim:s.heap.NoLimit:=e0.mod.nolimit.keeps fun b o e=>(e0.bs b o e).1
 have hkind:∀ y∈ps.zip us,scope.names.lookup y.1=some .local\/(scope.names.lookup y.1=some .cell/\((BI (s.heap.objs.size+1) scope.names []).lookup y.1).isSome=true):=fun ⟨n,v⟩ hy=>by
  rcases S.par n (EU hy).1 with q | q
  ·exact .inl q
  ·exact .inr ⟨q,CL _ _ _ (.inl q)⟩
 refine HZ (by have:=hr.dp; omega) (KX _ _ lk) rfl S.co S.gen rfl (Gj KX hcd) (hb _ _ _ _ ?_)
 refine Gk S.kind hkind fun env he s1 x=>?_
 subst he
 refine⟨lim.keeps x.toInCall.keep,Kd ?_⟩
 obtain⟨t,ht,hq⟩:=hbody A outer s H vs Q E hsp
 have I:Inv (cxH CX0 P w K mg base N qual scope f cdv A outer s H E) [] (start N vs) H s1:=zFw S e0 hl r x
 refine BG (ht [] s1 (start N vs) H _ I hq) (fun fl s' hs=>?_) fun e s' hs=>hs
 have fin:∀ {σ':St} {H':Hp} {v:V} {u:AB},Inv (cxH CX0 P w K mg base N qual scope f cdv A outer s H E) [] σ' H' s'->RelV v u->Q v H'->CE outer P w H s Q u s' :=
  fun {σ' H' v u} J rv q=>⟨v,H',J.os,J.bare,J.base,J.hok,rv,q⟩
 cases fl with
 | ret u =>
  obtain⟨v,σ',H',J,rv,q⟩:=hs
  exact fin J rv q
 | next =>
  obtain⟨σ',H',J,q⟩:=hs
  exact fin (v:=V.non) (u:=A6) J rfl q
 | brk =>
  obtain⟨_,_,_,q⟩:=hs
  exact BN q
 | cont =>
  obtain⟨_,_,_,q⟩:=hs
  exact BN q
section
variable {X:Cx}{k:Nat}{f:Addr}{fd:An}{ps:List Str}{sp:Sp}{E:XK}{x:Str}{p pos:Pos}{e:Expr}{es:List Expr}{t:TA}
theorem zH9(F:FnOkH X.prog X.w X.K X.mg X.base k f fd ps sp)(hr:RoomH k X.A)(hg:Gl X x)(hm:X.mg x=some (.ref f))(hk:BC X.K (.ref f)=true)(hb:Binds X.K fd ps [])(hx:Passes CX0 X E)
  (ha:PA X (e::es) t) (hdb:(x == ("__debug__":Str))=false:=by decide) (he:AR (e::es) X.env=(false,eval e X.env)::AR es X.env:=by rfl) (hpl:(Bg pos (AR es X.env)).any (·.1)=false:=by rfl) :
  PE X (.Call (.Name x p) (e::es) [] pos) (tCall sp [] E t):=by
 intro pins s σ H Q I h
 refine B5 (zAu I hg hm ?_ hdb)
 refine DW (h₀:=X.base) I.ok.mod.kin hk (thn (ha pos pins s σ H _ I h) fun us s1 ⟨vs,H1,I1,r,q⟩=>⟨I1.kIn,?_⟩) he hpl
 have r2:Vals (vs++[]) (us++[]):=r.append .nil
 have hl:(us++([]:List AB)).length=ps.length:=by rw[← r2.length]; exact F.len _ _ _ _ q
 refine Fd (Dx (F.run X.A X.stack s1 H1 ⟨us,[]⟩ (us++[]) (vs++[]) Q E hr I1.env0 (hb s1 us I1.kIn hl) r2 q) fun r s' hq=>?_)
 cases r with
 | error e=>exact hx pins σ H1 s1 e s' I1 hq
 | ok fl =>
  cases fl with
  | ret u=>exact I1.after hq
  | next=>exact BN hq
  | brk=>exact BN hq
  | cont=>exact BN hq
end
end L2
namespace D
open PySem L2
structure Fh{ι:Type}(K:Fg)(mg:Str->Option AB)(X:ι->Cx):Prop where
 K:∀ j,(X j).K=K
 mg:∀ j,(X j).mg=mg
structure Fi{ι:Type}(K:Fg)(mg:Str->Option AB)(k:Nat)(X:ι->Cx):Prop extends Fh K mg X where
 room:∀ j,RoomH k (X j).A
structure FH(P:Ac)(wd:Al)(K:Fg)(mg:Str->Option AB)(base:Heap)(k:Nat)(x:Str)(ip:Option Nat)(n:Nat)(F:DF):Prop where
 ex:∃ (f:Addr) (fd:An) (ps:List Str),FnOkH P wd K mg base k f fd ps (spD K ip n F)/\mg x=some (.ref f)/\BC K (.ref f)=true/\Binds K fd ps []
 len:∀ gs r,F gs=some r->gs.length=n
section
variable {ι:Type}{P:Ac}{wd:Al}{base:Heap}{K:Fg}{mg:Str->Option AB}{k k' n:Nat}{X:ι->Cx}{ip:Option Nat}{a e:Expr}{es:List Expr}{fa:DE}{da:DA}{F:DF}{p pos:Pos}{x:Str}
theorem Fm.inn(M:Fm K mg k X):Fi K mg k (innF X):=⟨⟨fun q=>M.K q.1,fun q=>M.mg q.1⟩,fun q=>⟨(M.room q.1).dp,(M.room q.1).un,(M.room q.1).gd⟩⟩
theorem Fb.inn(B:Fb P wd base X):Fb P wd base (innF X):=⟨fun q=>B.P q.1,fun q=>B.w q.1,fun q=>B.b q.1⟩
theorem ex_callH(M:Fi K mg k X)(B:Fb P wd base X)(D0:FH P wd K mg base k' x ip n F)(ha:AX K X (e::es) da)(hk:k'<=k:=by first | exact AL _ | decide | omega)(hg:∀ j,Gl (X j) x:=by intro _; rfl)(hdb:(x == ("__debug__":Str))=false:=by decide)
  (he:∀ j,AR (e::es) (X j).env=(false,eval e (X j).env)::AR es (X j).env:=by intro _; rfl) (hpl:∀ j,(Bg pos (AR es (X j).env)).any (·.1)=false:=by intro _; rfl) :
  EX K X (.Call (.Name x p) (e::es) [] pos) (dCall ip F [] da):=by
 obtain⟨f,fd,ps,h1,h2,h3,h4⟩:=D0.ex
 obtain⟨t,q,u⟩:=ha
 refine⟨tCall (spD K ip n F) [] E0 t,fun j=>?_,zCS D0.len u⟩
 have hF:FnOkH (X j).prog (X j).w (X j).K (X j).mg (X j).base k' f fd ps (spD K ip n F):=by rw[B.P,B.w,M.K,M.mg,B.b]; exact h1
 exact zH9 hF ((M.room j).mono hk) (hg j) (by rw[M.mg]; exact h2) (by rw[M.K]; exact h3) (by rw[M.K]; exact h4) pass0 (q j) hdb (he j) (hpl j)
theorem tx_vH(M:Fh K mg X)(ha:EX K X a fa)(he:∀ j whole,Gd a (X j).env whole=(do let v ← whole; HP a.pos; holding [v] (truthy v)):=by intro _ _; rfl):TX K X a (dTru fa) :=
 let ⟨te,p,s⟩:=ha; ⟨(fun σ H Q=>te σ H fun x H'=>∃ k,TruV K x H' k/\Q k H'),fun j=>by have:=zER (p j) (he j); rw[M.K j]at this; exact this,zFB s⟩
theorem ex_cbH{id:String}{h:En->List S->Option S}(M:Fh K mg X)(hc:CalR K X (.builtin id) h)(hm:mg x=none)(hv:Bn x=some (.builtin id))(ha:AX K X (e::es) da)(hg:∀ j,Gl (X j) x:=by intro _; rfl)(hn:x≠"__name__":=by decide)(hdb:(x == ("__debug__":Str))=false:=by decide)
  (he:∀ j,AR (e::es) (X j).env=(false,eval e (X j).env)::AR es (X j).env:=by intro _; rfl) (hpl:∀ j,(Bg pos (AR es (X j).env)).any (·.1)=false:=by intro _; rfl):EX K X (.Call (.Name x p) (e::es) [] pos) (dCB h da) :=
 let ⟨_,p,s⟩:=hc.ex; let ⟨_,q,u⟩:=ha; ⟨_,fun j=>pe_callB (p j) (hg j) (by rw[M.mg]; exact hm) hv (q j) hn hdb (he j) (hpl j),zD4 s u⟩
theorem ex_tyH{N:String}(M:Fh K mg X)(hm:mg x=none)(hv:Bn x=some (.type N))(hg:∀ j,Gl (X j) x:=by intro _; rfl)(hn:x≠"__name__":=by decide)(hd:(x == ("__debug__":Str))=false:=by decide):EX K X (.Name x pos) (dC (.ty N)) :=
 ⟨_,fun j=>zI2 (hg j) (by rw[M.mg]; exact hm) hv hn hd,zB6⟩
theorem ex_fnH(M:Fh K mg X)(h:NK K mg x)(hg:∀ j,Gl (X j) x:=by intro _; rfl)(hd:(x == ("__debug__":Str))=false:=by decide):EX K X (.Name x pos) (dFn x):=by
 obtain⟨f,h1,h2⟩:=h
 exact⟨_,fun j=>zC4 (v:=.ref f) (hg j) (by rw[M.mg]; exact h2) rfl hd,zLI h1⟩
theorem br_isiH(M:Fh K mg X):CalR K X (.builtin "isinstance") isiS:=⟨_,fun j=>by have:=zDK (X:=X j); rw[M.K j]at this; exact this,zDD⟩
theorem br_isXH{cs:List Str}{mro:List (Str×List Str)}(M:Fh K mg X)(hx:XKC K cs mro=true):CalR K X (.builtin "isinstance") (isXS cs mro):=⟨_,fun j=>by have:=zID (X:=X j); rw[M.K j]at this; exact this,zGr hx⟩
theorem ex_getXH{gk:List (Str×Str)}{n:Str}{o:Expr}{fo:DE}(M:Fh K mg X)(hk:XGC K gk=true)(ho:EX K X o fo)(hb:∀ j,CK o n (X j).env (eval o (X j).env)=eval o (X j).env:=by intro _; rfl):EX K X (.Attribute o n pos) (dGetX gk n fo) :=
 let ⟨_,p,s⟩:=ho; ⟨_,fun j=>by have:=zJA (n:=n) (pos:=pos) (p j) (hb j); rw[M.K j]at this; exact this,zI1 hk s⟩
end
section
variable {P:Ac}{wd:Al}{base:Heap}{K:Fg}{mg:Str->Option AB}{k:Nat}
abbrev cxh1(P:Ac)(wd:Al)(K:Fg)(mg:Str->Option AB)(base:Heap)(N:List Str)(qual:Str)(sc:Bv)(f:Addr)(cdv:AB)(A:A5)(outer:List Env)(s:AH)(H:Hp)(E:XK):Unit->Cx:=fun _=>(cxH CX0 P wd K mg base N qual sc f cdv A outer s H E).nox
theorem fh_of{x:Str}{st:Stmt}{f:Addr}{fd:An}{N ps:List Str}{ip:Option Nat}{g:DS}(F:Fun K x x st f fd)(S:FnScope N ps (defScope st))(hm:mg x=some (.ref f))(hb:Binds K fd ps [])
  (body:∀ (cdv:AB) (A:A5) (outer:List Env) (s:AH) (H:Hp) (E:XK),Fh K mg (cxh1 P wd K mg base N x (defScope st) f cdv A outer s H E)->BX K (cxh1 P wd K mg base N x (defScope st) f cdv A outer s H E) ip (defBody st) g) :
  FH P wd K mg base (k+1) x ip ps.length (fnD ip ps.length N.length g):=by
 refine⟨⟨f,fd,ps,?_,hm,F.kp,hb⟩,zB4⟩
 obtain⟨oc,od,kV,doc,pm,an,cdv,ct,osl,rfl,lk,hcd⟩:=F.ex
 refine zLK lk hcd S (fun vs H Q E h=>h.1) fun A outer s H vs Q E h=>?_
 obtain⟨t,p,u⟩:=body cdv A outer s H E ⟨fun _=>rfl,fun _=>rfl⟩
 exact⟨t,(p ()).nox,zB0 u h⟩
end
end D
namespace L2
open PySem PySem.Spec PyProof.Rows
def KtE(w:Al)(K:AJ)(p:Addr)(vs:List (Str×AB)):Prop:=∃ (es:List D6) (ep:Nat),K.lookup p=some ⟨.type "dict",none,.dict es.toArray ep,#[]⟩/\(vs.map (·.1)).Nodup/\Bp (fun (e:D6) (kv:Str×AB)=>(∃ t,e.key=.str kv.1 t)/\e.val=kv.2/\e.hash=keyH w (.inr kv.1)) es vs
theorem zF4{P:Ac}{w:Al}{K:AJ}{p:Addr}{vs:List (Str×AB)}{h:Heap}(hk:KtE w K p vs)(hin:∀ o,K.lookup p=some o->h.get? p=some o):h.DictOf (mixKind P w) p (vs.map fun kv=>(.inr kv.1,kv.2)):=by
 obtain⟨es,ep,h1,h2,h3⟩:=hk
 refine⟨_,es.toArray,ep,hin _ h1,⟨rfl,rfl,rfl⟩,rfl,?_,?_,?_⟩
 ·intro e he
  have he':e∈es:=by simpa using he
  have gen:∀ {es:List D6} {vs:List (Str×AB)},Bp (fun (e:D6) (kv:Str×AB)=>(∃ t,e.key=.str kv.1 t)/\e.val=kv.2/\e.hash=keyH w (.inr kv.1)) es vs->∀ e∈es,∃ k,(mixKind P w).is k e.key=true/\e.hash=(mixKind P w).hash k:=by
   intro es vs q
   induction q with
   | nil=>intro e he; exact nomatch he
   | @cons a b es vs hab _ ih =>
    intro e he
    rcases AF.mp he with z | z
    ·subst z
     obtain⟨⟨t,e1⟩,_,e3⟩:=hab
     exact⟨.inr b.1,by rw[e1]; exact zBK P w _ _,e3⟩
    ·exact ih e z
  exact gen h3 e he'
 ·show Pairs (mixKind P w) es.toArray.toList _
  rw[DZ]
  clear h1 h2 hin
  induction h3 with
  | nil=>exact .nil
  | @cons a b es vs hab _ ih =>
   obtain⟨⟨t,e1⟩,e2,_⟩:=hab
   exact .cons (by rw[e1]; exact zBK P w _ _) e2 ih
 ·rw[GZ]
  have:((fun (x:Key×AB)=>x.1) ∘ fun (kv:Str×AB)=>((C2 kv.1:Key),kv.2))=(fun i:Str=>(C2 i:Key)) ∘ (fun kv:Str×AB=>kv.1):=rfl
  rw[this,← GZ]
  exact JU _ (fun a b hab e=>hab (Hv e)) h2
def tKt(vs:List (Str×V))(ti:TE):TE:=fun σ H Q=>ti σ H fun y H1=>∃ n v,y=.str n/\(vs.find? fun kv=>decide (kv.1=n))=some (n,v)/\Q v H1
theorem zLj{X:Cx}{o i:Expr}{ti:TE}{pos:Pos}{p:Addr}{vs:List (Str×V)}{ws:List (Str×AB)}(ho:PE X o (tC (.ref p)))(hi:PE X i ti)(hs:NoSl i)(hd:KtE X.w X.K p ws)(hr:Bp (fun (a:Str×V) (b:Str×AB)=>a.1=b.1/\RelV a.2 b.2) vs ws):PE X (.Subscript o i pos) (tKt vs ti):=by
 intro pins s σ H Q I h
 refine zFK Fk.lookup hs (thn (ho pins s σ H (fun x H1=>x=.ref p/\ti σ H1 fun y H2=>∃ n v,y=.str n/\(vs.find? fun kv=>decide (kv.1=n))=some (n,v)/\Q v H2) I ⟨rfl,h⟩) fun u s1 ⟨x,H1,I1,rx,ex,q1⟩=>thn (hi pins s1 σ H1 _ I1 q1) fun iv s2 ⟨y,H2,I2,ry,n,v,ey,hf,q2⟩=>?_)
 subst ex ey
 obtain rfl:u=Aj p:=rx
 have dd:=zF4 (P:=X.prog) (w:=X.w) (h:=s2.heap) hd (fun o e=>I2.kIn p o e)
 have val:∀ {vs:List (Str×V)} {ws:List (Str×AB)},Bp (fun (a:Str×V) (b:Str×AB)=>a.1=b.1/\RelV a.2 b.2) vs ws->(vs.find? fun kv=>decide (kv.1=n))=some (n,v)->∃ u,Ct (ws.map fun kv=>((C2 kv.1:Key),kv.2)) (C2 n)=some u/\RelV v u:=by
  intro vs ws q
  induction q with
  | nil=>intro e; cases e
  | @cons a b vs ws hab _ ih =>
   intro e
   rw[Bf]at e
   by_cases h1:a.1=n
   ·rw[decide_eq_true h1]at e
    have:a=(n,v):=by simpa using e
    subst this
    refine⟨b.2,?_,hab.2⟩
    have hb:b.1=n:=hab.1.symm
    simp[Ct,hb]
   ·rw[decide_eq_false h1]at e
    obtain⟨u,e1,r1⟩:=ih e
    refine⟨u,?_,r1⟩
    have hb:¬ b.1=n:=fun z=>h1 (hab.1.trans z)
    rw[← e1]
    simp[Ct,hb]
 obtain⟨u,hu,ru⟩:=val hr hf
 refine⟨?_,JK (k:=.inr n) (zBi (k:=.inr n) ry) dd.mapOf hu ⟨v,H2,I2.tok _,ru,q2⟩⟩
 exact dd.typeIs
end L2
namespace D
open PySem L2
def dKt(tb:List (Str×T))(fi:DE):DE:=fun Γ=>(fi Γ).bind fun p=>match p.1 with
 | .v (.a (.str n))=>(tb.find? fun kv=>decide (kv.1=n)).map fun kv=>(.v kv.2,p.2)
 | _=>none
def KTV(w:Al)(K:Fg)(mg:Str->Option AB)(x:Str)(tb:List (Str×T)):Prop:=∃ (p:Addr) (vs:List (Str×V)) (ws:List (Str×AB)),mg x=some (.ref p)/\KtE w K p ws/\Bp (fun (a:Str×V) (b:Str×AB)=>a.1=b.1/\RelV a.2 b.2) vs ws/\∀ H:Hp,Bp (fun (a:Str×V) (b:Str×T)=>a.1=b.1/\Im K H a.2 b.2) vs tb
theorem zLZ{K:Fg}{vs:List (Str×V)}{tb:List (Str×T)}{ti:TE}{fi:DE}(hi:SimE K ti fi)(h:∀ H:Hp,Bp (fun (a:Str×V) (b:Str×T)=>a.1=b.1/\Im K H a.2 b.2) vs tb):SimE K (tKt vs ti) (dKt tb fi):=by
 intro C w Γ σ H s Γ' Q R e k
 obtain⟨⟨s1,G1⟩,e1,e⟩:=bind_some e
 dsimp only at e
 split at e
 ·rename_i n
  obtain⟨kv,e2,e⟩:=zAA e
  cases e
  refine hi C w Γ σ H _ _ _ R e1 fun v H1 R1 ev1 o1 n1=>?_
  have o1':Im K H1 v (.a (.str n)):=o1
  have hv:v=.str n:=o1'.inva
  subst hv
  have go:∀ {vs:List (Str×V)} {tb:List (Str×T)},Bp (fun (a:Str×V) (b:Str×T)=>a.1=b.1/\Im K H1 a.2 b.2) vs tb->(tb.find? fun kv=>decide (kv.1=n))=some kv->∃ u,(vs.find? fun kv=>decide (kv.1=n))=some (n,u)/\Im K H1 u kv.2:=by
   intro vs tb q
   induction q with
   | nil=>intro e; cases e
   | @cons a b vs tb hab _ ih =>
    intro e
    rw[Bf]at e ⊢
    by_cases h1:b.1=n
    ·rw[decide_eq_true h1]at e
     have:b=kv:=by simpa using e
     subst this
     have ha:a.1=n:=hab.1.trans h1
     rw[decide_eq_true ha]
     exact⟨a.2,by rw[← ha],hab.2⟩
    ·rw[decide_eq_false h1]at e
     have ha:¬ a.1=n:=fun z=>h1 (hab.1.symm.trans z)
     rw[decide_eq_false ha]
     exact ih e
  obtain⟨u,hu,iu⟩:=go (h H1) e2
  exact⟨n,u,rfl,hu,k _ H1 R1 ev1 iu trivial⟩
 ·cases e
theorem zJu{w:Al}{K:Fg}{mg:Str->Option AB}{x:Str}{p:Addr}{ep:Nat}{es:List D6}(rows:List (Str×Int))(h1:mg x=some (.ref p))(h2:K.lookup p=some ⟨.type "dict",none,.dict es.toArray ep,#[]⟩)
  (h3:Bp (fun (e:D6) (r:Str×Int)=>(∃ t,e.key=.str r.1 t)/\(∃ t,e.val=.int r.2 t)/\e.hash=keyH w (.inr r.1)) es rows) (hn:(rows.map (·.1)).Nodup):KTV w K mg x (rows.map fun r=>(r.1,T.a (.int r.2))):=by
 have key:∃ ws:List (Str×AB),ws.map (·.1)=rows.map (·.1)/\Bp (fun (e:D6) (kv:Str×AB)=>(∃ t,e.key=.str kv.1 t)/\e.val=kv.2/\e.hash=keyH w (.inr kv.1)) es ws/\Bp (fun (a:Str×V) (b:Str×AB)=>a.1=b.1/\RelV a.2 b.2) (rows.map fun r=>(r.1,V.int r.2)) ws:=by
  clear h2 hn
  induction h3 with
  | nil=>exact⟨[],rfl,.nil,.nil⟩
  | @cons a b es vs hab _ ih =>
   obtain⟨ws,q1,q2,q3⟩:=ih
   obtain⟨k1,⟨t,k2⟩,k3⟩:=hab
   exact⟨(b.1,.int b.2 t)::ws,by simp[q1],.cons ⟨k1,k2,k3⟩ q2,.cons ⟨rfl,t,rfl⟩ q3⟩
 obtain⟨ws,q1,q2,q3⟩:=key
 refine⟨p,rows.map fun r=>(r.1,V.int r.2),ws,h1,⟨es,ep,h2,by rw[q1]; exact hn,q2⟩,q3,fun H=>?_⟩
 clear h3 hn q1 q2 q3
 induction rows with
 | nil=>exact .nil
 | cons a r ih=>exact .cons ⟨rfl,by unfold Im; rfl⟩ ih
section
variable {ι:Type}{P:Ac}{wd:Al}{base:Heap}{K:Fg}{X:ι->Cx}{mg:Str->Option AB}{k:Nat}{pos pos0:Pos}{x:Str}{i:Expr}{fi:DE}{Γ:En}
theorem ex_kt(tb:List (Str×T))(M:Fm K mg k X)(B:Fb P wd base X)(c:KTV wd K mg x tb)(hi:EX K X i fi)(hs:NoSl i:=by intro _ _; rfl)(hg:∀ j,Gl (X j) x:=by intro _; rfl)(hd:(x == ("__debug__":Str))=false:=by decide):EX K X (.Subscript (.Name x pos0) i pos) (dKt tb fi) :=
 let ⟨p,vs,ws,h1,h2,h3,h5⟩:=c
 let ⟨t,q,u⟩:=hi
 ⟨tKt vs t,fun j=>zLj (p:=p) (ws:=ws) (zC4 (hg j) (by rw[M.mg]; exact h1) rfl hd) (q j) hs (by rw[M.K,B.w]; exact h2) h3,zLZ u h5⟩
@[simp] theorem zLG{tb:List (Str×T)}:dKt tb fi Γ=(fi Γ).bind fun p=>match p.1 with
 | .v (.a (.str n))=>(tb.find? fun kv=>decide (kv.1=n)).map fun kv=>(.v kv.2,p.2)
 | _=>none:=(rfl)
end
end D
namespace L2
open PySem PySem.Spec PyProof.Rows
def rKtIn(p:Addr)(ks:List Str)(neg:Bool):R2:=fun y x H Q=>∃ n,y=.str n/\x=.ref p/\Q (.bl (if neg then !decide (n∈ks) else decide (n∈ks))) H
theorem zGz{ws:List (Str×AB)}(n:Str):(Ct (ws.map fun kv=>((C2 kv.1:Key),kv.2)) (.inr n)).isSome=decide (n∈ws.map (·.1)):=by
 induction ws with
 | nil=>simp[Ct]
 | cons a r ih =>
  by_cases h:a.1=n
  ·simp[Ct,h]
  ·have h':¬ n=a.1:=fun z=>h z.symm
   have e:(Ct ((a::r).map fun kv=>((C2 kv.1:Key),kv.2)) (.inr n))=Ct (r.map fun kv=>((C2 kv.1:Key),kv.2)) (.inr n):=by simp[Ct,h]
   rw[e,ih]
   simp[h']
theorem zJX{X:Cx}{p:Addr}{ws:List (Str×AB)}(hp:(p == Bm)=false)(hd:KtE X.w X.K p ws):OpR X (BQ .In) (rKtIn p (ws.map (·.1)) false):=by
 intro pins s σ H x y v u Q I rx ry h
 obtain⟨n,rfl,rfl,q⟩:=h
 obtain rfl:u=Aj p:=ry
 have dd:=zF4 (P:=X.prog) (w:=X.w) (h:=s.heap) hd (fun o e=>I.kIn p o e)
 refine wpAny_in_of (k:=.inr n) (zBi (k:=.inr n) rx) hp dd.mapOf ?_
 rw[zGz]
 exact⟨.bl _,H,I.tok _,rfl,q⟩
theorem zFg{X:Cx}{p:Addr}{ws:List (Str×AB)}(hp:(p == Bm)=false)(hd:KtE X.w X.K p ws):OpR X (BQ .NotIn) (rKtIn p (ws.map (·.1)) true):=by
 intro pins s σ H x y v u Q I rx ry h
 obtain⟨n,rfl,rfl,q⟩:=h
 obtain rfl:u=Aj p:=ry
 have dd:=zF4 (P:=X.prog) (w:=X.w) (h:=s.heap) hd (fun o e=>I.kIn p o e)
 refine wpAny_notIn_of (k:=.inr n) (zBi (k:=.inr n) rx) hp dd.mapOf ?_
 rw[zGz]
 exact⟨.bl _,H,I.tok _,rfl,q⟩
end L2
namespace D
open PySem L2
def KTN(w:Al)(K:Fg)(mg:Str->Option AB)(x:Str)(tb:List (Str×T)):Prop:=∃ (p:Addr) (vs:List (Str×V)) (ws:List (Str×AB)),mg x=some (.ref p)/\KtE w K p ws/\Bp (fun (a:Str×V) (b:Str×AB)=>a.1=b.1/\RelV a.2 b.2) vs ws/\(∀ H:Hp,Bp (fun (a:Str×V) (b:Str×T)=>a.1=b.1/\Im K H a.2 b.2) vs tb)/\(p == Bm)=false
theorem KTN.v{w:Al}{K:Fg}{mg:Str->Option AB}{x:Str}{tb:List (Str×T)}(h:KTN w K mg x tb):KTV w K mg x tb:=let ⟨p,vs,ws,h1,h2,h3,h4,_⟩:=h; ⟨p,vs,ws,h1,h2,h3,h4⟩
theorem KTV.n{w:Al}{K:Fg}{mg:Str->Option AB}{x:Str}{tb:List (Str×T)}(h:KTV w K mg x tb)(hs:∀ p,mg x=some (.ref p)->(p == Bm)=false):KTN w K mg x tb:=let ⟨p,vs,ws,h1,h2,h3,h4⟩:=h; ⟨p,vs,ws,h1,h2,h3,h4,hs p h1⟩
theorem ktKeys{K:Fg}{H:Hp}{vs:List (Str×V)}{ws:List (Str×AB)}{tb:List (Str×T)}(h3:Bp (fun (a:Str×V) (b:Str×AB)=>a.1=b.1/\RelV a.2 b.2) vs ws)(h4:Bp (fun (a:Str×V) (b:Str×T)=>a.1=b.1/\Im K H a.2 b.2) vs tb):ws.map (·.1)=tb.map (·.1):=by
 have e1:vs.map (·.1)=ws.map (·.1):=by
  clear h4
  induction h3 with
  | nil=>rfl
  | cons h _ ih=>rw[Ah,Ah,ih,h.1]
 have e2:vs.map (·.1)=tb.map (·.1):=by
  clear h3 e1
  induction h4 with
  | nil=>rfl
  | cons h _ ih=>rw[Ah,Ah,ih,h.1]
 rw[← e1,e2]
def dKtIn(neg:Bool)(tb:List (Str×T))(fi:DE):DE:=fun Γ=>(fi Γ).bind fun p=>match p.1 with
 | .v (.a (.str n))=>some (.v (.a (.bl (if neg then !decide (n∈tb.map (·.1)) else decide (n∈tb.map (·.1))))),p.2)
 | _=>none
theorem zDq{K:Fg}{p:Addr}{neg:Bool}{tb:List (Str×T)}{ti:TE}{fi:DE}(hi:SimE K ti fi):SimE K (tOp (rKtIn p (tb.map (·.1)) neg) ti (tC (.ref p))) (dKtIn neg tb fi):=by
 intro C w Γ σ H s Γ' Q R e k
 obtain⟨⟨s1,G1⟩,e1,e⟩:=bind_some e
 dsimp only at e
 split at e
 ·rename_i n
  cases e
  refine hi C w Γ σ H _ _ _ R e1 fun v H1 R1 ev1 o1 n1=>?_
  have o1':Im K H1 v (.a (.str n)):=o1
  have hv:v=.str n:=o1'.inva
  subst hv
  exact⟨n,rfl,rfl,k _ H1 R1 ev1 SOk.atom trivial⟩
 ·cases e
section
variable {ι:Type}{P:Ac}{wd:Al}{base:Heap}{K:Fg}{X:ι->Cx}{mg:Str->Option AB}{k:Nat}{pos pos0:Pos}{x:Str}{i:Expr}{fi:DE}{Γ:En}{tb:List (Str×T)}
theorem zEJ(M:Fm K mg k X)(B:Fb P wd base X)(c:KTN wd K mg x tb)(hg:∀ j,Gl (X j) x)(hd:(x == ("__debug__":Str))=false):∃ p,(∀ j,OpR (X j) (BQ .In) (rKtIn p (tb.map (·.1)) false))/\(∀ j,OpR (X j) (BQ .NotIn) (rKtIn p (tb.map (·.1)) true))/\∀ j,PE (X j) (.Name x pos0) (tC (.ref p)):=by
 obtain⟨p,vs,ws,h1,h2,h3,h4,h5⟩:=c
 have ek:=ktKeys h3 (h4 fun _=>none)
 refine⟨p,fun j=>?_,fun j=>?_,fun j=>zC4 (hg j) (by rw[M.mg]; exact h1) rfl hd⟩
 ·rw[← ek]; exact zJX h5 (by rw[M.K,B.w]; exact h2)
 ·rw[← ek]; exact zFg h5 (by rw[M.K,B.w]; exact h2)
theorem zNO(M:Fm K mg k X)(B:Fb P wd base X)(c:KTN wd K mg x tb)(hi:EX K X i fi)(hg:∀ j,Gl (X j) x:=by intro _; rfl)(hd:(x == ("__debug__":Str))=false:=by decide):EX K X (.Compare i [.In] [.Name x pos0] pos) (dKtIn false tb fi) :=
 let ⟨_,o1,_,o3⟩:=zEJ (pos0:=pos0) M B c hg hd; let ⟨_,q,u⟩:=hi; ⟨_,fun j=>zE7 (o1 j) (q j) (o3 j) rfl,zDq u⟩
theorem tx_ktNotIn(M:Fm K mg k X)(B:Fb P wd base X)(c:KTN wd K mg x tb)(hi:EX K X i fi)(hg:∀ j,Gl (X j) x:=by intro _; rfl)(hd:(x == ("__debug__":Str))=false:=by decide):TX K X (.Compare i [.NotIn] [.Name x pos0] pos) (dTest (dKtIn true tb fi)) :=
 let ⟨_,_,o1,o3⟩:=zEJ (pos0:=pos0) M B c hg hd; let ⟨_,q,u⟩:=hi; ⟨_,fun j=>pt_cmpR (o1 j) (q j) (o3 j) rfl,zBd (zDq u)⟩
@[simp] theorem zMt{neg:Bool}:dKtIn neg tb fi Γ=(fi Γ).bind fun p=>match p.1 with
 | .v (.a (.str n))=>some (.v (.a (.bl (if neg then !decide (n∈tb.map (·.1)) else decide (n∈tb.map (·.1))))),p.2)
 | _=>none:=(rfl)
end
def RowsAt(K:Fg)(H:Hp):List Addr->List (List T)->Prop
 | [],[]=>True
 | a::qs,xs::zs=>(∃ vs,H a=some (.lst vs)/\Ims K H vs xs)/\RowsAt K H qs zs
 | _,_=>False
structure Nest(K:Fg)(H:Hp)(p:Addr)(qs:List Addr)(zs:List (List T)):Prop where
 list:H p=some (.lst (qs.reverse.map V.ref))
 nd:(p::qs).Nodup
 rows:RowsAt K H qs zs
section
variable {K:Fg}{H H':Hp}{p a:Addr}{qs:List Addr}{zs:List (List T)}{L:List Addr}
theorem RowsAt.evo(e:Evo L H H')(hL:LL L H):∀ {qs:List Addr} {zs:List (List T)},RowsAt K H qs zs->(∀ b∈qs,b∉L)->RowsAt K H' qs zs
 | [],[],_,_=>trivial
 | a::qs,xs::zs,⟨⟨vs,h1,h2⟩,h⟩,n=>⟨⟨vs,e a _ h1 (n a AE),h2.evo e hL⟩,RowsAt.evo e hL h fun b hb=>n b (AG _ hb)⟩
theorem RowsAt.len:∀ {qs:List Addr} {zs:List (List T)},RowsAt K H qs zs->qs.length=zs.length
 | [],[],_=>rfl
 | a::qs,xs::zs,h=>by rw[AW,AW,RowsAt.len h.2]
 | [],_::_,h=>h.elim
 | _::_,[],h=>h.elim
theorem Nest.evo0(n:Nest K H p qs zs)(e:∀ b o,H b=some o->H' b=some o):Nest K H' p qs zs :=
 ⟨e _ _ n.list,n.nd,n.rows.evo (L:=[]) (fun b o h _=>e b o h) (fun p hp=>nomatch hp) fun b _=>nofun⟩
theorem Nest.evo(n:Nest K H p qs zs)(e:Evo L H H')(hL:LL L H)(h:∀ b∈p::qs,b∉L):Nest K H' p qs zs :=
 ⟨e _ _ n.list (h p AE),n.nd,n.rows.evo e hL fun b hb=>h b (AG _ hb)⟩
theorem zCt{a:Addr}{o:HO}:Evo [a] H (upd H a o):=fun b u h n=>by rw[zAC (fun z=>n (by rw[z]; exact AE))]; exact h
theorem LL.one{vs:List V}(h:H a=some (.lst vs)):LL [a] H:=fun p hp=>by rw[AD.mp hp]; exact⟨_,h,trivial⟩
theorem Nest.pop{z:List T}(n:Nest K H p (a::qs) (z::zs)):Nest K (upd H p (.lst (qs.reverse.map V.ref))) p qs zs/\∃ vs,upd H p (.lst (qs.reverse.map V.ref)) a=some (.lst vs)/\Ims K (upd H p (.lst (qs.reverse.map V.ref))) vs z:=by
 have hp:p∉a::qs:=(A9.mp n.nd).1
 have nd2:=(A9.mp n.nd).2
 obtain⟨⟨vs,h1,h2⟩,h3⟩:=n.rows
 have ev:Evo [p] H (upd H p (.lst (qs.reverse.map V.ref))):=zCt
 have ll:LL [p] H:=LL.one n.list
 refine⟨⟨zAG,A9.mpr ⟨fun z=>hp (AG _ z),(A9.mp nd2).2⟩,h3.evo ev ll fun b hb z=>?_⟩,vs,?_,h2.evo ev ll⟩
 ·rw[AD.mp z]at hb; exact hp (AG _ hb)
 ·rw[zAC (fun z=>hp (by rw[← z]; exact AE))]; exact h1
theorem Nest.push{vs:List V}{xs:List T}(n:Nest K H p qs zs)(h1:H a=some (.lst vs))(h2:Ims K H vs xs)(ha:a∉p::qs):Nest K (upd H p (.lst (qs.reverse.map V.ref++[.ref a]))) p (a::qs) (xs::zs):=by
 have ev:Evo [p] H (upd H p (.lst (qs.reverse.map V.ref++[.ref a]))):=zCt
 have ll:LL [p] H:=LL.one n.list
 have hp:=(A9.mp n.nd).1
 have hpa:a≠p:=fun z=>ha (by rw[z]; exact AE)
 refine⟨by rw[zAG]; simp,A9.mpr ⟨fun z=>?_,A9.mpr ⟨fun z=>ha (AG _ z),(A9.mp n.nd).2⟩⟩,⟨vs,by rw[zAC hpa]; exact h1,h2.evo ev ll⟩,n.rows.evo ev ll fun b hb z=>?_⟩
 ·rcases AF.mp z with z | z
  ·exact hpa z.symm
  ·exact hp z
 ·rw[AD.mp z]at hb; exact hp hb
theorem Nest.grow{xs:List T}{v:V}{t:T}(n:Nest K H p (a::qs) (xs::zs))(hv:Im K H v t):∃ vs,H a=some (.lst vs)/\vs.length=xs.length/\Nest K (upd H a (.lst (vs++[v]))) p (a::qs) ((xs++[t])::zs):=by
 obtain⟨⟨vs,h1,h2⟩,h3⟩:=n.rows
 have hp:=(A9.mp n.nd).1
 have nd2:=(A9.mp n.nd).2
 have ev:Evo [a] H (upd H a (.lst (vs++[v]))):=zCt
 have ll:LL [a] H:=LL.one h1
 refine⟨vs,h1,h2.len,⟨by rw[zAC (fun z=>hp (by rw[z]; exact AE))]; exact n.list,n.nd,⟨vs++[v],zAG,(h2.evo ev ll).app (.one (hv.evo ev ll))⟩,h3.evo ev ll fun b hb z=>?_⟩⟩
 rw[AD.mp z]at hb
 exact (A9.mp nd2).1 hb
end
def rowOk(tb:List (Str×T)):List T->Bool
 | .a (.str w)::r=>match tb.find? fun kv=>decide (kv.1=w) with
  | some (_,.a (.int n))=>decide (((r.length+1:Nat):Int)=1+n)
  | _=>false
 | _=>false
def closeS(tb:List (Str×T)):List (List T)->Option (List (List T))
 | z::y::zs=>if rowOk tb z=true then some ((y++[.t z])::zs) else none
 | _=>none
def Heads(tb:List (Str×T)):List (List T)->Prop
 | z::y::zs=>(∃ w n r,z=.a (.str w)::r/\(tb.find? fun kv=>decide (kv.1=w))=some (w,.a (.int n))/\-1000<=n/\n<=1000)/\Heads tb (y::zs)
 | _=>True
def Small(zs:List (List T)):Prop:=zs.length<=100000/\∀ z∈zs,z.length<=100000
def spClose(K:Fg)(tb:List (Str×T)):Sp:=fun vs H Q E=>∃ p qs zs,vs=[.ref p]/\Nest K H p qs zs/\zs≠[]/\Heads tb zs/\Small zs /\
 (closeS tb zs=none->∀ H',(∀ b o,H b=some o->b∉p::qs->H' b=some o)->XiE K E "BadText" [("row",.int 0)] H') /\
 ∀ zs',closeS tb zs=some zs'->∀ H' qs',Nest K H' p qs' zs'->(∀ b∈qs',b∈qs)->(∀ b o,H b=some o->b∉p::qs->H' b=some o)->Q .non H'
structure FCl(P:Ac)(wd:Al)(K:Fg)(mg:Str->Option AB)(base:Heap)(k:Nat)(x:Str)(tb:List (Str×T)):Prop where
 ex:∃ (f:Addr) (fd:An) (ps:List Str),FnOk P wd K mg base (CXR P wd) k f fd ps (spClose K tb)/\mg x=some (.ref f)/\BC K (.ref f)=true/\Binds K fd ps []
section
variable {K:Fg}{H:Hp}{p a:Addr}{qs:List Addr}{zs:List (List T)}{tb:List (Str×T)}
theorem atI_last{α:Type}(l:List α)(x:α):atI (l++[x]) (-1)=some x:=by
 unfold atI ixN
 have h1:(1:Int)<=(l.length:Int)+1:=by omega
 have h2:(-1+((l.length:Int)+1)).toNat=l.length:=by omega
 simp[h1,h2]
theorem zAU{vs:List V}(h:H p=some (.lst vs)):SqL K H p vs:=.inl (.inl h)
abbrev rLen(K:Fg):List V->Hp->VK->Prop:=fun xs H Q=>∃ p ys,xs=[.ref p]/\(SqL K H p ys\/SqT K H p ys)/\Q (.int ys.length) H
theorem zI4{i:Nat}{σ:St}{Q:VK}{vs:List V}(h1:σ[i]?=some (some (.ref p)))(h2:H p=some (.lst vs))(q:Q (.int vs.length) H):tCB (rLen K) (tCons (tVar i) tNil) σ H Q:=⟨.ref p,h1,p,vs,rfl,.inl (zAU h2),q⟩
abbrev d2C(tb:List (Str×T)):DT:=dTest (dOp neS (dCB lenS (jW (jV 1) qQ)) (dOp addS (dC (.int 1)) (dKt tb (dOp ixS (jV 1) (dC (.int 0))))))
abbrev dBad:DS:=dRaiseX "BadText" ["row"] (jW (dC (.int 0)) qQ)
theorem zJ3(Γ:En):dBad Γ=some (.rt (.v (.x "BadText" [("row",.int 0)])) Γ):=rfl
theorem zI5{E:XK}{t3:TS}{D:Ends}{σ:St}{m:Nat}(s3:SimX K E t3 dBad)(hl:σ.length=m)(h:∀ H',(∀ b o,H b=some o->H' b=some o)->XiE K E "BadText" [("row",.int 0)] H'):t3 D σ H:=by
 refine s3 ⟨H,[],[]⟩ ⟨[],fun _=>False⟩ (AM m none) σ H D _ rfl ⟨by rw[hl,By],fun i g e=>?_,fun i j p ga gb ma mb h1=>?_,fun p hp=>(nomatch hp),fun p hp=>(nomatch hp),fun p hp=>hp.elim,fun p hp=>hp.elim,fun b o e _=>e,fun q hq=>(nomatch hq)⟩ (zJ3 _) ⟨fun z hz w' σ' H' R'=>?_,fun hz=>by cases hz⟩
 ·rw[CG]at e; split at e <;> cases e
 ·rw[CG]at h1; split at h1 <;> cases h1
 ·cases hz
  exact h H' fun b o e=>R'.frame b o e nofun
theorem zLk{z:List T}{w:Str}{n:Int}{r:List T}(hz:z=.a (.str w)::r)(hf:(tb.find? fun kv=>decide (kv.1=w))=some (w,.a (.int n)))(hn:-1000<=n/\n<=1000):d2C tb [none,some (.l z)]=some (!rowOk tb z,[none,some (.l z)]):=by
 subst hz
 have e:rowOk tb (.a (.str w)::r)=decide (((r.length+1:Nat):Int)=1+n):=by simp[rowOk,hf]
 rw[e]
 have i0:atI (T.a (.str w)::r) 0=some (.a (.str w)):=by rw[show (0:Int)=((0:Nat):Int) from rfl,zAX]; rfl
 simp[d2C,zLG,hf,i0]
theorem zKL{E:XK}{t2:TT}{t3:TS}{t4:TE}{rU':V->Hp->VK->Prop}(hU:∀ H Q,Q (.int (-1)) H->rU' (.int 1) H Q)(s2:SimT K t2 (d2C tb))(s3:SimX K E t3 dBad)(s4:SimE K t4 (dCB tupleS (jW (jV 1) qQ))){vs:List V}{Q:VK}(h:spClose K tb vs H Q E) :
  (tSeq (tAsg (tBM0 K "list" rPop (tVar 0)) (gName 1)) (tSeq (tIfS (tOr (tTest (tOp rEq (tCB (rLen K) (tCons (tVar 0) tNil)) (tC (.int 0)))) t2) t3 tNext) (tDrop (tBM K "list" rAppend (tOp (rIxL K) (tVar 0) (tUn rU' (tC (.int 1)))) (tCons t4 tNil)))))
   { nx:=fun _ H'=>Q .non H',rt:=Q } (L2.start ["rows","row"] vs) H:=by
 obtain⟨p,qs,zs,rfl,n,hne,hh,hs,kx,k⟩:=h
 cases zs with
 | nil=>exact absurd rfl hne
 | cons z zs =>
 cases qs with
 | nil=>exact n.rows.elim
 | cons a qs =>
 have el:((a::qs).reverse.map V.ref)=qs.reverse.map V.ref++[.ref a]:=by simp
 have hl:=n.list
 rw[el]at hl
 have hp:p∉a::qs:=(A9.mp n.nd).1
 have haq:a∉qs:=(A9.mp (A9.mp n.nd).2).1
 have hpa:a≠p:=fun e=>hp (by rw[← e]; exact AE)
 obtain⟨n1,us,ha1,hi1⟩:=n.pop
 refine⟨.ref p,rfl,.inl ⟨rfl,_,zAU hl⟩,p,_,.ref a,rfl,rfl,hl,by simp,?_⟩
 rw[List.dropLast_concat]
 have f1:∀ b o,H b=some o->b∉p::a::qs->upd H p (.lst (qs.reverse.map V.ref)) b=some o:=fun b o e nb=>by
  rw[zAC (fun z=>nb (by rw[z]; exact AE))]; exact e
 generalize upd H p (.lst (qs.reverse.map V.ref))=H1 at *
 show tOr (tTest (tOp rEq (tCB (rLen K) (tCons (tVar 0) tNil)) (tC (.int 0)))) t2 [some (.ref p),some (.ref a)] H1 (fun b H2=>if b=true then t3 { nx:=tDrop (tBM K "list" rAppend (tOp (rIxL K) (tVar 0) (tUn rU' (tC (.int 1)))) (tCons t4 tNil)) { nx:=fun _ H'=>Q .non H',rt:=Q },rt:=Q } [some (.ref p),some (.ref a)] H2 else tDrop (tBM K "list" rAppend (tOp (rIxL K) (tVar 0) (tUn rU' (tC (.int 1)))) (tCons t4 tNil)) { nx:=fun _ H'=>Q .non H',rt:=Q } [some (.ref p),some (.ref a)] H2)
 refine zI4 rfl n1.list ⟨rfl,_,rfl,?_⟩
 have fin:∀ (D:Ends) H2,(∀ b o,H1 b=some o->b≠a->H2 b=some o)->closeS tb (z::zs)=none->t3 D [some (.ref p),some (.ref a)] H2:=fun D H2 ev hc=>zI5 (m:=2) s3 rfl fun H' ext=>kx hc H' fun b o e nb=>ext b o (ev b o (f1 b o e nb) fun z=>nb (by rw[z]; simp))
 cases qs with
 | nil =>
  have hz:zs=[]:=by
   cases zs with
   | nil=>rfl
   | cons _ _=>exact n1.rows.elim
  subst hz
  exact fin _ H1 (fun b o e _=>e) rfl
 | cons a2 qs =>
 cases zs with
 | nil=>exact n1.rows.elim
 | cons y zs =>
 obtain⟨⟨w,m,r,hz,hf,hm⟩,_⟩:=hh
 have hd:decide (V.int (((a2::qs).reverse.map V.ref).length:Int)=V.int 0)=false:=by
  rw[decide_eq_false_iff_not]
  intro e
  injection e with e
  simp at e
  omega
 rw[hd]
 show t2 [some (.ref p),some (.ref a)] H1 _
 have hap:a∉p::a2::qs:=fun e=>by
  rcases AF.mp e with e | e
  ·exact hpa e
  ·exact haq e
 have R1:Rep K ⟨H1,[a],[]⟩ ⟨[a],fun _=>False⟩ [none,some (.l z)] [some (.ref p),some (.ref a)] H1:=by
  refine⟨rfl,fun i g e=>?_,fun i j q ga gb ma mb h1 h2 h3 h4=>?_,LL.one ha1,fun q hq=>.inl hq,fun q hq=>hq.elim,fun q hq=>hq.elim,fun b o e _=>e,fun q hq=>(nomatch hq)⟩
  ·match i,e with
   | 0,e=>cases e
   | 1,e=>cases e; exact⟨.ref a,rfl,a,us,rfl,AE,ha1,hi1⟩
   | i+2,e=>simp at e
  ·match i,j,h1,h2 with
   | 1,1,_,_=>rfl
   | 0,_,h1,_=>cases h1
   | i+2,_,h1,_=>simp at h1
   | 1,0,_,h2=>cases h2
   | 1,j+2,_,h2=>simp at h2
 refine s2 _ _ _ _ H1 _ _ _ R1 (zLk hz hf hm) fun H2 R2 ev2=>?_
 have ev2':∀ b o,H1 b=some o->b≠a->H2 b=some o:=fun b o e nb=>ev2 b o e fun z=>nb (AD.mp z)
 cases hr:rowOk tb z with
 | false =>
  exact fin _ H2 ev2' (by show (if rowOk tb z=true then _ else none)=none; rw[hr]; rfl)
 | true =>
  rw[if_neg (show ¬ ((!true)=true) by decide)]
  show tBM K "list" rAppend (tOp (rIxL K) (tVar 0) (tUn rU' (tC (.int 1)))) (tCons t4 tNil) [some (.ref p),some (.ref a)] H2 (fun _ H'=>Q .non H')
  have n2:Nest K H2 p (a2::qs) (y::zs):=n1.evo ev2 (LL.one ha1) fun b hb z=>hap (AD.mp z ▸ hb)
  have el2:((a2::qs).reverse.map V.ref)=qs.reverse.map V.ref++[.ref a2]:=by simp
  have hl2:=n2.list
  rw[el2]at hl2
  obtain⟨⟨vs2,hb1,hb2⟩,_⟩:=n2.rows
  refine⟨.ref p,rfl,hU _ _ ⟨p,_,-1,.ref a2,rfl,rfl,zAU hl2,atI_last _ _,.inl ⟨rfl,_,zAU hb1⟩,?_⟩⟩
  have ll2:=R2.lst
  refine s4 _ _ _ _ H2 (.v (.t z)) [none,some (.l z)] _ R2 (by
   have gz:z.length<=AC:=zAB (hs.2 z AE)
   simp[gz,gd]) fun v H3 R3 ev3 o3 _=>?_
  have n3:Nest K H3 p (a2::qs) (y::zs):=n2.evo ev3 ll2 fun b hb z=>hap (AD.mp z ▸ hb)
  obtain⟨vs3,h31,h32,n4⟩:=n3.grow (t:=.t z) o3
  have hyl:=hs.2 y (AG _ AE)
  refine⟨a2,vs3,v,rfl,rfl,h31,zCu (by omega),?_⟩
  refine k _ (by show (if rowOk tb z=true then _ else none)=_; rw[hr]; rfl) _ (a2::qs) n4 (fun b hb=>AG _ hb) fun b o e nb=>?_
  rw[zAC (fun z=>nb (by rw[z]; simp))]
  have nba:b≠a:=fun z=>nb (by rw[z]; simp)
  exact ev3 b o (ev2 b o (f1 b o e nb) fun z=>nba (AD.mp z)) fun z=>nba (AD.mp z)
end
abbrev XZ:=Str×List (Str×V)
def errB:XZ:=("BadText",[("row",.int 0)])
def headOk(tb:List (Str×T)):List T->Bool
 | .a (.str w)::_=>match tb.find? fun kv=>decide (kv.1=w) with
  | some (k,.a (.int n))=>decide (k=w) && decide (-1000<=n) && decide (n<=1000)
  | _=>false
 | _=>false
def closeN(tb:List (Str×T)):Nat->List (List T)->Except XZ (List (List T))
 | 0,zs=>.ok zs
 | n+1,zs=>match closeS tb zs with
  | none=>.error errB
  | some zs'=>closeN tb n zs'
def wordS(tb:List (Str×T))(Fo Fb:DF)(zs:List (List T))(w:Str):Option (Except XZ (List (List T))) :=
 if w.length<=10000 then
  if BL w "("=true then
   if (sliceT w (some 1) none).length<=10000 then (Fo [.v (.a (.str (sliceT w (some 1) none)))]).bind fun r=>match r.1 with
    | .l xs=>if headOk tb xs=true/\xs.length<=1 then some (.ok (xs::zs)) else none
    | .v (.x c fs)=>some (.error (c,fs))
    | _=>none
   else none
  else if (BK w ")").length<=10000/\(sliceT w (some ((BK w ")").length:Int)) none).length<=10000/\(sliceT w (some ((BK w ")").length:Int)) none).cps.all (· < 128)=true then
   (Fb [.v (.a (.str (BK w ")")))]).bind fun r=>match r.1 with
    | .v (.x c fs)=>some (.error (c,fs))
    | .v t=>match zs with
     | y::zs=>some (closeN tb (sliceT w (some ((BK w ")").length:Int)) none).cps.size ((y++[t])::zs))
     | []=>none
    | _=>none
  else none
 else none
def readM(tb:List (Str×T))(Fo Fb:DF):List Str->List (List T)->Option (Except XZ (List (List T)))
 | [],zs=>some (.ok zs)
 | w::ws,zs=>(wordS tb Fo Fb zs w).bind fun r=>match r with
  | .error z=>some (.error z)
  | .ok zs'=>readM tb Fo Fb ws zs'
def endG:Except XZ (List (List T))->G
 | .error z=>.v (.x z.1 z.2)
 | .ok [[t]]=>.v t
 | .ok _=>.v (.x errB.1 errB.2)
def readF(tb:List (Str×T))(Fo Fb:DF):DF:=fun gs=>match gs with
 | [.v (.a (.str x))]=>if x.length<=10000/\(Ar x " ").length<=20000 then (readM tb Fo Fb (Ar x " ") [[]]).bind fun r=>match r with
  | .error z=>some (.v (.x z.1 z.2),[])
  | .ok [[t]]=>match isXg (.v t) with
   | some _=>none
   | none=>some (.v t,[])
  | .ok _=>some (.v (.x errB.1 errB.2),[]) else none
 | _=>none
def totZ(zs:List (List T)):Nat:=(zs.map Be).sum+zs.length
theorem zIK{zs:List (List T)}(h:totZ zs<=100000):Small zs:=by
 refine⟨by unfold totZ at h; omega,fun z hz=>?_⟩
 have:z.length<=(zs.map Be).sum:=by
  clear h
  induction zs with
  | nil=>exact nomatch hz
  | cons y r ih =>
   rw[Ah,Cz]
   rcases AF.mp hz with rfl | hz
   ·omega
   ·have:=ih hz; omega
 unfold totZ at h
 omega
theorem zHE{tb:List (Str×T)}{zs zs':List (List T)}(h:closeS tb zs=some zs'):totZ zs'<=totZ zs/\zs'≠[]:=by
 unfold closeS at h
 split at h
 ·split at h
  ·cases h
   refine⟨?_,Ae _ _⟩
   simp only[totZ,Ah,Cz,AW,Am,DR]
   omega
  ·cases h
 ·cases h
theorem zCm{tb:List (Str×T)}{y:List T}{t:T}{zs:List (List T)}(h:Heads tb (y::zs)):Heads tb ((y++[t])::zs):=by
 cases zs with
 | nil=>trivial
 | cons z zs =>
  obtain⟨⟨w,n,r,rfl,h2,h3⟩,h4⟩:=h
  exact⟨⟨w,n,r++[t],rfl,h2,h3⟩,h4⟩
theorem zE5{tb:List (Str×T)}{zs zs':List (List T)}(hh:Heads tb zs)(h:closeS tb zs=some zs'):Heads tb zs':=by
 unfold closeS at h
 split at h
 ·split at h
  ·cases h
   exact zCm hh.2
  ·cases h
 ·cases h
theorem zF7{tb:List (Str×T)}{xs:List T}{zs:List (List T)}(h:headOk tb xs=true)(hh:Heads tb zs):Heads tb (xs::zs):=by
 cases zs with
 | nil=>trivial
 | cons y zs =>
  refine⟨?_,hh⟩
  unfold headOk at h
  split at h
  ·rename_i w r
   split at h
   ·rename_i k n e
    simp only[Af,decide_eq_true_eq]at h
    obtain⟨⟨h1,h2⟩,h3⟩:=h
    subst h1
    exact⟨k,n,r,rfl,e,h2,h3⟩
   ·cases h
  ·cases h
section
variable {K:Fg}{tb:List (Str×T)}{H0 H:Hp}{p l:Addr}{x:Str}{ws:List Str}{zs:List (List T)}{σ:St}{E:XK}
theorem zFQ{F:DF}{s:Str}{r:G}{ys:List T}{Q:VK}(e:F [.v (.a (.str s))]=some (r,ys))(h1:∀ z,isXg r=some z->∀ H',(∀ b o,H b=some o->H' b=some o)->XiE K E z.1 z.2 H')(h2:isXg r=none->∀ v H',(∀ b o,H b=some o->H' b=some o)->ROk K H H' v r->Q v H'):spX K 1 F [.str s] H Q E:=by
 refine⟨rfl,⟨[],fun _=>False⟩,[.v (.a (.str s))],r,ys,rfl,e,⟨rfl,fun i g e=>?_,fun i j q ga gb ma mb h1=>?_,fun p hp=>(nomatch hp),fun p hp=>(nomatch hp),fun p hp=>hp.elim,fun p hp=>hp.elim,fun b o e _=>e,fun q hq=>(nomatch hq)⟩,h1,h2⟩
 ·match i,e with
  | 0,e=>cases e; exact⟨.str s,rfl,Im.atom (K:=K) (H:=H)⟩
  | i+1,e=>simp at e
 ·match i,h1 with
  | 0,h1=>cases h1; cases ma
  | i+1,h1=>simp at h1
structure RdS(K:Fg)(tb:List (Str×T))(H0:Hp)(p l:Addr)(ws:List Str)(zs:List (List T))(k:Nat)(qs:List Addr)(H:Hp):Prop where
 nest:Nest K H p qs zs
 ne:zs≠[]
 hd:Heads tb zs
 tot:totZ zs<=k
 src:H l=some (.lst (strsV ws))
 ap:l∉p::qs
 fr:∀ b o,H0 b=some o->H b=some o
 new:∀ b∈p::qs,H0 b=none
theorem RdS.ext{k:Nat}{qs:List Addr}{H':Hp}(h:RdS K tb H0 p l ws zs k qs H)(e:∀ b o,H b=some o->H' b=some o):RdS K tb H0 p l ws zs k qs H' :=
 ⟨h.nest.evo0 e,h.ne,h.hd,h.tot,e _ _ h.src,h.ap,fun b o q=>e b o (h.fr b o q),h.new⟩
def envW(x w:Str)(b:Option Str):En:=[some (.v (.a (.str x))),none,some (.v (.a (.str w))),b.map fun s=>G.v (.a (.str s)),none]
theorem repW{w:Str}{b:Option Str}{v1 o3 o4:Option V}(hb:∀ s,b=some s->o3=some (.str s)):Rep K ⟨H,[],[]⟩ ⟨[],fun _=>False⟩ (envW x w b) [some (.str x),v1,some (.str w),o3,o4] H:=by
 refine⟨rfl,fun i g e=>?_,fun i j q ga gb ma mb h1=>?_,fun p hp=>(nomatch hp),fun p hp=>(nomatch hp),fun p hp=>hp.elim,fun p hp=>hp.elim,fun b o e _=>e,fun q hq=>(nomatch hq)⟩
 ·unfold envW at e
  match i,e with
  | 0,e=>cases e; exact⟨.str x,rfl,Im.atom (K:=K) (H:=H)⟩
  | 1,e=>cases e
  | 2,e=>cases e; exact⟨.str w,rfl,Im.atom (K:=K) (H:=H)⟩
  | 3,e =>
   cases b with
   | none=>cases e
   | some s=>cases e; rw[hb s rfl]; exact⟨.str s,rfl,Im.atom (K:=K) (H:=H)⟩
  | 4,e=>cases e
  | i+5,e=>simp at e
 ·unfold envW at h1
  match i,h1 with
  | 0,h1=>cases h1; cases ma
  | 1,h1=>cases h1
  | 2,h1=>cases h1; cases ma
  | 3,h1 =>
   cases b with
   | none=>cases h1
   | some s=>cases h1; cases ma
  | 4,h1=>cases h1
  | i+5,h1=>simp at h1
theorem zA6{H H':Hp}(e:Evo ([]:List Addr) H H'):∀ b o,H b=some o->H' b=some o:=fun b o q=>e b o q nofun
theorem zGM{k:Nat}{D:Ends}{s:Str}{v2 o3 o4:Option V}{r:Except XZ (List (List T))}(hk:k<=100000){qs:List Addr}(h:RdS K tb H0 p l ws zs k qs H)(er:closeN tb s.cps.size zs=r)
  (kok:∀ zs',r=.ok zs'->∀ qs' H' o4',RdS K tb H0 p l ws zs' k qs' H'->D.nx [some (.str x),some (.ref p),v2,o3,o4'] H') (kerr:∀ z,r=.error z->∀ H',(∀ b o,H0 b=some o->H' b=some o)->XiE K E z.1 z.2 H') :
  ∃ W:Nat->Nat->St->Hp->Prop,(∃ m,W 0 m [some (.str x),some (.ref p),v2,o3,o4] H)/\∀ i m σ H,W i m σ H ->
   ((Its s).stop i H/\D.nx σ H)\/((Its s).go i H/\∃ N:St->Hp->Prop,(∀ σ' H',N σ' H'->∃ m',m' < m/\W (i+1) m' σ' H')/\∀ y H',(Its s).yld i H y H'->gName 4 y σ H' fun σ2 H2=>tExprX (spClose K tb) E (tCons (tVar 1) tNil) { D with nx:=N,ct:=N,bk:=D.nx } σ2 H2):=by
 refine⟨fun i m σ H=>m=s.cps.size - i/\i<=s.cps.size/\∃ zs qs o4,σ=[some (.str x),some (.ref p),v2,o3,o4]/\RdS K tb H0 p l ws zs k qs H/\closeN tb (s.cps.size - i) zs=r,⟨_,rfl,Cq _,zs,qs,o4,rfl,h,er⟩,?_⟩
 rintro i m σ H ⟨rfl,hi,zs,qs,o4,rfl,h,e⟩
 by_cases hlt:i < s.cps.size
 ·refine .inr ⟨hlt,fun σ' H'=>∃ zs qs o4,σ'=[some (.str x),some (.ref p),v2,o3,o4]/\RdS K tb H0 p l ws zs k qs H'/\closeN tb (s.cps.size - (i+1)) zs=r,fun σ' H' h'=>⟨_,by omega,rfl,hlt,h'⟩,fun y H' hy=>?_⟩
  obtain⟨rfl,c,hc,rfl⟩:=hy
  rw[show s.cps.size - i=s.cps.size - (i+1)+1 by omega]at e
  unfold closeN at e
  refine⟨.ref p,rfl,p,qs,zs,rfl,h.nest,h.ne,h.hd,zIK (As h.tot hk),fun hc' H'' fr=>?_,fun zs' hc' H'' qs' n' sub fr=>?_⟩
  ·rw[hc']at e
   exact kerr errB e.symm H'' fun b o q=>fr b o (h.fr b o q) fun z=>by rw[h.new b z]at q; cases q
  ·rw[hc']at e
   obtain⟨t1,t2⟩:=zHE hc'
   refine⟨zs',qs',_,rfl,⟨n',t2,zE5 h.hd hc',As t1 h.tot,fr _ _ h.src h.ap,fun z=>h.ap ?_,fun b o q=>fr b o (h.fr b o q) fun z=>(by rw[h.new b z]at q; cases q),fun b hb=>h.new b ?_⟩,e⟩
   ·rcases AF.mp z with z | z
    ·rw[z]; exact AE
    ·exact AG _ (sub _ z)
   ·rcases AF.mp hb with z | z
    ·rw[z]; exact AE
    ·exact AG _ (sub _ z)
 ·have hz:s.cps.size - i=0:=by omega
  rw[hz]at e
  exact .inl ⟨by show s.cps.size<=i; omega,kok zs e.symm qs H o4 h⟩
end
theorem zCo{K:Fg}{H:Hp}:∀ {qs:List Addr} {zs:List (List T)},RowsAt K H qs zs->∀ b∈qs,∃ o,H b=some o
 | [],[],_,b,hb=>nomatch hb
 | a::qs,z::zs,h,b,hb=>by
  rcases AF.mp hb with rfl | hb
  ·obtain⟨⟨vs,h1,_⟩,_⟩:=h; exact⟨_,h1⟩
  ·exact zCo h.2 b hb
 | [],_::_,h,_,_=>h.elim
 | _::_,[],h,_,_=>h.elim
theorem zCj{K:Fg}{H:Hp}{p:Addr}{qs:List Addr}{zs:List (List T)}(n:Nest K H p qs zs):∀ b∈p::qs,∃ o,H b=some o:=fun b hb=>by
 rcases AF.mp hb with rfl | hb
 ·exact⟨_,n.list⟩
 ·exact zCo n.rows b hb
abbrev dStart:DT:=dTru (dSM startswithS (jV 2) (jW (dC (.str "(")) qQ))
abbrev dArg1:DA:=jW (dSlT (jV 2) (dPart (dC (.int 1))) dNoPart) qQ
abbrev dRs:DE:=dSM rstripS (jV 2) (jW (dC (.str ")")) qQ)
abbrev dSlc:DE:=dSlT (jV 2) (dPart (dCB lenS (jW (jV 3) qQ))) dNoPart
abbrev tbody(K:Fg)(tb:List (Str×T))(Fo Fb:DF)(E:XK)(ts:TT)(ta1 ta2:TA)(trs tsl:TE)(rU':V->Hp->VK->Prop):TS :=
 tIfS ts (tDrop (tBM K "list" rAppend (tVar 1) (tCons (tCallX (spX K 1 Fo) E ta1) tNil))) (tSeq (tAsg trs (gName 3)) (tSeq (tDrop (tBM K "list" rAppend (tOp (rIxL K) (tVar 1) (tUn rU' (tC (.int 1)))) (tCons (tCallX (spX K 1 Fb) E ta2) tNil))) (tFor (iStr tsl) (gName 4) (tExprX (spClose K tb) E (tCons (tVar 1) tNil)))))
section
variable {K:Fg}{tb:List (Str×T)}{Fo Fb:DF}{E:XK}{ts:TT}{ta1 ta2:TA}{trs tsl:TE}{rU':V->Hp->VK->Prop}{H0 H:Hp}{p l:Addr}{x w:Str}{ws:List Str}{zs:List (List T)}{qs:List Addr}{k:Nat}
theorem zK0(hU:∀ H Q,Q (.int (-1)) H->rU' (.int 1) H Q)(ss:SimT K ts dStart)(sa1:SimA K ta1 dArg1)(sa2:SimA K ta2 (jW (jV 3) qQ))(srs:SimE K trs dRs)(ssl:SimE K tsl dSlc)
  {D:Ends} {o3 o4:Option V} {r:Except XZ (List (List T))} (hk:k+2<=100000) (h:RdS K tb H0 p l ws zs k qs H) (e:wordS tb Fo Fb zs w=some r)
  (kok:∀ zs',r=.ok zs'->∀ qs' H' o3' o4',RdS K tb H0 p l ws zs' (k+2) qs' H'->D.nx [some (.str x),some (.ref p),some (.str w),o3',o4'] H') (kerr:∀ z,r=.error z->∀ H',(∀ b o,H0 b=some o->H' b=some o)->XiE K E z.1 z.2 H') :
  tbody K tb Fo Fb E ts ta1 ta2 trs tsl rU' D [some (.str x),some (.ref p),some (.str w),o3,o4] H:=by
 unfold wordS at e
 split at e
 rotate_left
 ·cases e
 rename_i hwl
 have R0:=fun (H:Hp) (o3 o4:Option V)=>repW (K:=K) (H:=H) (x:=x) (w:=w) (b:=none) (v1:=some (.ref p)) (o3:=o3) (o4:=o4) fun s z=>by cases z
 refine ss _ _ _ _ H (BL w "(") (envW x w none) _ (R0 H o3 o4) (by unfold envW; simp) fun H1 R1 ev1=>?_
 have h1:=h.ext (zA6 ev1)
 cases hst:BL w "(" with
 | true =>
  rw[hst]at e
  rw[if_pos rfl]at e ⊢
  split at e
  rotate_left
  ·cases e
  rename_i hsl
  obtain⟨⟨g,ys⟩,e1,e⟩:=bind_some e
  dsimp only at e
  show tBM K "list" rAppend (tVar 1) (tCons (tCallX (spX K 1 Fo) E ta1) tNil) [some (.str x),some (.ref p),some (.str w),o3,o4] H1 (fun _ H'=>D.nx [some (.str x),some (.ref p),some (.str w),o3,o4] H')
  refine⟨.ref p,rfl,.inl ⟨rfl,_,zAU h1.nest.list⟩,?_⟩
  have gs:(sliceT w (some 1) none).length<=AC:=zAB (by omega)
  refine sa1 _ _ _ _ H1 [.v (.a (.str (sliceT w (some 1) none)))] (envW x w none) _ (R0 H1 o3 o4) (by unfold envW; simp[gs]) fun vs H2 R2 ev2 o2 _=>?_
  have hv:vs=[.str (sliceT w (some 1) none)]:=by
   match vs,o2 with
   | [v],o2=>rw[show v=_ from (show Im K H2 v (.a (.str _)) from o2.1).inva]
   | [],o2=>exact o2.elim
   | _::_::_,o2=>exact o2.2.elim
  subst hv
  have h2:=h1.ext (zA6 ev2)
  refine zFQ e1 (fun z hz H3 ext=>?_) fun hz v H3 ext hr=>?_
  ·have:=zCy hz
   subst this
   cases e
   exact kerr z rfl H3 fun b o q=>ext b o (h2.fr b o q)
  ·cases g with
   | l xs =>
    dsimp only at e
    split at e
    ·rename_i hx
     cases e
     obtain⟨a,us,rfl,ha1,ha2,ha3⟩:=hr
     have h3:=h2.ext ext
     have hap:a∉p::qs:=fun z=>by obtain⟨o,q⟩:=zCj h2.nest a z; rw[ha1]at q; cases q
     have hal:l≠a:=fun z=>by have:=h2.src; rw[z,ha1]at this; cases this
     have hz1:=h3.nest.rows.len
     have hzl:zs.length<=totZ zs:=Da _ _
     have ht:=h3.tot
     refine⟨p,_,.ref a,rfl,rfl,h3.nest.list,zCu (by simp; omega),?_⟩
     refine kok _ rfl (a::qs) _ o3 o4 ⟨h3.nest.push ha2 ha3 hap,Ae _ _,zF7 hx.1 h3.hd,?_,?_,fun z=>?_,fun b o q=>?_,fun b hb=>?_⟩
     ·simp only[totZ,Ah,Cz,AW]at ht ⊢
      omega
     ·rw[zAC (fun z=>h3.ap (by rw[z]; exact AE))]; exact h3.src
     ·rcases AF.mp z with z | z
      ·exact h3.ap (by rw[z]; exact AE)
      ·rcases AF.mp z with z | z
       ·exact hal z
       ·exact h3.ap (AG _ z)
     ·rw[zAC (fun z=>by rw[z,h3.new p AE]at q; cases q)]; exact h3.fr b o q
     ·rcases AF.mp hb with z | hb
      ·exact h3.new b (by rw[z]; exact AE)
      ·rcases AF.mp hb with z | hb
       ·rw[z]
        cases q:H0 a with
        | none=>rfl
        | some o=>have:=h2.fr a o q; rw[ha1]at this; cases this
       ·exact h3.new b (AG _ hb)
    ·cases e
   | v t=>cases t <;> first | (cases e; done) | cases hz
   | r _=>cases e
   | k _=>cases e
   | d _=>cases e
   | e _=>cases e
 | false =>
  rw[hst]at e
  rw[if_neg AQ]at e ⊢
  split at e
  rotate_left
  ·cases e
  rename_i hb
  obtain⟨hb1,hb2,hb3⟩:=hb
  obtain⟨⟨g,ys⟩,e1,e⟩:=bind_some e
  dsimp only at e
  show trs [some (.str x),some (.ref p),some (.str w),o3,o4] H1 _
  have gw:w.length<=AC:=zAB (by omega)
  refine srs _ _ _ _ H1 (.v (.a (.str (BK w ")")))) (envW x w none) _ (R0 H1 o3 o4) (by unfold envW; simp[gw]) fun v H2 R2 ev2 o2 _=>?_
  have hv:v=.str (BK w ")"):=(show Im K H2 v (.a (.str _)) from o2).inva
  subst hv
  have h2:=h1.ext (zA6 ev2)
  generalize BK w ")"=bs at *
  show tBM K "list" rAppend (tOp (rIxL K) (tVar 1) (tUn rU' (tC (.int 1)))) (tCons (tCallX (spX K 1 Fb) E ta2) tNil) [some (.str x),some (.ref p),some (.str w),some (.str bs),o4] H2 (fun _ H'=>tFor (iStr tsl) (gName 4) (tExprX (spClose K tb) E (tCons (tVar 1) tNil)) D [some (.str x),some (.ref p),some (.str w),some (.str bs),o4] H')
  cases zs with
  | nil=>exact absurd rfl h2.ne
  | cons y zs =>
  cases qs with
  | nil=>exact h2.nest.rows.elim
  | cons a qs =>
  have el:((a::qs).reverse.map V.ref)=qs.reverse.map V.ref++[.ref a]:=by simp
  have hl:=h2.nest.list
  rw[el]at hl
  obtain⟨⟨vs2,hb4,hb5⟩,_⟩:=h2.nest.rows
  refine⟨.ref p,rfl,hU _ _ ⟨p,_,-1,.ref a,rfl,rfl,zAU hl,atI_last _ _,.inl ⟨rfl,_,zAU hb4⟩,?_⟩⟩
  have R3:=fun (H:Hp)=>repW (K:=K) (H:=H) (x:=x) (w:=w) (b:=some bs) (v1:=some (.ref p)) (o3:=some (.str bs)) (o4:=o4) fun s z=>by cases z; rfl
  refine sa2 _ _ _ _ H2 [.v (.a (.str bs))] (envW x w (some bs)) _ (R3 H2) (by unfold envW; simp) fun vs H3 R3' ev3 o3' _=>?_
  have hv:vs=[.str bs]:=by
   match vs,o3' with
   | [v],o2=>rw[show v=_ from (show Im K H3 v (.a (.str _)) from o2.1).inva]
   | [],o2=>exact o2.elim
   | _::_::_,o2=>exact o2.2.elim
  subst hv
  have h3:=h2.ext (zA6 ev3)
  refine zFQ e1 (fun z hz H4 ext=>?_) fun hz v H4 ext hr=>?_
  ·have:=zCy hz
   subst this
   cases e
   exact kerr z rfl H4 fun b o q=>ext b o (h3.fr b o q)
  ·have fin:∀ t:T,Im K H4 v t->some (closeN tb (sliceT w (some (bs.length:Int)) none).cps.size ((y++[t])::zs))=some r->rAppend (.ref a) [v] H4 (fun _ H'=>tFor (iStr tsl) (gName 4) (tExprX (spClose K tb) E (tCons (tVar 1) tNil)) D [some (.str x),some (.ref p),some (.str w),some (.str bs),o4] H'):=fun t ht e=>by
    have h4:=h3.ext ext
    obtain⟨vs4,h41,h42,n4⟩:=h4.nest.grow ht
    have htt:=h4.tot
    have hyl:y.length<=totZ (y::zs):=by simp only[totZ,Ah,Cz,AW]; omega
    refine⟨a,vs4,v,rfl,rfl,h41,zCu (by omega),?_⟩
    have hna:a∈p::a::qs:=by simp
    have h5:RdS K tb H0 p l ws ((y++[t])::zs) (k+2) (a::qs) (upd H4 a (.lst (vs4++[v]))):=by
     refine⟨n4,Ae _ _,zCm h4.hd,?_,?_,h4.ap,fun b o q=>?_,h4.new⟩
     ·simp only[totZ,Ah,Cz,AW,Am,DR]at htt ⊢
      omega
     ·rw[zAC (fun z=>h4.ap (by rw[z]; exact hna))]; exact h4.src
     ·rw[zAC (fun z=>by rw[z,h4.new a hna]at q; cases q)]; exact h4.fr b o q
    generalize upd H4 a (.lst (vs4++[v]))=H5 at *
    show tsl _ H5 _
    have gb:bs.length<=AC:=zAB (by omega)
    have gs:(sliceT w (some (bs.length:Int)) none).length<=AC:=zAB (by omega)
    refine ssl _ _ _ _ H5 (.v (.a (.str (sliceT w (some (bs.length:Int)) none)))) (envW x w (some bs)) _ (R3 H5) (by
     have ln:∀ Γ:En,lenS Γ [.v (.a (.str bs))]=some (.v (.a (.int (bs.length:Int)))):=fun Γ=>by simp[lenS,gb]
     unfold envW; simp[gs,ln]) fun v6 H6 R6 ev6 o6 _=>?_
    have hv6:v6=.str (sliceT w (some (bs.length:Int)) none):=(show Im K H6 v6 (.a (.str _)) from o6).inva
    subst hv6
    refine⟨_,rfl,hb3,?_⟩
    have h6:=h5.ext (zA6 ev6)
    exact zGM (E:=E) hk h6 (Ap e) (fun zs' hz' qs' H' o4' hr'=>kok zs' hz' qs' H' _ o4' hr') kerr
   cases g with
   | v t =>
    have hr':Im K H4 v t:=hr
    cases t with
    | x c fs=>cases hz
    | a u=>exact fin _ hr' e
    | t u=>exact fin _ hr' e
    | l u=>exact fin _ hr' e
    | f u=>exact fin _ hr' e
   | l _=>cases e
   | r _=>cases e
   | k _=>cases e
   | d _=>cases e
   | e _=>cases e
end
abbrev dSp:DE:=dSM splitS (jV 0) (jW (dC (.str " ")) qQ)
abbrev tEnd(K:Fg)(t3:TS):TS:=tSeq (tIfS (tOr (tTest (tOp rNe (tCB (rLen K) (tCons (tVar 1) tNil)) (tC (.int 1)))) (tTest (tOp rNe (tCB (rLen K) (tCons (tOp (rIxL K) (tVar 1) (tC (.int 0))) tNil)) (tC (.int 1))))) t3 tNext) (tRet (tOp (rIxL K) (tOp (rIxL K) (tVar 1) (tC (.int 0))) (tC (.int 0))))
section
variable {K:Fg}{tb:List (Str×T)}{Fo Fb:DF}{E:XK}{ts:TT}{ta1 ta2:TA}{trs tsl tsp:TE}{t3:TS}{rU':V->Hp->VK->Prop}{H0 H:Hp}{p l:Addr}{x:Str}{ws:List Str}{zs:List (List T)}{qs:List Addr}{k:Nat}{Q:VK}
theorem rep0{v1 o2 o3 o4:Option V}:Rep K ⟨H,[],[]⟩ ⟨[],fun _=>False⟩ [some (.v (.a (.str x))),none,none,none,none] [some (.str x),v1,o2,o3,o4] H:=by
 refine⟨rfl,fun i g e=>?_,fun i j q ga gb ma mb h1=>?_,fun p hp=>(nomatch hp),fun p hp=>(nomatch hp),fun p hp=>hp.elim,fun p hp=>hp.elim,fun b o e _=>e,fun q hq=>(nomatch hq)⟩
 ·match i,e with
  | 0,e=>cases e; exact⟨.str x,rfl,Im.atom (K:=K) (H:=H)⟩
  | 1,e=>cases e
  | 2,e=>cases e
  | 3,e=>cases e
  | 4,e=>cases e
  | i+5,e=>simp at e
 ·match i,h1 with
  | 0,h1=>cases h1; cases ma
  | 1,h1=>cases h1
  | 2,h1=>cases h1
  | 3,h1=>cases h1
  | 4,h1=>cases h1
  | i+5,h1=>simp at h1
def endOk(zs:List (List T)):G->Prop
 | r=>(match zs with
  | [[t]]=>r=.v t/\isXg (.v t)=none
  | _=>r=.v (.x errB.1 errB.2))
theorem zLo(s3:SimX K E t3 dBad){r:G}{o2 o3 o4:Option V}(h:RdS K tb H0 p l ws zs k qs H)(hr:endOk zs r)(k1:∀ z,isXg r=some z->∀ H',(∀ b o,H0 b=some o->H' b=some o)->XiE K E z.1 z.2 H')(k2:isXg r=none->∀ v H',(∀ b o,H0 b=some o->H' b=some o)->ROk K H0 H' v r->Q v H') :
  tEnd K t3 { nx:=fun _ H'=>Q .non H',rt:=Q } [some (.str x),some (.ref p),o2,o3,o4] H:=by
 have bad:∀ (D:Ends),r=.v (.x errB.1 errB.2)->t3 D [some (.str x),some (.ref p),o2,o3,o4] H:=fun D e=>zI5 (m:=5) s3 rfl fun H' ext=>by
  subst e
  exact k1 errB rfl H' fun b o q=>ext b o (h.fr b o q)
 show tOr _ _ [some (.str x),some (.ref p),o2,o3,o4] H (fun b H2=>if b=true then t3 { nx:=tRet (tOp (rIxL K) (tOp (rIxL K) (tVar 1) (tC (.int 0))) (tC (.int 0))) { nx:=fun _ H'=>Q .non H',rt:=Q },rt:=Q } [some (.str x),some (.ref p),o2,o3,o4] H2 else tRet (tOp (rIxL K) (tOp (rIxL K) (tVar 1) (tC (.int 0))) (tC (.int 0))) { nx:=fun _ H'=>Q .non H',rt:=Q } [some (.str x),some (.ref p),o2,o3,o4] H2)
 refine zI4 rfl h.nest.list ⟨rfl,_,rfl,?_⟩
 have hl:=h.nest.rows.len
 have hlen:((qs.reverse.map V.ref).length:Int)=(zs.length:Int):=by simp[hl]
 rw[hlen]
 by_cases h1:zs.length=1
 rotate_left
 ·have hd:(!decide (V.int (zs.length:Int)=V.int 1))=true:=by
   rw[D3,decide_eq_false_iff_not]
   intro e
   injection e with e
   omega
  rw[hd]
  refine bad _ ?_
  unfold endOk at hr
  split at hr
  ·exact absurd rfl h1
  ·exact hr
 ·match zs,h1 with
  | [z],_ =>
  have hd:(!decide (V.int (([z]:List (List T)).length:Int)=V.int 1))=false:=by simp
  rw[hd]
  match qs,hl with
  | [a],_ =>
  obtain⟨⟨us,ha1,ha2⟩,_⟩:=h.nest.rows
  have hlst:=h.nest.list
  have ix0:atI (([a]:List Addr).reverse.map V.ref) 0=some (.ref a):=rfl
  refine⟨.ref p,rfl,p,_,0,.ref a,rfl,rfl,zAU hlst,ix0,a,us,rfl,.inl (zAU ha1),rfl,_,rfl,?_⟩
  have hul:us.length=z.length:=ha2.len
  rw[hul]
  by_cases h2:z.length=1
  rotate_left
  ·have hd2:(!decide (V.int (z.length:Int)=V.int 1))=true:=by
    rw[D3,decide_eq_false_iff_not]
    intro e
    injection e with e
    omega
   rw[hd2]
   refine bad _ ?_
   unfold endOk at hr
   split at hr
   ·rename_i e
    cases e
    exact absurd rfl h2
   ·exact hr
  ·match z,h2 with
   | [t],_ =>
   have hd2:(!decide (V.int (([t]:List T).length:Int)=V.int 1))=false:=by simp
   rw[hd2]
   obtain⟨hr1,hr2⟩:=hr
   subst hr1
   match us,hul with
   | [v],_ =>
   refine⟨.ref p,rfl,p,_,0,.ref a,rfl,rfl,zAU hlst,ix0,a,[v],0,v,rfl,rfl,zAU ha1,rfl,?_⟩
   obtain⟨u,hu,hu2⟩:=ha2.get (i:=0) (t:=t) rfl
   have:v=u:=by simpa using hu
   subst this
   exact k2 hr2 v H h.fr (show Im K H v t from hu2)
theorem zKU(hU:∀ H Q,Q (.int (-1)) H->rU' (.int 1) H Q)(ss:SimT K ts dStart)(sa1:SimA K ta1 dArg1)(sa2:SimA K ta2 (jW (jV 3) qQ))(srs:SimE K trs dRs)(ssl:SimE K tsl dSlc)(ssp:SimE K tsp dSp)(s3:SimX K E t3 dBad){N:List Str}(hN:N.length=5){vs:List V}(h:spX K 1 (readF tb Fo Fb) vs H Q E) :
  (tSeq (tAsg (tLst (tCons (tLst tNil) tNil)) (gName 1)) (tSeq (tFor (iSeq K tsp) (gName 2) (tbody K tb Fo Fb E ts ta1 ta2 trs tsl rU')) (tEnd K t3))) { nx:=fun _ H'=>Q .non H',rt:=Q } (L2.start N vs) H:=by
 obtain⟨hn,w0,gs,r,ys,hw,e,R,k1,k2⟩:=h
 unfold readF at e
 split at e
 rotate_left
 ·cases e
 rename_i x
 split at e
 rotate_left
 ·cases e
 rename_i hx
 obtain⟨hx1,hx2⟩:=hx
 obtain⟨res,e1,e⟩:=bind_some e
 obtain⟨v,hv,hg⟩:=R.val 0 (.v (.a (.str x))) rfl
 have hvs:vs=[.str x]:=by
  match vs,hn with
  | [u],_ =>
   have:u=v:=by simpa using hv
   rw[this,show v=.str x from (show Im K H v (.a (.str x)) from hg).inva]
 subst hvs
 have hst:L2.start N [.str x]=[some (.str x),none,none,none,none]:=by
  unfold L2.start
  rw[hN]; rfl
 rw[hst]
 have fin:∀ zs,res=.ok zs->endOk zs r:=fun zs hz=>by
  subst hz
  unfold endOk
  split
  ·dsimp only at e
   split at e
   ·cases e
   ·rename_i hi
    cases e; exact⟨rfl,hi⟩
  ·rename_i hne
   split at e
   ·rename_i z hz; cases hz
   ·rename_i t hz; cases hz; exact absurd rfl (hne t)
   ·cases e; rfl
 have finE:∀ z,res=.error z->isXg r=some z:=fun z hz=>by
  subst hz
  dsimp only at e
  cases e; rfl
 refine⟨Cq _,fun a ha=>⟨by show 1<=AC; decide,fun p hp=>?_⟩⟩
 have hpa:a≠p:=fun z=>by rw[z,zAG]at hp; cases hp
 have H0p:H p=none:=by rw[zAC (Av hpa)]at hp; exact hp
 have nest0:Nest K (upd (upd H a (.lst [])) p (.lst [.ref a])) p [a] [[]]:=⟨zAG,by simp[Av hpa],⟨[],by rw[zAC hpa,zAG],.nil⟩,trivial⟩
 have fr0:∀ b o,H b=some o->upd (upd H a (.lst [])) p (.lst [.ref a]) b=some o:=fun b o q=>by
  rw[zAC (fun z=>by rw[z,H0p]at q; cases q),zAC (fun z=>by rw[z,ha]at q; cases q)]; exact q
 have new0:∀ b∈p::[a],H b=none:=fun b hb=>by
  simp only[AF,AK,or_false]at hb
  rcases hb with rfl | rfl
  ·exact H0p
  ·exact ha
 generalize upd (upd H a (.lst [])) p (.lst [.ref a])=H2 at *
 show tsp [some (.str x),some (.ref p),none,none,none] H2 _
 have gx:x.length<=AC:=zAB (by omega)
 have gs2:(Ar x " ").length<=AC:=zAB (by omega)
 refine ssp _ _ _ _ H2 (.l (strsT (Ar x " "))) [some (.v (.a (.str x))),none,none,none,none] _ (rep0 (v1:=some (.ref p)) (o2:=none) (o3:=none) (o4:=none)) (by
  have nb:¬ ((" ":Str).length=0):=by decide
  simp[gx,gs2,nb]) fun v3 H3 R3 ev3 o3 _=>?_
 obtain⟨l,us,rfl,_,_,how,hl3,hi3⟩:=o3
 have hus:us=strsV (Ar x " "):=by rw[zKK]at hi3; exact hi3.of_atoms
 subst hus
 have hl2:H2 l=none:=by rcases how with z | z; exact nomatch z; exact z
 have ext3:=zA6 ev3
 generalize hwsdef:Ar x " "=ws at *
 have S0:RdS K tb H p l ws [[]] 2 [a] H3:=by
  refine⟨nest0.evo0 ext3,Ae _ _,trivial,by decide,hl3,fun z=>?_,fun b o q=>ext3 b o (fr0 b o q),new0⟩
  obtain⟨o,q⟩:=zCj nest0 l z
  rw[hl2]at q; cases q
 refine⟨l,rfl,.inl ⟨⟨_,zAU hl3⟩,?_⟩⟩
 refine⟨fun i m σ H'=>m=ws.length - i/\i<=ws.length/\∃ zs qs o2 o3 o4,σ=[some (.str x),some (.ref p),o2,o3,o4]/\RdS K tb H p l ws zs (2+2 * i) qs H'/\readM tb Fo Fb (ws.drop i) zs=some res,⟨_,rfl,Cq _,[[]],[a],none,none,none,rfl,S0,e1⟩,?_⟩
 rintro i m σ H' ⟨rfl,hi,zs,qs,o2,o3,o4,rfl,S,em⟩
 by_cases hlt:i < ws.length
 ·obtain⟨w,hw'⟩:∃ w,ws[i]?=some w:=⟨ws[i],by simp[hlt]⟩
  have hd:ws.drop i=w::ws.drop (i+1):=by
   obtain⟨h1,h2⟩:=Ao.mp hw'
   rw[← h2]; exact Dv h1
  have hvi:(strsV ws)[i]?=some (.str w):=by simp[strsV,hw']
  rw[hd]at em
  unfold readM at em
  obtain⟨r1,e2,em⟩:=bind_some em
  refine .inr ⟨⟨strsV ws,.str w,zAU S.src,hvi⟩,fun σ' H''=>∃ zs qs o2 o3 o4,σ'=[some (.str x),some (.ref p),o2,o3,o4]/\RdS K tb H p l ws zs (2+2 * (i+1)) qs H''/\readM tb Fo Fb (ws.drop (i+1)) zs=some res,fun σ' H'' h'=>⟨_,by omega,rfl,hlt,h'⟩,fun y H'' hy=>?_⟩
  obtain⟨rfl,hy⟩:=hy
  have hyw:y=.str w:=by have:=hy _ (zAU S.src); rw[hvi]at this; exact (Ap this).symm
  subst hyw
  refine zK0 (x:=x) hU ss sa1 sa2 srs ssl (by omega) S e2 (fun zs' hz' qs' H4 o3' o4' S'=>?_) fun z hz' H4 fr=>?_
  ·subst hz'
   exact⟨zs',qs',_,o3',o4',rfl,by rw[show 2+2 * (i+1)=2+2 * i+2 by omega]; exact S',em⟩
  ·subst hz'
   cases em
   exact k1 z (finE z rfl) H4 fr
 ·have hi':i=ws.length:=by omega
  subst hi'
  rw[FU]at em
  cases em
  refine .inl ⟨⟨strsV ws,zAU S.src,by simp[strsV]⟩,?_⟩
  exact zLo s3 S (fin zs rfl) k1 k2
end
theorem hUneg:∀ (H:Hp) (Q:VK),Q (.int (-1)) H->(rU fun i=>V.int (-i)) (.int 1) H Q:=fun H Q q=>⟨1,rfl,q⟩
section
variable {P:Ac}{wd:Al}{base:Heap}{K:Fg}{mg:Str->Option AB}{E:XK}{k k' n:Nat}{N:List Str}{qual:Str}{sc:Bv}{f:Addr}{cdv:AB}{A:A5}{outer:List Env}{s:AH}{H:Hp}
theorem exo_call{e:Expr}{es:List Expr}{da:DA}{F:DF}{x:Str}{p pos:Pos}(M:Fm K mg k (cxR P wd K mg base N qual sc f cdv A outer s H E))(G:FX P wd K mg base k' x n F)(ha:AX K (onF (cxR P wd K mg base N qual sc f cdv A outer s H E)) (e::es) da)(hk:k'<=k:=by first | exact AL _ | decide | omega)
  (hg:Gl ((cxR P wd K mg base N qual sc f cdv A outer s H E) ()) x:=by rfl) (hdb:(x == ("__debug__":Str))=false:=by decide)
  (he:AR (e::es) ((cxR P wd K mg base N qual sc f cdv A outer s H E) ()).env=(false,eval e ((cxR P wd K mg base N qual sc f cdv A outer s H E) ()).env)::AR es ((cxR P wd K mg base N qual sc f cdv A outer s H E) ()).env:=by rfl) (hpl:(Bg pos (AR es ((cxR P wd K mg base N qual sc f cdv A outer s H E) ()).env)).any (·.1)=false:=by rfl) :
  ∃ ta,PE ((cxR P wd K mg base N qual sc f cdv A outer s H E) ()) (.Call (.Name x p) (e::es) [] pos) (tCallX (spX K n F) E ta)/\SimA K ta da:=by
 obtain⟨t,pa,sa⟩:=ha
 obtain⟨f',fd,ps,h1,h2,h3,h4⟩:=G.ex
 exact⟨t,zIh h1 ((M.room ()).mono hk) hg h2 h3 h4 (fun E'=>pa ((),E')) hdb he hpl,sa⟩
abbrev XX(P:Ac)(wd:Al)(K:Fg)(mg:Str->Option AB)(base:Heap)(N:List Str)(qual:Str)(sc:Bv)(f:Addr)(cdv:AB)(A:A5)(outer:List Env)(s:AH)(H:Hp)(E:XK):Cx:=cxR P wd K mg base N qual sc f cdv A outer s H E ()
theorem pe_app{X:Cx}{o e:Expr}{to te:TE}{apos cpos:Pos}(ho:PE X o to)(he:PE X e te)(hbase:CK o "append" X.env (eval o X.env)=eval o X.env:=by rfl)
  (hfew:((Bg cpos (AR [e] X.env)).all (fun x=>!x.1) && (Gn cpos (FC [] X.env)).all (fun x=>x.1.isSome) && decide (([e]:List Expr).length+([]:List EO).length+(if ([]:List EO).isEmpty then 0 else 1) < 30))=true:=by rfl)
  (hline:(apos.endLine == cpos.line)=true:=by rfl) (hs:AR [e] X.env=(false,eval e X.env)::AR [] X.env:=by rfl) (hplain:(Bg cpos (AR [] X.env)).any (·.1)=false:=by rfl):PE X (.Call (.Attribute o "append" apos) [e] [] cpos) (tBM X.K "list" rAppend to (tCons te tNil)) :=
 zGL Dz Fw Fx mt_append ho (pa_cons he pa_nil hs) hbase hfew hline hs hplain
theorem close_body{tb:List (Str×T)}{st1 st3:Stmt}{e1 e2 e4:Expr}{sts:List Stmt}{pos pos':Pos}{Q:VK}{vs:List V}
  (M:Fm K mg k (cxR P wd K mg base ["rows","row"] qual sc f cdv A outer s H E))
  (hpop:PS (XX P wd K mg base ["rows","row"] qual sc f cdv A outer s H E) st1 (tAsg (tBM0 K "list" rPop (tVar 0)) (gName 1)))
  (h1:PT (XX P wd K mg base ["rows","row"] qual sc f cdv A outer s H E) e1 (tTest (tOp rEq (tCB (rLen K) (tCons (tVar 0) tNil)) (tC (.int 0)))))
  (h2:TX K (cxR P wd K mg base ["rows","row"] qual sc f cdv A outer s H E) e2 (d2C tb)) (h3:BXX K E (cxR P wd K mg base ["rows","row"] qual sc f cdv A outer s H E) sts dBad) (h4:EX K (cxR P wd K mg base ["rows","row"] qual sc f cdv A outer s H E) e4 (dCB tupleS (jW (jV 1) qQ)))
  (h5:∀ t4,PE (XX P wd K mg base ["rows","row"] qual sc f cdv A outer s H E) e4 t4->PS (XX P wd K mg base ["rows","row"] qual sc f cdv A outer s H E) st3 (tDrop (tBM K "list" rAppend (tOp (rIxL K) (tVar 0) (tUn (rU fun i=>.int (-i)) (tC (.int 1)))) (tCons t4 tNil))))
  (h:spClose K tb vs H Q E):∃ t,PSs (XX P wd K mg base ["rows","row"] qual sc f cdv A outer s H E) (st1::.If (.BoolOp .Or [e1,e2] pos) sts [] pos'::[st3]) t/\t { nx:=fun _ H'=>Q .non H',rt:=Q } (L2.start ["rows","row"] vs) H:=by
 obtain⟨t2,p2,s2⟩:=h2
 obtain⟨t3,p3,s3⟩:=h3
 obtain⟨t4,p4,s4⟩:=h4
 exact⟨_,zAc hpop (zAc (zCp (fun pins s σ H Q I h=>(zFr h1 (zDr (p2 ()))) _ pins s σ H Q I h) (p3 ()) zBy) (zAk (h5 t4 (p4 ())))),zKL hUneg s2 s3 s4 h⟩
theorem read_body{tb:List (Str×T)}{Fo Fb:DF}{st1 stC stR:Stmt}{tg iter eS oR1 eO tgb eRs oR2 eB tg2 iter2 e1 e2:Expr}{sts:List Stmt}{a1 c1 x1 xb a2 c2 x2 f2 i2 f1 i1 pos:Pos}{Q:VK}{vs:List V}(hN:N.length=5)
  (hst1:PS (XX P wd K mg base N qual sc f cdv A outer s H E) st1 (tAsg (tLst (tCons (tLst tNil) tNil)) (gName 1))) (hsp:EX K (cxR P wd K mg base N qual sc f cdv A outer s H E) iter dSp) (hg2:PG (XX P wd K mg base N qual sc f cdv A outer s H E) tg (gName 2)) (hS:TX K (cxR P wd K mg base N qual sc f cdv A outer s H E) eS dStart)
  (hO:∃ ta,PE (XX P wd K mg base N qual sc f cdv A outer s H E) eO (tCallX (spX K 1 Fo) E ta)/\SimA K ta dArg1) (hP1:∀ te,PE (XX P wd K mg base N qual sc f cdv A outer s H E) eO te->PS (XX P wd K mg base N qual sc f cdv A outer s H E) (.Expr (.Call (.Attribute oR1 "append" a1) [eO] [] c1) x1) (tDrop (tBM K "list" rAppend (tVar 1) (tCons te tNil))))
  (hRs:EX K (cxR P wd K mg base N qual sc f cdv A outer s H E) eRs dRs) (hB0:∀ te,PE (XX P wd K mg base N qual sc f cdv A outer s H E) eRs te->PS (XX P wd K mg base N qual sc f cdv A outer s H E) (.Assign [tgb] eRs xb) (tAsg te (gName 3)))
  (hB:∃ ta,PE (XX P wd K mg base N qual sc f cdv A outer s H E) eB (tCallX (spX K 1 Fb) E ta)/\SimA K ta (jW (jV 3) qQ)) (hP2:∀ te,PE (XX P wd K mg base N qual sc f cdv A outer s H E) eB te->PS (XX P wd K mg base N qual sc f cdv A outer s H E) (.Expr (.Call (.Attribute oR2 "append" a2) [eB] [] c2) x2) (tDrop (tBM K "list" rAppend (tOp (rIxL K) (tVar 1) (tUn (rU fun i=>.int (-i)) (tC (.int 1)))) (tCons te tNil))))
  (hsl:EX K (cxR P wd K mg base N qual sc f cdv A outer s H E) iter2 dSlc) (hg4:PG (XX P wd K mg base N qual sc f cdv A outer s H E) tg2 (gName 4)) (hcl:PS (XX P wd K mg base N qual sc f cdv A outer s H E) stC (tExprX (spClose K tb) E (tCons (tVar 1) tNil)))
  (h1:PT (XX P wd K mg base N qual sc f cdv A outer s H E) e1 (tTest (tOp rNe (tCB (rLen K) (tCons (tVar 1) tNil)) (tC (.int 1))))) (h2:PT (XX P wd K mg base N qual sc f cdv A outer s H E) e2 (tTest (tOp rNe (tCB (rLen K) (tCons (tOp (rIxL K) (tVar 1) (tC (.int 0))) tNil)) (tC (.int 1))))) (h3:BXX K E (cxR P wd K mg base N qual sc f cdv A outer s H E) sts dBad)
  (hR:PS (XX P wd K mg base N qual sc f cdv A outer s H E) stR (tRet (tOp (rIxL K) (tOp (rIxL K) (tVar 1) (tC (.int 0))) (tC (.int 0)))))
  (hs1:∀ x,Bi iter (XX P wd K mg base N qual sc f cdv A outer s H E).env x=pure x:=by intro _; rfl) (hs2:∀ x,Bi iter2 (XX P wd K mg base N qual sc f cdv A outer s H E).env x=pure x:=by intro _; rfl)
  (h:spX K 1 (readF tb Fo Fb) vs H Q E):∃ t,PSs (XX P wd K mg base N qual sc f cdv A outer s H E) (st1::.For tg iter [.If eS [.Expr (.Call (.Attribute oR1 "append" a1) [eO] [] c1) x1] (.Assign [tgb] eRs xb::.Expr (.Call (.Attribute oR2 "append" a2) [eB] [] c2) x2::[.For tg2 iter2 [stC] [] f2]) i2] [] f1::.If (.BoolOp .Or [e1,e2] pos) sts [] i1::[stR]) t/\t { nx:=fun _ H'=>Q .non H',rt:=Q } (L2.start N vs) H:=by
 obtain⟨tsp,psp,ssp⟩:=hsp
 obtain⟨ts,pS,sS⟩:=hS
 obtain⟨ta1,pO,sO⟩:=hO
 obtain⟨trs,pRs,sRs⟩:=hRs
 obtain⟨ta2,pB,sB⟩:=hB
 obtain⟨tsl,psl,ssl⟩:=hsl
 obtain⟨t3,p3,s3⟩:=h3
 have inner:PSs (XX P wd K mg base N qual sc f cdv A outer s H E) [.For tg2 iter2 [stC] [] f2] (tFor (iStr tsl) (gName 4) (tExprX (spClose K tb) E (tCons (tVar 1) tNil))):=zAk (zEE Ga rfl (zHp (psl ())) hg4 (zAk hcl) hs2)
 exact⟨_,zAc hst1 (zAc (zEE Ga rfl (zFO (psp ())) hg2 (zAk (zCp (pS ()) (zAk (hP1 _ pO)) (zAc (hB0 trs (pRs ())) (zAc (hP2 _ pB) inner)))) hs1) (zAc (zCp (fun pins s σ H Q I h=>(zFr h1 (zDr h2)) _ pins s σ H Q I h) (p3 ()) zBy) (zAk hR))),zKU hUneg sS sO sB sRs ssl ssp s3 hN h⟩
theorem readF_len{tb:List (Str×T)}{Fo Fb:DF}:∀ gs r,readF tb Fo Fb gs=some r->gs.length=1:=fun gs r e=>by
 unfold readF at e
 split at e
 ·rfl
 ·cases e
end
end D
namespace Lw
open PySem.W (mg_of mg_none_of nsIn fnOf)
open PyProof.Rows (boot_all boot_bool boot_isinstance boot_list boot_max boot_str boot_tuple)
open PySem L2 D
def top(i:Nat):Stmt:=PySem.Challenge.pw_fivecups_k13_texts_of_no_saying.main.body.getD i (.Pass ⟨0,0,0,0⟩)
section
variable {P:Ac}{wd:Al}{K:AJ}{mg:Str->Option AB}{base:Heap}
def c_INSIDE:List (Str×T):=([("not",1),("and",2),("or",2),("either",2),("most",3)]:List (Str×Int)).map fun r=>(r.1,T.a (.int r.2))
abbrev csX:List Str:=["CupError","BadText","NoDance","NoRing","TooHeavy","OtherSizes","NoName","NoRow"]
abbrev mroX:List (Str×List Str):=[("CupError",["CupError"]),("BadText",["BadText","CupError"]),("NoDance",["NoDance","CupError"]),("NoRing",["NoRing","CupError"]),("TooHeavy",["TooHeavy","CupError"]),("OtherSizes",["OtherSizes","CupError"]),("NoName",["NoName","CupError"]),("NoRow",["NoRow","CupError"])]
abbrev gkX:List (Str×Str):=[("BadText","row"),("NoDance","word"),("NoDance","at"),("TooHeavy","weight"),("NoName","name")]
def ini(s:Stmt):Stmt:=match s with
 | .ClassDef _ _ _ (b::_) _ _ _ _ _ _ _=>b
 | s=>s
local macro_rules | `(tactic| walk_at "s") => `(tactic| exact ⟨rfl,rfl,rfl,by decide +kernel,rfl,by decide +kernel,by decide +kernel⟩)
abbrev zAl:Stmt:=ini (top 2)
theorem zEq:FnScope ["self","row"] ["self","row"] (defScope zAl):=by walk_at "s"
abbrev fuel_0:Nat:=110
abbrev fuel_1:Nat:=12
abbrev fuel_2:Nat:=110
abbrev fuel_3:Nat:=24
abbrev st_4:Stmt:=top 17
theorem sc_4:FnScope ["_law_script","_law_k","_law_cell","_law_seed"] ["_law_script","_law_k"] (defScope st_4):=by walk_at "s"
def d_4:DS:=dSeq (dSet 2 (dOp addS (dOp mulS (dC (.int 7919)) (jV 1)) (dC (.int 11))))
 (dSeq (dIf (dTest (dOp ltS (jV 1) (dCB lenS (jW (jV 0) qQ)))) (dSet 2 (dOp ixS (jV 0) (jV 1))) (dIf (dTest (dOp gtS (dCB lenS (jW (jV 0) qQ)) (dC (.int 0)))) (dSet 2 (dOp addS (jV 2) (dOp mulS (dOp modS (dOp ixS (jV 0) (dOp modS (jV 1) (dCB lenS (jW (jV 0) qQ)))) (dC (.int 2147483629))) (dC (.int 69623))))) dNext))
 (dSeq (dSet 3 (dOp addS (dOp modS (dOp addS (dOp mulS (dOp modS (jV 2) (dC (.int 2147483629))) (dC (.int 48271))) (dOp mulS (dC (.int 40692)) (jV 1))) (dC (.int 2147483629))) (dC (.int 1))))
 (dRet (dLst (jW (dOp ixS (dLst (jW (dC (.int 0)) (jW (jV 2) qQ))) (dCB intS (jW (dOp geS (jV 2) (dOp powS (dC (.int 10)) (dC (.int 18)))) qQ))) (jW (jV 3) qQ))))))
def F_4:DF:=fnD none 2 4 d_4
theorem ok_4{f:Addr}{fd:An}(Fn:Fun K "_law_box" "_law_box" st_4 f fd)(hm:mg "_law_box"=some (.ref f))(hb:Binds K fd ["_law_script","_law_k"] [])(z_int:mg "int"=none)(z_len:mg "len"=none):FD P wd K mg base (1) "_law_box" none 2 F_4 :=
 fd_of (k:=0) Fn sc_4 hm hb fun cdv A outer s H E M B=>bx_cons (sx_set 2 (ex_add M (zBD jJ (jZ 1)) jJ) (hN:=fun _=>sc_4.nd))
 (bx_cons (sx_if (tx_c cr_lt (jZ 1) (ex_cb M (br_len M) z_len Ay (jQ (jZ 0) jY))) (bx_one (sx_set 2 (ex_ix M (jZ 0) (jZ 1)) (hN:=fun _=>sc_4.nd))) (bx_one (sx_if (tx_c cr_gt (ex_cb M (br_len M) z_len Ay (jQ (jZ 0) jY)) jJ) (bx_one (sx_set 2 (ex_add M (jZ 2) (zBD (zAs (ex_ix M (jZ 0) (zAs (jZ 1) (ex_cb M (br_len M) z_len Ay (jQ (jZ 0) jY)))) jJ) jJ)) (hN:=fun _=>sc_4.nd))) bx_nil)))
 (bx_cons (sx_set 3 (ex_add M (zAs (ex_add M (zBD (zAs (jZ 2) jJ) jJ) (zBD jJ (jZ 1))) jJ) jJ) (hN:=fun _=>sc_4.nd))
 (bx_one (sx_ret (ex_lst (jQ (ex_ix M (ex_lst (jQ jJ (jQ (jZ 2) jY))) (ex_ct M (tr_int) z_int (by decide +kernel) (jQ (ex_c zLt (jZ 2) (zKX jJ jJ)) jY))) (jQ (jZ 3) jY)))))))
def zEI(rec:DF):DE:=dCall none rec [] (jW (jV 0) qQ)
abbrev st_3:Stmt:=top 21
theorem sc_3:FnScope ["_law_saying_here"] ["_law_saying_here"] (defScope st_3):=by walk_at "s"
def d_3(rec:DF):DS:=dSeq (dIf (dTest (dOp eqS (dOp ixS (jV 0) (dC (.int 0))) (dC (.str "ask")))) (dRet (dOp addS (dC (.str "q")) (dCB strS (jW (dOp ixS (jV 0) (dC (.int 1))) qQ)))) dNext)
 (dSeq (dIf (dTest (dOp eqS (dCB lenS (jW (jV 0) qQ)) (dC (.int 1)))) (dRet (dOp ixS (jV 0) (dC (.int 0)))) dNext)
 (dRet (dOp addS (dOp addS (dC (.str "(")) (dSM joinS (dC (.str " ")) (jW (dOp addS (dLst (jW (dOp ixS (jV 0) (dC (.int 0))) qQ)) (dComp none [none] (dSeqI (dSl (jV 0) (dPart (dC (.int 1))) dNoPart)) (gdName 0) dYes ((zEI rec)))) qQ))) (dC (.str ")")))))
def F_3:Nat->DF
 | 0=>fun _=>none
 | n+1=>fnD none 1 1 (d_3 (F_3 n))
theorem ok_3{f:Addr}{fd:An}(Fn:Fun K "_law_saying_text" "_law_saying_text" st_3 f fd)(hm:mg "_law_saying_text"=some (.ref f))(hb:Binds K fd ["_law_saying_here"] [])(z_len:mg "len"=none)(z_str:mg "str"=none)(n:Nat):FD P wd K mg base (0+n) "_law_saying_text" none 1 (F_3 n):=by
 induction n with
 | zero=>exact fd_zero Fn hm hb rfl
 | succ n ih =>
  have Drec:=ih
  exact fd_of (k:=0+n) Fn sc_3 hm hb fun cdv A outer s H E M B=>bx_cons (sx_if (tx_c (cr_eq M) (ex_ix M (jZ 0) jJ) ex_str) (bx_one (sx_ret (ex_add M ex_str (ex_ct M (zKb) z_str boot_str (jQ (ex_ix M (jZ 0) jJ) jY))))) bx_nil)   (bx_cons (sx_if (tx_c (cr_eq M) (ex_cb M (br_len M) z_len Ay (jQ (jZ 0) jY)) jJ) (bx_one (sx_ret (ex_ix M (jZ 0) jJ))) bx_nil)   (bx_one (sx_ret (ex_add M (ex_add M ex_str (ex_sm M C6 C7 (fun _=>mt_join) sims_join ex_str (jQ (ex_add M (ex_lst (jQ (ex_ix M (jZ 0) jJ) jY)) (ex_comp none (N':=["_law_one"]) (ix:=[none]) M (fun _=>⟨rfl,by kernel_rfl⟩) (ix_seq' M (ex_sl M (jZ 0) (ox_some jJ) ox_none)) (gx_name 0 (hN:=fun _=>(by show (["_law_one"]:List Str).Nodup; decide +kernel))) qx_nil (ex_call M.comp B.comp Drec (jQ (jZ 0) jY)) (hix:=hix0))) jY))) ex_str))))
abbrev st_5:Stmt:=top 18
theorem sc_5:FnScope ["_law_box_here","_law_wide","_law_digit","_law_one"] ["_law_box_here","_law_wide"] (defScope st_5):=by walk_at "s"
def d_5:DS:=dSeq (dIf (dTest (dOp gtS (dOp ixS (jV 0) (dC (.int 0))) (dC (.int 0)))) (dSeq (dSet 2 (dOp modS (dOp ixS (jV 0) (dC (.int 0))) (jV 1)))
 (dSeq (dSetIx 0 (dOp fdivS (dOp ixS (jV 0) (dC (.int 0))) (jV 1)) (dC (.int 0)))
 (dRet (jV 2)))) dNext)
 (dSeq (dSet 3 (dOp modS (dOp mulS (dOp ixS (jV 0) (dC (.int 1))) (dC (.int 69623))) (dC (.int 2147483647))))
 (dSeq (dSetIx 0 (dOp addS (dOp modS (dOp addS (dOp mulS (jV 3) (dC (.int 48271))) (dC (.int 30103))) (dC (.int 2147483629))) (dC (.int 1))) (dC (.int 1)))
 (dRet (dOp modS (dOp fdivS (dOp addS (dOp mulS (jV 3) (dC (.int 2147483647))) (dOp ixS (jV 0) (dC (.int 1)))) (dC (.int 8191))) (jV 1)))))
def F_5:DF:=fnD (some 0) 2 4 d_5
theorem ok_5{f:Addr}{fd:An}(Fn:Fun K "_law_take" "_law_take" st_5 f fd)(hm:mg "_law_take"=some (.ref f))(hb:Binds K fd ["_law_box_here","_law_wide"] []) :FD P wd K mg base (1) "_law_take" (some 0) 2 F_5 :=
 fd_of (k:=0) Fn sc_5 hm hb fun cdv A outer s H E M B=>bx_cons (sx_if (tx_c cr_gt (ex_ix M (jZ 0) jJ) jJ) (bx_cons (sx_set 2 (zAs (ex_ix M (jZ 0) jJ) (jZ 1)) (hN:=fun _=>sc_5.nd))
 (bx_cons (sx_setIx 0 (zFN (ex_ix M (jZ 0) jJ) (jZ 1)) (pv' 0) jJ)
 (bx_one (sx_ret (jZ 2))))) bx_nil)
 (bx_cons (sx_set 3 (zAs (zBD (ex_ix M (jZ 0) jJ) jJ) jJ) (hN:=fun _=>sc_5.nd))
 (bx_cons (sx_setIx 0 (ex_add M (zAs (ex_add M (zBD (jZ 3) jJ) jJ) jJ) jJ) (pv' 0) jJ)
 (bx_one (sx_ret (zAs (zFN (ex_add M (zBD (jZ 3) jJ) (ex_ix M (jZ 0) jJ)) jJ) (jZ 1))))))
abbrev st_1:Stmt:=top 20
theorem sc_1:FnScope ["_law_box_here","_law_questions","_law_room","_law_down","_law_form","_law_first","_law_one","_law_second","_law_other","_law_head"] ["_law_box_here","_law_questions","_law_room","_law_down"] (defScope st_1):=by walk_at "s"
def d_1(rec:DF):DS:=dSeq (dSet 4 (dCall (some 0) F_5 [] (jW (jV 0) (jW (dC (.int 10)) qQ))))
 (dSeq (dIf (dOr (dTest (dOp ltS (jV 2) (dC (.int 2)))) (dOr (dTest (dOp ltS (jV 3) (dC (.int 2)))) (dTest (dOp eqS (jV 4) (dC (.int 0)))))) (dRet (dOp ixS (dLst (jW (dTup (jW (dC (.str "ask")) (jW (dCall (some 0) F_5 [] (jW (jV 0) (jW (jV 1) qQ))) qQ))) (jW (dTup (jW (dC (.str "yes")) qQ)) (jW (dTup (jW (dC (.str "no")) qQ)) qQ)))) (dCB max2S (jW (dC (.int 0)) (jW (dOp subS (dCall (some 0) F_5 [] (jW (jV 0) (jW (dC (.int 8)) qQ))) (dC (.int 5))) qQ))))) dNext)
 (dSeq (dIf (dOr (dTest (dOp ltS (jV 4) (dC (.int 3)))) (dTest (dOp ltS (jV 2) (dC (.int 3))))) (dRet (dTup (jW (dC (.str "not")) (jW (dCall (some 0) rec [] (jW (jV 0) (jW (jV 1) (jW (dOp subS (jV 2) (dC (.int 1))) (jW (dOp subS (jV 3) (dC (.int 1))) qQ))))) qQ)))) dNext)
 (dSeq (dSet 5 (dOp addS (dC (.int 1)) (dCall (some 0) F_5 [] (jW (jV 0) (jW (dOp subS (jV 2) (dC (.int 2))) qQ)))))
 (dSeq (dSet 6 (dCall (some 0) rec [] (jW (jV 0) (jW (jV 1) (jW (jV 5) (jW (dOp subS (jV 3) (dC (.int 1))) qQ))))))
 (dSeq (dIf (dAnd (dTest (dOp eqS (jV 4) (dC (.int 9)))) (dAnd (dTest (dOp gtS (jV 2) (dC (.int 3)))) (dTest (dOp ltS (jV 5) (dOp subS (jV 2) (dC (.int 2))))))) (dSeq (dSet 7 (dOp addS (dC (.int 1)) (dCall (some 0) F_5 [] (jW (jV 0) (jW (dOp subS (dOp subS (jV 2) (dC (.int 2))) (jV 5)) qQ)))))
 (dSeq (dSet 8 (dCall (some 0) rec [] (jW (jV 0) (jW (jV 1) (jW (jV 7) (jW (dOp subS (jV 3) (dC (.int 1))) qQ))))))
 (dRet (dTup (jW (dC (.str "most")) (jW (jV 6) (jW (jV 8) (jW (dCall (some 0) rec [] (jW (jV 0) (jW (jV 1) (jW (dOp subS (dOp subS (dOp subS (jV 2) (dC (.int 1))) (jV 5)) (jV 7)) (jW (dOp subS (jV 3) (dC (.int 1))) qQ))))) qQ)))))))) dNext)
 (dSeq (dSet 9 (dOp ixS (dLst (jW (dC (.str "and")) (jW (dC (.str "or")) (jW (dC (.str "either")) qQ)))) (dOp modS (jV 4) (dC (.int 3)))))
 (dRet (dTup (jW (jV 9) (jW (jV 6) (jW (dCall (some 0) rec [] (jW (jV 0) (jW (jV 1) (jW (dOp subS (dOp subS (jV 2) (dC (.int 1))) (jV 5)) (jW (dOp subS (jV 3) (dC (.int 1))) qQ))))) qQ)))))))))))
def F_1:Nat->DF
 | 0=>fun _=>none
 | n+1=>fnD (some 0) 4 10 (d_1 (F_1 n))
theorem ok_1{f:Addr}{fd:An}(Fn:Fun K "_law_saying" "_law_saying" st_1 f fd)(hm:mg "_law_saying"=some (.ref f))(hb:Binds K fd ["_law_box_here","_law_questions","_law_room","_law_down"] [])(z_max:mg "max"=none)(D_5:FD P wd K mg base (1) "_law_take" (some 0) 2 F_5)(n:Nat):FD P wd K mg base (1+n) "_law_saying" (some 0) 4 (F_1 n):=by
 induction n with
 | zero=>exact fd_zero Fn hm hb rfl
 | succ n ih =>
  have Drec:=ih
  exact fd_of (k:=1+n) Fn sc_1 hm hb fun cdv A outer s H E M B=>bx_cons (sx_set 4 (ex_call M B D_5 (jQ (jZ 0) (jQ jJ jY))) (hN:=fun _=>sc_1.nd))   (bx_cons (sx_if (tx_w (wx_or (tx_c cr_lt (jZ 2) jJ) (wx_or (tx_c cr_lt (jZ 3) jJ) (wx_or1 (tx_c (cr_eq M) (jZ 4) jJ))))) (bx_one (sx_ret (ex_ix M (ex_lst (jQ (ex_tup (jQ ex_str (jQ (ex_call M B D_5 (jQ (jZ 0) (jQ (jZ 1) jY))) jY))) (jQ (ex_tup (jQ ex_str jY)) (jQ (ex_tup (jQ ex_str jY)) jY)))) (ex_cb M (zJE M) z_max boot_max (jQ jJ (jQ (ex_sub (ex_call M B D_5 (jQ (jZ 0) (jQ jJ jY))) jJ) jY)))))) bx_nil)   (bx_cons (sx_if (tx_w (wx_or (tx_c cr_lt (jZ 4) jJ) (wx_or1 (tx_c cr_lt (jZ 2) jJ)))) (bx_one (sx_ret (ex_tup (jQ ex_str (jQ (ex_call M B Drec (jQ (jZ 0) (jQ (jZ 1) (jQ (ex_sub (jZ 2) jJ) (jQ (ex_sub (jZ 3) jJ) jY))))) jY))))) bx_nil)   (bx_cons (sx_set 5 (ex_add M jJ (ex_call M B D_5 (jQ (jZ 0) (jQ (ex_sub (jZ 2) jJ) jY)))) (hN:=fun _=>sc_1.nd))   (bx_cons (sx_set 6 (ex_call M B Drec (jQ (jZ 0) (jQ (jZ 1) (jQ (jZ 5) (jQ (ex_sub (jZ 3) jJ) jY))))) (hN:=fun _=>sc_1.nd))   (bx_cons (sx_if (tx_w (wx_and (tx_c (cr_eq M) (jZ 4) jJ) (wx_and (tx_c cr_gt (jZ 2) jJ) (wx_and1 (tx_c cr_lt (jZ 5) (ex_sub (jZ 2) jJ)))))) (bx_cons (sx_set 7 (ex_add M jJ (ex_call M B D_5 (jQ (jZ 0) (jQ (ex_sub (ex_sub (jZ 2) jJ) (jZ 5)) jY)))) (hN:=fun _=>sc_1.nd))   (bx_cons (sx_set 8 (ex_call M B Drec (jQ (jZ 0) (jQ (jZ 1) (jQ (jZ 7) (jQ (ex_sub (jZ 3) jJ) jY))))) (hN:=fun _=>sc_1.nd))   (bx_one (sx_ret (ex_tup (jQ ex_str (jQ (jZ 6) (jQ (jZ 8) (jQ (ex_call M B Drec (jQ (jZ 0) (jQ (jZ 1) (jQ (ex_sub (ex_sub (ex_sub (jZ 2) jJ) (jZ 5)) (jZ 7)) (jQ (ex_sub (jZ 3) jJ) jY))))) jY))))))))) bx_nil)   (bx_cons (sx_set 9 (ex_ix M (ex_lst (jQ ex_str (jQ ex_str (jQ ex_str jY)))) (zAs (jZ 4) jJ)) (hN:=fun _=>sc_1.nd))   (bx_one (sx_ret (ex_tup (jQ (jZ 9) (jQ (jZ 6) (jQ (ex_call M B Drec (jQ (jZ 0) (jQ (jZ 1) (jQ (ex_sub (ex_sub (jZ 2) jJ) (jZ 5)) (jQ (ex_sub (jZ 3) jJ) jY))))) jY))))))))))))
abbrev st_6:Stmt:=top 31
theorem sc_6:FnScope ["_law_box_here","_law_some"] ["_law_box_here"] (defScope st_6):=by walk_at "s"
def d_6:DS:=dSeq (dSet 1 (dLst (jW (dC (.str "yes")) (jW (dC (.str "no")) (jW (dC (.str "not")) (jW (dC (.str "and")) (jW (dC (.str "or")) (jW (dC (.str "either")) (jW (dC (.str "most")) (jW (dC (.str "q")) (jW (dC (.str "q0")) (jW (dC (.str "q00")) (jW (dC (.str "q07")) (jW (dC (.str "q999")) (jW (dC (.str "q1000")) (jW (dC (.str "q-1")) (jW (dC (.str "Q1")) qQ)))))))))))))))))
 (dSeq (dSet 1 (dOp addS (jV 1) (dLst (jW (dC (.str "")) (jW (dC (.str "()")) (jW (dC (.str "(yes)")) (jW (dC (.str "(not)")) (jW (dC (.str "(not yes)")) (jW (dC (.str "(and yes)")) (jW (dC (.str "(most q1 q2 q3)")) (jW (dC (.str "q1.")) (jW (dC (.str "yes no")) (jW (dC (.str "(")) (jW (dC (.str ")")) qQ))))))))))))))
 (dSeq (dSet 1 (dOp addS (jV 1) (dLst (jW (dC (.str "1")) (jW (dC (.str "ask")) qQ)))))
 (dRet (dOp ixS (jV 1) (dCall (some 0) F_5 [] (jW (jV 0) (jW (dCB lenS (jW (jV 1) qQ)) qQ)))))))
def F_6:DF:=fnD (some 0) 1 2 d_6
theorem ok_6{f:Addr}{fd:An}(Fn:Fun K "_law_piece" "_law_piece" st_6 f fd)(hm:mg "_law_piece"=some (.ref f))(hb:Binds K fd ["_law_box_here"] [])(z_len:mg "len"=none)(D_5:FD P wd K mg base (1) "_law_take" (some 0) 2 F_5):FD P wd K mg base (2) "_law_piece" (some 0) 1 F_6 :=
 fd_of (k:=1) Fn sc_6 hm hb fun cdv A outer s H E M B=>bx_cons (sx_set 1 (ex_lst (jQ ex_str (jQ ex_str (jQ ex_str (jQ ex_str (jQ ex_str (jQ ex_str (jQ ex_str (jQ ex_str (jQ ex_str (jQ ex_str (jQ ex_str (jQ ex_str (jQ ex_str (jQ ex_str (jQ ex_str jY)))))))))))))))) (hN:=fun _=>sc_6.nd))
 (bx_cons (sx_set 1 (ex_add M (jZ 1) (ex_lst (jQ ex_str (jQ ex_str (jQ ex_str (jQ ex_str (jQ ex_str (jQ ex_str (jQ ex_str (jQ ex_str (jQ ex_str (jQ ex_str (jQ ex_str jY))))))))))))) (hN:=fun _=>sc_6.nd))
 (bx_cons (sx_set 1 (ex_add M (jZ 1) (ex_lst (jQ ex_str (jQ ex_str jY)))) (hN:=fun _=>sc_6.nd))
 (bx_one (sx_ret (ex_ix M (jZ 1) (ex_call M B D_5 (jQ (jZ 0) (jQ (ex_cb M (br_len M) z_len Ay (jQ (jZ 1) jY)) jY))))))))
abbrev st_7:Stmt:=top 22
theorem sc_7:FnScope ["_law_signs_here"] [] (defScope st_7):=by walk_at "s"
def d_7:DS:=dSeq (dSet 0 (dC (.str " !#$&'()*+,-./0123456789:;<=>?@ABCDEFGHIJKLMNOPQRSTUVWXYZ[]^_`abcdefghijklmnopqrstuvwxyz{|}~")))
 (dRet (dOp addS (dOp addS (dOp addS (jV 0) (dC (.str "\""))) (dC (.str "\\"))) (dC (.str "\n"))))
def F_7:DF:=fnD none 0 1 d_7
theorem ok_7{f:Addr}{fd:An}(Fn:Fun K "_law_signs" "_law_signs" st_7 f fd)(hm:mg "_law_signs"=some (.ref f))(hb:Binds K fd [] []) :FD P wd K mg base (1) "_law_signs" none 0 F_7 :=
 fd_of (k:=0) Fn sc_7 hm hb fun cdv A outer s H E M B=>bx_cons (sx_set 0 ex_str (hN:=fun _=>sc_7.nd))
 (bx_one (sx_ret (ex_add M (ex_add M (ex_add M (jZ 0) ex_str) ex_str) ex_str)))
abbrev st_8:Stmt:=top 23
theorem sc_8:FnScope ["_law_box_here","_law_signs_here"] ["_law_box_here"] (defScope st_8):=by walk_at "s"
def d_8:DS:=dSeq (dSet 1 (dCall none F_7 [] qQ))
 (dRet (dOp ixS (jV 1) (dCall (some 0) F_5 [] (jW (jV 0) (jW (dCB lenS (jW (jV 1) qQ)) qQ)))))
def F_8:DF:=fnD (some 0) 1 2 d_8
theorem ok_8{f:Addr}{fd:An}(Fn:Fun K "_law_sign" "_law_sign" st_8 f fd)(hm:mg "_law_sign"=some (.ref f))(hb:Binds K fd ["_law_box_here"] [])(z_len:mg "len"=none)(D_5:FD P wd K mg base (1) "_law_take" (some 0) 2 F_5)(D_7:FD P wd K mg base (1) "_law_signs" none 0 F_7):FD P wd K mg base (2) "_law_sign" (some 0) 1 F_8 :=
 fd_of (k:=1) Fn sc_8 hm hb fun cdv A outer s H E M B=>bx_cons (sx_set 1 (ex_call0 M B D_7) (hN:=fun _=>sc_8.nd))
 (bx_one (sx_ret (ex_ix M (jZ 1) (ex_call M B D_5 (jQ (jZ 0) (jQ (ex_cb M (br_len M) z_len Ay (jQ (jZ 1) jY)) jY))))))
abbrev st_9:Stmt:=top 32
theorem sc_9:FnScope ["_law_box_here","_law_text","_law_at","_law_form","_law_words","_law_spot"] ["_law_box_here","_law_text"] (defScope st_9):=by walk_at "s"
def d_9:DS:=dSeq (dPar2 2 3 (jW (dCall (some 0) F_5 [] (jW (jV 0) (jW (dOp addS (dCB lenS (jW (jV 1) qQ)) (dC (.int 1))) qQ))) (jW (dCall (some 0) F_5 [] (jW (jV 0) (jW (dC (.int 8)) qQ))) qQ)))
 (dSeq (dSet 4 (dSM splitS (jV 1) (jW (dC (.str " ")) qQ)))
 (dSeq (dSet 5 (dCall (some 0) F_5 [] (jW (jV 0) (jW (dCB lenS (jW (jV 4) qQ)) qQ))))
 (dSeq (dIf (dTest (dOp ltS (jV 3) (dC (.int 2)))) (dRet (dOp addS (dSlT (jV 1) dNoPart (dPart (jV 2))) (dSlT (jV 1) (dPart (dOp addS (jV 2) (dC (.int 1)))) dNoPart))) dNext)
 (dSeq (dIf (dTest (dOp eqS (jV 3) (dC (.int 2)))) (dRet (dOp addS (dOp addS (dSlT (jV 1) dNoPart (dPart (jV 2))) (dCall (some 0) F_8 [] (jW (jV 0) qQ))) (dSlT (jV 1) (dPart (jV 2)) dNoPart))) dNext)
 (dSeq (dIf (dTest (dOp eqS (jV 3) (dC (.int 3)))) (dRet (dOp addS (dOp addS (dSlT (jV 1) dNoPart (dPart (jV 2))) (dCall (some 0) F_8 [] (jW (jV 0) qQ))) (dSlT (jV 1) (dPart (dOp addS (jV 2) (dC (.int 1)))) dNoPart))) dNext)
 (dSeq (dIf (dTest (dOp eqS (jV 3) (dC (.int 4)))) (dRet (dOp addS (dOp addS (dSlT (jV 1) dNoPart (dPart (jV 2))) (dOp ixS (dLst (jW (dC (.str " ")) (jW (dC (.str "(")) (jW (dC (.str ")")) (jW (dC (.str "q")) (jW (dC (.str "0")) qQ)))))) (dCall (some 0) F_5 [] (jW (jV 0) (jW (dC (.int 5)) qQ))))) (dSlT (jV 1) (dPart (jV 2)) dNoPart))) dNext)
 (dSeq (dIf (dTest (dOp eqS (jV 3) (dC (.int 5)))) (dRet (dSM joinS (dC (.str " ")) (jW (dOp addS (dSl (jV 4) dNoPart (dPart (jV 5))) (dSl (jV 4) (dPart (dOp addS (jV 5) (dC (.int 1)))) dNoPart)) qQ))) dNext)
 (dSeq (dIf (dTest (dOp eqS (jV 3) (dC (.int 6)))) (dRet (dSM joinS (dC (.str " ")) (jW (dOp addS (dSl (jV 4) dNoPart (dPart (dOp addS (jV 5) (dC (.int 1))))) (dSl (jV 4) (dPart (jV 5)) dNoPart)) qQ))) dNext)
 (dRet (dSM joinS (dC (.str " ")) (jW (dOp addS (dOp addS (dSl (jV 4) dNoPart (dPart (jV 5))) (dLst (jW (dCall (some 0) F_6 [] (jW (jV 0) qQ)) qQ))) (dSl (jV 4) (dPart (dOp addS (jV 5) (dC (.int 1)))) dNoPart)) qQ)))))))))))
def F_9:DF:=fnD (some 0) 2 6 d_9
theorem ok_9{f:Addr}{fd:An}(Fn:Fun K "_law_otherwise" "_law_otherwise" st_9 f fd)(hm:mg "_law_otherwise"=some (.ref f))(hb:Binds K fd ["_law_box_here","_law_text"] [])(z_len:mg "len"=none)(D_5:FD P wd K mg base (1) "_law_take" (some 0) 2 F_5)(D_6:FD P wd K mg base (2) "_law_piece" (some 0) 1 F_6)(D_8:FD P wd K mg base (2) "_law_sign" (some 0) 1 F_8):FD P wd K mg base (3) "_law_otherwise" (some 0) 2 F_9 :=
 fd_of (k:=2) Fn sc_9 hm hb fun cdv A outer s H E M B=>bx_cons (sx_par 2 3 M (jQ (ex_call M B D_5 (jQ (jZ 0) (jQ (ex_add M (ex_cb M (br_len M) z_len Ay (jQ (jZ 1) jY)) jJ) jY))) (jQ (ex_call M B D_5 (jQ (jZ 0) (jQ jJ jY))) jY)) (hN:=fun _=>sc_9.nd))
 (bx_cons (sx_set 4 (ex_sm M CM GJ (fun _=>mt_split) sims_split (jZ 1) (jQ ex_str jY)) (hN:=fun _=>sc_9.nd))
 (bx_cons (sx_set 5 (ex_call M B D_5 (jQ (jZ 0) (jQ (ex_cb M (br_len M) z_len Ay (jQ (jZ 4) jY)) jY))) (hN:=fun _=>sc_9.nd))
 (bx_cons (sx_if (tx_c cr_lt (jZ 3) jJ) (bx_one (sx_ret (ex_add M (ex_slT (jZ 1) ox_none (ox_some (jZ 2))) (ex_slT (jZ 1) (ox_some (ex_add M (jZ 2) jJ)) ox_none)))) bx_nil)
 (bx_cons (sx_if (tx_c (cr_eq M) (jZ 3) jJ) (bx_one (sx_ret (ex_add M (ex_add M (ex_slT (jZ 1) ox_none (ox_some (jZ 2))) (ex_call M B D_8 (jQ (jZ 0) jY))) (ex_slT (jZ 1) (ox_some (jZ 2)) ox_none)))) bx_nil)
 (bx_cons (sx_if (tx_c (cr_eq M) (jZ 3) jJ) (bx_one (sx_ret (ex_add M (ex_add M (ex_slT (jZ 1) ox_none (ox_some (jZ 2))) (ex_call M B D_8 (jQ (jZ 0) jY))) (ex_slT (jZ 1) (ox_some (ex_add M (jZ 2) jJ)) ox_none)))) bx_nil)
 (bx_cons (sx_if (tx_c (cr_eq M) (jZ 3) jJ) (bx_one (sx_ret (ex_add M (ex_add M (ex_slT (jZ 1) ox_none (ox_some (jZ 2))) (ex_ix M (ex_lst (jQ ex_str (jQ ex_str (jQ ex_str (jQ ex_str (jQ ex_str jY)))))) (ex_call M B D_5 (jQ (jZ 0) (jQ jJ jY))))) (ex_slT (jZ 1) (ox_some (jZ 2)) ox_none)))) bx_nil)
 (bx_cons (sx_if (tx_c (cr_eq M) (jZ 3) jJ) (bx_one (sx_ret (ex_sm M C6 C7 (fun _=>mt_join) sims_join ex_str (jQ (ex_add M (ex_sl M (jZ 4) ox_none (ox_some (jZ 5))) (ex_sl M (jZ 4) (ox_some (ex_add M (jZ 5) jJ)) ox_none)) jY)))) bx_nil)
 (bx_cons (sx_if (tx_c (cr_eq M) (jZ 3) jJ) (bx_one (sx_ret (ex_sm M C6 C7 (fun _=>mt_join) sims_join ex_str (jQ (ex_add M (ex_sl M (jZ 4) ox_none (ox_some (ex_add M (jZ 5) jJ))) (ex_sl M (jZ 4) (ox_some (jZ 5)) ox_none)) jY)))) bx_nil)
 (bx_one (sx_ret (ex_sm M C6 C7 (fun _=>mt_join) sims_join ex_str (jQ (ex_add M (ex_add M (ex_sl M (jZ 4) ox_none (ox_some (jZ 5))) (ex_lst (jQ (ex_call M B D_6 (jQ (jZ 0) jY)) jY))) (ex_sl M (jZ 4) (ox_some (ex_add M (jZ 5) jJ)) ox_none)) jY))))))))))))
def d_0_e1(rec:DF):DE:=dCall none rec [] (jW (jV 0) (jW (jV 1) qQ))
abbrev st_0:Stmt:=top 19
theorem sc_0:FnScope ["_law_found","_law_due_here"] ["_law_found","_law_due_here"] (defScope st_0):=by walk_at "s"
def d_0(rec:DF):DS:=dSeq (dIf (dTru (dCB isiS (jW (jV 1) (jW (dTup (jW (dC (.ty "list")) (jW (dC (.ty "tuple")) qQ))) qQ)))) (dSeq (dIf (dOr (dTest (dOp neS (dCB isiS (jW (jV 0) (jW (dC (.ty "tuple")) qQ))) (dCB isiS (jW (jV 1) (jW (dC (.ty "tuple")) qQ))))) (dTest (dOp neS (dCB isiS (jW (jV 0) (jW (dC (.ty "list")) qQ))) (dCB isiS (jW (jV 1) (jW (dC (.ty "list")) qQ)))))) (dRet (dC (.bl false))) dNext)
 (dRet (dAndV (dOp eqS (dCB lenS (jW (jV 0) qQ)) (dCB lenS (jW (jV 1) qQ))) (dCB allS (jW (dComp none [none,none] (dZip (jW (jV 0) (jW (jV 1) qQ))) (gdTup 2 (gdCons (gdName 0) (gdCons (gdName 1) gdNil))) dYes ((d_0_e1 rec))) qQ))))) dNext)
 (dRet (dAndV (dOp eqS (dCB isiS (jW (jV 0) (jW (dC (.ty "bool")) qQ))) (dCB isiS (jW (jV 1) (jW (dC (.ty "bool")) qQ)))) (dOp eqS (jV 0) (jV 1))))
def F_0:Nat->DF
 | 0=>fun _=>none
 | n+1=>fnD none 2 2 (d_0 (F_0 n))
theorem ok_0{f:Addr}{fd:An}(Fn:Fun K "_law_alike" "_law_alike" st_0 f fd)(hm:mg "_law_alike"=some (.ref f))(hb:Binds K fd ["_law_found","_law_due_here"] [])(z_all:mg "all"=none)(z_bool:mg "bool"=none)(z_isinstance:mg "isinstance"=none)(z_len:mg "len"=none)(z_list:mg "list"=none)(z_tuple:mg "tuple"=none)(z_zip:mg "zip"=none)(n:Nat):FD P wd K mg base (0+n) "_law_alike" none 2 (F_0 n):=by
 induction n with
 | zero=>exact fd_zero Fn hm hb rfl
 | succ n ih =>
  have Drec:=ih
  exact fd_of (k:=0+n) Fn sc_0 hm hb fun cdv A outer s H E M B=>bx_cons (sx_if (tx_v M (ex_cb M (br_isi M) z_isinstance boot_isinstance (jQ (jZ 1) (jQ (ex_tup (jQ (ex_ty M z_list boot_list) (jQ (ex_ty M z_tuple Fj) jY))) jY)))) (bx_cons (sx_if (tx_w (wx_or (tx_c (cr_ne M) (ex_cb M (br_isi M) z_isinstance boot_isinstance (jQ (jZ 0) (jQ (ex_ty M z_tuple Fj) jY))) (ex_cb M (br_isi M) z_isinstance boot_isinstance (jQ (jZ 1) (jQ (ex_ty M z_tuple Fj) jY)))) (wx_or1 (tx_c (cr_ne M) (ex_cb M (br_isi M) z_isinstance boot_isinstance (jQ (jZ 0) (jQ (ex_ty M z_list boot_list) jY))) (ex_cb M (br_isi M) z_isinstance boot_isinstance (jQ (jZ 1) (jQ (ex_ty M z_list boot_list) jY))))))) (bx_one (sx_ret ex_bl)) bx_nil)   (bx_one (sx_ret (ex_and (ex_c (cr_eq M) (ex_cb M (br_len M) z_len Ay (jQ (jZ 0) jY)) (ex_cb M (br_len M) z_len Ay (jQ (jZ 1) jY))) (ex_one (ex_cb M (br_all M) z_all boot_all (jQ (ex_comp none (N':=["_law_one","_law_other"]) (ix:=[none,none]) M (fun _=>⟨rfl,by kernel_rfl⟩) (ix_zip M z_zip (jQ (jZ 0) (jQ (jZ 1) jY))) (gx_tup 2 M.comp (gxs_cons (gx_name 0 (hN:=fun _=>(by show (["_law_one","_law_other"]:List Str).Nodup; decide +kernel))) (gxs_cons (gx_name 1 (hN:=fun _=>(by show (["_law_one","_law_other"]:List Str).Nodup; decide +kernel))) gxs_nil))) qx_nil (ex_call M.comp B.comp Drec (jQ (jZ 0) (jQ (jZ 1) jY))) (hix:=hix0)) jY))))))) bx_nil)   (bx_one (sx_ret (ex_and (ex_c (cr_eq M) (ex_cb M (br_isi M) z_isinstance boot_isinstance (jQ (jZ 0) (jQ (ex_ty M z_bool JV) jY))) (ex_cb M (br_isi M) z_isinstance boot_isinstance (jQ (jZ 1) (jQ (ex_ty M z_bool JV) jY)))) (ex_one (ex_c (cr_eq M) (jZ 0) (jZ 1))))))
abbrev st_10:Stmt:=top 13
theorem sc_10:FnScope ["word"] ["word"] (defScope st_10):=by walk_at "s"
def d_10:DS:=dSeq (dIf (dTest (dKtIn true c_INSIDE (jV 0))) (dRaiseX "BadText" ["row"] (jW (dC (.int 0)) qQ)) dNext)
 (dN (dRet (dLst (jW (jV 0) qQ))))
def F_10:DF:=fnD none 1 1 d_10
theorem ok_10{f:Addr}{fd:An}(Fn:Fun K "read_opened" "read_opened" st_10 f fd)(hm:mg "read_opened"=some (.ref f))(hb:Binds K fd ["word"] [])(k_INSIDE:KTN wd K mg "INSIDE" c_INSIDE)(x_BadText:XC P wd K mg base 1 "BadText" ["row"]):FX P wd K mg base (3) "read_opened" 1 F_10 :=
 fx_of (k:=2) Fn sc_10 hm hb fun cdv A outer s H E M B=>bxx_cons (sxx_if (tx_ktNotIn M B k_INSIDE (jZ 0)) (bxx_one (sxx_raise M x_BadText (jQ jJ jY))) (bxx_nil))
 (bxx_one (sxx_plain (sx_ret (ex_lst (jQ (jZ 0) jY)))))
def d_11_e1:DE:=dOp inXS (jV 0) (dC (.str "0123456789"))
abbrev st_11:Stmt:=top 11
theorem sc_11:FnScope ["figures"] ["figures"] (defScope st_11):=by walk_at "s"
def d_11:DS:=dSeq (dIf (dOr (dTest (dOp gtS (dCB lenS (jW (jV 0) qQ)) (dC (.int 3)))) (dAnd (dTest (dOp gtS (dCB lenS (jW (jV 0) qQ)) (dC (.int 1)))) (dTest (dOp eqS (dOp ixS (jV 0) (dC (.int 0))) (dC (.str "0")))))) (dRet (dC (.bl false))) dNext)
 (dRet (dAndV (dOp neS (jV 0) (dC (.str ""))) (dCB allS (jW (dComp none [none] (dStrI (jV 0)) (gdName 0) dYes (d_11_e1)) qQ))))
def F_11:DF:=fnD none 1 1 d_11
theorem ok_11{f:Addr}{fd:An}(Fn:Fun K "is_number" "is_number" st_11 f fd)(hm:mg "is_number"=some (.ref f))(hb:Binds K fd ["figures"] [])(z_all:mg "all"=none)(z_len:mg "len"=none):FD P wd K mg base (1) "is_number" none 1 F_11 :=
 fd_of (k:=0) Fn sc_11 hm hb fun cdv A outer s H E M B=>bx_cons (sx_if (tx_w (wx_or (tx_c cr_gt (ex_cb M (br_len M) z_len Ay (jQ (jZ 0) jY)) jJ) (wx_or1 (tx_w (wx_and (tx_c cr_gt (ex_cb M (br_len M) z_len Ay (jQ (jZ 0) jY)) jJ) (wx_and1 (tx_c (cr_eq M) (ex_ix M (jZ 0) jJ) ex_str))))))) (bx_one (sx_ret ex_bl)) bx_nil)
 (bx_one (sx_ret (ex_and (ex_c (cr_ne M) (jZ 0) ex_str) (ex_one (ex_cb M (br_all M) z_all boot_all (jQ (ex_comp none (N':=["sign"]) (ix:=[none]) M (fun _=>⟨rfl,by kernel_rfl⟩) (ix_str' M (jZ 0)) (gx_name 0 (hN:=fun _=>(by show (["sign"]:List Str).Nodup; decide +kernel))) qx_nil (ex_c cr_inX (jZ 0) ex_str) (hix:=hix0)) jY))))))
abbrev st_12:Stmt:=top 12
theorem sc_12:FnScope ["word"] ["word"] (defScope st_12):=by walk_at "s"
def d_12:DS:=dSeq (dN (dIf (dTest (dOp (inS false) (jV 0) (dTup (jW (dC (.str "yes")) (jW (dC (.str "no")) qQ))))) (dRet (dTup (jW (jV 0) qQ))) dNext))
 (dSeq (dN (dIf (dAnd (dTru (dSM startswithS (jV 0) (jW (dC (.str "q")) qQ))) (dTru (dCall none F_11 [] (jW (dSlT (jV 0) (dPart (dC (.int 1))) dNoPart) qQ)))) (dRet (dTup (jW (dC (.str "ask")) (jW (dCB intNS (jW (dSlT (jV 0) (dPart (dC (.int 1))) dNoPart) qQ)) qQ)))) dNext))
 (dRaiseX "BadText" ["row"] (jW (dC (.int 0)) qQ)))
def F_12:DF:=fnD none 1 1 d_12
theorem ok_12{f:Addr}{fd:An}(Fn:Fun K "read_bare" "read_bare" st_12 f fd)(hm:mg "read_bare"=some (.ref f))(hb:Binds K fd ["word"] [])(z_int:mg "int"=none)(D_11:FD P wd K mg base (1) "is_number" none 1 F_11)(x_BadText:XC P wd K mg base 1 "BadText" ["row"]):FX P wd K mg base (3) "read_bare" 1 F_12 :=
 fx_of (k:=2) Fn sc_12 hm hb fun cdv A outer s H E M B=>bxx_cons (sxx_plain (sx_if (tx_c (cr_in M) (jZ 0) (ex_tup (jQ ex_str (jQ ex_str jY)))) (bx_one (sx_ret (ex_tup (jQ (jZ 0) jY)))) bx_nil))
 (bxx_cons (sxx_plain (sx_if (tx_w (wx_and (tx_v M (ex_sm M FW FY (fun _=>mt_startswith) sims_startswith (jZ 0) (jQ ex_str jY))) (wx_and1 (tx_v M (ex_call M B D_11 (jQ (ex_slT (jZ 0) (ox_some jJ) ox_none) jY)))))) (bx_one (sx_ret (ex_tup (jQ ex_str (jQ (ex_ct M (tr_intN) z_int (by decide +kernel) (jQ (ex_slT (jZ 0) (ox_some jJ) ox_none) jY)) jY))))) bx_nil))
 (bxx_one (sxx_raise M x_BadText (jQ jJ jY))))
abbrev st_13:Stmt:=top 14
theorem sc_13:FnScope ["rows","row"] ["rows"] (defScope st_13):=by walk_at "s"
theorem ok_13{f:Addr}{fd:An}(Fn:Fun K "close_last" "close_last" st_13 f fd)(hm:mg "close_last"=some (.ref f))(hb:Binds K fd ["rows"] [])(z_len:mg "len"=none)(z_tuple:mg "tuple"=none)(k_INSIDE:KTN wd K mg "INSIDE" c_INSIDE)(x_BadText:XC P wd K mg base 1 "BadText" ["row"]):FCl P wd K mg base (3) "close_last" c_INSIDE:=by
 refine⟨⟨f,fd,["rows"],?_,hm,Fn.kp,hb⟩⟩
 obtain⟨oc,od,kV,doc,pm,an,cdv,ct,osl,rfl,lk,hcd⟩:=Fn.ex
 refine fn_of (k:=2) lk hcd sc_13 (fun vs H Q E h=>by obtain⟨_,_,_,rfl,_⟩:=h; rfl) fun A outer s H vs Q E hr h=>?_
 have M:Fm K mg 2 (cxR P wd K mg base ["rows","row"] "close_last" (defScope st_13) f cdv A outer s H E):=⟨fun _=>rfl,fun _=>rfl,fun _=>rfl,fun _=>hr⟩
 have B:Fb P wd base (cxR P wd K mg base ["rows","row"] "close_last" (defScope st_13) f cdv A outer s H E):=⟨fun _=>rfl,fun _=>rfl,fun _=>rfl⟩
 exact close_body M (ps_set sc_13.nd rfl (CO rfl) (pe_bm0 Dz PySem.F.slot_list_pop PySem.F.type_list_pop mt_pop (pe_var rfl (CO rfl)))) (pt_cmpR op_eq (pe_callB call_len_seq rfl z_len Ay (pa_cons (pe_var rfl (CO rfl)) pa_nil)) pe_int rfl) (tx_c (cr_ne M) (ex_cb M (br_len M) z_len Ay (jQ (jZ 1) jY)) (ex_add M jJ (ex_kt c_INSIDE M B k_INSIDE.v (ex_ix M (jZ 1) jJ)))) (bxx_one (sxx_raise M x_BadText (jQ jJ jY))) (ex_ct M (tr_tuple M) z_tuple Fj (jQ (jZ 1) jY)) (fun t4 p4=>ps_expr (pe_app (pe_ix ix_list (pe_var rfl (CO rfl)) (pe_un un_neg pe_int) (fun _ _=>rfl)) p4)) h
abbrev st_14:Stmt:=top 15
theorem sc_14:FnScope ["text","rows","word","bare","bracket"] ["text"] (defScope st_14):=by walk_at "s"
def F_14:DF:=readF c_INSIDE F_10 F_12
theorem ok_14{f:Addr}{fd:An}(Fn:Fun K "read_saying" "read_saying" st_14 f fd)(hm:mg "read_saying"=some (.ref f))(hb:Binds K fd ["text"] [])(z_len:mg "len"=none)(x_BadText:XC P wd K mg base 1 "BadText" ["row"])(X_p_read_opened:FX P wd K mg base (3) "read_opened" 1 F_10)(X_p_read_bare:FX P wd K mg base (3) "read_bare" 1 F_12)(X_p_close_last:FCl P wd K mg base (3) "close_last" c_INSIDE):FX P wd K mg base (4) "read_saying" 1 F_14:=by
 refine⟨⟨f,fd,["text"],?_,hm,Fn.kp,hb⟩,readF_len⟩
 obtain⟨fc,fdc,psc,c1,c2,c3,c4⟩:=X_p_close_last.ex
 obtain⟨oc,od,kV,doc,pm,an,cdv,ct,osl,rfl,lk,hcd⟩:=Fn.ex
 refine fn_of (k:=3) lk hcd sc_14 (fun vs H Q E h=>h.1) fun A outer s H vs Q E hr h=>?_
 have M:Fm K mg 3 (cxR P wd K mg base ["text","rows","word","bare","bracket"] "read_saying" (defScope st_14) f cdv A outer s H E):=⟨fun _=>rfl,fun _=>rfl,fun _=>rfl,fun _=>hr⟩
 have B:Fb P wd base (cxR P wd K mg base ["text","rows","word","bare","bracket"] "read_saying" (defScope st_14) f cdv A outer s H E):=⟨fun _=>rfl,fun _=>rfl,fun _=>rfl⟩
 exact read_body rfl (ps_set sc_14.nd rfl (CO rfl) (pe_lst (pa_cons (pe_lst pa_nil) pa_nil))) (ex_sm M CM GJ (fun _=>mt_split) sims_split (jZ 0) (jQ ex_str jY)) (pg_name sc_14.nd rfl (CO rfl)) (tx_v M (ex_sm M FW FY (fun _=>mt_startswith) sims_startswith (jZ 2) (jQ ex_str jY)))
  (exo_call M X_p_read_opened (jQ (ex_slT (jZ 2) (ox_some jJ) ox_none) jY)) (fun te h=>ps_expr (pe_app (pe_var rfl (CO rfl)) h)) (ex_sm M PySem.F.slot_str_rstrip PySem.F.type_str_rstrip (fun _=>mt_rstrip) sims_rstrip (jZ 2) (jQ ex_str jY)) (fun te h=>ps_set sc_14.nd rfl (CO rfl) h) (exo_call M X_p_read_bare (jQ (jZ 3) jY)) (fun te h=>ps_expr (pe_app (pe_ix ix_list (pe_var rfl (CO rfl)) (pe_un un_neg pe_int) (fun _ _=>rfl)) h))
  (ex_slT (jZ 2) (ox_some (ex_cb M (br_len M) z_len Ay (jQ (jZ 3) jY))) ox_none) (pg_name sc_14.nd rfl (CO rfl)) (ps_exprX c1 ((M.room ()).mono (by decide)) rfl c2 c3 c4 (fun E'=>pa_cons (pe_var rfl (CO rfl)) pa_nil) (by decide) rfl rfl rfl)
  (pt_cmpR op_ne (pe_callB call_len_seq rfl z_len Ay (pa_cons (pe_var rfl (CO rfl)) pa_nil)) pe_int rfl) (pt_cmpR op_ne (pe_callB call_len_seq rfl z_len Ay (pa_cons (pe_ix ix_list (pe_var rfl (CO rfl)) pe_int (fun _ _=>rfl)) pa_nil)) pe_int rfl) (bxx_one (sxx_raise M x_BadText (jQ jJ jY))) (ps_ret (pe_ix ix_list (pe_ix ix_list (pe_var rfl (CO rfl)) pe_int (fun _ _=>rfl)) pe_int (fun _ _=>rfl))) (h:=h)
abbrev st_15:Stmt:=top 28
theorem sc_15:FnScope ["_law_e"] ["_law_e"] (defScope st_15):=by walk_at "s"
def d_15:DS:=dSeq (dIf (dOr (dTru (dCB (isXS csX mroX) (jW (jV 0) (jW (dTup (jW (dFn "NoDance") (jW (dFn "NoName") (jW (dFn "NoRing") (jW (dFn "NoRow") (jW (dFn "OtherSizes") (jW (dFn "TooHeavy") qQ))))))) qQ)))) (dNot (dTru (dCB (isXS csX mroX) (jW (jV 0) (jW (dC (.ty "ValueError")) qQ)))))) (dRet (dC (.str "other"))) dNext)
 (dSeq (dIf (dOr (dNot (dTru (dCB (isXS csX mroX) (jW (jV 0) (jW (dFn "BadText") qQ))))) (dTru (dCB isiS (jW (dGetX gkX "row" (jV 0)) (jW (dC (.ty "bool")) qQ))))) (dRet (dC (.str "other"))) dNext)
 (dRet (dGetX gkX "row" (jV 0))))
def F_15:DF:=fnD none 1 1 d_15
theorem ok_15{f:Addr}{fd:An}(Fn:Fun K "_law_bad" "_law_bad" st_15 f fd)(hm:mg "_law_bad"=some (.ref f))(hb:Binds K fd ["_law_e"] [])(z_ValueError:mg "ValueError"=none)(z_XG:XGC K gkX=true)(z_XK:XKC K csX mroX=true)(z_bool:mg "bool"=none)(z_isinstance:mg "isinstance"=none)(n_BadText:NK K mg "BadText")(n_NoDance:NK K mg "NoDance")(n_NoName:NK K mg "NoName")(n_NoRing:NK K mg "NoRing")(n_NoRow:NK K mg "NoRow")(n_OtherSizes:NK K mg "OtherSizes")(n_TooHeavy:NK K mg "TooHeavy"):FH P wd K mg base (1) "_law_bad" none 1 F_15 :=
 fh_of (k:=0) Fn sc_15 hm hb fun cdv A outer s H E M=>bx_cons (sx_if (tx_w (wx_or (tx_vH M (ex_cbH M (br_isXH M z_XK) z_isinstance boot_isinstance (jQ (jZ 0) (jQ (ex_tup (jQ (ex_fnH M n_NoDance) (jQ (ex_fnH M n_NoName) (jQ (ex_fnH M n_NoRing) (jQ (ex_fnH M n_NoRow) (jQ (ex_fnH M n_OtherSizes) (jQ (ex_fnH M n_TooHeavy) jY))))))) jY)))) (wx_or1 (tx_not (tx_vH M (ex_cbH M (br_isXH M z_XK) z_isinstance boot_isinstance (jQ (jZ 0) (jQ (ex_tyH M z_ValueError (by decide +kernel)) jY)))))))) (bx_one (sx_ret ex_str)) bx_nil)
 (bx_cons (sx_if (tx_w (wx_or (tx_not (tx_vH M (ex_cbH M (br_isXH M z_XK) z_isinstance boot_isinstance (jQ (jZ 0) (jQ (ex_fnH M n_BadText) jY))))) (wx_or1 (tx_vH M (ex_cbH M (br_isiH M) z_isinstance boot_isinstance (jQ (ex_getXH M z_XG (jZ 0)) (jQ (ex_tyH M z_bool JV) jY))))))) (bx_one (sx_ret ex_str)) bx_nil)
 (bx_one (sx_ret (ex_getXH M z_XG (jZ 0)))))
abbrev st_16:Stmt:=top 29
theorem sc_16:FnScope ["_law_text","_law_found","_law_e"] ["_law_text"] (defScope st_16):=by walk_at "s"
def d_16:DS:=dSeq (dSet 1 (dTup (jW (dC (.str "none")) qQ)))
 (dSeq (dTryF 1 (dTupX (dConsX (dPl (dC (.str "told"))) (dConsX (dCallX 1 F_14 (jW (jV 0) qQ)) (dNilX)))) ["BadText"] 2 (dSet 1 (dTup (jW (dC (.str "refused")) (jW (dCall none F_15 [] (jW (jV 2) qQ)) qQ)))))
 (dRet (jV 1)))
def F_16:DF:=fnD none 1 3 d_16
theorem ok_16{f:Addr}{fd:An}(Fn:Fun K "_law_told" "_law_told" st_16 f fd)(hm:mg "_law_told"=some (.ref f))(hb:Binds K fd ["_law_text"] [])(D_15:FH P wd K mg base (1) "_law_bad" none 1 F_15)(cat_CupError_BadText:Cat K mg "CupError" "BadText")(X_p_read_saying:FX P wd K mg base (4) "read_saying" 1 F_14)(catx_CupError_p_read_saying:CatX K mg "CupError" ["BadText"]):FD P wd K mg base (5) "_law_told" none 1 F_16 :=
 fd_of (k:=4) Fn sc_16 hm hb fun cdv A outer s H E M B=>bx_cons (sx_set 1 (ex_tup (jQ ex_str jY)) (hN:=fun _=>sc_16.nd))
 (bx_cons (sx_tryF 1 2 M catx_CupError_p_read_saying (exf_tup (axf_cons (exf_plain ex_str) (axf_cons (exf_call M B X_p_read_saying (jQ (jZ 0) jY)) (axf_nil)))) (bx_one (sx_set 1 (ex_tup (jQ ex_str (jQ (ex_callH (M.inn) (B.inn) D_15 (jQ (jZ 2) jY)) jY))) (hN:=fun _=>sc_16.nd))) (hN:=fun _=>sc_16.nd))
 (bx_one (sx_ret (jZ 1))))
def d_17_b1:DS:=dSeq (dSet 2 (dOp subS (dOp addS (jV 2) (dCB intS (jW (dOp eqS (jV 3) (dC (.str "("))) qQ))) (dCB intS (jW (dOp eqS (jV 3) (dC (.str ")"))) qQ))))
 (dIf (dAnd (dTest (dOp eqS (jV 3) (dC (.str " ")))) (dTest (dOp eqS (jV 2) (dC (.int 0))))) (dDrop (dMut 1 hAppend (jW (dC (.str "")) qQ))) (dSetIx 1 (dOp addS (dOp ixS (jV 1) (dUn negS (dC (.int 1)))) (jV 3)) (dUn negS (dC (.int 1)))))
abbrev st_17:Stmt:=top 26
theorem sc_17:FnScope ["_law_text","_law_found","_law_deep","_law_letter"] ["_law_text"] (defScope st_17):=by walk_at "s"
def d_17:DS:=dSeq (dSet 1 (dLst (jW (dC (.str "")) qQ)))
 (dSeq (dSet 2 (dC (.int 0)))
 (dSeq (dFor none (dStrI (jV 0)) (gdName 3) (d_17_b1))
 (dRet (jV 1))))
def F_17:DF:=fnD none 1 4 d_17
theorem ok_17{f:Addr}{fd:An}(Fn:Fun K "_law_pieces" "_law_pieces" st_17 f fd)(hm:mg "_law_pieces"=some (.ref f))(hb:Binds K fd ["_law_text"] [])(z_int:mg "int"=none):FD P wd K mg base (1) "_law_pieces" none 1 F_17 :=
 fd_of (k:=0) Fn sc_17 hm hb fun cdv A outer s H E M B=>bx_cons (sx_set 1 (ex_lst (jQ ex_str jY)) (hN:=fun _=>sc_17.nd))
 (bx_cons (sx_set 2 jJ (hN:=fun _=>sc_17.nd))
 (bx_cons (sx_for M (fun _=>Cu) (ix_str' M (jZ 0)) (gx_name 3 (hN:=fun _=>sc_17.nd)) (bx_cons (sx_set 2 (ex_sub (ex_add M (jZ 2) (ex_ct M (tr_int) z_int (by decide +kernel) (jQ (ex_c (cr_eq M) (jZ 3) ex_str) jY))) (ex_ct M (tr_int) z_int (by decide +kernel) (jQ (ex_c (cr_eq M) (jZ 3) ex_str) jY))) (hN:=fun _=>sc_17.nd))
 (bx_one (sx_if (tx_w (wx_and (tx_c (cr_eq M) (jZ 3) ex_str) (wx_and1 (tx_c (cr_eq M) (jZ 2) jJ)))) (bx_one (sx_expr (ex_mut M Fw Fx (fun _=>mt_append) mut_append (pv' 1) (jQ ex_str jY)))) (bx_one (sx_setIx 1 (ex_add M (ex_ix M (jZ 1) (ex_neg jJ)) (jZ 3)) (pv' 1) (ex_neg jJ)))))))
 (bx_one (sx_ret (jZ 1)))))
def d_18_b1:DS:=dSeq (dSet 2 (dOp subS (dOp addS (jV 2) (dCB intS (jW (dOp eqS (dOp ixS (jV 0) (jV 3)) (dC (.str "("))) qQ))) (dCB intS (jW (dOp eqS (dOp ixS (jV 0) (jV 3)) (dC (.str ")"))) qQ))))
 (dIf (dTest (dOp eqS (jV 2) (dC (.int 0)))) (dRet (jV 3)) dNext)
abbrev st_18:Stmt:=top 25
theorem sc_18:FnScope ["_law_text","_law_at","_law_deep","_law_k"] ["_law_text","_law_at"] (defScope st_18):=by walk_at "s"
def d_18:DS:=dSeq (dSet 2 (dC (.int 0)))
 (dSeq (dFor none (dRng2 (jW (jV 1) (jW (dCB lenS (jW (jV 0) qQ)) qQ))) (gdName 3) (d_18_b1))
 (dRet (dOp subS (dC (.int 0)) (dC (.int 1)))))
def F_18:DF:=fnD none 2 4 d_18
theorem ok_18{f:Addr}{fd:An}(Fn:Fun K "_law_closed" "_law_closed" st_18 f fd)(hm:mg "_law_closed"=some (.ref f))(hb:Binds K fd ["_law_text","_law_at"] [])(z_int:mg "int"=none)(z_len:mg "len"=none)(z_range:mg "range"=none):FD P wd K mg base (1) "_law_closed" none 2 F_18 :=
 fd_of (k:=0) Fn sc_18 hm hb fun cdv A outer s H E M B=>bx_cons (sx_set 2 jJ (hN:=fun _=>sc_18.nd))
 (bx_cons (sx_for M (fun _=>Cu) (ix_rng2 M z_range (jQ (jZ 1) (jQ (ex_cb M (br_len M) z_len Ay (jQ (jZ 0) jY)) jY))) (gx_name 3 (hN:=fun _=>sc_18.nd)) (bx_cons (sx_set 2 (ex_sub (ex_add M (jZ 2) (ex_ct M (tr_int) z_int (by decide +kernel) (jQ (ex_c (cr_eq M) (ex_ix M (jZ 0) (jZ 3)) ex_str) jY))) (ex_ct M (tr_int) z_int (by decide +kernel) (jQ (ex_c (cr_eq M) (ex_ix M (jZ 0) (jZ 3)) ex_str) jY))) (hN:=fun _=>sc_18.nd))
 (bx_one (sx_if (tx_c (cr_eq M) (jZ 2) jJ) (bx_one (sx_ret (jZ 3))) bx_nil))))
 (bx_one (sx_ret (ex_sub jJ jJ))))
def d_19_e1:DE:=dOp inXS (jV 0) (dC (.str "0123456789"))
abbrev st_19:Stmt:=top 24
theorem sc_19:FnScope ["_law_piece_here","_law_figures"] ["_law_piece_here"] (defScope st_19):=by walk_at "s"
def d_19:DS:=dSeq (dSet 1 (dSlT (jV 0) (dPart (dC (.int 1))) dNoPart))
 (dSeq (dIf (dOr (dTest (dOp neS (dSlT (jV 0) dNoPart (dPart (dC (.int 1)))) (dC (.str "q")))) (dOr (dNot (dTest (dChain ltS ltS (dC (.int 0)) (dCB lenS (jW (jV 1) qQ)) (dC (.int 4))))) (dTest (dOp (inS false) (dC (.bl false)) (dComp none [none] (dStrI (jV 1)) (gdName 0) dYes (d_19_e1)))))) (dRet (dOp subS (dC (.int 0)) (dC (.int 1)))) dNext)
 (dSeq (dIf (dAnd (dTest (dOp neS (jV 1) (dC (.str "0")))) (dTest (dOp eqS (dOp ixS (jV 1) (dC (.int 0))) (dC (.str "0"))))) (dRet (dOp subS (dC (.int 0)) (dC (.int 1)))) dNext)
 (dRet (dCB intNS (jW (jV 1) qQ)))))
def F_19:DF:=fnD none 1 2 d_19
theorem ok_19{f:Addr}{fd:An}(Fn:Fun K "_law_question" "_law_question" st_19 f fd)(hm:mg "_law_question"=some (.ref f))(hb:Binds K fd ["_law_piece_here"] [])(z_int:mg "int"=none)(z_len:mg "len"=none):FD P wd K mg base (1) "_law_question" none 1 F_19 :=
 fd_of (k:=0) Fn sc_19 hm hb fun cdv A outer s H E M B=>bx_cons (sx_set 1 (ex_slT (jZ 0) (ox_some jJ) ox_none) (hN:=fun _=>sc_19.nd))
 (bx_cons (sx_if (tx_w (wx_or (tx_c (cr_ne M) (ex_slT (jZ 0) ox_none (ox_some jJ)) ex_str) (wx_or (tx_not (tx_chain cr_lt cr_lt jJ (ex_cb M (br_len M) z_len Ay (jQ (jZ 1) jY)) jJ)) (wx_or1 (tx_c (cr_in M) ex_bl (ex_comp none (N':=["_law_letter"]) (ix:=[none]) M (fun _=>⟨rfl,by kernel_rfl⟩) (ix_str' M (jZ 1)) (gx_name 0 (hN:=fun _=>(by show (["_law_letter"]:List Str).Nodup; decide +kernel))) qx_nil (ex_c cr_inX (jZ 0) ex_str) (hix:=hix0))))))) (bx_one (sx_ret (ex_sub jJ jJ))) bx_nil)
 (bx_cons (sx_if (tx_w (wx_and (tx_c (cr_ne M) (jZ 1) ex_str) (wx_and1 (tx_c (cr_eq M) (ex_ix M (jZ 1) jJ) ex_str)))) (bx_one (sx_ret (ex_sub jJ jJ))) bx_nil)
 (bx_one (sx_ret (ex_ct M (tr_intN) z_int (by decide +kernel) (jQ (jZ 1) jY))))))
def d_2_e1(rec:DF):DE:=dCall none rec [] (jW (jV 0) qQ)
abbrev st_2:Stmt:=top 27
theorem sc_2:FnScope ["_law_text","_law_pieces_here","_law_many","_law_some"] ["_law_text"] (defScope st_2):=by walk_at "s"
def d_2(rec:DF):DS:=dSeq (dIf (dTest (dOp (inS false) (jV 0) (dTup (jW (dC (.str "yes")) (jW (dC (.str "no")) qQ))))) (dRet (dTup (jW (jV 0) qQ))) dNext)
 (dSeq (dIf (dTest (dOp neS (dSlT (jV 0) dNoPart (dPart (dC (.int 1)))) (dC (.str "(")))) (dRet (dOp ixS (dLst (jW (dTup (jW (dC (.str "ask")) (jW (dCall none F_19 [] (jW (jV 0) qQ)) qQ))) (jW (dC .non) qQ))) (dCB intS (jW (dOp ltS (dCall none F_19 [] (jW (jV 0) qQ)) (dC (.int 0))) qQ)))) dNext)
 (dSeq (dIf (dTest (dOp neS (dCall none F_18 [] (jW (jV 0) (jW (dC (.int 0)) qQ))) (dOp subS (dCB lenS (jW (jV 0) qQ)) (dC (.int 1))))) (dRet (dC .non)) dNext)
 (dSeq (dSet 1 (dCall none F_17 [] (jW (dSlT (jV 0) (dPart (dC (.int 1))) (dPart (dUn negS (dC (.int 1))))) qQ)))
 (dSeq (dSet 2 (dDGet2 [] (dDispK [.inr "not",.inr "and",.inr "or",.inr "either",.inr "most"] (jW (dC (.int 2)) (jW (dC (.int 3)) (jW (dC (.int 3)) (jW (dC (.int 3)) (jW (dC (.int 4)) qQ)))))) (dOp ixS (jV 1) (dC (.int 0))) (dC (.int 0))))
 (dSeq (dIf (dTest (dOp neS (dCB lenS (jW (jV 1) qQ)) (jV 2))) (dRet (dC .non)) dNext)
 (dSeq (dSet 3 (dComp none [none] (dSeqI (dSl (jV 1) (dPart (dC (.int 1))) dNoPart)) (gdName 0) dYes ((d_2_e1 rec))))
 (dSeq (dIf (dTest (dOp (inDS false) (dC .non) (jV 3))) (dRet (dC .non)) dNext)
 (dRet (dOp addS (dTup (jW (dOp ixS (jV 1) (dC (.int 0))) qQ)) (dCB tupleS (jW (jV 3) qQ)))))))))))
def F_2:Nat->DF
 | 0=>fun _=>none
 | n+1=>fnD none 1 4 (d_2 (F_2 n))
theorem ok_2{f:Addr}{fd:An}(Fn:Fun K "_law_saying_read" "_law_saying_read" st_2 f fd)(hm:mg "_law_saying_read"=some (.ref f))(hb:Binds K fd ["_law_text"] [])(z_KC:KC K [])(z_int:mg "int"=none)(z_len:mg "len"=none)(z_tuple:mg "tuple"=none)(D_17:FD P wd K mg base (1) "_law_pieces" none 1 F_17)(D_18:FD P wd K mg base (1) "_law_closed" none 2 F_18)(D_19:FD P wd K mg base (1) "_law_question" none 1 F_19)(n:Nat):FD P wd K mg base (1+n) "_law_saying_read" none 1 (F_2 n):=by
 induction n with
 | zero=>exact fd_zero Fn hm hb rfl
 | succ n ih =>
  have Drec:=ih
  exact fd_of (k:=1+n) Fn sc_2 hm hb fun cdv A outer s H E M B=>bx_cons (sx_if (tx_c (cr_in M) (jZ 0) (ex_tup (jQ ex_str (jQ ex_str jY)))) (bx_one (sx_ret (ex_tup (jQ (jZ 0) jY)))) bx_nil)   (bx_cons (sx_if (tx_c (cr_ne M) (ex_slT (jZ 0) ox_none (ox_some jJ)) ex_str) (bx_one (sx_ret (ex_ix M (ex_lst (jQ (ex_tup (jQ ex_str (jQ (ex_call M B D_19 (jQ (jZ 0) jY)) jY))) (jQ ex_non jY))) (ex_ct M (tr_int) z_int (by decide +kernel) (jQ (ex_c cr_lt (ex_call M B D_19 (jQ (jZ 0) jY)) jJ) jY))))) bx_nil)   (bx_cons (sx_if (tx_c (cr_ne M) (ex_call M B D_18 (jQ (jZ 0) (jQ jJ jY))) (ex_sub (ex_cb M (br_len M) z_len Ay (jQ (jZ 0) jY)) jJ)) (bx_one (sx_ret ex_non)) bx_nil)   (bx_cons (sx_set 1 (ex_call M B D_17 (jQ (ex_slT (jZ 0) (ox_some jJ) (ox_some (ex_neg jJ))) jY)) (hN:=fun _=>sc_2.nd))   (bx_cons (sx_set 2 (ex_dget2 M z_KC (ex_dispK (px_str jJ (px_str jJ (px_str jJ (px_str jJ (px_str jJ px_nil)))))) (ex_ix M (jZ 1) jJ) jJ) (hN:=fun _=>sc_2.nd))   (bx_cons (sx_if (tx_c (cr_ne M) (ex_cb M (br_len M) z_len Ay (jQ (jZ 1) jY)) (jZ 2)) (bx_one (sx_ret ex_non)) bx_nil)   (bx_cons (sx_setC 3 none (N':=["_law_piece_here"]) (ix:=[none]) M (fun _=>⟨rfl,by kernel_rfl⟩) (ix_seq' M (ex_sl M (jZ 1) (ox_some jJ) ox_none)) (gx_name 0 (hN:=fun _=>(by show (["_law_piece_here"]:List Str).Nodup; decide +kernel))) qx_nil (ex_call M.comp B.comp Drec (jQ (jZ 0) jY)) (hix:=hix0) (hN:=fun _=>sc_2.nd))   (bx_cons (sx_if (tx_c (cr_inD M) ex_non (jZ 3)) (bx_one (sx_ret ex_non)) bx_nil)   (bx_one (sx_ret (ex_add M (ex_tup (jQ (ex_ix M (jZ 1) jJ) jY)) (ex_ct M (tr_tuple M) z_tuple Fj (jQ (jZ 3) jY))))))))))))
abbrev st_20:Stmt:=top 30
theorem sc_20:FnScope ["_law_text","_law_found"] ["_law_text"] (defScope st_20):=by walk_at "s"
def d_20:DS:=dSeq (dSet 1 (dCall none (F_2 fuel_2) [] (jW (jV 0) qQ)))
 (dSeq (dIf (dTest (dOp (isNoneS false) (jV 1) (dC .non))) (dRet (dTup (jW (dC (.str "refused")) (jW (dC (.int 0)) qQ)))) dNext)
 (dRet (dTup (jW (dC (.str "told")) (jW (jV 1) qQ)))))
def F_20:DF:=fnD none 1 2 d_20
theorem ok_20{f:Addr}{fd:An}(Fn:Fun K "_law_due" "_law_due" st_20 f fd)(hm:mg "_law_due"=some (.ref f))(hb:Binds K fd ["_law_text"] [])(D_2:FD P wd K mg base (111) "_law_saying_read" none 1 (F_2 fuel_2)):FD P wd K mg base (112) "_law_due" none 1 F_20 :=
 fd_of (k:=111) Fn sc_20 hm hb fun cdv A outer s H E M B=>bx_cons (sx_set 1 (ex_call M B D_2 (jQ (jZ 0) jY)) (hN:=fun _=>sc_20.nd))
 (bx_cons (sx_if (tx_c cr_is (jZ 1) ex_non) (bx_one (sx_ret (ex_tup (jQ ex_str (jQ jJ jY))))) bx_nil)
 (bx_one (sx_ret (ex_tup (jQ ex_str (jQ (jZ 1) jY))))))
def d_law_b1:DS:=dIf (dNot (dTru (dCall none (F_0 fuel_0) [] (jW (dCall none F_16 [] (jW (jV 6) qQ)) (jW (dCall none F_20 [] (jW (jV 6) qQ)) qQ))))) (dRet (dC (.bl false))) dNext
def d_law_b2:DS:=dSet 6 (dCall (some 0) F_9 [] (jW (jV 2) (jW (jV 6) qQ)))
def d_law_b3:DS:=dSeq (dSet 6 (jV 3))
 (dSeq (dFor none (dRng1 (jW (dOp addS (dC (.int 1)) (dCall (some 0) F_5 [] (jW (jV 2) (jW (dC (.int 3)) qQ)))) qQ)) (gdName 7) (d_law_b2))
 (dSet 4 (dOp addS (jV 4) (dLst (jW (jV 6) (jW (jV 3) qQ))))))
def d_law_b4:DS:=dSeq (dSet 2 (dCall none F_4 [] (jW (jV 0) (jW (jV 1) qQ))))
 (dSeq (dSet 3 (dCall none (F_3 fuel_3) [] (jW (dCall (some 0) (F_1 fuel_1) [] (jW (jV 2) (jW (dOp ixS (dLst (jW (dC (.int 4)) (jW (dC (.int 1000)) qQ))) (dCall (some 0) F_5 [] (jW (jV 2) (jW (dC (.int 2)) qQ)))) (jW (dC (.int 12)) (jW (dC (.int 5)) qQ))))) qQ)))
 (dSeq (dSet 4 (dLst (jW (jV 3) (jW (dCall (some 0) F_6 [] (jW (jV 2) qQ)) qQ))))
 (dSeq (dFor none (dRng1 (jW (dC (.int 4)) qQ)) (gdName 5) (d_law_b3))
 (dFor none (dSeqI (jV 4)) (gdName 6) (d_law_b1)))))
abbrev st_law:Stmt:=top 33
theorem sc_law:FnScope ["_law_script","_law_k","_law_box_here","_law_good","_law_texts","_law_turn","_law_text","_law_more"] ["_law_script"] (defScope st_law):=by walk_at "s"
def d_law:DS:=dSeq (dFor none (dRng1 (jW (dC (.int 4)) qQ)) (gdName 1) (d_law_b4))
 (dRet (dC (.bl true)))
def F_law:DF:=fnD none 1 8 d_law
theorem ok_law{f:Addr}{fd:An}(Fn:Fun K "law" "law" st_law f fd)(z_range:mg "range"=none)(D_4:FD P wd K mg base (1) "_law_box" none 2 F_4)(D_3:FD P wd K mg base (24) "_law_saying_text" none 1 (F_3 fuel_3))(D_5:FD P wd K mg base (1) "_law_take" (some 0) 2 F_5)(D_1:FD P wd K mg base (13) "_law_saying" (some 0) 4 (F_1 fuel_1))(D_6:FD P wd K mg base (2) "_law_piece" (some 0) 1 F_6)(D_9:FD P wd K mg base (3) "_law_otherwise" (some 0) 2 F_9)(D_0:FD P wd K mg base (110) "_law_alike" none 2 (F_0 fuel_0))(D_16:FD P wd K mg base (5) "_law_told" none 1 F_16)(D_20:FD P wd K mg base (112) "_law_due" none 1 F_20):FnOk P wd K mg base CX0 113 f fd ["_law_script"] (spD K none 1 F_law) :=
 zLl (k:=112) Fn sc_law fun cdv A outer s H E M B=>bx_cons (sx_for M (fun _=>Cu) (zCv M z_range (jQ jJ jY)) (gx_name 1 (hN:=fun _=>sc_law.nd)) (bx_cons (sx_set 2 (ex_call M B D_4 (jQ (jZ 0) (jQ (jZ 1) jY))) (hN:=fun _=>sc_law.nd))
 (bx_cons (sx_set 3 (ex_call M B D_3 (jQ (ex_call M B D_1 (jQ (jZ 2) (jQ (ex_ix M (ex_lst (jQ jJ (jQ jJ jY))) (ex_call M B D_5 (jQ (jZ 2) (jQ jJ jY)))) (jQ jJ (jQ jJ jY))))) jY)) (hN:=fun _=>sc_law.nd))
 (bx_cons (sx_set 4 (ex_lst (jQ (jZ 3) (jQ (ex_call M B D_6 (jQ (jZ 2) jY)) jY))) (hN:=fun _=>sc_law.nd))
 (bx_cons (sx_for M (fun _=>Cu) (zCv M z_range (jQ jJ jY)) (gx_name 5 (hN:=fun _=>sc_law.nd)) (bx_cons (sx_set 6 (jZ 3) (hN:=fun _=>sc_law.nd))
 (bx_cons (sx_for M (fun _=>Cu) (zCv M z_range (jQ (ex_add M jJ (ex_call M B D_5 (jQ (jZ 2) (jQ jJ jY)))) jY)) (gx_name 7 (hN:=fun _=>sc_law.nd)) (bx_one (sx_set 6 (ex_call M B D_9 (jQ (jZ 2) (jQ (jZ 6) jY))) (hN:=fun _=>sc_law.nd))))
 (bx_one (sx_set 4 (ex_add M (jZ 4) (ex_lst (jQ (jZ 6) (jQ (jZ 3) jY)))) (hN:=fun _=>sc_law.nd))))))
 (bx_one (sx_for M (fun _=>Cu) (ix_seq' M (jZ 4)) (gx_name 6 (hN:=fun _=>sc_law.nd)) (bx_one (sx_if (tx_not (tx_v M (ex_call M B D_0 (jQ (ex_call M B D_16 (jQ (jZ 6) jY)) (jQ (ex_call M B D_20 (jQ (jZ 6) jY)) jY))))) (bx_one (sx_ret ex_bl)) bx_nil)))))))))
 (bx_one (sx_ret ex_bl))
end
theorem zKH(a b w:Int)(h0:0 < w)(h1:w < 1073741824):∃ r a' b',0<=r/\r < w/\F_5 [.l [iT a,iT b],.v (iT w)]=some (.v (iT r),[iT a',iT b']):=by
 have h2:CDiv a w:=⟨h0,h1⟩
 by_cases h:0 < a
 ·refine⟨a % w,a / w,b,Fy _ (by omega),FI _ h0,?_⟩
  simp[F_5,fnD,d_5,h,h0,h2,ixN]
 ·refine⟨(b * 69623 % 2147483647 * 2147483647+((b * 69623 % 2147483647 * 48271+30103) % 2147483629+1)) / 8191 % w,a,(b * 69623 % 2147483647 * 48271+30103) % 2147483629+1,Fy _ (by omega),FI _ h0,?_⟩
  simp[F_5,fnD,d_5,h,h0,h2,ixN,CMul,CDiv]
theorem zAP(a b:Int)(w:Nat)(h0:0 < w)(h1:w<=1000000000):∃ (r:Nat) (a' b':Int),r < w/\F_5 [.l [iT a,iT b],.v (iT (w:Int))]=some (.v (iT (r:Int)),[iT a',iT b']):=by
 obtain⟨r,a',b',r0,r1,e⟩:=zKH a b w (by omega) (by omega)
 obtain⟨n,rfl⟩:∃ n:Nat,r=n:=⟨r.toNat,by omega⟩
 exact⟨n,a',b',by omega,e⟩
theorem zKc(ns:List Int)(k:Int)(hk:0<=k)(hk1:k < 1000):∃ a b,F_4 [.k (intsT ns),.v (iT k)]=some (.l [iT a,iT b],[]):=by
 have hl:(intsT ns).length=ns.length:=by simp[intsT]
 have fin:∀ c:Int,∃ a,atI [T.a (V.int 0),T.a (V.int c)] (if (1000000000000000000:Int)<=c then 1 else 0)=some (iT a):=fun c=>by
  split
  ·exact⟨c,rfl⟩
  ·exact⟨0,rfl⟩
 have c1:CMul 7919 k:=.inl ⟨by decide,by decide⟩
 have c2:CMul 40692 k:=.inl ⟨by decide,by decide⟩
 have c3:∀ m:Int,CMul m 69623:=fun m=>.inr ⟨by decide,by decide⟩
 have c4:∀ m:Int,CMul m 48271:=fun m=>.inr ⟨by decide,by decide⟩
 have c5:CPow 10 18:=⟨by decide,by decide,by decide⟩
 by_cases h1:k < ns.length
 ·obtain⟨z,hz⟩:=zEh ns hk h1
  obtain⟨a,ha⟩:=fin z
  refine⟨a,(z % 2147483629 * 48271+40692 * k) % 2147483629+1,?_⟩
  simp[F_4,fnD,d_4,hl,h1,c1,c2,c3,c4,c5,hz,ha,gd,zC1]
 ·by_cases h2:0 < ns.length
  ·obtain⟨z,hz⟩:=zEh ns (i:=k % ns.length) (Fy _ (by omega)) (FI _ (by omega))
   obtain⟨a,ha⟩:=fin (7919 * k+11+z % 2147483629 * 69623)
   refine⟨a,((7919 * k+11+z % 2147483629 * 69623) % 2147483629 * 48271+40692 * k) % 2147483629+1,?_⟩
   simp[F_4,fnD,d_4,hl,h1,h2,c1,c2,c3,c4,c5,hz,ha,gd,zC1]
  ·obtain⟨a,ha⟩:=fin (7919 * k+11)
   refine⟨a,((7919 * k+11) % 2147483629 * 48271+40692 * k) % 2147483629+1,?_⟩
   simp[F_4,fnD,d_4,hl,h1,h2,c1,c2,c3,c4,c5,ha,gd,zC1]
theorem zAp{tg:En->T->Option En}{b:DS}{t:T}{r:List T}{Γ Γ1 Γ2:En}(h1:tg Γ t=some Γ1)(h2:b Γ1=some (.nx Γ2)):forD tg b (t::r) Γ=forD tg b r Γ2:=by
 rw[zDO,h1,AV,h2,AV]
theorem zBa{tg:En->T->Option En}{de:DE}{t t':T}{r ts:List T}{Γ Γ1 Γ2 Γ3:En}(h1:tg Γ t=some Γ1)(h2:de Γ1=some (.v t',Γ2))(h3:compD tg dYes de r Γ2=some (ts,Γ3)):compD tg dYes de (t::r) Γ=some (t'::ts,Γ3):=by
 rw[zCZ,h1,AV,zJj,AV,if_pos rfl,h2,AV,zLO,AV,h3]
 rfl
def Pl:Nat->T->Prop
 | 0,t=>∃ v,t=.a v/\(tyN [] (.v (.a v))).isSome=true
 | n+1,t=>(∃ v,t=.a v/\(tyN [] (.v (.a v))).isSome=true)\/∃ ts:List T,t=.t ts/\ts.length<=10000/\∀ x∈ts,Pl n x
theorem Pl.atom{n:Nat}{v:V}(h:(tyN [] (.v (.a v))).isSome=true):Pl n (.a v):=by
 cases n with
 | zero=>exact⟨v,rfl,h⟩
 | succ n=>exact .inl ⟨v,rfl,h⟩
theorem Pl.int{n:Nat}(i:Int):Pl n (iT i):=Pl.atom rfl
theorem Pl.tup{n:Nat}{ts:List T}(hl:ts.length<=10000)(h:∀ x∈ts,Pl n x):Pl (n+1) (.t ts):=.inr ⟨ts,rfl,hl,h⟩
theorem Pl.succ:∀ {n:Nat} {t:T},Pl n t->Pl (n+1) t
 | 0,_,⟨v,e,h⟩=>.inl ⟨v,e,h⟩
 | n+1,_,.inl h=>.inl h
 | n+1,_,.inr ⟨ts,e,hl,h⟩=>.inr ⟨ts,e,hl,fun x hx=>(h x hx).succ⟩
theorem Pl.mono{m n:Nat}{t:T}(h:Pl m t)(hmn:m<=n):Pl n t:=by
 induction hmn with
 | refl=>exact h
 | step _ ih=>exact ih.succ
theorem zHu(xs:List T):zipT xs xs=xs.map fun x=>.t [x,x]:=by
 unfold zipT
 induction xs with
 | nil=>rfl
 | cons x r ih=>simp[ih]
theorem zCV(rec:DF)(v:V)(h:(tyN [] (.v (.a v))).isSome=true):fnD none 2 2 (d_0 rec) [.v (.a v),.v (.a v)]=some (.v (bT true),[]):=by
 have g2:(2:Nat)<=AC:=by decide
 cases v with
 | int i=>simp[fnD,d_0,gd,g2,isiS,tyN,subLT,subTy]
 | bl b=>simp[fnD,d_0,gd,g2,isiS,tyN,subLT,subTy]
 | str x=>simp[fnD,d_0,gd,g2,isiS,tyN,subLT,subTy]
 | non =>
  have e:∀ Γ,eqS Γ (.v (.a .non)) (.v (.a .non))=some (.v (.a (.bl true))):=fun Γ=>rfl
  simp[fnD,d_0,gd,g2,isiS,tyN,subLT,subTy,e]
 | byt _=>cases h
 | flt _=>cases h
 | ref _=>cases h
 | ty _=>cases h
theorem zEx(rec:DF)(ts:List T)(hl:ts.length<=10000)(h:∀ x∈ts,rec [.v x,.v x]=some (.v (bT true),[])):fnD none 2 2 (d_0 rec) [.v (.t ts),.v (.t ts)]=some (.v (bT true),[]):=by
 have g2:(2:Nat)<=AC:=by decide
 have g3:ts.length<=AC:=zAB (by omega)
 obtain⟨o1,o2,e⟩:=zDT (fun x:T=>x) (fun x=>x) (fun _=>bT true) (de:=d_0_e1 rec) (R:=[]) ts (fun x hx=>by
  have:=h x hx
  simp only[bT]at this
  simp[d_0_e1,this]) none none
 have e':compD (gdTup 2 (gdCons (gdName 0) (gdCons (gdName 1) gdNil))) dYes (d_0_e1 rec) (zipT ts ts) [none,none]=some (AM ts.length (T.a (V.bl true)),[o1,o2]):=by
  rw[zHu,e,List.map_const']
 simp[fnD,d_0,gd,g2,g3,isiS,tyN,subLT,subTy,dZip,e']
theorem zDw:∀ (n:Nat) (t:T),Pl n t->F_0 (n+1) [.v t,.v t]=some (.v (bT true),[])
 | 0,_,⟨v,rfl,h⟩=>zCV _ v h
 | n+1,_,.inl ⟨v,rfl,h⟩=>zCV _ v h
 | n+1,_,.inr ⟨ts,rfl,hl,h⟩=>zEx _ ts hl fun x hx=>zDw n x (h x hx)
theorem alike12(t:T)(h:Pl (fuel_0 - 1) t):F_0 fuel_0 [.v t,.v t]=some (.v (.a (.bl true)),[]):=zDw (fuel_0 - 1) t h
@[simp] theorem zMH:(("yes":Str)="ask")=False:=eq_false (by decide +kernel)
@[simp] theorem zMl:(("no":Str)="ask")=False:=eq_false (by decide +kernel)
@[simp] theorem zL6:(("not":Str)="and")=False:=eq_false (by decide +kernel)
@[simp] theorem zMS:(("not":Str)="or")=False:=eq_false (by decide +kernel)
@[simp] theorem zLV:(("not":Str)="either")=False:=eq_false (by decide +kernel)
@[simp] theorem zL0:(("not":Str)="most")=False:=eq_false (by decide +kernel)
@[simp] theorem zMO:(("and":Str)="not")=False:=eq_false (by decide +kernel)
@[simp] theorem zMZ:(("and":Str)="or")=False:=eq_false (by decide +kernel)
@[simp] theorem zKr:(("and":Str)="either")=False:=eq_false (by decide +kernel)
@[simp] theorem zL3:(("and":Str)="most")=False:=eq_false (by decide +kernel)
@[simp] theorem zMe:(("or":Str)="not")=False:=eq_false (by decide +kernel)
@[simp] theorem zMU:(("or":Str)="and")=False:=eq_false (by decide +kernel)
@[simp] theorem zLf:(("or":Str)="either")=False:=eq_false (by decide +kernel)
@[simp] theorem zMJ:(("or":Str)="most")=False:=eq_false (by decide +kernel)
@[simp] theorem zLT:(("either":Str)="not")=False:=eq_false (by decide +kernel)
@[simp] theorem zKp:(("either":Str)="and")=False:=eq_false (by decide +kernel)
@[simp] theorem zLd:(("either":Str)="or")=False:=eq_false (by decide +kernel)
@[simp] theorem zKT:(("either":Str)="most")=False:=eq_false (by decide +kernel)
@[simp] theorem zL4:(("most":Str)="not")=False:=eq_false (by decide +kernel)
@[simp] theorem zLn:(("most":Str)="and")=False:=eq_false (by decide +kernel)
@[simp] theorem zMG:(("most":Str)="or")=False:=eq_false (by decide +kernel)
@[simp] theorem zKS:(("most":Str)="either")=False:=eq_false (by decide +kernel)
inductive Sy where
 | yes | no | ask (q:Nat) | nt (a:Sy) | an (a b:Sy) | or (a b:Sy) | ei (a b:Sy) | mo (a b c:Sy)
abbrev sT(x:Str):T:=.a (.str x)
def Sy.t:Sy->T
 | .yes=>.t [sT "yes"]
 | .no=>.t [sT "no"]
 | .ask q=>.t [sT "ask",iT q]
 | .nt a=>.t [sT "not",a.t]
 | .an a b=>.t [sT "and",a.t,b.t]
 | .or a b=>.t [sT "or",a.t,b.t]
 | .ei a b=>.t [sT "either",a.t,b.t]
 | .mo a b c=>.t [sT "most",a.t,b.t,c.t]
def Sy.kids:Sy->List Sy
 | .yes=>[]
 | .no=>[]
 | .ask _=>[]
 | .nt a=>[a]
 | .an a b=>[a,b]
 | .or a b=>[a,b]
 | .ei a b=>[a,b]
 | .mo a b c=>[a,b,c]
def Sy.parts:Sy->Nat
 | .yes=>1
 | .no=>1
 | .ask _=>1
 | .nt a=>1+a.parts
 | .an a b=>1+a.parts+b.parts
 | .or a b=>1+a.parts+b.parts
 | .ei a b=>1+a.parts+b.parts
 | .mo a b c=>1+a.parts+b.parts+c.parts
def Sy.down:Sy->Nat
 | .yes=>1
 | .no=>1
 | .ask _=>1
 | .nt a=>1+a.down
 | .an a b=>1+max a.down b.down
 | .or a b=>1+max a.down b.down
 | .ei a b=>1+max a.down b.down
 | .mo a b c=>1+max a.down (max b.down c.down)
def Sy.qs(q:Nat):Sy->Prop
 | .yes=>True
 | .no=>True
 | .ask k=>k < q
 | .nt a=>a.qs q
 | .an a b=>a.qs q/\b.qs q
 | .or a b=>a.qs q/\b.qs q
 | .ei a b=>a.qs q/\b.qs q
 | .mo a b c=>a.qs q/\b.qs q/\c.qs q
theorem Sy.parts_pos:∀ s:Sy,1<=s.parts
 | .yes=>AL _
 | .no=>AL _
 | .ask _=>AL _
 | .nt a=>by simp only[Sy.parts]; omega
 | .an a b=>by simp only[Sy.parts]; omega
 | .or a b=>by simp only[Sy.parts]; omega
 | .ei a b=>by simp only[Sy.parts]; omega
 | .mo a b c=>by simp only[Sy.parts]; omega
theorem Sy.down_pos:∀ s:Sy,1<=s.down
 | .yes=>AL _
 | .no=>AL _
 | .ask _=>AL _
 | .nt a=>by simp only[Sy.down]; omega
 | .an a b=>by simp only[Sy.down]; omega
 | .or a b=>by simp only[Sy.down]; omega
 | .ei a b=>by simp only[Sy.down]; omega
 | .mo a b c=>by simp only[Sy.down]; omega
theorem cut1(x:T)(r:List T):cutT (x::r) (some 1) none=r:=zEX (x::r) 1
theorem zAM{f g:DS}{Γ Γ':En}{r:Option O}(h:f Γ=some (.nx Γ'))(k:g Γ'=r):dSeq f g Γ=r:=by rw[zFV,h]; exact k
theorem zEQ{f g:DS}{Γ Γ':En}{s:S}(h:f Γ=some (.rt s Γ')):dSeq f g Γ=some (.rt s Γ'):=by rw[zFV,h]; rfl
theorem if_t{ta:DT}{f g:DS}{Γ Γ':En}{r:Option O}(h:ta Γ=some (true,Γ'))(k:f Γ'=r):dIf ta f g Γ=r:=by rw[zGn,h]; exact k
theorem if_f{ta:DT}{f g:DS}{Γ Γ':En}{r:Option O}(h:ta Γ=some (false,Γ'))(k:g Γ'=r):dIf ta f g Γ=r:=by rw[zGn,h]; exact k
theorem zCd{np nN:Nat}{g:DS}{gs:List G}{s:S}{xs:List T}{rest:En}{r:G}(hl:gs.length=np)(h:g (gs.map some++AM (nN - np) none)=some (.rt s (some (.l xs)::rest)))(hr:resG (some 0) (some (.l xs)::rest) s=some r):fnD (some 0) np nN g gs=some (r,xs):=by
 unfold fnD
 rw[if_pos hl,h,AV]
 dsimp only
 rw[hr]
 rfl
theorem zGX(q:Nat)(hq0:0 < q)(hq:q<=1000):∀ (n:Nat) (a b:Int) (room down:Nat),1<=n->down<=n->1<=room->room<=1000->∃ (s:Sy) (a' b':Int),s.down<=max 1 down/\s.parts<=room/\s.qs q /\
  F_1 n [.l [iT a,iT b],.v (iT (q:Int)),.v (iT (room:Int)),.v (iT (down:Int))]=some (.v s.t,[iT a',iT b']):=by
 intro n
 induction n with
 | zero=>intro a b room down h; omega
 | succ n ih =>
  intro a b room down _ hd hr hr2
  obtain⟨f,a1,b1,hf,e1⟩:=zAP a b 10 (by decide) (by decide)
  have e1':F_5 [.l [.a (.int a),.a (.int b)],.v (.a (.int 10))]=some (.v (.a (.int (f:Int))),[.a (.int a1),.a (.int b1)]):=e1
  have g1:(1:Nat)<=AC:=by decide
  have g2:(2:Nat)<=AC:=by decide
  have g3:(3:Nat)<=AC:=by decide
  have g4:(4:Nat)<=AC:=by decide
  by_cases leaf:room < 2\/down < 2\/f=0
  ·obtain⟨k,a2,b2,hk,e2⟩:=zAP a1 b1 q hq0 (by omega)
   obtain⟨g,a3,b3,hg,e3⟩:=zAP a2 b2 8 (by decide) (by decide)
   have e3':F_5 [.l [.a (.int a2),.a (.int b2)],.v (.a (.int 8))]=some (.v (.a (.int (g:Int))),[.a (.int a3),.a (.int b3)]):=e3
   simp only[iT]at e2
   have fin:∀ (s:Sy) (i:Nat),(if (g:Int) - 5 > 0 then (g:Int) - 5 else 0)=(i:Int)->[Sy.t (.ask k),Sy.t .yes,Sy.t .no][i]?=some s.t->F_1 (n+1) [.l [iT a,iT b],.v (iT (q:Int)),.v (iT (room:Int)),.v (iT (down:Int))]=some (.v s.t,[iT a3,iT b3]):=fun s i ei es=>by
    refine zCd (nN:=10) (g:=d_1 (F_1 n)) (s:=.v s.t) (rest:=[some (.v (iT (q:Int))),some (.v (iT (room:Int))),some (.v (iT (down:Int))),some (.v (iT (f:Int))),none,none,none,none,none]) rfl ?_ rfl
    unfold d_1
    refine zAM (Γ':=[some (.l [iT a1,iT b1]),some (.v (iT (q:Int))),some (.v (iT (room:Int))),some (.v (iT (down:Int))),some (.v (iT (f:Int))),none,none,none,none,none]) (by simp[e1']) ?_
    refine zEQ (if_t (Γ':=[some (.l [iT a1,iT b1]),some (.v (iT (q:Int))),some (.v (iT (room:Int))),some (.v (iT (down:Int))),some (.v (iT (f:Int))),none,none,none,none,none]) ?_ ?_)
    ·by_cases h1:room < 2
     ·have:(room:Int) < 2:=by omega
      simp[this]
     ·have h1':¬ (room:Int) < 2:=by omega
      by_cases h2:down < 2
      ·have:(down:Int) < 2:=by omega
       simp[this,h1']
      ·have h2':¬ (down:Int) < 2:=by omega
       have:f=0:=by omega
       simp[this,h1',h2']
    ·simp only[Sy.t]at es
     have mx:(if (5:Int) < (g:Int) then (g:Int) - 5 else 0)=(i:Int):=by
      rw[← ei]
      by_cases c:5 < g
      ·rw[if_pos (by omega),if_pos (by omega)]
      ·rw[if_neg (by omega),if_neg (by omega)]
     simp[e2,e3',gd,g1,g2,g3,mx,zAX,es]
   have hm:(1:Nat)<=max 1 down:=Nat.le_max_left _ _
   by_cases c1:g<=5
   ·exact⟨.ask k,a3,b3,hm,hr,hk,fin _ 0 (by rw[if_neg (by omega)]; rfl) rfl⟩
   ·by_cases c2:g=6
    ·subst c2
     exact⟨.yes,a3,b3,hm,hr,trivial,fin _ 1 (by decide) rfl⟩
    ·have:g=7:=by omega
     subst this
     exact⟨.no,a3,b3,hm,hr,trivial,fin _ 2 (by decide) rfl⟩
  ·have l1:¬ room < 2:=fun z=>leaf (.inl z)
   have l2:¬ down < 2:=fun z=>leaf (.inr (.inl z))
   have l3:¬ f=0:=fun z=>leaf (.inr (.inr z))
   have m1:¬ (room:Int) < 2:=by omega
   have m2:¬ (down:Int) < 2:=by omega
   have m3:¬ (f:Int)=0:=by omega
   have d1:(down:Int) - 1=((down - 1:Nat):Int):=by omega
   let Γ1:En:=[some (.l [iT a1,iT b1]),some (.v (iT (q:Int))),some (.v (iT (room:Int))),some (.v (iT (down:Int))),some (.v (iT (f:Int))),none,none,none,none,none]
   by_cases nt:f < 3\/room < 3
   ·obtain⟨s,a2,b2,h1,h2,h3,e2⟩:=ih a1 b1 (room - 1) (down - 1) (by omega) (by omega) (by omega) (by omega)
    have r1:(room:Int) - 1=((room - 1:Nat):Int):=by omega
    refine⟨.nt s,a2,b2,by simp only[Sy.down]; omega,by simp only[Sy.parts]; omega,h3,?_⟩
    simp only[iT]at e2
    refine zCd (nN:=10) (g:=d_1 (F_1 n)) (s:=.v (Sy.t (.nt s))) (rest:=[some (.v (iT (q:Int))),some (.v (iT (room:Int))),some (.v (iT (down:Int))),some (.v (iT (f:Int))),none,none,none,none,none]) rfl ?_ rfl
    unfold d_1
    refine zAM (Γ':=Γ1) (by simp[e1',Γ1]) ?_
    refine zAM (Γ':=Γ1) (if_f (Γ':=Γ1) (by simp[m1,m2,l3,Γ1]) rfl) ?_
    refine zEQ (if_t (Γ':=Γ1) ?_ ?_)
    ·by_cases h:f < 3
     ·have:(f:Int) < 3:=by omega
      simp[this,Γ1]
     ·have h':¬ (f:Int) < 3:=by omega
      have:(room:Int) < 3:=by omega
      simp[this,h',Γ1]
    ·simp only[Sy.t]
     simp[r1,d1,e2,gd,g2,Γ1]
   ·have n1:¬ (f:Int) < 3:=by omega
    have n2:¬ (room:Int) < 3:=by omega
    obtain⟨k1,a2,b2,hk1,e2⟩:=zAP a1 b1 (room - 2) (by omega) (by omega)
    have r2:(room:Int) - 2=((room - 2:Nat):Int):=by omega
    obtain⟨x1,hx1⟩:∃ x1:Nat,x1=1+k1:=⟨1+k1,rfl⟩
    obtain⟨s1,a3,b3,h1,h2,h3,e3⟩:=ih a2 b2 x1 (down - 1) (by omega) (by omega) (by omega) (by omega)
    have c1:(1:Int)+(k1:Int)=(x1:Int):=by omega
    simp only[iT]at e2 e3
    let Γ2:En:=[some (.l [iT a3,iT b3]),some (.v (iT (q:Int))),some (.v (iT (room:Int))),some (.v (iT (down:Int))),some (.v (iT (f:Int))),some (.v (iT (x1:Int))),some (.v s1.t),none,none,none]
    by_cases mo:f=9/\room > 3/\x1 < room - 2
    ·obtain⟨k2,a4,b4,hk2,e4⟩:=zAP a3 b3 (room - 2 - x1) (by omega) (by omega)
     obtain⟨x2,hx2⟩:∃ x2:Nat,x2=1+k2:=⟨1+k2,rfl⟩
     have c2:(1:Int)+(k2:Int)=(x2:Int):=by omega
     obtain⟨s2,a5,b5,u1,u2,u3,e5⟩:=ih a4 b4 x2 (down - 1) (by omega) (by omega) (by omega) (by omega)
     obtain⟨s3,a6,b6,v1,v2,v3,e6⟩:=ih a5 b5 (room - 1 - x1 - x2) (down - 1) (by omega) (by omega) (by omega) (by omega)
     have r3:(room:Int) - 2 - (x1:Int)=((room - 2 - x1:Nat):Int):=by omega
     have r4:(room:Int) - 1 - (x1:Int) - (x2:Int)=((room - 1 - x1 - x2:Nat):Int):=by omega
     refine⟨.mo s1 s2 s3,a6,b6,by simp only[Sy.down]; omega,by simp only[Sy.parts]; omega,⟨h3,u3,v3⟩,?_⟩
     simp only[iT]at e4 e5 e6
     refine zCd (nN:=10) (g:=d_1 (F_1 n)) (s:=.v (Sy.t (.mo s1 s2 s3))) (rest:=[some (.v (iT (q:Int))),some (.v (iT (room:Int))),some (.v (iT (down:Int))),some (.v (iT (f:Int))),some (.v (iT (x1:Int))),some (.v s1.t),some (.v (iT (x2:Int))),some (.v s2.t),none]) rfl ?_ rfl
     unfold d_1
     refine zAM (Γ':=Γ1) (by simp[e1',Γ1]) ?_
     refine zAM (Γ':=Γ1) (if_f (Γ':=Γ1) (by simp[m1,m2,l3,Γ1]) rfl) ?_
     refine zAM (Γ':=Γ1) (if_f (Γ':=Γ1) (by simp[n1,n2,Γ1]) rfl) ?_
     refine zAM (Γ':=[some (.l [iT a2,iT b2]),some (.v (iT (q:Int))),some (.v (iT (room:Int))),some (.v (iT (down:Int))),some (.v (iT (f:Int))),some (.v (iT (x1:Int))),none,none,none,none]) (by simp only[Γ1,iT]; simp[r2,e2,c1]) ?_
     refine zAM (Γ':=Γ2) (by simp only[Γ2,iT]; simp[d1,e3]) ?_
     have q1:(f:Int)=9:=by omega
     have q2:(3:Int) < (room:Int):=by omega
     have q3:(x1:Int) < (room:Int) - 2:=by omega
     refine zEQ (if_t (Γ':=Γ2) (by simp only[Γ2,iT]; simp only[zFR,zEH,zG1,zFG,zI6]; simp[q1,q2,q3]) ?_)
     refine zAM (Γ':=[some (.l [iT a4,iT b4]),some (.v (iT (q:Int))),some (.v (iT (room:Int))),some (.v (iT (down:Int))),some (.v (iT (f:Int))),some (.v (iT (x1:Int))),some (.v s1.t),some (.v (iT (x2:Int))),none,none]) (by simp only[Γ2,iT]; simp[r3,e4,c2]) ?_
     refine zAM (Γ':=[some (.l [iT a5,iT b5]),some (.v (iT (q:Int))),some (.v (iT (room:Int))),some (.v (iT (down:Int))),some (.v (iT (f:Int))),some (.v (iT (x1:Int))),some (.v s1.t),some (.v (iT (x2:Int))),some (.v s2.t),none]) (by simp only[iT]; simp[d1,e5]) ?_
     simp only[Sy.t,iT]
     simp[r4,d1,e6,gd,g4]
    ·obtain⟨s2,a4,b4,u1,u2,u3,e4⟩:=ih a3 b3 (room - 1 - x1) (down - 1) (by omega) (by omega) (by omega) (by omega)
     have r3:(room:Int) - 1 - (x1:Int)=((room - 1 - x1:Nat):Int):=by omega
     simp only[iT]at e4
     have fin:∀ (w:Str) (i:Nat),(f:Int) % 3=(i:Int)->[sT "and",sT "or",sT "either"][i]?=some (sT w)->F_1 (n+1) [.l [iT a,iT b],.v (iT (q:Int)),.v (iT (room:Int)),.v (iT (down:Int))]=some (.v (.t [sT w,s1.t,s2.t]),[iT a4,iT b4]):=fun w i ei es=>by
      refine zCd (nN:=10) (g:=d_1 (F_1 n)) (s:=.v (.t [sT w,s1.t,s2.t])) (rest:=[some (.v (iT (q:Int))),some (.v (iT (room:Int))),some (.v (iT (down:Int))),some (.v (iT (f:Int))),some (.v (iT (x1:Int))),some (.v s1.t),none,none,some (.v (sT w))]) rfl ?_ rfl
      unfold d_1
      refine zAM (Γ':=Γ1) (by simp[e1',Γ1]) ?_
      refine zAM (Γ':=Γ1) (if_f (Γ':=Γ1) (by simp[m1,m2,l3,Γ1]) rfl) ?_
      refine zAM (Γ':=Γ1) (if_f (Γ':=Γ1) (by simp[n1,n2,Γ1]) rfl) ?_
      refine zAM (Γ':=[some (.l [iT a2,iT b2]),some (.v (iT (q:Int))),some (.v (iT (room:Int))),some (.v (iT (down:Int))),some (.v (iT (f:Int))),some (.v (iT (x1:Int))),none,none,none,none]) (by simp only[Γ1,iT]; simp[r2,e2,c1]) ?_
      refine zAM (Γ':=Γ2) (by simp only[Γ2,iT]; simp[d1,e3]) ?_
      refine zAM (Γ':=Γ2) (if_f (Γ':=Γ2) ?_ rfl) ?_
      ·simp only[Γ2,iT]
       by_cases q1:f=9
       ·have q1':(f:Int)=9:=by omega
        by_cases q2:room > 3
        ·have q2':(3:Int) < (room:Int):=by omega
         have q3:¬ (x1:Int) < (room:Int) - 2:=by omega
         simp only[zFR,zEH,zG1,zFG,zI6]
         simp[q1',q2',q3]
        ·have q2':¬ (3:Int) < (room:Int):=by omega
         simp[q1',q2']
       ·have q1':¬ (f:Int)=9:=by omega
        simp[q1']
      ·simp only[Γ2,iT]
       refine zAM (Γ':=[some (.l [iT a3,iT b3]),some (.v (iT (q:Int))),some (.v (iT (room:Int))),some (.v (iT (down:Int))),some (.v (iT (f:Int))),some (.v (iT (x1:Int))),some (.v s1.t),none,none,some (.v (sT w))]) (by simp only[iT]; simp[gd,g3,ei,zAX,es]) ?_
       simp only[iT]
       simp[r3,d1,e4,gd,g3]
     have hf3:f % 3=0\/f % 3=1\/f % 3=2:=by omega
     rcases hf3 with h | h | h
     ·exact⟨.an s1 s2,a4,b4,by simp only[Sy.down]; omega,by simp only[Sy.parts]; omega,⟨h3,u3⟩,fin "and" 0 (by omega) rfl⟩
     ·exact⟨.or s1 s2,a4,b4,by simp only[Sy.down]; omega,by simp only[Sy.parts]; omega,⟨h3,u3⟩,fin "or" 1 (by omega) rfl⟩
     ·exact⟨.ei s1 s2,a4,b4,by simp only[Sy.down]; omega,by simp only[Sy.parts]; omega,⟨h3,u3⟩,fin "either" 2 (by omega) rfl⟩
theorem zHS{c:Nat}:∀ {a a' b b':List Nat},c∉a->c∉a'->a++c::b=a'++c::b'->a=a'/\b=b'
 | [],[],b,b',_,_,h=>⟨rfl,by simpa using h⟩
 | [],y::s,b,b',_,h2,h=>by
  rw[Bo,BS]at h
  exact absurd ((BY h).1 ▸ AE) h2
 | x::r,[],b,b',h1,_,h=>by
  rw[Bo,BS]at h
  exact absurd ((BY h).1 ▸ AE) h1
 | x::r,y::s,b,b',h1,h2,h=>by
  rw[BS,BS]at h
  obtain⟨e,h⟩:=BY h
  obtain⟨e1,e2⟩:=zHS (fun z=>h1 (AG _ z)) (fun z=>h2 (AG _ z)) h
  exact⟨by rw[e,e1],e2⟩
theorem zAD(x y:Str):(x++y).cps.toList=x.cps.toList++y.cps.toList:=by
 show (x.cps++y.cps).toList=_
 simp
theorem zAE{x y:Str}(h:x.cps.toList=y.cps.toList):x=y:=by
 obtain⟨⟨a⟩⟩:=x
 obtain⟨⟨b⟩⟩:=y
 simp only at h
 rw[h]
theorem zAI(c:Nat)(x y:Str)(r:List Str):(BE ⟨#[c]⟩ (x::y::r)).cps.toList=x.cps.toList++c::(BE ⟨#[c]⟩ (y::r)).cps.toList:=by
 show (x++⟨#[c]⟩++BE ⟨#[c]⟩ (y::r)).cps.toList=_
 rw[zAD,zAD]
 simp
theorem zEF{c:Nat}:∀ {ps qs:List Str},ps≠[]->qs≠[]->(∀ p∈ps,c∉p.cps.toList)->(∀ p∈qs,c∉p.cps.toList)->BE ⟨#[c]⟩ ps=BE ⟨#[c]⟩ qs->ps=qs
 | [],_,h,_,_,_,_=>absurd rfl h
 | _,[],_,h,_,_,_=>absurd rfl h
 | [x],[y],_,_,_,_,h=>by rw[show x=y from h]
 | [x],y::z::r,_,_,h1,_,h=>by
  have h':x.cps.toList=_:=congrArg (fun s:Str=>s.cps.toList) h
  rw[zAI]at h'
  exact absurd (h' ▸ Ag _ AE) (h1 x AE)
 | x::w::s,[y],_,_,_,h2,h=>by
  have h':_=y.cps.toList:=congrArg (fun s:Str=>s.cps.toList) h
  rw[zAI]at h'
  exact absurd (h' ▸ Ag _ AE) (h2 y AE)
 | x::w::s,y::z::r,_,_,h1,h2,h=>by
  have h':=congrArg (fun s:Str=>s.cps.toList) h
  rw[zAI,zAI]at h'
  obtain⟨e1,e2⟩:=zHS (h1 x AE) (h2 y AE) h'
  rw[zAE e1,zEF (ps:=w::s) (qs:=z::r) (Ae _ _) (Ae _ _) (fun p hp=>h1 p (AG _ hp)) (fun p hp=>h2 p (AG _ hp)) (zAE e2)]
theorem zF1(c:Nat)(ps:List Str)(hne:ps≠[])(h:∀ p∈ps,c∉p.cps.toList):Ar (DP ⟨#[c]⟩ ps) ⟨#[c]⟩=ps:=by
 rw[show DP ⟨#[c]⟩ ps=BE ⟨#[c]⟩ ps from EK _ _]
 refine zEF (c:=c) (fun z=>?_) hne (StrLaws.split_free _ c) h (CN _ _)
 have e:=CN (BE ⟨#[c]⟩ ps) ⟨#[c]⟩
 rw[z]at e
 rw[← e]at z
 unfold Ar at z
 have cnd:(decide ((BE ⟨#[c]⟩ []).length < (⟨#[c]⟩:Str).length) || decide (B3 (BE ⟨#[c]⟩ []) < B3 ⟨#[c]⟩))=true:=by
  rw[EV]; exact .inl (decide_eq_true (by show 0 < 1; decide))
 rw[if_pos cnd]at z
 cases z
theorem zG2(k:Nat)(h:k < 1000)(Γ:En):strS Γ [.v (.a (.int (k:Int)))]=some (.v (.a (.str (numX k)))):=by
 rw[zGv,if_pos]
 ·rfl
 ·have:(k:Int).natAbs=k:=by omega
  rw[this]
  by_cases z:k=0
  ·rw[z]; decide
  ·exact FN ((Nat.log2_lt z).mpr (FN h (by decide:1000 < 2 ^ 10))) (by decide)
theorem zA9(k:Nat)(h:k < 1000):(numX k).length<=3/\∀ c∈(numX k).cps.toList,48<=c/\c < 58:=(show ∀ k:Fin 1000,(numX k.1).length<=3/\∀ c∈(numX k.1).cps.toList,48<=c/\c < 58 by decide +kernel) ⟨k,h⟩
theorem zEg:∀ ys:List Str,strsOf (strsT ys)=some ys
 | []=>rfl
 | y::r=>by
  show (strsOf (.a (.str y)::strsT r))=_
  rw[zEu,zEg r]; rfl
abbrev jn(ps:List Str):Str:=BE ⟨#[32]⟩ ps
def brS(w:Str)(ps:List Str):Str:="("++jn (w::ps)++")"
def Sy.txt:Sy->Str
 | .yes=>"yes"
 | .no=>"no"
 | .ask q=>"q"++numX q
 | .nt a=>brS "not" [a.txt]
 | .an a b=>brS "and" [a.txt,b.txt]
 | .or a b=>brS "or" [a.txt,b.txt]
 | .ei a b=>brS "either" [a.txt,b.txt]
 | .mo a b c=>brS "most" [a.txt,b.txt,c.txt]
def tot(ps:List Str):Nat:=(ps.map (·.length)).sum+ps.length
theorem zAi(c:Nat):∀ ps:List Str,ps≠[]->(BE ⟨#[c]⟩ ps).length+1=tot ps
 | [],h=>absurd rfl h
 | [x],_=>by show x.length+1=x.length+0+1; omega
 | x::y::r,_=>by
  have ih:=zAi c (y::r) (Ae _ _)
  have e:=congrArg Be (zAI c x y r)
  rw[Am,AW,AN,AN,AN]at e
  have e':(BE ⟨#[c]⟩ (x::y::r)).length=x.length+((BE ⟨#[c]⟩ (y::r)).length+1):=e
  rw[e',ih]
  unfold tot
  simp only[Ah,Cz,AW]
  omega
theorem zA8(w:Str)(ps:List Str):(brS w ps).length=tot (w::ps)+1:=by
 unfold brS jn
 rw[Au,Au]
 have:=zAi 32 (w::ps) (Ae _ _)
 show 1+_+1=_
 omega
theorem Sy.txt_len:∀ {s:Sy},s.qs 1000->s.txt.length<=11 * s.parts
 | .yes,_=>by show 3<=11; decide
 | .no,_=>by show 2<=11; decide
 | .ask q,h=>by
  have:=(zA9 q h).1
  show ("q"++numX q).length<=11
  rw[Au]
  show 1+_<=11
  omega
 | .nt a,h=>by
  have:=Sy.txt_len (s:=a) h
  show (brS "not" [a.txt]).length<=11 * (1+a.parts)
  rw[zA8]
  show 3+(a.txt.length+0)+2+1<=_
  omega
 | .an a b,h=>by
  have:=Sy.txt_len (s:=a) h.1
  have:=Sy.txt_len (s:=b) h.2
  show (brS "and" [a.txt,b.txt]).length<=11 * (1+a.parts+b.parts)
  rw[zA8]
  show 3+(a.txt.length+(b.txt.length+0))+3+1<=_
  omega
 | .or a b,h=>by
  have:=Sy.txt_len (s:=a) h.1
  have:=Sy.txt_len (s:=b) h.2
  show (brS "or" [a.txt,b.txt]).length<=11 * (1+a.parts+b.parts)
  rw[zA8]
  show 2+(a.txt.length+(b.txt.length+0))+3+1<=_
  omega
 | .ei a b,h=>by
  have:=Sy.txt_len (s:=a) h.1
  have:=Sy.txt_len (s:=b) h.2
  show (brS "either" [a.txt,b.txt]).length<=11 * (1+a.parts+b.parts)
  rw[zA8]
  show 6+(a.txt.length+(b.txt.length+0))+3+1<=_
  omega
 | .mo a b c,h=>by
  have:=Sy.txt_len (s:=a) h.1
  have:=Sy.txt_len (s:=b) h.2.1
  have:=Sy.txt_len (s:=c) h.2.2
  show (brS "most" [a.txt,b.txt,c.txt]).length<=11 * (1+a.parts+b.parts+c.parts)
  rw[zA8]
  show 4+(a.txt.length+(b.txt.length+(c.txt.length+0)))+4+1<=_
  omega
theorem zDu(Γ:En)(c:Nat)(ps:List Str)(h:tot ps<=1000000):joinS Γ [.v (.a (.str ⟨#[c]⟩)),.l (strsT ps)]=some (.v (.a (.str (BE ⟨#[c]⟩ ps)))):=by
 show ((strsOf (strsT ps)).bind fun ys=>if (ys.map (·.length)).sum+ys.length * (⟨#[c]⟩:Str).length<=16777216 then some (S.v (.a (.str (DP ⟨#[c]⟩ ys)))) else none)=_
 rw[zEg,AV,if_pos]
 ·rw[show DP ⟨#[c]⟩ ps=BE ⟨#[c]⟩ ps from EK _ _]
 ·unfold tot at h
  show (ps.map (·.length)).sum+ps.length * 1<=16777216
  omega
theorem zI7(w:Str)(ps:List Str)(h:tot (w::ps)<=100000)(Γ:En):joinS Γ [.v (.a (.str " ")),.l (T.a (.str w)::strsT ps)]=some (.v (.a (.str (jn (w::ps)))))/\("(":Str).length+(jn (w::ps)).length<=AC/\("("++jn (w::ps):Str).length+(")":Str).length<=AC:=by
 have j:=zAi 32 (w::ps) (Ae _ _)
 have o1:("(":Str).length=1:=rfl
 have o2:(")":Str).length=1:=rfl
 have jj:(jn (w::ps)).length+1=tot (w::ps):=j
 have k1:("(":Str).length+(jn (w::ps)).length<=100000:=by omega
 have k2:("("++jn (w::ps):Str).length+(")":Str).length<=100000+10:=by rw[Au]; omega
 exact⟨zDu Γ 32 (w::ps) (by omega),zAB k1,As k2 (by decide)⟩
def Sy.wd:Sy->Str
 | .yes=>"yes"
 | .no=>"no"
 | .ask _=>"ask"
 | .nt _=>"not"
 | .an _ _=>"and"
 | .or _ _=>"or"
 | .ei _ _=>"either"
 | .mo _ _ _=>"most"
theorem zIs{s:Sy}(h:s.qs 1000)(hp:s.parts<=1000):tot (s.wd::s.kids.map Sy.txt)<=100000:=by
 cases s with
 | yes=>decide
 | no=>decide
 | ask q=>show 3+0+1<=100000; decide
 | nt a=>have:=Sy.txt_len (s:=a) h; simp only[Sy.parts]at hp; show 3+(a.txt.length+0)+2<=_; omega
 | an a b=>have:=Sy.txt_len (s:=a) h.1; have:=Sy.txt_len (s:=b) h.2; simp only[Sy.parts]at hp; show 3+(a.txt.length+(b.txt.length+0))+3<=_; omega
 | or a b=>have:=Sy.txt_len (s:=a) h.1; have:=Sy.txt_len (s:=b) h.2; simp only[Sy.parts]at hp; show 2+(a.txt.length+(b.txt.length+0))+3<=_; omega
 | ei a b=>have:=Sy.txt_len (s:=a) h.1; have:=Sy.txt_len (s:=b) h.2; simp only[Sy.parts]at hp; show 6+(a.txt.length+(b.txt.length+0))+3<=_; omega
 | mo a b c=>have:=Sy.txt_len (s:=a) h.1; have:=Sy.txt_len (s:=b) h.2.1; have:=Sy.txt_len (s:=c) h.2.2; simp only[Sy.parts]at hp; show 4+(a.txt.length+(b.txt.length+(c.txt.length+0)))+4<=_; omega
theorem zEp(rec:DF):∀ (ks:List Sy) (o:Option G),(∀ k∈ks,rec [.v k.t]=some (.v (sT k.txt),[]))->∃ o',compD (gdName 0) dYes (zEI rec) (ks.map Sy.t) [o]=some (strsT (ks.map Sy.txt),[o'])
 | [],o,_=>⟨o,rfl⟩
 | k::r,o,h=>by
  have e1:=h k AE
  obtain⟨o',e⟩:=zEp rec r (some (.v k.t)) fun x hx=>h x (AG _ hx)
  refine⟨o',?_⟩
  rw[Ah]
  refine zBa (Γ1:=[some (.v k.t)]) rfl ?_ e
  generalize k.t=KT at *
  simp[zEI,e1]
theorem zBv(rec:DF)(w:Str)(ks:List Sy)(ha:w≠"ask")(hk:ks≠[])(hl:ks.length<=3)(ht:tot (w::ks.map Sy.txt)<=100000)(h:∀ k∈ks,rec [.v k.t]=some (.v (sT k.txt),[])):fnD none 1 1 (d_3 rec) [.v (.t (sT w::ks.map Sy.t))]=some (.v (sT (brS w (ks.map Sy.txt))),[]):=by
 obtain⟨o',e⟩:=zEp rec ks none h
 obtain⟨_,g2,g3⟩:=zI7 w (ks.map Sy.txt) ht []
 have j:=fun Γ=>(zI7 w (ks.map Sy.txt) ht Γ).1
 have g1:(1:Nat)<=AC:=by decide
 have gk:(ks.map Sy.t).length<=AC:=zAB (by rw[BA]; omega)
 have gq:(strsT (ks.map Sy.txt)).length<=AC:=zAB (by simp only[strsT,BA]; omega)
 have gq1:1+(strsT (ks.map Sy.txt)).length<=AC:=zAB (by simp only[strsT,BA]; omega)
 have gq2:(strsT (ks.map Sy.txt)).length+1<=AC:=zAB (by simp only[strsT,BA]; omega)
 have n1:¬ (((ks.map Sy.t).length:Int)+1=1):=by
  cases ks with
  | nil=>exact absurd rfl hk
  | cons a r=>simp; omega
 have n2:¬ ((ks.map Sy.t).length=0):=by
  cases ks with
  | nil=>exact absurd rfl hk
  | cons a r=>simp
 have n3:¬ (ks.map Sy.t=[]):=by
  cases ks with
  | nil=>exact absurd rfl hk
  | cons a r=>simp
 unfold brS
 generalize strsT (ks.map Sy.txt)=PS at *
 generalize jn (w::ks.map Sy.txt)=JJ at *
 generalize ks.map Sy.t=KT at *
 simp[fnD,d_3,ha,zDn,cut1,n1,n2,n3,e,-zAg,j,g1,g2,g3,gk,gq,gq1,gq2,gd]
theorem zDU:∀ (n:Nat) (s:Sy),s.down<=n->s.qs 1000->s.parts<=1000->F_3 n [.v s.t]=some (.v (sT s.txt),[])
 | 0,s,h,_,_=>by have:=s.down_pos; omega
 | n+1,s,h,hq,hp=>by
  have ht:=zIs hq hp
  have ih:∀ k:Sy,k.down<=n->k.qs 1000->k.parts<=1000->F_3 n [.v k.t]=some (.v (sT k.txt),[]):=fun k=>zDU n k
  show fnD none 1 1 (d_3 (F_3 n)) [.v s.t]=_
  cases s with
  | yes =>
   show fnD none 1 1 (d_3 (F_3 n)) [.v (.t [sT "yes"])]=some (.v (sT "yes"),[])
   simp[fnD,d_3,zDn]
  | no =>
   show fnD none 1 1 (d_3 (F_3 n)) [.v (.t [sT "no"])]=some (.v (sT "no"),[])
   simp[fnD,d_3,zDn]
  | ask q =>
   have sh:=fun Γ=>zG2 q hq Γ
   have hl:=(zA9 q hq).1
   have i1:atI [sT "ask",iT (q:Int)] 1=some (iT (q:Int)):=rfl
   have g2:("q":Str).length+(numX q).length<=AC:=zAB (by show 1+_<=_; omega)
   show fnD none 1 1 (d_3 (F_3 n)) [.v (.t [sT "ask",iT (q:Int)])]=some (.v (sT ("q"++numX q)),[])
   generalize numX q=NQ at *
   simp only[iT]at *
   simp[fnD,d_3,zDn,i1,sh,-zGv,g2,gd]
  | nt a =>
   simp only[Sy.down,Sy.parts]at h hp
   exact zBv _ "not" [a] (by decide +kernel) (Ae _ _) (by simp) ht fun k hk=>by
    simp only[AF,AK,or_false]at hk
    rw[hk]; exact ih a (by omega) hq (by omega)
  | an a b =>
   simp only[Sy.down,Sy.parts]at h hp
   exact zBv _ "and" [a,b] (by decide +kernel) (Ae _ _) (by simp) ht fun k hk=>by
    simp only[AF,AK,or_false]at hk
    rcases hk with rfl | rfl
    ·exact ih _ (by omega) hq.1 (by omega)
    ·exact ih _ (by omega) hq.2 (by omega)
  | or a b =>
   simp only[Sy.down,Sy.parts]at h hp
   exact zBv _ "or" [a,b] (by decide +kernel) (Ae _ _) (by simp) ht fun k hk=>by
    simp only[AF,AK,or_false]at hk
    rcases hk with rfl | rfl
    ·exact ih _ (by omega) hq.1 (by omega)
    ·exact ih _ (by omega) hq.2 (by omega)
  | ei a b =>
   simp only[Sy.down,Sy.parts]at h hp
   exact zBv _ "either" [a,b] (by decide +kernel) (Ae _ _) (by simp) ht fun k hk=>by
    simp only[AF,AK,or_false]at hk
    rcases hk with rfl | rfl
    ·exact ih _ (by omega) hq.1 (by omega)
    ·exact ih _ (by omega) hq.2 (by omega)
  | mo a b c =>
   simp only[Sy.down,Sy.parts]at h hp
   exact zBv _ "most" [a,b,c] (by decide +kernel) (Ae _ _) (by simp) ht fun k hk=>by
    simp only[AF,AK,or_false]at hk
    rcases hk with rfl | rfl | rfl
    ·exact ih _ (by omega) hq.1 (by omega)
    ·exact ih _ (by omega) hq.2.1 (by omega)
    ·exact ih _ (by omega) hq.2.2 (by omega)
def clsS(c:Nat):Str:=⟨(AM c 41).toArray⟩
theorem zAj(c:Nat):(clsS c).cps.toList=AM c 41:=by simp[clsS]
theorem zCr(c:Nat):(clsS c).length=c:=by
 show (AM c 41).toArray.size=c
 simp
theorem zBM{x:Str}{a:Nat}{r:List Nat}(h:x.cps.toList=a::r):BL x "("=(a == 40):=by
 have hx:x=⟨(a::r).toArray⟩:=zAE (by simp[h])
 subst hx
 show (decide (0+1<=(a::r).toArray.size) && ((a::r).toArray.extract 0 (0+1) == #[40]))=_
 have e1:(a::r).toArray.extract 0 (0+1)=#[a]:=by
  apply JW
  simp
 rw[e1]
 simp
theorem zGD(b:Str)(c:Nat)(hb:41∉b.cps.toList):BK (b++clsS c) ")"=b:=by
 show Jt (")":Str).cps.contains false true (b++clsS c)=b
 rw[FQ]
 have e:(b++clsS c).cps.toList=b.cps.toList++AM c 41:=by rw[zAD,zAj]
 have hlen:(b++clsS c).length=b.length+c:=by rw[Au,zCr]
 have g:(")":Str).cps.contains=fun n=>n == 41:=by
  funext n
  show (#[41]:Array Nat).contains n=_
  simp[Hr]
 have tw:∀ (c:Nat) (l:List Nat),41∉l->((AM c 41++l).takeWhile fun n=>n == 41)=AM c 41:=by
  intro c l hl
  induction c with
  | zero =>
   cases l with
   | nil=>rfl
   | cons y r =>
    have:¬ y=41:=fun z=>hl (by rw[z]; exact AE)
    simp[this]
  | succ c ih=>rw[BD,BS,E4]; simp[ih]
 have hi:Ie (")":Str).cps.contains true (b++clsS c) (FL (")":Str).cps.contains false (b++clsS c))=b.length:=by
  unfold Ie FL
  rw[if_pos rfl,if_neg AQ,Dl,e,G9,Gb,g,tw c _ (fun z=>hb (List.mem_reverse.mp z)),By,hlen]
  omega
 rw[hi]
 refine zAE ?_
 show ((b++clsS c).cps.extract (FL (")":Str).cps.contains false (b++clsS c)) b.length).toList=_
 have lo:FL (")":Str).cps.contains false (b++clsS c)=0:=rfl
 rw[lo,Gu,e]
 have hbl:b.cps.toList.length=b.length:=AN
 simp[Ig,← hbl]
theorem zAy(x:Str)(k:Nat)(h:k<=x.length):(sliceT x (some (k:Int)) none).cps.toList=x.cps.toList.drop k:=by
 have e:sliceT x (some (k:Int)) none=BF x (some (k:Int)) (some (x.length:Int)):=by
  show BF x (some (k:Int)) none=_
  unfold BF
  rw[Du]
 have hl:x.cps.toList.length=x.length:=AN
 rw[e,CW x h (AL _)]
 show ((x.cps.toList.drop k).take (x.length - k)).toArray.toList=_
 rw[DZ,Bs (by rw[Cr]; omega)]
theorem zCf(b:Str)(c:Nat):(sliceT (b++clsS c) (some (b.length:Int)) none).cps.toList=AM c 41:=by
 rw[zAy _ _ (by rw[Au]; omega),zAD,zAj]
 have hbl:b.cps.toList.length=b.length:=AN
 rw[← hbl,List.drop_left]
theorem zCl(w:Str):sliceT ("("++w) (some 1) none=w:=by
 refine zAE ?_
 have:(sliceT ("("++w) (some ((1:Nat):Int)) none).cps.toList=_:=zAy ("("++w) 1 (by rw[Au]; show 1<=1+_; omega)
 rw[show sliceT ("("++w) (some 1) none=sliceT ("("++w) (some ((1:Nat):Int)) none from rfl,this,zAD]
 rfl
theorem zDY:∀ w∈(["not","and","or","either","most"]:List Str),F_10 [.v (.a (.str w))]=some (.l [.a (.str w)],[]):=by
 intro w hw
 simp only[AF,AK,or_false]at hw
 rcases hw with rfl | rfl | rfl | rfl | rfl <;> kernel_rfl
theorem zD9:F_12 [.v (.a (.str "yes"))]=some (.v (Sy.t .yes),[]):=by kernel_rfl
theorem zFJ:F_12 [.v (.a (.str "no"))]=some (.v (Sy.t .no),[]):=by kernel_rfl
theorem zJR:((Az 100).map fun k=>F_12 [.v (.a (.str ("q"++numX (0+k))))])=(Az 100).map fun k=>some (.v (Sy.t (.ask (0+k))),[]):=by kernel_rfl
theorem zKD:((Az 100).map fun k=>F_12 [.v (.a (.str ("q"++numX (100+k))))])=(Az 100).map fun k=>some (.v (Sy.t (.ask (100+k))),[]):=by kernel_rfl
theorem zJB:((Az 100).map fun k=>F_12 [.v (.a (.str ("q"++numX (200+k))))])=(Az 100).map fun k=>some (.v (Sy.t (.ask (200+k))),[]):=by kernel_rfl
theorem zJM:((Az 100).map fun k=>F_12 [.v (.a (.str ("q"++numX (300+k))))])=(Az 100).map fun k=>some (.v (Sy.t (.ask (300+k))),[]):=by kernel_rfl
theorem zJ6:((Az 100).map fun k=>F_12 [.v (.a (.str ("q"++numX (400+k))))])=(Az 100).map fun k=>some (.v (Sy.t (.ask (400+k))),[]):=by kernel_rfl
theorem zKP:((Az 100).map fun k=>F_12 [.v (.a (.str ("q"++numX (500+k))))])=(Az 100).map fun k=>some (.v (Sy.t (.ask (500+k))),[]):=by kernel_rfl
theorem zJx:((Az 100).map fun k=>F_12 [.v (.a (.str ("q"++numX (600+k))))])=(Az 100).map fun k=>some (.v (Sy.t (.ask (600+k))),[]):=by kernel_rfl
theorem zKG:((Az 100).map fun k=>F_12 [.v (.a (.str ("q"++numX (700+k))))])=(Az 100).map fun k=>some (.v (Sy.t (.ask (700+k))),[]):=by kernel_rfl
theorem zJy:((Az 100).map fun k=>F_12 [.v (.a (.str ("q"++numX (800+k))))])=(Az 100).map fun k=>some (.v (Sy.t (.ask (800+k))),[]):=by kernel_rfl
theorem zJK:((Az 100).map fun k=>F_12 [.v (.a (.str ("q"++numX (900+k))))])=(Az 100).map fun k=>some (.v (Sy.t (.ask (900+k))),[]):=by kernel_rfl
theorem zAe{n:Nat}(b:((Az 100).map fun k=>F_12 [.v (.a (.str ("q"++numX (n+k))))])=(Az 100).map fun k=>some (.v (Sy.t (.ask (n+k))),[]))(k:Nat)(h1:n<=k)(h2:k < n+100):F_12 [.v (.a (.str ("q"++numX k)))]=some (.v (Sy.t (.ask k)),[]):=by
 have:=(HX.mp b) (k - n) (Ei.mpr (by omega))
 rwa [show n+(k - n)=k by omega]at this
theorem zEB(k:Nat)(h:k < 1000):F_12 [.v (.a (.str ("q"++numX k)))]=some (.v (Sy.t (.ask k)),[]):=by
 by_cases h0:k < 100
 ·exact zAe zJR k (by omega) (by omega)
 by_cases h1:k < 200
 ·exact zAe zKD k (by omega) (by omega)
 by_cases h2:k < 300
 ·exact zAe zJB k (by omega) (by omega)
 by_cases h3:k < 400
 ·exact zAe zJM k (by omega) (by omega)
 by_cases h4:k < 500
 ·exact zAe zJ6 k (by omega) (by omega)
 by_cases h5:k < 600
 ·exact zAe zKP k (by omega) (by omega)
 by_cases h6:k < 700
 ·exact zAe zJx k (by omega) (by omega)
 by_cases h7:k < 800
 ·exact zAe zKG k (by omega) (by omega)
 by_cases h8:k < 900
 ·exact zAe zJy k (by omega) (by omega)
 exact zAe zJK k (by omega) (by omega)
def Sy.wl:Sy->Nat->List Str
 | .yes,c=>["yes"++clsS c]
 | .no,c=>["no"++clsS c]
 | .ask q,c=>[("q"++numX q)++clsS c]
 | .nt a,c=>("("++"not")::a.wl (c+1)
 | .an a b,c=>("("++"and")::(a.wl 0++b.wl (c+1))
 | .or a b,c=>("("++"or")::(a.wl 0++b.wl (c+1))
 | .ei a b,c=>("("++"either")::(a.wl 0++b.wl (c+1))
 | .mo a b d,c=>("("++"most")::(a.wl 0++(b.wl 0++d.wl (c+1)))
theorem Sy.wl_ne(s:Sy)(c:Nat):s.wl c≠[]:=by cases s <;> exact Ae _ _
abbrev Tb:=c_INSIDE
abbrev RM:=readM Tb F_10 F_12
def thenR(r:Except XZ (List (List T)))(rest:List Str):Option (Except XZ (List (List T))):=match r with
 | .error z=>some (.error z)
 | .ok zs=>RM rest zs
theorem zBn(b:Str)(t:T)(c:Nat)(rest:List Str)(y:List T)(zs:List (List T))(ht:∀ c' fs,t≠.x c' fs)(hF:F_12 [.v (.a (.str b))]=some (.v t,[]))(h41:41∉b.cps.toList)(h40:∃ a r,b.cps.toList=a::r/\a≠40)(hl:b.length<=100)(hc:c<=1000):RM ((b++clsS c)::rest) (y::zs)=thenR (closeN Tb c ((y++[t])::zs)) rest:=by
 obtain⟨a,r,ea,ha⟩:=h40
 have hst:BL (b++clsS c) "("=false:=by
  rw[zBM (x:=b++clsS c) (a:=a) (r:=r++AM c 41) (by rw[zAD,zAj,ea]; rfl)]
  simp[ha]
 have hrs:=zGD b c h41
 have hsl:=zCf b c
 have hsz:(sliceT (b++clsS c) (some (b.length:Int)) none).cps.size=c:=by
  have:=congrArg Be hsl
  simpa using this
 have hsl':(sliceT (b++clsS c) (some (b.length:Int)) none).length<=10000:=by show (sliceT (b++clsS c) (some (b.length:Int)) none).cps.size<=_; omega
 have hal:(sliceT (b++clsS c) (some (b.length:Int)) none).cps.all (· < 128)=true:=by
  rw[← DH,hsl,A4]
  intro k hk
  have:=D9 hk
  simp[this]
 have hwl:(b++clsS c).length<=10000:=by rw[Au,zCr]; omega
 have e:wordS Tb F_10 F_12 (y::zs) (b++clsS c)=some (closeN Tb c ((y++[t])::zs)):=by
  unfold wordS
  rw[if_pos hwl,hst,if_neg AQ,hrs,if_pos ⟨by omega,hsl',hal⟩,hF,AV,hsz]
  cases t with
  | x c' fs=>exact absurd rfl (ht c' fs)
  | a _=>rfl
  | t _=>rfl
  | l _=>rfl
  | f _=>rfl
 show (wordS Tb F_10 F_12 (y::zs) (b++clsS c)).bind _=_
 rw[e,AV]
 unfold thenR
 cases closeN Tb c ((y++[t])::zs) <;> rfl
theorem zAz(w:Str)(hw:w∈(["not","and","or","either","most"]:List Str))(rest:List Str)(zs:List (List T)):RM (("("++w)::rest) zs=RM rest ([.a (.str w)]::zs):=by
 have hl:w.length<=6:=(show ∀ w∈(["not","and","or","either","most"]:List Str),w.length<=6 by decide +kernel) w hw
 have hh:headOk Tb [.a (.str w)]=true:=(show ∀ w∈(["not","and","or","either","most"]:List Str),headOk Tb [.a (.str w)]=true by
  intro w hw
  simp only[AF,AK,or_false]at hw
  rcases hw with rfl | rfl | rfl | rfl | rfl <;> kernel_rfl) w hw
 have hst:BL ("("++w) "("=true:=by
  rw[zBM (x:="("++w) (a:=40) (r:=w.cps.toList) (by rw[zAD]; rfl)]; rfl
 have hsl:=zCl w
 have e:wordS Tb F_10 F_12 zs ("("++w)=some (.ok ([.a (.str w)]::zs)):=by
  unfold wordS
  rw[if_pos (by rw[Au]; show 1+_<=10000; omega),if_pos hst,hsl,if_pos (by omega),zDY w hw,AV]
  show (if headOk Tb [.a (.str w)]=true/\([T.a (.str w)]:List T).length<=1 then _ else _)=_
  rw[if_pos ⟨hh,AL _⟩]
 show (wordS Tb F_10 F_12 zs ("("++w)).bind _=_
 rw[e]; rfl
theorem zAo(w:Str)(ts:List T)(hw:rowOk Tb (.a (.str w)::ts)=true)(c:Nat)(y:List T)(zs:List (List T)):closeN Tb (c+1) ((T.a (.str w)::ts)::y::zs)=closeN Tb c ((y++[.t (.a (.str w)::ts)])::zs):=by
 show (match closeS Tb ((T.a (.str w)::ts)::y::zs) with
  | none=>GS errB
  | some zs'=>closeN Tb c zs')=_
 have:closeS Tb ((T.a (.str w)::ts)::y::zs)=some ((y++[.t (.a (.str w)::ts)])::zs):=by
  show (if rowOk Tb (.a (.str w)::ts)=true then some ((y++[.t (.a (.str w)::ts)])::zs) else none)=_
  rw[if_pos hw]
 rw[this]
theorem row1(a:T):rowOk Tb [.a (.str "not"),a]=true:=by kernel_rfl
theorem row2(w:Str)(hw:w="and"\/w="or"\/w="either")(a b:T):rowOk Tb [.a (.str w),a,b]=true:=by rcases hw with rfl | rfl | rfl <;> kernel_rfl
theorem row3(a b c:T):rowOk Tb [.a (.str "most"),a,b,c]=true:=by kernel_rfl
theorem zBR(zs:List (List T))(rest:List Str):thenR (closeN Tb 0 zs) rest=RM rest zs:=rfl
theorem zAN:∀ (s:Sy) (c:Nat) (rest:List Str) (y:List T) (zs:List (List T)),s.qs 1000->c+s.down<=1000->RM (s.wl c++rest) (y::zs)=thenR (closeN Tb c ((y++[s.t])::zs)) rest
 | .yes,c,rest,y,zs,_,hc=>zBn "yes" _ c rest y zs (fun _ _=>by intro h; cases h) zD9 (by decide +kernel) ⟨121,[101,115],rfl,by decide⟩ (by decide) (by omega)
 | .no,c,rest,y,zs,_,hc=>zBn "no" _ c rest y zs (fun _ _=>by intro h; cases h) zFJ (by decide +kernel) ⟨110,[111],rfl,by decide⟩ (by decide) (by omega)
 | .ask q,c,rest,y,zs,h,hc=>by
  obtain⟨n1,n2⟩:=zA9 q h
  have e:("q"++numX q:Str).cps.toList=113::(numX q).cps.toList:=by rw[zAD]; rfl
  refine zBn ("q"++numX q) _ c rest y zs (fun _ _=>by intro h; cases h) (zEB q h) (fun z=>?_) ⟨113,_,e,by decide⟩ (by rw[Au]; show 1+_<=_; omega) (by omega)
  rw[e]at z
  rcases AF.mp z with z | z
  ·cases z
  ·have:=n2 41 z; omega
 | .nt a,c,rest,y,zs,h,hc=>by
  simp only[Sy.down]at hc
  show RM (("("++"not")::(a.wl (c+1)++rest)) (y::zs)=_
  rw[zAz "not" (by decide +kernel),zAN a (c+1) rest _ _ h (by omega),show [T.a (.str "not")]++[a.t]=[T.a (.str "not"),a.t] from rfl,zAo "not" [a.t] (row1 _)]
  rfl
 | .an a b,c,rest,y,zs,h,hc=>by
  simp only[Sy.down]at hc
  show RM (("("++"and")::(a.wl 0++b.wl (c+1)++rest)) (y::zs)=_
  rw[zAz "and" (by decide +kernel),A7,zAN a 0 _ _ _ h.1 (by omega),zBR,zAN b (c+1) rest _ _ h.2 (by omega),show [T.a (.str "and")]++[a.t]++[b.t]=[T.a (.str "and"),a.t,b.t] from rfl,zAo "and" [a.t,b.t] (row2 _ (.inl rfl) _ _)]
  rfl
 | .or a b,c,rest,y,zs,h,hc=>by
  simp only[Sy.down]at hc
  show RM (("("++"or")::(a.wl 0++b.wl (c+1)++rest)) (y::zs)=_
  rw[zAz "or" (by decide +kernel),A7,zAN a 0 _ _ _ h.1 (by omega),zBR,zAN b (c+1) rest _ _ h.2 (by omega),show [T.a (.str "or")]++[a.t]++[b.t]=[T.a (.str "or"),a.t,b.t] from rfl,zAo "or" [a.t,b.t] (row2 _ (.inr (.inl rfl)) _ _)]
  rfl
 | .ei a b,c,rest,y,zs,h,hc=>by
  simp only[Sy.down]at hc
  show RM (("("++"either")::(a.wl 0++b.wl (c+1)++rest)) (y::zs)=_
  rw[zAz "either" (by decide +kernel),A7,zAN a 0 _ _ _ h.1 (by omega),zBR,zAN b (c+1) rest _ _ h.2 (by omega),show [T.a (.str "either")]++[a.t]++[b.t]=[T.a (.str "either"),a.t,b.t] from rfl,zAo "either" [a.t,b.t] (row2 _ (.inr (.inr rfl)) _ _)]
  rfl
 | .mo a b d,c,rest,y,zs,h,hc=>by
  simp only[Sy.down]at hc
  show RM (("("++"most")::(a.wl 0++(b.wl 0++d.wl (c+1))++rest)) (y::zs)=_
  rw[zAz "most" (by decide +kernel),A7,zAN a 0 _ _ _ h.1 (by omega),zBR,A7,zAN b 0 _ _ _ h.2.1 (by omega),zBR,zAN d (c+1) rest _ _ h.2.2 (by omega),show [T.a (.str "most")]++[a.t]++[b.t]++[d.t]=[T.a (.str "most"),a.t,b.t,d.t] from rfl,zAo "most" [a.t,b.t,d.t] (row3 _ _ _)]
  rfl
theorem zAV(c:Nat):∀ (ps qs:List Str),ps≠[]->qs≠[]->(BE ⟨#[c]⟩ (ps++qs)).cps.toList=(BE ⟨#[c]⟩ ps).cps.toList++c::(BE ⟨#[c]⟩ qs).cps.toList
 | [],_,h,_=>absurd rfl h
 | [x],[],_,h=>absurd rfl h
 | [x],y::r,_,_=>zAI c x y r
 | x::z::r,qs,_,hq=>by
  have ih:=zAV c (z::r) qs (Ae _ _) hq
  rw[BS,BS,zAI,← BS,ih,zAI]
  simp[A7]
theorem zAT(w:Str)(ps:List Str):(brS w ps).cps.toList=40::((jn (w::ps)).cps.toList++[41]):=by
 unfold brS
 rw[zAD,zAD]
 show [40]++_++[41]=_
 simp
theorem zA2(c:Nat):[41]++AM c 41=AM (c+1) 41:=rfl
theorem zAK:∀ (s:Sy) (c:Nat),(jn (s.wl c)).cps.toList=s.txt.cps.toList++AM c 41
 | .yes,c=>by show (("yes":Str)++clsS c).cps.toList=_; rw[zAD,zAj]; rfl
 | .no,c=>by show (("no":Str)++clsS c).cps.toList=_; rw[zAD,zAj]; rfl
 | .ask q,c=>by show (("q"++numX q)++clsS c).cps.toList=_; rw[zAD,zAj]; rfl
 | .nt a,c=>by
  have ih:=zAK a (c+1)
  show (BE ⟨#[32]⟩ ([("("++"not":Str)]++a.wl (c+1))).cps.toList=(brS "not" [a.txt]).cps.toList++_
  rw[zAV 32 _ _ (Ae _ _) (Sy.wl_ne _ _),ih,zAT,show (jn ["not",a.txt]).cps.toList=_ from zAI 32 "not" a.txt []]
  show 40::("not":Str).cps.toList++32::(a.txt.cps.toList++AM (c+1) 41)=40::((("not":Str).cps.toList++32::a.txt.cps.toList)++[41])++AM c 41
  rw[← zA2]
  simp[A7]
 | .an a b,c=>by
  have i1:=zAK a 0
  have i2:=zAK b (c+1)
  show (BE ⟨#[32]⟩ ([("("++"and":Str)]++(a.wl 0++b.wl (c+1)))).cps.toList=(brS "and" [a.txt,b.txt]).cps.toList++_
  rw[zAV 32 _ _ (Ae _ _) (by simp[Sy.wl_ne]),zAV 32 _ _ (Sy.wl_ne _ _) (Sy.wl_ne _ _),i1,i2,zAT,show (jn ["and",a.txt,b.txt]).cps.toList=_ from zAI 32 "and" a.txt [b.txt],show (BE ⟨#[32]⟩ [a.txt,b.txt]).cps.toList=_ from zAI 32 a.txt b.txt []]
  show 40::("and":Str).cps.toList++32::((a.txt.cps.toList++[])++32::(b.txt.cps.toList++AM (c+1) 41))=40::((("and":Str).cps.toList++32::(a.txt.cps.toList++32::b.txt.cps.toList))++[41])++AM c 41
  rw[← zA2]
  simp[A7]
 | .or a b,c=>by
  have i1:=zAK a 0
  have i2:=zAK b (c+1)
  show (BE ⟨#[32]⟩ ([("("++"or":Str)]++(a.wl 0++b.wl (c+1)))).cps.toList=(brS "or" [a.txt,b.txt]).cps.toList++_
  rw[zAV 32 _ _ (Ae _ _) (by simp[Sy.wl_ne]),zAV 32 _ _ (Sy.wl_ne _ _) (Sy.wl_ne _ _),i1,i2,zAT,show (jn ["or",a.txt,b.txt]).cps.toList=_ from zAI 32 "or" a.txt [b.txt],show (BE ⟨#[32]⟩ [a.txt,b.txt]).cps.toList=_ from zAI 32 a.txt b.txt []]
  show 40::("or":Str).cps.toList++32::((a.txt.cps.toList++[])++32::(b.txt.cps.toList++AM (c+1) 41))=40::((("or":Str).cps.toList++32::(a.txt.cps.toList++32::b.txt.cps.toList))++[41])++AM c 41
  rw[← zA2]
  simp[A7]
 | .ei a b,c=>by
  have i1:=zAK a 0
  have i2:=zAK b (c+1)
  show (BE ⟨#[32]⟩ ([("("++"either":Str)]++(a.wl 0++b.wl (c+1)))).cps.toList=(brS "either" [a.txt,b.txt]).cps.toList++_
  rw[zAV 32 _ _ (Ae _ _) (by simp[Sy.wl_ne]),zAV 32 _ _ (Sy.wl_ne _ _) (Sy.wl_ne _ _),i1,i2,zAT,show (jn ["either",a.txt,b.txt]).cps.toList=_ from zAI 32 "either" a.txt [b.txt],show (BE ⟨#[32]⟩ [a.txt,b.txt]).cps.toList=_ from zAI 32 a.txt b.txt []]
  show 40::("either":Str).cps.toList++32::((a.txt.cps.toList++[])++32::(b.txt.cps.toList++AM (c+1) 41))=40::((("either":Str).cps.toList++32::(a.txt.cps.toList++32::b.txt.cps.toList))++[41])++AM c 41
  rw[← zA2]
  simp[A7]
 | .mo a b d,c=>by
  have i1:=zAK a 0
  have i2:=zAK b 0
  have i3:=zAK d (c+1)
  show (BE ⟨#[32]⟩ ([("("++"most":Str)]++(a.wl 0++(b.wl 0++d.wl (c+1))))).cps.toList=(brS "most" [a.txt,b.txt,d.txt]).cps.toList++_
  rw[zAV 32 _ _ (Ae _ _) (by simp[Sy.wl_ne]),zAV 32 _ _ (Sy.wl_ne _ _) (by simp[Sy.wl_ne]),zAV 32 _ _ (Sy.wl_ne _ _) (Sy.wl_ne _ _),i1,i2,i3,zAT,show (jn ["most",a.txt,b.txt,d.txt]).cps.toList=_ from zAI 32 "most" a.txt [b.txt,d.txt],show (BE ⟨#[32]⟩ [a.txt,b.txt,d.txt]).cps.toList=_ from zAI 32 a.txt b.txt [d.txt],show (BE ⟨#[32]⟩ [b.txt,d.txt]).cps.toList=_ from zAI 32 b.txt d.txt []]
  show 40::("most":Str).cps.toList++32::((a.txt.cps.toList++[])++32::((b.txt.cps.toList++[])++32::(d.txt.cps.toList++AM (c+1) 41)))=40::((("most":Str).cps.toList++32::(a.txt.cps.toList++32::(b.txt.cps.toList++32::d.txt.cps.toList)))++[41])++AM c 41
  rw[← zA2]
  simp[A7]
theorem zCO(c:Nat)(x:Nat)(hx:x≠41):x∉(clsS c).cps.toList:=by
 rw[zAj]
 intro z
 exact hx (D9 z)
theorem zBc{x:Nat}{a b:Str}(h1:x∉a.cps.toList)(h2:x∉b.cps.toList):x∉(a++b).cps.toList:=by
 rw[zAD]
 intro z
 rcases Aw.mp z with z | z
 ·exact h1 z
 ·exact h2 z
theorem zIF(q:Nat)(h:q < 1000):32∉(numX q).cps.toList:=fun z=>by have:=(zA9 q h).2 32 z; omega
theorem zAZ:∀ (s:Sy) (c:Nat),s.qs 1000->∀ w∈s.wl c,32∉w.cps.toList
 | .yes,c,_,w,hw=>by rw[AD.mp hw]; exact zBc (by decide +kernel) (zCO c 32 (by decide))
 | .no,c,_,w,hw=>by rw[AD.mp hw]; exact zBc (by decide +kernel) (zCO c 32 (by decide))
 | .ask q,c,h,w,hw=>by rw[AD.mp hw]; exact zBc (zBc (by decide +kernel) (zIF q h)) (zCO c 32 (by decide))
 | .nt a,c,h,w,hw=>by
  rcases AF.mp hw with rfl | hw
  ·decide +kernel
  ·exact zAZ a _ h w hw
 | .an a b,c,h,w,hw=>by
  rcases AF.mp hw with rfl | hw
  ·decide +kernel
  ·rcases Aw.mp hw with hw | hw
   ·exact zAZ a _ h.1 w hw
   ·exact zAZ b _ h.2 w hw
 | .or a b,c,h,w,hw=>by
  rcases AF.mp hw with rfl | hw
  ·decide +kernel
  ·rcases Aw.mp hw with hw | hw
   ·exact zAZ a _ h.1 w hw
   ·exact zAZ b _ h.2 w hw
 | .ei a b,c,h,w,hw=>by
  rcases AF.mp hw with rfl | hw
  ·decide +kernel
  ·rcases Aw.mp hw with hw | hw
   ·exact zAZ a _ h.1 w hw
   ·exact zAZ b _ h.2 w hw
 | .mo a b d,c,h,w,hw=>by
  rcases AF.mp hw with rfl | hw
  ·decide +kernel
  ·rcases Aw.mp hw with hw | hw
   ·exact zAZ a _ h.1 w hw
   ·rcases Aw.mp hw with hw | hw
    ·exact zAZ b _ h.2.1 w hw
    ·exact zAZ d _ h.2.2 w hw
theorem zGi(s:Sy)(h:s.qs 1000):Ar s.txt " "=s.wl 0:=by
 have e:s.txt=DP ⟨#[32]⟩ (s.wl 0):=by
  rw[show DP ⟨#[32]⟩ (s.wl 0)=BE ⟨#[32]⟩ (s.wl 0) from EK _ _]
  refine zAE ?_
  rw[show (BE ⟨#[32]⟩ (s.wl 0)).cps.toList=_ from zAK s 0]
  simp
 rw[e]
 exact zF1 32 _ (Sy.wl_ne _ _) fun p hp=>zAZ s 0 h p hp
theorem zIw(s:Sy)(h:s.qs 1000)(hp:s.txt.length<=9000)(hd:s.down<=900):F_14 [.v (sT s.txt)]=some (.v s.t,[]):=by
 have hw:(s.wl 0).length<=s.txt.length+1:=by
  have:=zAi 32 (s.wl 0) (Sy.wl_ne _ _)
  have e:(BE ⟨#[32]⟩ (s.wl 0)).length=s.txt.length:=by
   have:=congrArg Be (zAK s 0)
   have q:(jn (s.wl 0)).cps.size=s.txt.cps.size:=by simpa using this
   exact q
  rw[e]at this
  have:(s.wl 0).length<=tot (s.wl 0):=Da _ _
  omega
 have e:=zAN s 0 [] [] [] h (by omega)
 rw[BV]at e
 have e':RM (s.wl 0) [[]]=some (.ok [[s.t]]):=e
 show (if s.txt.length<=10000/\(Ar s.txt " ").length<=20000 then (RM (Ar s.txt " ") [[]]).bind fun r=>(match r with
  | .error z=>some (G.v (.x z.1 z.2),[])
  | .ok [[t]]=>match isXg (.v t) with
   | some _=>none
   | none=>some (.v t,[])
  | .ok _=>some (.v (.x errB.1 errB.2),[]):Option (G×List T)) else none)=_
 rw[zGi s h,if_pos ⟨by omega,by omega⟩,e',AV]
 cases s <;> rfl
theorem Sy.pl:∀ s:Sy,Pl s.down s.t
 | .yes=>Pl.tup (n:=0) (by simp) fun x hx=>by rw[AD.mp hx]; exact Pl.atom rfl
 | .no=>Pl.tup (n:=0) (by simp) fun x hx=>by rw[AD.mp hx]; exact Pl.atom rfl
 | .ask q=>Pl.tup (n:=0) (by simp) fun x hx=>by
  simp only[AF,AK,or_false]at hx
  rcases hx with rfl | rfl
  ·exact Pl.atom rfl
  ·exact Pl.int _
 | .nt a=>by
  have ha:=a.pl
  show Pl (1+a.down) _
  rw[DC]
  refine Pl.tup (by simp) fun x hx=>?_
  simp only[AF,AK,or_false]at hx
  rcases hx with rfl | rfl
  ·exact Pl.atom rfl
  ·exact ha
 | .an a b=>by
  have ha:=a.pl
  have hb:=b.pl
  show Pl (1+max a.down b.down) _
  rw[DC]
  refine Pl.tup (by simp) fun x hx=>?_
  simp only[AF,AK,or_false]at hx
  rcases hx with rfl | rfl | rfl
  ·exact Pl.atom rfl
  ·exact ha.mono (by omega)
  ·exact hb.mono (by omega)
 | .or a b=>by
  have ha:=a.pl
  have hb:=b.pl
  show Pl (1+max a.down b.down) _
  rw[DC]
  refine Pl.tup (by simp) fun x hx=>?_
  simp only[AF,AK,or_false]at hx
  rcases hx with rfl | rfl | rfl
  ·exact Pl.atom rfl
  ·exact ha.mono (by omega)
  ·exact hb.mono (by omega)
 | .ei a b=>by
  have ha:=a.pl
  have hb:=b.pl
  show Pl (1+max a.down b.down) _
  rw[DC]
  refine Pl.tup (by simp) fun x hx=>?_
  simp only[AF,AK,or_false]at hx
  rcases hx with rfl | rfl | rfl
  ·exact Pl.atom rfl
  ·exact ha.mono (by omega)
  ·exact hb.mono (by omega)
 | .mo a b c=>by
  have ha:=a.pl
  have hb:=b.pl
  have hc:=c.pl
  show Pl (1+max a.down (max b.down c.down)) _
  rw[DC]
  refine Pl.tup (by simp) fun x hx=>?_
  simp only[AF,AK,or_false]at hx
  rcases hx with rfl | rfl | rfl | rfl
  ·exact Pl.atom rfl
  ·exact ha.mono (by omega)
  ·exact hb.mono (by omega)
  ·exact hc.mono (by omega)
theorem Sy.qs_mono:∀ {s:Sy} {q r:Nat},q<=r->s.qs q->s.qs r
 | .yes,_,_,_,_=>trivial
 | .no,_,_,_,_=>trivial
 | .ask k,_,_,hr,h=>AY (show k < _ from h) hr
 | .nt a,_,_,hr,h=>Sy.qs_mono (s:=a) hr h
 | .an a b,_,_,hr,h=>⟨Sy.qs_mono hr h.1,Sy.qs_mono hr h.2⟩
 | .or a b,_,_,hr,h=>⟨Sy.qs_mono hr h.1,Sy.qs_mono hr h.2⟩
 | .ei a b,_,_,hr,h=>⟨Sy.qs_mono hr h.1,Sy.qs_mono hr h.2⟩
 | .mo a b c,_,_,hr,h=>⟨Sy.qs_mono hr h.1,Sy.qs_mono hr h.2.1,Sy.qs_mono hr h.2.2⟩
def digB(c:Nat):Bool:=decide (48<=c) && decide (c < 58)
def isNumB(f:Str):Bool:=decide (f.length<=3) && !(decide (1 < f.length) && decide (f.cps.toList.headD 0=48)) && !decide (f.length=0) && f.cps.toList.all digB
theorem zBu{f:Str}{l:List Nat}(h:f.cps.toList=l):f=⟨l.toArray⟩:=zAE (by simp[h])
theorem zBO{c:Nat}(h:digB c=true):∃ a:Fin 10,c=48+a.1:=by
 unfold digB at h
 simp at h
 exact⟨⟨c - 48,by omega⟩,by show c=48+(c - 48); omega⟩
theorem num1:∀ a:Fin 10,(⟨#[48+a.1]⟩:Str)=numX a.1:=by decide +kernel
theorem num2:∀ a b:Fin 10,a.1≠0->(⟨#[48+a.1,48+b.1]⟩:Str)=numX (10 * a.1+b.1):=by decide +kernel
theorem num3:∀ a b c:Fin 10,a.1≠0->(⟨#[48+a.1,48+b.1,48+c.1]⟩:Str)=numX (100 * a.1+10 * b.1+c.1):=by decide +kernel
theorem zCh{f:Str}(h:isNumB f=true):∃ k,k < 1000/\f=numX k:=by
 unfold isNumB at h
 simp only[Af,D3,Bool.and_eq_false_iff,decide_eq_true_eq,decide_eq_false_iff_not]at h
 obtain⟨⟨⟨h1,h2⟩,h3⟩,h4⟩:=h
 have hl:f.cps.toList.length=f.length:=AN
 generalize hc:f.cps.toList=l at *
 rw[zBu hc]
 match l,h4 with
 | [],_=>exact absurd (by rw[← hl]; rfl) h3
 | [a],h4 =>
  obtain⟨x,rfl⟩:=zBO (by simpa using h4)
  exact⟨x.1,by omega,num1 x⟩
 | [a,b],h4 =>
  simp only[E8,Ih,IK,Af]at h4
  obtain⟨x,rfl⟩:=zBO h4.1
  obtain⟨y,rfl⟩:=zBO h4.2
  have hx:x.1≠0:=fun z=>by
   rcases h2 with h2 | h2
   ·rw[← hl]at h2; exact h2 (by simp)
   ·exact h2 (by simp[z])
  exact⟨_,by omega,num2 x y hx⟩
 | [a,b,c],h4 =>
  simp only[E8,Ih,IK,Af]at h4
  obtain⟨x,rfl⟩:=zBO h4.1
  obtain⟨y,rfl⟩:=zBO h4.2.1
  obtain⟨z,rfl⟩:=zBO h4.2.2
  have hx:x.1≠0:=fun w=>by
   rcases h2 with h2 | h2
   ·rw[← hl]at h2; exact h2 (by simp)
   ·exact h2 (by simp[w])
  exact⟨_,by omega,num3 x y z hx⟩
 | a::b::c::d::r,_=>rw[← hl]at h1; simp at h1
theorem zHZ(k:Nat)(h:k < 1000):isNumB (numX k)=true:=(show ∀ k:Fin 1000,isNumB (numX k.1)=true by decide +kernel) ⟨k,h⟩
theorem zGU(c:Nat)(hc:c < 128):DD ("0123456789":Str) (oneC c)=digB c:=(show ∀ c:Fin 128,DD ("0123456789":Str) (oneC c.1)=digB c.1 by decide +kernel) ⟨c,hc⟩
theorem zCP{de:DE}(hde:∀ Γ:En,de Γ=dOp inXS (jV 0) (dC (.str "0123456789")) Γ):∀ (l:List Nat) (o:Option G),(∀ c∈l,c < 128)->∃ o',compD (gdName 0) dYes de (l.map fun c=>T.a (.str (oneC c))) [o]=some (l.map fun c=>T.a (.bl (digB c)),[o'])
 | [],o,_=>⟨o,rfl⟩
 | c::r,o,h=>by
  have hc:=zGU c (h c AE)
  obtain⟨o',e⟩:=zCP hde r (some (.v (.a (.str (oneC c))))) fun x hx=>h x (AG _ hx)
  refine⟨o',?_⟩
  rw[Ah,Ah]
  refine zBa (Γ1:=[some (.v (.a (.str (oneC c))))]) rfl ?_ e
  rw[hde]
  show (some (S.v (.a (.bl (DD ("0123456789":Str) (oneC c)))),[some (G.v (.a (.str (oneC c))))]))=_
  rw[hc]
theorem zFC(x:Str):sgnT x=x.cps.toList.map fun c=>T.a (.str (oneC c)):=rfl
theorem zE8:∀ l:List Nat,boolsOf (l.map fun c=>T.a (.bl (digB c)))=some (l.map digB)
 | []=>rfl
 | c::r=>by
  have:=zE8 r
  rw[Ah]
  simp only[boolsOf,this]; rfl
theorem zJw(l:List Nat)(Γ:En):allS Γ [.l (l.map fun c=>T.a (.bl (digB c)))]=some (.v (.a (.bl (l.all digB)))):=by
 show ((boolsOf (l.map fun c=>T.a (.bl (digB c)))).map fun bs=>mkB (bs.all id))=_
 rw[zE8]
 show some (mkB ((l.map digB).all id))=_
 rw[Ii]; rfl
theorem zEi(f:Str)(h:0 < f.length)(hl:f.length<=10000)(Γ:En):ixS Γ (.v (.a (.str f))) (.v (.a (.int 0)))=some (.v (.a (.str (oneC (f.cps.toList.headD 0))))):=by
 have e:f.cps.toList.length=f.length:=AN
 show (if f.length<=AC then (atI f.cps.toList 0).map fun c=>S.v (.a (.str ⟨#[c]⟩)) else none)=_
 rw[if_pos (zAB (by omega)),show (0:Int)=((0:Nat):Int) from rfl,zAX]
 cases hc:f.cps.toList with
 | nil=>rw[hc]at e; simp at e; omega
 | cons a r=>rfl
theorem zBC(a b:Nat):(oneC a=oneC b)=(a=b):=by
 refine propext ⟨fun h=>?_,fun h=>by rw[h]⟩
 have:=congrArg (fun s:Str=>s.cps.toList) h
 simpa [oneC] using this
theorem zEd:("0":Str)=oneC 48:=rfl
theorem zFf(f:Str):(f=("":Str))=(f.length=0):=by
 refine propext ⟨fun h=>by rw[h]; rfl,fun h=>?_⟩
 refine zAE ?_
 have e:f.cps.toList.length=f.length:=AN
 rw[h]at e
 rw[C5.mp e]; rfl
theorem zDf(f:Str)(ha:∀ c∈f.cps.toList,c < 128)(hl:f.length<=10000):F_11 [.v (.a (.str f))]=some (.v (.a (.bl (isNumB f))),[]):=by
 have gz:f.length<=AC:=zAB (by omega)
 have ln:∀ Γ:En,lenS Γ [.v (.a (.str f))]=some (.v (.a (.int (f.length:Int)))):=fun Γ=>by simp[lenS,gz]
 unfold isNumB
 by_cases h3:f.length<=3
 rotate_left
 ·have h3':(3:Int) < (f.length:Int):=by omega
  simp[F_11,fnD,d_11,ln,h3',h3]
 have h3':¬ (3:Int) < (f.length:Int):=by omega
 obtain⟨o',e⟩:=zCP (de:=d_11_e1) (fun _=>rfl) f.cps.toList none ha
 have all:=fun Γ=>zJw f.cps.toList Γ
 have gl:(f.cps.toList.map fun c=>T.a (.bl (digB c))).length<=AC:=zAB (by rw[BA,AN]; show f.length<=_; omega)
 have asc:f.cps.all (· < 128)=true:=by
  rw[← DH,A4]
  intro c hc
  simpa using ha c hc
 have di:dStrI (jV 0) [some (.v (.a (.str f)))]=some ((sgnT f,[]),[some (.v (.a (.str f)))]):=by
  show (if f.cps.all (· < 128)=true/\f.length<=AC then some ((sgnT f,[]),[some (G.v (.a (.str f)))]) else none)=_
  rw[if_pos ⟨asc,gz⟩]
 rw[zFC]at di
 have ne:∀ Γ,neS Γ (.v (.a (.str f))) (.v (.a (.str "")))=some (.v (.a (.bl (!decide (f.length=0))))):=fun Γ=>by
  rw[zAJ]; simp only[zFf]
 by_cases h1:1 < f.length
 ·have h1':(1:Int) < (f.length:Int):=by omega
  have hs:=fun Γ=>zEi f (by omega) hl Γ
  have eq0:∀ Γ,eqS Γ (.v (.a (.str (oneC (f.cps.toList.headD 0))))) (.v (.a (.str "0")))=some (.v (.a (.bl (decide (f.cps.toList.headD 0=48))))):=fun Γ=>by
   rw[zAL]; simp only[zEd,zBC]
  by_cases h0:f.cps.toList.headD 0=48
  ·have h0':=h0
   rw[EA]at h0'
   simp only[h0,decide_true]at eq0 hs
   simp[F_11,fnD,d_11,ln,h3',h1',h1,h3,hs,eq0,h0,h0']
  ·have h0':=h0
   rw[EA]at h0'
   simp only[h0,decide_false]at eq0
   have hne:¬ f.length=0:=by omega
   simp only[hne,decide_false,Dm]at ne
   generalize oneC (f.cps.toList.headD 0)=OC at *
   generalize (f.cps.toList.map fun c=>T.a (.str (oneC c)))=LS at *
   generalize (f.cps.toList.map fun c=>T.a (.bl (digB c)))=LB at *
   simp[F_11,fnD,d_11,ln,h3',h1',h1,h3,hs,eq0,h0,h0',ne,-zAJ,-zAL,di,-zAn,e,all,gl,gd,hne]
 ·have h1':¬ (1:Int) < (f.length:Int):=by omega
  by_cases hz:f.length=0
  ·simp only[hz,decide_true,Cd]at ne
   simp[F_11,fnD,d_11,ln,h3',h1',h1,h3,ne,-zAJ,hz]
  ·simp only[hz,decide_false,Dm]at ne
   generalize (f.cps.toList.map fun c=>T.a (.str (oneC c)))=LS at *
   generalize (f.cps.toList.map fun c=>T.a (.bl (digB c)))=LB at *
   simp[F_11,fnD,d_11,ln,h3',h1',h1,h3,ne,-zAJ,di,-zAn,e,all,gl,gd,hz]
@[simp] abbrev badT(r:Nat):T:=.x "BadText" [("row",.int (r:Int))]
def LeafOk(b:Str)(s:Sy):Prop:=s.qs 1000/\s.txt=b/\s.kids=[]
theorem zIz{x:Str}:BL x "q"=decide (x.cps.toList.head?=some 113):=by
 cases h:x.cps.toList with
 | nil =>
  have hx:x=⟨#[]⟩:=zAE (by simp[h])
  subst hx; rfl
 | cons a r =>
  have hx:x=⟨(a::r).toArray⟩:=zAE (by simp[h])
  subst hx
  show (decide (0+1<=(a::r).toArray.size) && ((a::r).toArray.extract 0 (0+1) == #[113]))=_
  have e1:(a::r).toArray.extract 0 (0+1)=#[a]:=by
   apply JW
   simp
  rw[e1]
  by_cases hq:a=113
  ·subst hq; simp
  ·simp[hq]
theorem zDh(b:Str)(ha:∀ c∈b.cps.toList,c < 128)(hl:b.length<=9000):(∃ s,LeafOk b s/\F_12 [.v (.a (.str b))]=some (.v s.t,[]))\/F_12 [.v (.a (.str b))]=some (.v (badT 0),[]):=by
 by_cases hy:b="yes"
 ·subst hy; exact .inl ⟨.yes,⟨trivial,rfl,rfl⟩,zD9⟩
 by_cases hn:b="no"
 ·subst hn; exact .inl ⟨.no,⟨trivial,rfl,rfl⟩,zFJ⟩
 have hin:∀ Γ:En,inS false Γ (.v (.a (.str b))) (.v (.t [.a (.str "yes"),.a (.str "no")]))=some (.v (.a (.bl false))):=fun Γ=>by
  show (if flatV (.str b)=true/\([V.str "yes",V.str "no"].all flatV)=true then some (mkB (inV (.str b) [V.str "yes",V.str "no"])) else none)=_
  rw[if_pos ⟨rfl,rfl⟩]
  have:inV (.str b) [V.str "yes",V.str "no"]=false:=by
   unfold inV
   rw[HY]
   intro v hv
   simp only[AF,AK,or_false]at hv
   rcases hv with rfl | rfl
   ·simp[eqV,hy,Av hy]
   ·simp[eqV,hn,Av hn]
  rw[this]; rfl
 have g2:(2:Nat)<=AC:=by decide
 have g1:(1:Nat)<=AC:=by decide
 have st:=zIz (x:=b)
 have sl:(sliceT b (some 1) none).length<=b.length:=by
  by_cases h1:1<=b.length
  ·have:(sliceT b (some ((1:Nat):Int)) none).cps.toList=_:=zAy b 1 h1
   have:=congrArg Be this
   rw[Cr,AN,AN]at this
   show (sliceT b (some 1) none).cps.size<=b.cps.size
   have h:(sliceT b (some ((1:Nat):Int)) none).cps.size=b.cps.size - 1:=this
   have h':(sliceT b (some 1) none).cps.size=b.cps.size - 1:=h
   omega
  ·have:b="":=by rw[zFf]; omega
   subst this; decide
 have gs:(sliceT b (some 1) none).length<=AC:=zAB (by omega)
 cases hq:b.cps.toList with
 | nil =>
  rw[hq]at st
  have st':BL b "q"=false:=st
  refine .inr ?_
  simp[F_12,fnD,d_12,hin,gd,g2,st',zA5,atomsS]
 | cons a r =>
  by_cases h113:a=113
  rotate_left
  ·have st':BL b "q"=false:=by rw[st,hq]; simp[h113]
   refine .inr ?_
   simp[F_12,fnD,d_12,hin,gd,g2,st',zA5,atomsS]
  ·subst h113
   have st':BL b "q"=true:=by rw[st,hq]; simp
   have hlen:b.cps.toList.length=b.length:=AN
   have hsl:(sliceT b (some 1) none).cps.toList=r:=by
    have:(sliceT b (some ((1:Nat):Int)) none).cps.toList=_:=zAy b 1 (by rw[← hlen,hq]; simp)
    rw[hq]at this; exact this
   have hr:∀ c∈(sliceT b (some 1) none).cps.toList,c < 128:=fun c hc=>by rw[hsl]at hc; exact ha c (by rw[hq]; exact AG _ hc)
   have e1:=zDf (sliceT b (some 1) none) hr (by omega)
   cases hN:isNumB (sliceT b (some 1) none) with
   | false =>
    rw[hN]at e1
    refine .inr ?_
    simp[F_12,fnD,d_12,hin,gd,g2,st',gs,e1,zA5,atomsS]
   | true =>
    obtain⟨k,hk,ek⟩:=zCh hN
    have hb:b="q"++numX k:=by
     refine zAE ?_
     rw[hq,zAD,← ek,hsl]; rfl
    refine .inl ⟨.ask k,⟨hk,hb.symm,rfl⟩,?_⟩
    rw[hb]; exact zEB k hk
theorem zGC(w:Str):(w∈(["not","and","or","either","most"]:List Str)/\F_10 [.v (.a (.str w))]=some (.l [.a (.str w)],[]))\/F_10 [.v (.a (.str w))]=some (.v (badT 0),[]):=by
 by_cases h:w∈(["not","and","or","either","most"]:List Str)
 ·exact .inl ⟨h,zDY w h⟩
 ·have h':w∉c_INSIDE.map (·.1):=h
  refine .inr ?_
  simp[F_10,fnD,d_10,h',zA5,atomsS]
def Jn(ps:List Str):List Nat:=(ps.map fun p=>32::p.cps.toList).flatten
theorem zA0(a b:List Str):Jn (a++b)=Jn a++Jn b:=by simp[Jn]
theorem zAO(a:Str)(b:List Str):Jn (a::b)=32::(a.cps.toList++Jn b):=by simp[Jn]
theorem zAq:Jn []=[]:=rfl
theorem zBH:∀ ps:List Str,ps≠[]->32::(jn ps).cps.toList=Jn ps
 | [],h=>absurd rfl h
 | [x],_=>by rw[zAO,zAq,BV]; rfl
 | x::y::r,_=>by
  have:=zBH (y::r) (Ae _ _)
  rw[zAI,zAO,← this]
abbrev W5:List Str:=["not","and","or","either","most"]
inductive Stk:List (List T)->List Str->Prop
 | base (ks:List Sy) (h:∀ k∈ks,k.qs 1000):Stk [ks.map Sy.t] (ks.map Sy.txt)
 | up (w:Str) (hw:w∈W5) (ks:List Sy) (h:∀ k∈ks,k.qs 1000) {zs:List (List T)} {toks:List Str} (hs:Stk zs toks):Stk ((sT w::ks.map Sy.t)::zs) (toks++("("++w)::ks.map Sy.txt)
theorem zDz{zs:List (List T)}{toks:List Str}(h:Stk zs toks):∃ y r,zs=y::r:=by
 cases h with
 | base ks _=>exact⟨_,_,rfl⟩
 | up w _ ks _ _=>exact⟨_,_,rfl⟩
theorem zEY{ks:List Sy}(h:∀ k∈ks,k.qs 1000){s:Sy}(hs:s.qs 1000):∀ k∈ks++[s],k.qs 1000:=fun k hk=>by
 rcases Aw.mp hk with hk | hk
 ·exact h k hk
 ·rw[AD]at hk; rw[hk]; exact hs
theorem zDp{y:List T}{zs:List (List T)}{toks:List Str}(h:Stk (y::zs) toks)(s:Sy)(hs:s.qs 1000):Stk ((y++[s.t])::zs) (toks++[s.txt]):=by
 cases h with
 | base ks h =>
  have:=Stk.base (ks++[s]) (zEY h hs)
  rwa [Cb,Cb]at this
 | up w hw ks h hs0 =>
  have:=Stk.up w hw (ks++[s]) (zEY h hs) hs0
  rw[Cb,Cb]at this
  simpa using this
theorem ro1(r:List T):rowOk Tb (sT "not"::r)=decide (((r.length+1:Nat):Int)=1+1):=by kernel_rfl
theorem ro2(w:Str)(hw:w="and"\/w="or"\/w="either")(r:List T):rowOk Tb (sT w::r)=decide (((r.length+1:Nat):Int)=1+2):=by rcases hw with rfl | rfl | rfl <;> kernel_rfl
theorem ro3(r:List T):rowOk Tb (sT "most"::r)=decide (((r.length+1:Nat):Int)=1+3):=by kernel_rfl
theorem len1{α:Type}{ks:List α}(h:ks.length=1):∃ a,ks=[a]:=by
 match ks,h with
 | [a],_=>exact⟨a,rfl⟩
theorem len2{α:Type}{ks:List α}(h:ks.length=2):∃ a b,ks=[a,b]:=by
 match ks,h with
 | [a,b],_=>exact⟨a,b,rfl⟩
theorem len3{α:Type}{ks:List α}(h:ks.length=3):∃ a b c,ks=[a,b,c]:=by
 match ks,h with
 | [a,b,c],_=>exact⟨a,b,c,rfl⟩
def arity(w:Str):Nat:=if w="not" then 1 else if w="most" then 3 else 2
theorem zHY(w:Str)(hw:w∈W5)(ks:List Sy)(h:∀ k∈ks,k.qs 1000)(hl:ks.length=arity w):∃ s:Sy,s.qs 1000/\s.t=.t (sT w::ks.map Sy.t)/\s.txt=brS w (ks.map Sy.txt):=by
 simp only[W5,AF,AK,or_false]at hw
 have m:∀ {k:Sy},k∈ks->k.qs 1000:=fun hk=>h _ hk
 rcases hw with rfl | rfl | rfl | rfl | rfl
 ·obtain⟨a,rfl⟩:=len1 (hl.trans (by decide))
  exact⟨.nt a,m (k:=a) (by simp),rfl,rfl⟩
 ·obtain⟨a,b,rfl⟩:=len2 (hl.trans (by decide))
  exact⟨.an a b,⟨m (by simp),m (by simp)⟩,rfl,rfl⟩
 ·obtain⟨a,b,rfl⟩:=len2 (hl.trans (by decide))
  exact⟨.or a b,⟨m (by simp),m (by simp)⟩,rfl,rfl⟩
 ·obtain⟨a,b,rfl⟩:=len2 (hl.trans (by decide))
  exact⟨.ei a b,⟨m (by simp),m (by simp)⟩,rfl,rfl⟩
 ·obtain⟨a,b,c,rfl⟩:=len3 (hl.trans (by decide))
  exact⟨.mo a b c,⟨m (by simp),m (by simp),m (by simp)⟩,rfl,rfl⟩
theorem zKE(w:Str)(hw:w∈W5)(r:List T)(hr:rowOk Tb (sT w::r)=true):r.length=arity w:=by
 simp only[W5,AF,AK,or_false]at hw
 rcases hw with rfl | rfl | rfl | rfl | rfl
 ·rw[ro1]at hr; have:=of_decide_eq_true hr; rw[show arity "not"=1 by decide]; omega
 ·rw[ro2 _ (.inl rfl)]at hr; have:=of_decide_eq_true hr; rw[show arity "and"=2 by decide]; omega
 ·rw[ro2 _ (.inr (.inl rfl))]at hr; have:=of_decide_eq_true hr; rw[show arity "or"=2 by decide]; omega
 ·rw[ro2 _ (.inr (.inr rfl))]at hr; have:=of_decide_eq_true hr; rw[show arity "either"=2 by decide]; omega
 ·rw[ro3]at hr; have:=of_decide_eq_true hr; rw[show arity "most"=3 by decide]; omega
theorem zKf(w:Str)(K:List Str)(x:Str)(hx:x=brS w K):Jn [x]=Jn (("("++w)::K)++[41]:=by
 have:=zBH (w::K) (Ae _ _)
 rw[zAO]at this
 rw[hx,zAO,zAO,zAq,BV,zAT,zAD,show ("(":Str).cps.toList=[40] from rfl,(BY this).2]
 simp
theorem zCB:∀ (n:Nat) (zs:List (List T)) (toks:List Str),Stk zs toks->closeN Tb n zs=.error errB\/∃ zs' toks',closeN Tb n zs=.ok zs'/\Stk zs' toks'/\Jn toks'=Jn toks++AM n 41
 | 0,zs,toks,h=>.inr ⟨zs,toks,rfl,h,by simp⟩
 | n+1,_,_,.base ks hk=>.inl rfl
 | n+1,_,_,.up w hw ks hk hs=>by
  obtain⟨y,r,rfl⟩:=zDz hs
  by_cases hr:rowOk Tb (sT w::ks.map Sy.t)=true
  ·have hl:=zKE w hw _ hr
   rw[BA]at hl
   obtain⟨s,hq,ht,hx⟩:=zHY w hw ks hk hl
   have p:=zDp hs s hq
   rw[zAo w _ hr n y r,← ht]
   rcases zCB n _ _ p with h | ⟨zs',toks',h1,h2,h3⟩
   ·exact .inl h
   ·refine .inr ⟨zs',toks',h1,h2,?_⟩
    rw[h3,zA0,zA0,zKf w _ _ hx,BD]
    simp
  ·refine .inl ?_
   show (match closeS Tb ((sT w::ks.map Sy.t)::y::r) with
    | none=>GS errB
    | some zs'=>closeN Tb n zs')=_
   have:closeS Tb ((sT w::ks.map Sy.t)::y::r)=none:=by
    show (if rowOk Tb (sT w::ks.map Sy.t)=true then _ else none)=_
    rw[if_neg hr]
   rw[this]
theorem zFT:∀ l:List Nat,∃ c r,l=AM c 41++r/\(l.takeWhile fun n=>n == 41)=AM c 41
 | []=>⟨0,[],rfl,rfl⟩
 | a::l=>by
  by_cases h:a=41
  ·subst h
   obtain⟨c,r,e1,e2⟩:=zFT l
   exact⟨c+1,r,by rw[BD,BS,← e1],by rw[E4,if_pos (by decide),e2,BD]⟩
  ·exact⟨0,a::l,rfl,by rw[E4,if_neg (by simpa using h)]; rfl⟩
theorem zHV(x:Str):∃ b c,x=b++clsS c/\BK x ")"=b:=by
 obtain⟨c,r,e1,e2⟩:=zFT x.cps.toList.reverse
 have ex:x.cps.toList=r.reverse++AM c 41:=by
  have:=congrArg List.reverse e1
  rwa [List.reverse_reverse,G9,Gb]at this
 have hx:x=⟨r.reverse.toArray⟩++clsS c:=zAE (by rw[zAD,zAj,ex])
 refine⟨⟨r.reverse.toArray⟩,c,hx,?_⟩
 show Jt (")":Str).cps.contains false true x=_
 rw[FQ]
 have hlen:x.length=r.length+c:=by
  have:=congrArg Be ex
  rw[Am,HA,By]at this
  rw[← this]; exact AN.symm
 have g:(")":Str).cps.contains=fun n=>n == 41:=by
  funext n
  show (#[41]:Array Nat).contains n=_
  simp[Hr]
 have hi:Ie (")":Str).cps.contains true x (FL (")":Str).cps.contains false x)=r.length:=by
  unfold Ie FL
  rw[if_pos rfl,if_neg AQ,Dl,g,e2,By,hlen]
  omega
 rw[hi]
 refine zAE ?_
 show (x.cps.extract (FL (")":Str).cps.contains false x) r.length).toList=_
 have lo:FL (")":Str).cps.contains false x=0:=rfl
 rw[lo,Gu,ex]
 unfold Ig
 rw[Gr,Dl,Hs (by rw[HA])]
abbrev WS:=wordS Tb F_10 F_12
theorem zF3(x:Str)(ha:∀ c∈x.cps.toList,c < 128)(hl:x.length<=9000)(zs:List (List T))(toks:List Str)(h:Stk zs toks):WS zs x=some (.error errB)\/∃ zs' toks',WS zs x=some (.ok zs')/\Stk zs' toks'/\Jn toks'=Jn toks++Jn [x]:=by
 by_cases hst:BL x "("=true
 ·have:∃ w:Str,x="("++w:=by
   cases hc:x.cps.toList with
   | nil =>
    have hx:x=⟨#[]⟩:=zBu hc
    rw[hx]at hst; exact absurd hst (by decide)
   | cons a r =>
    rw[zBM hc]at hst
    have:a=40:=by simpa using hst
    exact⟨⟨r.toArray⟩,zAE (by rw[hc,zAD,this]; rfl)⟩
  obtain⟨w,rfl⟩:=this
  have hwl:1+w.length<=9000:=by rw[Au]at hl; exact hl
  have hsl:=zCl w
  rcases zGC w with ⟨hw,e⟩ | e
  ·refine .inr ⟨[sT w]::zs,toks++[("("++w)],?_,Stk.up w hw [] (fun _ z=>nomatch z) h,by rw[zA0]⟩
   have hh:headOk Tb [.a (.str w)]=true:=(show ∀ w∈(["not","and","or","either","most"]:List Str),headOk Tb [.a (.str w)]=true by
    intro w hw
    simp only[AF,AK,or_false]at hw
    rcases hw with rfl | rfl | rfl | rfl | rfl <;> kernel_rfl) w hw
   unfold WS wordS
   rw[if_pos (by omega),if_pos hst,hsl,if_pos (by omega),e,AV]
   show (if headOk Tb [.a (.str w)]=true/\([T.a (.str w)]:List T).length<=1 then _ else _)=_
   rw[if_pos ⟨hh,AL _⟩]
  ·refine .inl ?_
   unfold WS wordS
   rw[if_pos (by omega),if_pos hst,hsl,if_pos (by omega),e,AV]
   rfl
 ·obtain⟨b,c,ex,er⟩:=zHV x
  have hsl:=zCf b c
  rw[← ex]at hsl
  have hsz:(sliceT x (some (b.length:Int)) none).cps.size=c:=by
   have:=congrArg Be hsl
   simpa using this
  have hbc:b.length+c<=9000:=by rw[ex,Au,zCr]at hl; exact hl
  have hsl':(sliceT x (some (b.length:Int)) none).length<=10000:=by show (sliceT x (some (b.length:Int)) none).cps.size<=_; omega
  have hal:(sliceT x (some (b.length:Int)) none).cps.all (· < 128)=true:=by
   rw[← DH,hsl,A4]
   intro k hk
   have:=D9 hk
   simp[this]
  obtain⟨y,r,rfl⟩:=zDz h
  have hb:∀ k∈b.cps.toList,k < 128:=fun k hk=>ha k (by rw[ex,zAD]; exact Co _ hk)
  rcases zDh b hb (by omega) with ⟨s,⟨hq,hx,_⟩,e⟩ | e
  ·have p:=zDp h s hq
   have ew:WS (y::r) x=some (closeN Tb c ((y++[s.t])::r)):=by
    unfold WS wordS
    rw[if_pos (by omega),if_neg hst,er,if_pos ⟨by omega,hsl',hal⟩,e,AV,hsz]
    cases s <;> rfl
   rw[ew]
   rcases zCB c _ _ p with h | ⟨zs',toks',h1,h2,h3⟩
   ·exact .inl (by rw[h])
   ·refine .inr ⟨zs',toks',by rw[h1],h2,?_⟩
    rw[h3,zA0,zAO,zAO,hx,ex,zAD,zAj,zAq]
    simp
  ·refine .inl ?_
   unfold WS wordS
   rw[if_pos (by omega),if_neg hst,er,if_pos ⟨by omega,hsl',hal⟩,e,AV]
   rfl
theorem zCF:∀ (ws:List Str) (zs:List (List T)) (toks:List Str),(∀ x∈ws,(∀ c∈x.cps.toList,c < 128)/\x.length<=9000)->Stk zs toks->RM ws zs=some (.error errB)\/∃ zs' toks',RM ws zs=some (.ok zs')/\Stk zs' toks'/\Jn toks'=Jn toks++Jn ws
 | [],zs,toks,_,h=>.inr ⟨zs,toks,rfl,h,by rw[zAq,BV]⟩
 | x::ws,zs,toks,hw,h=>by
  have hx:=hw x AE
  show (WS zs x).bind _=_\/∃ zs' toks',(WS zs x).bind _=_/\_
  rcases zF3 x hx.1 hx.2 zs toks h with e | ⟨zs1,toks1,e,h1,j1⟩
  ·rw[e]; exact .inl rfl
  ·rw[e,AV]
   rcases zCF ws zs1 toks1 (fun y hy=>hw y (AG _ hy)) h1 with e2 | ⟨zs2,toks2,e2,h2,j2⟩
   ·exact .inl e2
   ·refine .inr ⟨zs2,toks2,e2,h2,?_⟩
    rw[j2,j1,A7,← zA0]; rfl
theorem zDt(x:Str)(ha:∀ c∈x.cps.toList,c < 128):Jn (Ar x " ")=32::x.cps.toList/\(Ar x " ").length<=x.length+1/\∀ w∈Ar x " ",(∀ c∈w.cps.toList,c < 128)/\w.length<=x.length:=by
 have e:jn (Ar x " ")=x:=CN x ⟨#[32]⟩
 have hne:Ar x " "≠[]:=fun z=>by
  rw[z]at e
  rw[← e]at z
  exact absurd z (by decide +kernel)
 have j:=zBH _ hne
 rw[e]at j
 refine⟨j.symm,?_,fun w hw=>?_⟩
 ·have:=zAi 32 _ hne
  have e':BE ⟨#[32]⟩ (Ar x " ")=x:=e
  rw[e']at this
  have h:(Ar x " ").length<=tot (Ar x " "):=Da _ _
  omega
 ·obtain⟨a,b,hab⟩:=HM hw
  rw[hab,zA0,zAO]at j
  refine⟨fun c hc=>?_,?_⟩
  ·have:c∈32::x.cps.toList:=by rw[j]; simp[hc]
   rcases AF.mp this with h | h
   ·omega
   ·exact ha c h
  ·have:=congrArg Be j
   simp only[AW,Am]at this
   have h1:w.cps.toList.length=w.length:=AN
   have h2:x.cps.toList.length=x.length:=AN
   omega
theorem zFn(x:Str)(ha:∀ c∈x.cps.toList,c < 128)(hl:x.length<=9000):F_14 [.v (sT x)]=some (.v (badT 0),[])\/∃ s:Sy,s.qs 1000/\s.txt=x:=by
 obtain⟨j,hn,hw⟩:=zDt x ha
 have key:F_14 [.v (sT x)]=(RM (Ar x " ") [[]]).bind fun r=>(match r with
  | .error z=>some (G.v (.x z.1 z.2),[])
  | .ok [[t]]=>match isXg (.v t) with
   | some _=>none
   | none=>some (.v t,[])
  | .ok _=>some (.v (.x errB.1 errB.2),[]):Option (G×List T)):=by
  show (if x.length<=10000/\(Ar x " ").length<=20000 then (RM (Ar x " ") [[]]).bind fun r=>(match r with
  | .error z=>some (G.v (.x z.1 z.2),[])
  | .ok [[t]]=>match isXg (.v t) with
   | some _=>none
   | none=>some (.v t,[])
  | .ok _=>some (.v (.x errB.1 errB.2),[]):Option (G×List T)) else none)=_
  rw[if_pos ⟨by omega,by omega⟩]
 rw[key]
 rcases zCF (Ar x " ") [[]] [] (fun w h=>⟨(hw w h).1,by have:=(hw w h).2; omega⟩) (.base [] fun _ z=>nomatch z) with e | ⟨zs,toks,e,h,je⟩
 ·rw[e]; exact .inl rfl
 ·rw[e,AV]
  cases h with
  | base ks hk =>
   match ks,hk,je with
   | [],_,_=>exact .inl rfl
   | [s],hk,je =>
    refine .inr ⟨s,hk s AE,?_⟩
    rw[j,zAq,Bo,Ah,FJ,zAO,zAq,BV]at je
    exact zAE (BY je).2
   | s::s'::r,_,_=>exact .inl rfl
  | up w hw' ks hk hs =>
   obtain⟨y,r,rfl⟩:=zDz hs
   cases ks <;> exact .inl rfl
def nd(d:Int)(c:Nat):Int:=d+(if c=40 then 1 else 0) - (if c=41 then 1 else 0)
def clo:Int->List Nat->Nat->Option Nat
 | _,[],_=>none
 | d,c::r,k=>if nd d c=0 then some k else clo (nd d c) r (k+1)
theorem zKo(f:Str)(k:Nat)(c:Nat)(h:f.cps.toList[k]?=some c)(hl:f.length<=10000)(Γ:En):ixS Γ (.v (sT f)) (.v (iT (k:Int)))=some (.v (sT (oneC c))):=by
 show (if f.length<=AC then (atI f.cps.toList (k:Int)).map fun c=>S.v (.a (.str ⟨#[c]⟩)) else none)=_
 rw[if_pos (zAB (by omega)),zAX,h]; rfl
theorem zFZ(c:Nat)(Γ:En):eqS Γ (.v (sT (oneC c))) (.v (.a (.str "(")))=some (.v (.a (.bl (decide (c=40))))):=by
 rw[zAL]; simp only[show ("(":Str)=oneC 40 from rfl,zBC]
theorem zFd(c:Nat)(Γ:En):eqS Γ (.v (sT (oneC c))) (.v (.a (.str ")")))=some (.v (.a (.bl (decide (c=41))))):=by
 rw[zAL]; simp only[show (")":Str)=oneC 41 from rfl,zBC]
theorem zIu(c:Nat)(Γ:En):eqS Γ (.v (sT (oneC c))) (.v (.a (.str " ")))=some (.v (.a (.bl (decide (c=32))))):=by
 rw[zAL]; simp only[show (" ":Str)=oneC 32 from rfl,zBC]
theorem zEt(x:Str)(X1:Option G)(c k:Nat)(d:Int)(h:x.cps.toList[k]?=some c)(hl:x.length<=10000):d_18_b1 [some (.v (sT x)),X1,some (.v (iT d)),some (.v (iT (k:Int)))]=if nd d c=0 then some (.rt (.v (iT (k:Int))) [some (.v (sT x)),X1,some (.v (iT (nd d c))),some (.v (iT (k:Int)))]) else some (.nx [some (.v (sT x)),X1,some (.v (iT (nd d c))),some (.v (iT (k:Int)))]):=by
 have a:=zKo x k c h hl
 have e1:=zFZ c
 have e2:=zFd c
 simp only[sT]at a e1 e2 ⊢
 generalize oneC c=oc at *
 by_cases h40:c=40
 ·subst h40
  by_cases hd:d+1=0
  ·simp[d_18_b1,a,e1,e2,-zAL,nd,hd]
  ·simp[d_18_b1,a,e1,e2,-zAL,nd,hd]
 ·by_cases h41:c=41
  ·subst h41
   by_cases hd:d - 1=0
   ·simp[d_18_b1,a,e1,e2,-zAL,nd,hd]
   ·simp[d_18_b1,a,e1,e2,-zAL,nd,hd]
  ·by_cases hd:d=0
   ·simp[d_18_b1,a,e1,e2,-zAL,nd,hd,h40,h41]
   ·simp[d_18_b1,a,e1,e2,-zAL,nd,hd,h40,h41]
theorem zJl{tg:En->T->Option En}{b:DS}{t:T}{r:List T}{Γ Γ1 Γ2:En}{s:S}(h1:tg Γ t=some Γ1)(h2:b Γ1=some (.rt s Γ2)):forD tg b (t::r) Γ=some (.rt s Γ2):=by
 rw[zDO,h1,AV,h2]; rfl
theorem zCD(x:Str)(X1:Option G)(hl:x.length<=10000):∀ (l:List Nat) (k:Nat) (d:Int) (o3:Option G),x.cps.toList.drop k=l->∃ Γ':En,forD (gdName 3) d_18_b1 (tvT (G0 k l.length)) [some (.v (sT x)),X1,some (.v (iT d)),o3]=match clo d l k with
  | none=>some (.nx Γ')
  | some j=>some (.rt (.v (iT (j:Int))) Γ')
 | [],k,d,o3,_=>⟨_,rfl⟩
 | c::r,k,d,o3,h=>by
  have hc:x.cps.toList[k]?=some c:=by
   have:=congrArg List.head? h
   rwa [List.head?_drop]at this
  have t:=zEt x X1 c k d hc hl
  rw[AW,List.range'_succ,show tvT (k::G0 (k+1) r.length)=iT (k:Int)::tvT (G0 (k+1) r.length) from rfl]
  by_cases hz:nd d c=0
  ·rw[if_pos hz]at t
   refine⟨[some (.v (sT x)),X1,some (.v (iT (nd d c))),some (.v (iT (k:Int)))],?_⟩
   rw[show clo d (c::r) k=some k from if_pos hz]
   exact zJl (Γ1:=[some (.v (sT x)),X1,some (.v (iT d)),some (.v (iT (k:Int)))]) rfl t
  ·rw[if_neg hz]at t
   have hd:x.cps.toList.drop (k+1)=r:=by rw[← El,h]; rfl
   obtain⟨Γ',e⟩:=zCD x X1 hl r (k+1) (nd d c) (some (.v (iT (k:Int)))) hd
   refine⟨Γ',?_⟩
   rw[show clo d (c::r) k=clo (nd d c) r (k+1) from if_neg hz,zAp (Γ1:=[some (.v (sT x)),X1,some (.v (iT d)),some (.v (iT (k:Int)))]) rfl t]
   exact e
def cloI(x:Str):Int:=match clo 0 x.cps.toList 0 with
 | none=>-1
 | some j=>(j:Int)
theorem zJW{f g:DE}{Γ:En}{a b:Nat}(h1:f Γ=some (.v (iT (a:Int)),Γ))(h2:g Γ=some (.v (iT (b:Int)),Γ))(ha:a<=100000)(hb:b<=100000):dRng2 (jW f (jW g qQ)) Γ=some ((rngT (a:Int) (b - a),[]),Γ):=by
 have e:jW f (jW g qQ) Γ=some ([.v (iT (a:Int)),.v (iT (b:Int))],Γ):=by unfold jW; rw[h1,AV]; dsimp only; rw[h2]; rfl
 unfold dRng2
 rw[e,AV]
 dsimp only[iT]
 have c:(inR 4611686018427387903 (a:Int) && inR 4611686018427387903 (b:Int) && D8 ((b:Int) - (a:Int)).toNat AC)=true:=by
  have:=zGY a b ha hb
  unfold rngS at this
  dsimp only at this
  split at this
  ·assumption
  ·cases this
 rw[if_pos c,show ((b:Int) - (a:Int)).toNat=b - a by omega]
theorem zHI(x:Str)(hl:x.length<=10000):F_18 [.v (sT x),.v (iT 0)]=some (.v (iT (cloI x)),[]):=by
 have gz:x.length<=AC:=zAB (by omega)
 have hlen:x.cps.toList.length=x.length:=AN
 obtain⟨Γ',e⟩:=zCD x (some (.v (iT 0))) hl x.cps.toList 0 0 none rfl
 rw[hlen,← List.range_eq_range',← zFP]at e
 have rg:dRng2 (jW (jV 1) (jW (dCB lenS (jW (jV 0) qQ)) qQ)) [some (.v (sT x)),some (.v (iT 0)),some (.v (iT 0)),none]=some ((rngT 0 x.length,[]),[some (.v (sT x)),some (.v (iT 0)),some (.v (iT 0)),none]) :=
  zJW (a:=0) (b:=x.length) rfl (by simp[lenS,gz]) (by decide) (by omega)
 unfold cloI
 cases hc:clo 0 x.cps.toList 0 with
 | none =>
  rw[hc]at e
  simp[F_18,fnD,d_18,rg,e]
 | some j =>
  rw[hc]at e
  simp[F_18,fnD,d_18,rg,e]
def pst(st:List Str×Str×Int)(c:Nat):List Str×Str×Int:=if c=32/\nd st.2.2 c=0 then (st.1++[st.2.1],"",nd st.2.2 c) else (st.1,st.2.1++oneC c,nd st.2.2 c)
def pcs(x:Str):List Str:=(x.cps.toList.foldl pst ([],"",0)).1++[(x.cps.toList.foldl pst ([],"",0)).2.1]
theorem zK2(n:Nat):ixN (n+1) (-1)=some n:=by
 unfold ixN
 have h:¬ (0:Int)<=-1:=by decide
 simp
 omega
theorem zHw{α:Type}(l:List α)(a b:α):(l++[a]).set l.length b=l++[b]:=by simp
theorem zE0(X0:Option G)(fs:List Str)(cur:Str)(d:Int)(c:Nat)(h1:fs.length<=20000)(h2:cur.length<=20000):d_17_b1 [X0,some (.l (strsT (fs++[cur]))),some (.v (iT d)),some (.v (sT (oneC c)))]=some (.nx [X0,some (.l (strsT ((pst (fs,cur,d) c).1++[(pst (fs,cur,d) c).2.1]))),some (.v (iT (pst (fs,cur,d) c).2.2)),some (.v (sT (oneC c)))]):=by
 have e1:=zFZ c
 have e2:=zFd c
 have e3:=zIu c
 have hs:∀ xs:List Str,strsT (xs++[cur])=strsT xs++[sT cur]:=fun xs=>by simp[strsT]
 have at1:atI (strsT (fs++[cur])) (-1)=some (sT cur):=by
  rw[hs]; exact L2.atI_last _ _
 have ln:(strsT (fs++[cur])).length=fs.length+1:=by simp[strsT]
 have g1:(strsT (fs++[cur])).length < AC:=AY (by rw[ln]; exact EI _) (zAB (n:=fs.length+2) (by omega))
 have g2:cur.length+(oneC c).length<=AC:=zAB (by show cur.length+1<=_; omega)
 have st:∀ t:T,(strsT (fs++[cur])).set fs.length t=strsT fs++[t]:=fun t=>by
  have:=zHw (strsT fs) (sT cur) t
  rw[show (strsT fs).length=fs.length by simp[strsT]]at this
  rw[hs]; exact this
 have ixn:=zK2 fs.length
 have ad:∀ Γ:En,addS Γ (.v (sT cur)) (.v (sT (oneC c)))=some (.v (sT (cur++oneC c))):=fun Γ=>by
  show (if cur.length+(oneC c).length<=AC then _ else _)=_
  rw[if_pos g2]
 have sA:∀ y:Str,strsT (fs++[y])=strsT fs++[sT y]:=fun y=>by simp[strsT]
 have sB:strsT (fs++[cur]++[("":Str)])=strsT (fs++[cur])++[sT ""]:=by simp[strsT]
 generalize hL:strsT (fs++[cur])=L at *
 simp only[sT]at *
 generalize hoc:oneC c=oc at *
 by_cases h32:c=32/\nd d c=0
 ·have hp:pst (fs,cur,d) c=(fs++[cur],("":Str),nd d c):=if_pos h32
  rw[hp]
  dsimp only
  rw[sB]
  obtain⟨rfl,hd⟩:=h32
  have hd':d=0:=by simpa [nd] using hd
  subst hd'
  simp[d_17_b1,e1,e2,e3,-zAL,nd,g1,gd,Bk g1]
 ·have hp:pst (fs,cur,d) c=(fs,cur++oc,nd d c):=by rw[← hoc]; exact if_neg h32
  rw[hp]
  dsimp only
  rw[sA]
  by_cases h40:c=40
  ·subst h40
   simp[d_17_b1,e1,e2,e3,-zAL,nd,gd,Bk g1,at1,ad,ln,ixn,st]
  ·by_cases h41:c=41
   ·subst h41
    simp[d_17_b1,e1,e2,e3,-zAL,nd,gd,Bk g1,at1,ad,ln,ixn,st]
   ·have hnd:nd d c=d:=by simp[nd,h40,h41]
    rw[hnd]at h32
    by_cases hd:d=0
    ·have h3:¬ c=32:=fun z=>h32 ⟨z,hd⟩
     simp[d_17_b1,e1,e2,e3,-zAL,nd,gd,Bk g1,at1,ad,ln,ixn,st,h40,h41,h3,hd]
    ·by_cases h3:c=32
     ·subst h3
      simp[d_17_b1,e1,e2,e3,-zAL,nd,gd,Bk g1,at1,ad,ln,ixn,st,hd]
     ·simp[d_17_b1,e1,e2,e3,-zAL,nd,gd,Bk g1,at1,ad,ln,ixn,st,h40,h41,hd,h3]
theorem zB9(X0:Option G):∀ (l:List Nat) (fs:List Str) (cur:Str) (d:Int) (o3:Option G),fs.length+l.length<=10000->cur.length+l.length<=10000->∃ o3',forD (gdName 3) d_17_b1 (l.map fun c=>sT (oneC c)) [X0,some (.l (strsT (fs++[cur]))),some (.v (iT d)),o3]=some (.nx [X0,some (.l (strsT ((l.foldl pst (fs,cur,d)).1++[(l.foldl pst (fs,cur,d)).2.1]))),some (.v (iT (l.foldl pst (fs,cur,d)).2.2)),o3'])
 | [],fs,cur,d,o3,_,_=>⟨o3,rfl⟩
 | c::l,fs,cur,d,o3,h1,h2=>by
  rw[AW]at h1 h2
  have t:=zE0 X0 fs cur d c (by omega) (by omega)
  have b:(pst (fs,cur,d) c).1.length<=fs.length+1/\(pst (fs,cur,d) c).2.1.length<=cur.length+1:=by
   unfold pst
   split
   ·refine⟨by simp,?_⟩
    show 0<=_; omega
   ·refine⟨by simp,?_⟩
    show (cur++oneC c).length<=_
    rw[Au]; exact AL _
  obtain⟨o3',e⟩:=zB9 X0 l (pst (fs,cur,d) c).1 (pst (fs,cur,d) c).2.1 (pst (fs,cur,d) c).2.2 (some (.v (sT (oneC c)))) (by omega) (by omega)
  refine⟨o3',?_⟩
  rw[Ah,CZ,zAp (Γ1:=[X0,some (.l (strsT (fs++[cur]))),some (.v (iT d)),some (.v (sT (oneC c)))]) rfl t]
  exact e
theorem zGT(x:Str)(ha:∀ c∈x.cps.toList,c < 128)(hl:x.length<=9000):F_17 [.v (sT x)]=some (.l (strsT (pcs x)),[]):=by
 have gz:x.length<=AC:=zAB (by omega)
 have hlen:x.cps.toList.length=x.length:=AN
 obtain⟨o3,e⟩:=zB9 (some (.v (sT x))) x.cps.toList [] "" 0 none (by rw[hlen]; show 0+_<=_; omega) (by rw[hlen]; show 0+_<=_; omega)
 have asc:x.cps.all (· < 128)=true:=by
  rw[← DH,A4]
  intro c hc
  simpa using ha c hc
 have di:∀ Γ':En,dStrI (jV 0) (some (.v (.a (.str x)))::Γ')=some ((x.cps.toList.map fun c=>sT (oneC c),[]),some (.v (.a (.str x)))::Γ'):=fun Γ'=>by
  show (if x.cps.all (· < 128)=true/\x.length<=AC then some ((sgnT x,[]),some (G.v (.a (.str x)))::Γ') else none)=_
  rw[if_pos ⟨asc,gz⟩]; rfl
 unfold pcs
 have e0:strsT ([]++[("":Str)])=[T.a (.str "")]:=rfl
 rw[e0]at e
 generalize (x.cps.toList.foldl pst ([],"",0))=R at *
 simp only[sT]at e di
 generalize (x.cps.toList.map fun c=>T.a (.str (oneC c)))=LS at *
 have g1:(1:Nat)<=AC:=by decide
 simp[F_17,fnD,d_17,di,e,-zAn,g1,gd]
theorem zCq(fs:List Str)(x:Str):Jn (fs++[x])=Jn fs++32::x.cps.toList:=by rw[zA0,zAO,zAq,BV]
theorem zCQ:∀ (l:List Nat) (fs:List Str) (cur:Str) (d:Int),Jn ((l.foldl pst (fs,cur,d)).1++[(l.foldl pst (fs,cur,d)).2.1])=Jn (fs++[cur])++l
 | [],fs,cur,d=>by simp
 | c::l,fs,cur,d=>by
  rw[CZ]
  by_cases h:c=32/\nd d c=0
  ·rw[show pst (fs,cur,d) c=(fs++[cur],("":Str),nd d c) from if_pos h,zCQ l,zCq (fs++[cur]),h.1,show ("":Str).cps.toList=[] from rfl]
   simp
  ·rw[show pst (fs,cur,d) c=(fs,cur++oneC c,nd d c) from if_neg h,zCQ l,zCq,zCq,zAD,show (oneC c).cps.toList=[c] from rfl]
   simp
theorem zId(x:Str):Jn (pcs x)=32::x.cps.toList:=by
 unfold pcs
 rw[zCQ]; rfl
theorem zKz(x:Str):pcs x≠[]:=by unfold pcs; simp
def Good(x:Str):Prop:=(∀ (fs:List Str) (cur:Str) (d:Int),0<=d->x.cps.toList.foldl pst (fs,cur,d)=(fs,cur++x,d))/\(∀ (d:Int) (k:Nat) (r:List Nat),1<=d->clo d (x.cps.toList++r) k=clo d r (k+x.cps.toList.length))
theorem zE2(cur:Str)(c:Nat)(l:List Nat):cur++oneC c++⟨l.toArray⟩=cur++⟨(c::l).toArray⟩:=zAE (by rw[zAD,zAD,zAD]; simp[oneC])
theorem zBG:∀ (l:List Nat) (fs:List Str) (cur:Str) (d:Int),(∀ c∈l,c≠32/\c≠40/\c≠41)->l.foldl pst (fs,cur,d)=(fs,cur++⟨l.toArray⟩,d)
 | [],fs,cur,d,_=>by
  show (fs,cur,d)=_
  rw[show cur++(⟨([]:List Nat).toArray⟩:Str)=cur from zAE (by rw[zAD]; simp)]
 | c::l,fs,cur,d,h=>by
  obtain⟨h1,h2,h3⟩:=h c AE
  rw[CZ,show pst (fs,cur,d) c=(fs,cur++oneC c,nd d c) from if_neg fun z=>h1 z.1,show nd d c=d by simp[nd,h2,h3],zBG l _ _ _ (fun x hx=>h x (AG _ hx)),zE2]
theorem zBr:∀ (l:List Nat) (d:Int) (k:Nat) (r:List Nat),(∀ c∈l,c≠32/\c≠40/\c≠41)->1<=d->clo d (l++r) k=clo d r (k+l.length)
 | [],d,k,r,_,_=>rfl
 | c::l,d,k,r,h,hd=>by
  obtain⟨h1,h2,h3⟩:=h c AE
  have e:nd d c=d:=by simp[nd,h2,h3]
  show (if nd d c=0 then some k else clo (nd d c) (l++r) (k+1))=_
  rw[e,if_neg (by omega),zBr l d (k+1) r (fun x hx=>h x (AG _ hx)) hd,AW,show k+1+l.length=k+(l.length+1) by omega]
theorem zBW(x:Str)(h:∀ c∈x.cps.toList,c≠32/\c≠40/\c≠41):Good x :=
 ⟨fun fs cur d _=>by rw[zBG _ _ _ _ h,← zBu rfl],fun d k r hd=>zBr _ d k r h hd⟩
theorem zEM:∀ (K:List Str) (fs:List Str) (cur:Str) (d:Int),(∀ x∈K,Good x)->1<=d->(Jn K).foldl pst (fs,cur,d)=(fs,cur++⟨(Jn K).toArray⟩,d)
 | [],fs,cur,d,_,_=>by
  show (fs,cur,d)=_
  rw[show cur++(⟨(Jn []).toArray⟩:Str)=cur from zAE (by rw[zAD]; simp[zAq])]
 | x::K,fs,cur,d,h,hd=>by
  have e:nd d 32=d:=by simp[nd]
  rw[zAO,CZ,C8,show pst (fs,cur,d) 32=(fs,cur++oneC 32,nd d 32) from if_neg fun z=>by rw[e]at z; exact absurd z.2 (by omega),e,(h x AE).1 _ _ _ (by omega),zEM K _ _ _ (fun y hy=>h y (AG _ hy)) hd]
  rw[show cur++oneC 32++x++(⟨(Jn K).toArray⟩:Str)=cur++⟨(32::(x.cps.toList++Jn K)).toArray⟩ from zAE (by simp only[zAD]; simp[oneC])]
theorem zET:∀ (K:List Str) (d:Int) (k:Nat) (r:List Nat),(∀ x∈K,Good x)->1<=d->clo d (Jn K++r) k=clo d r (k+(Jn K).length)
 | [],d,k,r,_,_=>rfl
 | x::K,d,k,r,h,hd=>by
  have e:nd d 32=d:=by simp[nd]
  rw[zAO]
  show (if nd d 32=0 then some k else clo (nd d 32) (x.cps.toList++Jn K++r) (k+1))=_
  rw[e,if_neg (by omega),A7,(h x AE).2 d _ _ hd,zET K d _ r (fun y hy=>h y (AG _ hy)) hd,AW,Am,show k+1+x.cps.toList.length+(Jn K).length=k+(x.cps.toList.length+(Jn K).length+1) by omega]
theorem zDR:∀ (K:List Str) (fs:List Str) (cur:Str),(∀ x∈K,Good x)->((Jn K).foldl pst (fs,cur,0)).1++[((Jn K).foldl pst (fs,cur,0)).2.1]=fs++[cur]++K
 | [],fs,cur,_=>by simp[zAq]
 | x::K,fs,cur,h=>by
  have e:nd 0 32=0:=by simp[nd]
  rw[zAO,CZ,C8,show pst (fs,cur,0) 32=(fs++[cur],("":Str),nd 0 32) from if_pos ⟨rfl,e⟩,e,(h x AE).1 _ _ _ (by omega),zDR K _ _ (fun y hy=>h y (AG _ hy)),show ("":Str)++x=x from zAE (by rw[zAD]; rfl)]
  simp
theorem zAY(w:Str)(K:List Str):(jn (w::K)).cps.toList=w.cps.toList++Jn K:=by
 have:=zBH (w::K) (Ae _ _)
 rw[zAO]at this
 exact (BY this).2
def PlainS(x:Str):Prop:=∀ c∈x.cps.toList,c≠32/\c≠40/\c≠41
theorem zGq(w:Str)(K:List Str)(hw:PlainS w)(h:∀ x∈K,Good x)(d:Int)(hd:1<=d)(k:Nat)(r:List Nat):clo d ((jn (w::K)).cps.toList++r) k=clo d r (k+(jn (w::K)).cps.toList.length):=by
 rw[zAY,A7,zBr _ d k _ hw hd,zET K d _ r h hd,Am,show k+w.cps.toList.length+(Jn K).length=k+(w.cps.toList.length+(Jn K).length) by omega]
theorem zBP(w:Str)(K:List Str)(hw:PlainS w)(h:∀ x∈K,Good x):Good (brS w K):=by
 refine⟨fun fs cur d hd=>?_,fun d k r hd=>?_⟩
 ·have n1:nd d 40=d+1:=by simp[nd]
  have n2:nd (d+1) 41=d:=by simp[nd]
  rw[zAT,CZ,C8,zAY,C8,show pst (fs,cur,d) 40=(fs,cur++oneC 40,nd d 40) from if_neg fun z=>absurd z.1 (by decide),n1,zBG _ _ _ _ hw,zEM K _ _ _ h (by omega)]
  show pst (fs,_,d+1) 41=_
  rw[show ∀ y:Str,pst (fs,y,d+1) 41=(fs,y++oneC 41,nd (d+1) 41) from fun y=>if_neg fun z=>absurd z.1 (by decide),n2]
  rw[show cur++oneC 40++(⟨w.cps.toList.toArray⟩:Str)++(⟨(Jn K).toArray⟩:Str)++oneC 41=cur++brS w K from zAE (by rw[zAD cur (brS w K),zAT,zAY]; simp only[zAD]; simp[oneC])]
 ·have n1:nd d 40=d+1:=by simp[nd]
  have n2:nd (d+1) 41=d:=by simp[nd]
  rw[zAT]
  show (if nd d 40=0 then some k else clo (nd d 40) ((jn (w::K)).cps.toList++[41]++r) (k+1))=_
  rw[n1,if_neg (by omega),A7,zGq w K hw h (d+1) (by omega)]
  show (if nd (d+1) 41=0 then _ else clo (nd (d+1) 41) r (k+1+(jn (w::K)).cps.toList.length+1))=_
  rw[n2,if_neg (by omega),AW,Am,B0,show k+1+(jn (w::K)).cps.toList.length+1=k+((jn (w::K)).cps.toList.length+1+1) by omega]
theorem zAW:∀ w∈W5,PlainS w:=by
 have:∀ w∈W5,w.cps.toList.all (fun c=>decide (c≠32/\c≠40/\c≠41))=true:=by decide +kernel
 intro w hw c hc
 exact of_decide_eq_true (A4.mp (this w hw) c hc)
theorem zDX(q:Nat)(h:q < 1000):PlainS ("q"++numX q):=fun c hc=>by
 rw[zAD]at hc
 rcases Aw.mp hc with hc | hc
 ·have:c=113:=by simpa using (show c∈[113] from hc)
  omega
 ·have:=(zA9 q h).2 c hc
  omega
theorem zAS:∀ s:Sy,s.qs 1000->Good s.txt
 | .yes,_=>zBW _ (by intro c hc; have:c∈[121,101,115]:=hc; simp at this; omega)
 | .no,_=>zBW _ (by intro c hc; have:c∈[110,111]:=hc; simp at this; omega)
 | .ask q,h=>zBW _ (zDX q h)
 | .nt a,h=>zBP _ _ (zAW "not" (by simp)) (by
   intro x hx
   rw[AD]at hx
   rw[hx]; exact zAS a h)
 | .an a b,h=>zBP _ _ (zAW "and" (by simp)) (by
   intro x hx
   simp only[AF,AK,or_false]at hx
   rcases hx with rfl | rfl
   ·exact zAS a h.1
   ·exact zAS b h.2)
 | .or a b,h=>zBP _ _ (zAW "or" (by simp)) (by
   intro x hx
   simp only[AF,AK,or_false]at hx
   rcases hx with rfl | rfl
   ·exact zAS a h.1
   ·exact zAS b h.2)
 | .ei a b,h=>zBP _ _ (zAW "either" (by simp)) (by
   intro x hx
   simp only[AF,AK,or_false]at hx
   rcases hx with rfl | rfl
   ·exact zAS a h.1
   ·exact zAS b h.2)
 | .mo a b c,h=>zBP _ _ (zAW "most" (by simp)) (by
   intro x hx
   simp only[AF,AK,or_false]at hx
   rcases hx with rfl | rfl | rfl
   ·exact zAS a h.1
   ·exact zAS b h.2.1
   ·exact zAS c h.2.2)
theorem zHR(w:Str)(K:List Str)(hw:PlainS w)(h:∀ x∈K,Good x):cloI (brS w K)=((brS w K).length:Int) - 1:=by
 have e:clo 0 (brS w K).cps.toList 0=some ((brS w K).length - 1):=by
  have hl:(brS w K).cps.toList.length=(brS w K).length:=AN
  rw[← hl,zAT]
  show (if nd 0 40=0 then some 0 else clo (nd 0 40) ((jn (w::K)).cps.toList++[41]) 1)=_
  rw[show nd 0 40=1 by simp[nd],if_neg (by decide),zGq w K hw h 1 (by decide)]
  show (if nd 1 41=0 then some (1+(jn (w::K)).cps.toList.length) else _)=_
  rw[show nd 1 41=0 by simp[nd],if_pos rfl,AW,Am,B0]
  congr 1
  omega
 have hp:1<=(brS w K).length:=by rw[zA8]; omega
 unfold cloI
 rw[e]
 show (((brS w K).length - 1:Nat):Int)=_
 omega
theorem zHX(w:Str)(K:List Str)(hw:PlainS w)(h:∀ x∈K,Good x)(x:Str)(hx:x=jn (w::K)):pcs x=w::K:=by
 unfold pcs
 rw[hx,zAY,C8,zBG _ _ _ _ hw,zDR K _ _ h,show ("":Str)++(⟨w.cps.toList.toArray⟩:Str)=w from zAE (by rw[zAD]; simp; rfl)]
 rfl
theorem zEb:∀ (r:List Nat) (d:Int) (k:Nat),1<=d->clo d r k=some (k+r.length - 1)->∃ m,r=m++[41]
 | [],_,_,_,h=>nomatch h
 | c::r,d,k,hd,h=>by
  by_cases hz:nd d c=0
  ·rw[show clo d (c::r) k=some k from if_pos hz]at h
   have hk:=Ap h
   rw[AW]at hk
   have hr:r=[]:=C5.mp (by omega)
   have hc:c=41:=by
    unfold nd at hz
    by_cases h1:c=41
    ·exact h1
    ·rw[if_neg h1]at hz
     split at hz <;> omega
   exact⟨[],by rw[hr,hc]; rfl⟩
  ·rw[show clo d (c::r) k=clo (nd d c) r (k+1) from if_neg hz]at h
   have hn:1<=nd d c:=by
    unfold nd at hz ⊢
    split <;> split <;> (rename_i h1 h2; simp only[h1,h2,if_true,if_false]at hz; omega)
   obtain⟨m,hm⟩:=zEb r (nd d c) (k+1) hn (by rw[h,AW]; congr 1; omega)
   exact⟨c::m,by rw[hm]; rfl⟩
theorem zIp(x:Str)(r:List Nat)(hx:x.cps.toList=40::r)(h:cloI x=(x.length:Int) - 1):∃ m,r=m++[41]:=by
 have hl:x.cps.toList.length=x.length:=AN
 rw[hx,AW]at hl
 unfold cloI at h
 have e:clo 0 x.cps.toList 0=clo 1 r 1:=by
  rw[hx]
  show (if nd 0 40=0 then some 0 else clo (nd 0 40) r 1)=_
  rw[show nd 0 40=1 by simp[nd],if_neg (by decide)]
 rw[e]at h
 cases hc:clo 1 r 1 with
 | none=>rw[hc]at h; have h':(-1:Int)=_:=h; omega
 | some j =>
  rw[hc]at h
  have h':(j:Int)=_:=h
  exact zEb r 1 1 (by decide) (by rw[hc]; congr 1; omega)
theorem zBE(x:Str)(k:Nat)(h:k<=x.length):(sliceT x none (some (k:Int))).cps.toList=x.cps.toList.take k:=by
 have e:sliceT x none (some (k:Int))=BF x (some ((0:Nat):Int)) (some (k:Int)):=by
  show BF x none (some (k:Int))=_
  unfold BF
  rw[StrLaws.sliceIdx_none_lo]; rfl
 rw[e,CW x (Cq _) h]
 simp
theorem zCT(x:Str)(a:Nat)(r:List Nat)(h:x.cps.toList=a::r):sliceT x none (some 1)=oneC a:=by
 have hl:x.cps.toList.length=x.length:=AN
 have:=zBE x 1 (by rw[← hl,h]; simp)
 rw[h]at this
 exact zAE this
theorem zKO(x:Str)(a:Nat)(r:List Nat)(h:x.cps.toList=a::r):sliceT x (some 1) none=⟨r.toArray⟩:=by
 have hl:x.cps.toList.length=x.length:=AN
 have:=zAy x 1 (by rw[← hl,h]; simp)
 rw[h]at this
 exact zAE (by simpa using this)
theorem zLX(x:Str)(a b:Nat)(m:List Nat)(h:x.cps.toList=a::(m++[b])):sliceT x (some 1) (some (-1))=⟨m.toArray⟩:=by
 have hl:x.cps.toList.length=x.length:=AN
 rw[h,AW,Am,B0]at hl
 have e:sliceT x (some 1) (some (-1))=BF x (some ((1:Nat):Int)) (some ((x.length - 1:Nat):Int)):=by
  show BF x (some 1) (some (-1))=_
  rw[StrLaws.sliceText_neg_hi x (some 1) (j:=-1) (by decide) (by omega),show (-1+(x.length:Int))=((x.length - 1:Nat):Int) by omega]
  rfl
 rw[e,CW x (by omega) (by omega),h]
 refine zAE ?_
 show ((List.drop 1 (a::(m++[b]))).take (x.length - 1 - 1)).toArray.toList=m
 rw[DZ,List.drop_one,List.tail_cons,Hs (by omega)]
theorem zBL:sliceT "" none (some 1)=""/\sliceT "" (some 1) none="":=⟨by decide,by decide⟩
theorem zDb:∀ l:List Nat,atomsOf (l.map fun c=>T.a (.bl (digB c)))=some (l.map fun c=>V.bl (digB c))
 | []=>rfl
 | c::r=>by
  have:=zDb r
  rw[Ah]
  simp only[atomsOf,this]; rfl
theorem zHv(l:List Nat)(Γ:En):inS false Γ (.v (.a (.bl false))) (.l (l.map fun c=>T.a (.bl (digB c))))=some (.v (.a (.bl (!l.all digB)))):=by
 show ((atomsOf (l.map fun c=>T.a (.bl (digB c)))).bind fun vs=>if flatV (.bl false)=true/\vs.all flatV=true then some (mkB (inV (.bl false) vs)) else none)=_
 rw[zDb,AV,if_pos ⟨rfl,by rw[Ii]; exact A4.mpr fun _ _=>rfl⟩]
 have:inV (.bl false) (l.map fun c=>V.bl (digB c))=!l.all digB:=by
  unfold inV
  rw[Ij,List.not_all_eq_any_not]
  congr 1
  funext c
  show (digB c == false)=!digB c
  cases digB c <;> rfl
 rw[this]; rfl
theorem no_q{x:Str}(h:x.cps.toList.head?≠some 113)(k:Nat):x≠"q"++numX k:=fun z=>h (by rw[z,zAD]; rfl)
theorem zLr{x:Str}{r:List Nat}(hx:x.cps.toList=113::r)(k:Nat)(z:x="q"++numX k):(⟨r.toArray⟩:Str)=numX k:=by
 rw[z,zAD]at hx
 have:113::(numX k).cps.toList=113::r:=hx
 exact zAE (by simpa using (BY this).2.symm)
theorem zEy(x:Str)(ha:∀ c∈x.cps.toList,c < 128)(hl:x.length<=9000):(∃ k,k < 1000/\x="q"++numX k/\F_19 [.v (sT x)]=some (.v (iT (k:Int)),[]))\/((∀ k,k < 1000->x≠"q"++numX k)/\F_19 [.v (sT x)]=some (.v (iT (-1)),[])):=by
 have g1:(1:Nat)<=AC:=by decide
 cases hx:x.cps.toList with
 | nil =>
  refine .inr ⟨fun k _=>no_q (by rw[hx]; simp) k,?_⟩
  have:x="":=zBu hx
  rw[this]
  have e1:=zBL.1
  have e2:=zBL.2
  have g0:(("":Str)).length<=AC:=by decide
  have nq:∀ Γ:En,neS Γ (.v (.a (.str ""))) (.v (.a (.str "q")))=some (.v (.a (.bl true))):=fun Γ=>by rw[zAJ]; rfl
  simp[F_19,fnD,d_19,e1,e2,g0,nq,-zAJ,zAR]
 | cons a r =>
  have e1:=zCT x a r hx
  have e2:=zKO x a r hx
  have gs:(oneC a).length<=AC:=g1
  have hlen:x.cps.toList.length=x.length:=AN
  rw[hx,AW]at hlen
  have fl:(⟨r.toArray⟩:Str).length=r.length:=by show r.toArray.size=_; simp
  have gf:(⟨r.toArray⟩:Str).length<=AC:=zAB (by omega)
  have nq:∀ Γ:En,neS Γ (.v (.a (.str (oneC a)))) (.v (.a (.str "q")))=some (.v (.a (.bl (!decide (a=113))))):=fun Γ=>by
   rw[zAJ]; simp only[show ("q":Str)=oneC 113 from rfl,zBC]
  by_cases hq:a=113
  rotate_left
  ·refine .inr ⟨fun k _=>no_q (by rw[hx]; simpa using hq) k,?_⟩
   simp only[hq,decide_false,Dm]at nq
   generalize oneC a=oc at *
   generalize (⟨r.toArray⟩:Str)=f at *
   simp[F_19,fnD,d_19,e1,e2,gs,gf,nq,-zAJ,zAR]
  subst hq
  simp only[decide_true,Cd]at nq
  have no:isNumB ⟨r.toArray⟩=false->∀ k,k < 1000->x≠"q"++numX k:=fun h k hk z=>by
   have:=zHZ k hk
   rw[← zLr hx k z,h]at this
   cases this
  have num:isNumB ⟨r.toArray⟩=true->∃ k,k < 1000/\x="q"++numX k/\(⟨r.toArray⟩:Str)=numX k:=fun h=>by
   obtain⟨k,hk,e⟩:=zCh h
   exact⟨k,hk,zAE (by rw[hx,zAD,← e]; rfl),e⟩
  have hr:∀ c∈r,c < 128:=fun c hc=>ha c (by rw[hx]; exact AG _ hc)
  have fc:(⟨r.toArray⟩:Str).cps.toList=r:=by simp
  have ln:∀ Γ:En,lenS Γ [.v (.a (.str ⟨r.toArray⟩))]=some (.v (.a (.int (r.length:Int)))):=fun Γ=>by
   have gf':r.length<=AC:=by rw[← fl]; exact gf
   simp[lenS,fl,gf']
  have numB:isNumB ⟨r.toArray⟩=(decide (r.length<=3) && !(decide (1 < r.length) && decide (r.headD 0=48)) && !decide (r.length=0) && r.all digB):=by
   unfold isNumB
   rw[fl,fc]
  obtain⟨o',ec⟩:=zCP (de:=d_19_e1) (fun _=>rfl) r none hr
  have asc:(⟨r.toArray⟩:Str).cps.all (· < 128)=true:=by
   rw[← DH,fc,A4]
   intro c hc
   simpa using hr c hc
  have di:dStrI (jV 1) [some (.v (.a (.str x))),some (.v (.a (.str ⟨r.toArray⟩)))]=some ((r.map fun c=>T.a (.str (oneC c)),[]),[some (.v (.a (.str x))),some (.v (.a (.str ⟨r.toArray⟩)))]):=by
   show (if (⟨r.toArray⟩:Str).cps.all (· < 128)=true/\(⟨r.toArray⟩:Str).length<=AC then some ((sgnT ⟨r.toArray⟩,[]),[some (G.v (.a (.str x))),some (G.v (.a (.str ⟨r.toArray⟩)))]) else none)=_
   rw[if_pos ⟨asc,gf⟩,zFC,fc]
  have gl:(r.map fun c=>T.a (.bl (digB c))).length<=AC:=zAB (by rw[BA]; omega)
  have inf:=fun Γ=>zHv r Γ
  by_cases hlen2:0 < r.length/\r.length < 4
  rotate_left
  ·refine .inr ⟨no ?_,?_⟩
   ·rw[numB]
    by_cases h0:r.length=0
    ·simp[h0]
    ·simp[show ¬ r.length<=3 by omega]
   ·generalize oneC 113=oc at *
    generalize (⟨r.toArray⟩:Str)=f at *
    by_cases h0:r.length=0
    ·have h0':¬ (0:Int) < (r.length:Int):=by omega
     generalize (r.length:Int)=rl at *
     simp[F_19,fnD,d_19,e1,e2,gs,gf,nq,-zAJ,zAR,ln,h0']
    ·have h0':(0:Int) < (r.length:Int):=by omega
     have h4':¬ (r.length:Int) < 4:=by omega
     generalize (r.length:Int)=rl at *
     simp[F_19,fnD,d_19,e1,e2,gs,gf,nq,-zAJ,zAR,ln,h0',h4']
  have h0':(0:Int) < (r.length:Int):=by omega
  have h4':(r.length:Int) < 4:=by omega
  by_cases hall:r.all digB=true
  rotate_left
  ·have hall':r.all digB=false:=by simpa using hall
   refine .inr ⟨no (by rw[numB,hall',Fz]),?_⟩
   rw[hall']at inf
   generalize oneC 113=oc at *
   generalize (⟨r.toArray⟩:Str)=f at *
   generalize (r.map fun c=>T.a (.str (oneC c)))=LS at *
   generalize (r.map fun c=>T.a (.bl (digB c)))=LB at *
   generalize (r.length:Int)=rl at *
   simp[F_19,fnD,d_19,e1,e2,gs,gf,nq,-zAJ,zAR,ln,h0',h4',di,-zAn,ec,gl,gd,inf]
  rw[hall]at inf
  have hs:∀ Γ:En,ixS Γ (.v (.a (.str ⟨r.toArray⟩))) (.v (.a (.int 0)))=some (.v (.a (.str (oneC (r.headD 0))))):=fun Γ=>by
   have:=zEi ⟨r.toArray⟩ (by rw[fl]; omega) (by rw[fl]; omega) Γ
   rwa [fc]at this
  have ez:∀ Γ:En,eqS Γ (.v (.a (.str (oneC (r.headD 0))))) (.v (.a (.str "0")))=some (.v (.a (.bl (decide (r.headD 0=48))))):=fun Γ=>by
   rw[zAL]; simp only[zEd,zBC]
  have nz:∀ Γ:En,neS Γ (.v (.a (.str ⟨r.toArray⟩))) (.v (.a (.str "0")))=some (.v (.a (.bl (!decide ((⟨r.toArray⟩:Str)="0"))))):=fun Γ=>zAJ
  by_cases hz:(⟨r.toArray⟩:Str)="0"
  ·have hb:isNumB ⟨r.toArray⟩=true:=by rw[hz]; decide +kernel
   obtain⟨k,hk,ex,ef⟩:=num hb
   refine .inl ⟨k,hk,ex,?_⟩
   have ei:∀ Γ:En,intNS Γ [.v (.a (.str ⟨r.toArray⟩))]=some (.v (.a (.int (k:Int)))):=fun Γ=>by rw[ef]; exact zDJ hk
   replace nz:∀ Γ:En,neS Γ (.v (.a (.str ⟨r.toArray⟩))) (.v (.a (.str "0")))=some (.v (.a (.bl false))):=fun Γ=>by rw[nz,decide_eq_true hz]; rfl
   clear hz
   clear num no ex ef
   generalize oneC 113=oc at *
   generalize hf:(⟨r.toArray⟩:Str)=f at *
   generalize (r.map fun c=>T.a (.str (oneC c)))=LS at *
   generalize (r.map fun c=>T.a (.bl (digB c)))=LB at *
   generalize (r.length:Int)=rl at *
   simp[F_19,fnD,d_19,e1,e2,gs,gf,nq,-zAJ,zAR,ln,h0',h4',di,-zAn,ec,gl,gd,inf,nz,ei]
  ·simp only[hz,decide_false,Dm]at nz
   by_cases h48:r.headD 0=48
   ·have h1:1 < r.length:=by
     by_cases h1:1 < r.length
     ·exact h1
     ·obtain⟨b,rfl⟩:=len1 (show r.length=1 by omega)
      have hb:b=48:=h48
      exact absurd (by rw[hb]; rfl) hz
    refine .inr ⟨no (by rw[numB]; simp[h1,h48]; intro _ z; exact absurd (by rw[EA]at h48; exact h48) z),?_⟩
    replace ez:∀ Γ:En,eqS Γ (.v (.a (.str (oneC (r.headD 0))))) (.v (.a (.str "0")))=some (.v (.a (.bl true))):=fun Γ=>by rw[ez,decide_eq_true h48]
    generalize oneC 113=oc at *
    generalize (⟨r.toArray⟩:Str)=f at *
    generalize oneC (r.headD 0)=oc2 at *
    generalize (r.map fun c=>T.a (.str (oneC c)))=LS at *
    generalize (r.map fun c=>T.a (.bl (digB c)))=LB at *
    generalize (r.length:Int)=rl at *
    simp[F_19,fnD,d_19,e1,e2,gs,gf,nq,-zAJ,-zAL,zAR,ln,h0',h4',di,-zAn,ec,gl,gd,inf,nz,hs,ez]
   ·have hb:isNumB ⟨r.toArray⟩=true:=by
     rw[numB,hall,show decide (r.length<=3)=true from decide_eq_true (by omega),show decide (r.headD 0=48)=false from decide_eq_false h48,show decide (r.length=0)=false from decide_eq_false (by omega),Fz]
     rfl
    obtain⟨k,hk,ex,ef⟩:=num hb
    refine .inl ⟨k,hk,ex,?_⟩
    have ei:∀ Γ:En,intNS Γ [.v (.a (.str ⟨r.toArray⟩))]=some (.v (.a (.int (k:Int)))):=fun Γ=>by rw[ef]; exact zDJ hk
    simp only[h48,decide_false]at ez
    clear num no ex ef
    generalize oneC 113=oc at *
    generalize (⟨r.toArray⟩:Str)=f at *
    generalize oneC (r.headD 0)=oc2 at *
    generalize (r.map fun c=>T.a (.str (oneC c)))=LS at *
    generalize (r.map fun c=>T.a (.bl (digB c)))=LB at *
    generalize (r.length:Int)=rl at *
    simp[F_19,fnD,d_19,e1,e2,gs,gf,nq,-zAJ,-zAL,zAR,ln,h0',h4',di,-zAn,ec,gl,gd,inf,nz,hs,ez,ei]
def Sy.d:Sy->CC
 | .yes=>.tuple [.str "yes"]
 | .no=>.tuple [.str "no"]
 | .ask q=>.tuple [.str "ask",.int (q:Int)]
 | .nt a=>.tuple [.str "not",a.d]
 | .an a b=>.tuple [.str "and",a.d,b.d]
 | .or a b=>.tuple [.str "or",a.d,b.d]
 | .ei a b=>.tuple [.str "either",a.d,b.d]
 | .mo a b c=>.tuple [.str "most",a.d,b.d,c.d]
theorem Sy.toD:∀ s:Sy,D.toD s.t=some s.d
 | .yes=>by simp[Sy.t,Sy.d,D.toD,toDs,toDa]
 | .no=>by simp[Sy.t,Sy.d,D.toD,toDs,toDa]
 | .ask q=>by simp[Sy.t,Sy.d,D.toD,toDs,toDa]
 | .nt a=>by simp[Sy.t,Sy.d,D.toD,toDs,toDa,a.toD]
 | .an a b=>by simp[Sy.t,Sy.d,D.toD,toDs,toDa,a.toD,b.toD]
 | .or a b=>by simp[Sy.t,Sy.d,D.toD,toDs,toDa,a.toD,b.toD]
 | .ei a b=>by simp[Sy.t,Sy.d,D.toD,toDs,toDa,a.toD,b.toD]
 | .mo a b c=>by simp[Sy.t,Sy.d,D.toD,toDs,toDa,a.toD,b.toD,c.toD]
theorem Sy.lay:∀ s:Sy,s.d.canLay0=true
 | .yes=>by simp[Sy.d,CD,Ax]; decide +kernel
 | .no=>by simp[Sy.d,CD,Ax]; decide +kernel
 | .ask q=>by simp[Sy.d,CD,Ax]; decide +kernel
 | .nt a=>by simp[Sy.d,CD,Ax,a.lay]; decide +kernel
 | .an a b=>by simp[Sy.d,CD,Ax,a.lay,b.lay]; decide +kernel
 | .or a b=>by simp[Sy.d,CD,Ax,a.lay,b.lay]; decide +kernel
 | .ei a b=>by simp[Sy.d,CD,Ax,a.lay,b.lay]; decide +kernel
 | .mo a b c=>by simp[Sy.d,CD,Ax,a.lay,b.lay,c.lay]; decide +kernel
theorem zJY(s:Sy):s=.yes\/s=.no\/(∃ q,s=.ask q)\/∃ w∈W5,∃ ks:List Sy,ks.length=arity w/\s.txt=brS w (ks.map Sy.txt)/\(s.qs 1000->∀ k∈ks,k.qs 1000)/\s.down<=1+(ks.map Sy.down).foldr max 0:=by
 cases s with
 | yes=>exact .inl rfl
 | no=>exact .inr (.inl rfl)
 | ask q=>exact .inr (.inr (.inl ⟨q,rfl⟩))
 | nt a=>exact .inr (.inr (.inr ⟨"not",by simp,[a],(show 1=arity "not" by decide),rfl,fun h k hk=>by rw[AD]at hk; rw[hk]; exact h,by simp[Sy.down]⟩))
 | an a b=>exact .inr (.inr (.inr ⟨"and",by simp,[a,b],(show 2=arity "and" by decide),rfl,fun h k hk=>by
   simp only[AF,AK,or_false]at hk
   rcases hk with rfl | rfl
   ·exact h.1
   ·exact h.2,by simp[Sy.down]⟩))
 | or a b=>exact .inr (.inr (.inr ⟨"or",by simp,[a,b],(show 2=arity "or" by decide),rfl,fun h k hk=>by
   simp only[AF,AK,or_false]at hk
   rcases hk with rfl | rfl
   ·exact h.1
   ·exact h.2,by simp[Sy.down]⟩))
 | ei a b=>exact .inr (.inr (.inr ⟨"either",by simp,[a,b],(show 2=arity "either" by decide),rfl,fun h k hk=>by
   simp only[AF,AK,or_false]at hk
   rcases hk with rfl | rfl
   ·exact h.1
   ·exact h.2,by simp[Sy.down]⟩))
 | mo a b c=>exact .inr (.inr (.inr ⟨"most",by simp,[a,b,c],(show 3=arity "most" by decide),rfl,fun h k hk=>by
   simp only[AF,AK,or_false]at hk
   rcases hk with rfl | rfl | rfl
   ·exact h.1
   ·exact h.2.1
   ·exact h.2.2,by simp[Sy.down]⟩))
def Ans(p:Str):Option Sy->Prop
 | none=>∀ s:Sy,s.qs 1000->s.txt≠p
 | some s=>s.qs 1000/\s.txt=p
def Ansl:List Str->List (Option Sy)->Prop
 | [],[]=>True
 | p::P,q::os=>Ans p q/\Ansl P os
 | _,_=>False
def rv:Option Sy->T
 | none=>.a .non
 | some s=>s.t
def rd:Option Sy->CC
 | none=>.none
 | some s=>s.d
theorem zFA:∀ os:List (Option Sy),toDs (os.map rv)=some (os.map rd)
 | []=>rfl
 | q::os=>by
  have ih:=zFA os
  have h:D.toD (rv q)=some (rd q):=by
   cases q with
   | none=>rfl
   | some s=>exact s.toD
  rw[Ah,Ah]
  simp only[toDs,h,ih]; rfl
theorem zGP:∀ os:List (Option Sy),Ax (os.map rd)=true
 | []=>rfl
 | q::os=>by
  have h:(rd q).canLay0=true:=by
   cases q with
   | none=>rfl
   | some s=>exact s.lay
  rw[Ah]
  simp only[Ax,zGP os,h]; rfl
theorem zK4(q:Option Sy):BW (rd q) .none=q.isNone:=by
 cases q with
 | none=>rfl
 | some s=>cases s <;> rfl
theorem zLc(os:List (Option Sy))(X0 X1 X2:Option G):inDS false [X0,X1,X2,some (.l (os.map rv))] (.v (.a .non)) (.s 3)=some (.v (.a (.bl (os.any (·.isNone))))):=by
 show ((toDs (os.map rv)).bind fun ds=>(some PyData.none).bind fun d=>if Ax ds=true/\d.canLay0=true/\d.depth<=100 then some (mkB (ds.any fun z=>BW z d)) else none)=_
 rw[zFA,AV,AV,if_pos ⟨zGP os,rfl,by decide⟩,Ij]
 have:((fun z=>BW z .none) ∘ rd)=fun q:Option Sy=>q.isNone:=by funext q; exact zK4 q
 rw[this]; rfl
theorem zDW(rec:DF):∀ (P:List Str) (o:Option G),(∀ p∈P,∃ q,Ans p q/\rec [.v (sT p)]=some (.v (rv q),[]))->∃ os o',Ansl P os/\compD (gdName 0) dYes (d_2_e1 rec) (strsT P) [o]=some (os.map rv,[o'])
 | [],o,_=>⟨[],o,trivial,rfl⟩
 | p::P,o,h=>by
  obtain⟨q,hq,e⟩:=h p AE
  obtain⟨os,o',ho,e'⟩:=zDW rec P (some (.v (sT p))) fun x hx=>h x (AG _ hx)
  refine⟨q::os,o',⟨hq,ho⟩,?_⟩
  rw[show strsT (p::P)=sT p::strsT P from rfl,Ah]
  refine zBa (Γ1:=[some (.v (sT p))]) rfl ?_ e'
  simp only[sT]at e
  simp[d_2_e1,e]
theorem zDy:∀ (P:List Str) (os:List (Option Sy)),Ansl P os->os.any (·.isNone)=false->∃ ks:List Sy,os=ks.map some/\(∀ k∈ks,k.qs 1000)/\ks.map Sy.txt=P
 | [],[],_,_=>⟨[],rfl,fun _ z=>(nomatch z),rfl⟩
 | p::P,q::os,h,hn=>by
  rw[CA,Bool.or_eq_false_iff]at hn
  obtain⟨ks,e1,e2,e3⟩:=zDy P os h.2 hn.2
  cases q with
  | none=>cases hn.1
  | some s =>
   have hs:s.qs 1000/\s.txt=p:=h.1
   refine⟨s::ks,by rw[e1]; rfl,fun k hk=>?_,by rw[Ah,hs.2,e3]⟩
   rcases AF.mp hk with rfl | hk
   ·exact hs.1
   ·exact e2 k hk
 | [],_::_,h,_=>h.elim
 | _::_,[],h,_=>h.elim
theorem zDP:∀ (P:List Str) (os:List (Option Sy)),Ansl P os->os.any (·.isNone)=true->∃ p∈P,∀ s:Sy,s.qs 1000->s.txt≠p
 | [],[],_,hn=>by cases hn
 | p::P,q::os,h,hn=>by
  cases q with
  | none=>exact⟨p,AE,h.1⟩
  | some s =>
   obtain⟨x,hx,e⟩:=zDP P os h.2 (by simpa using hn)
   exact⟨x,AG _ hx,e⟩
 | [],_::_,h,_=>h.elim
 | _::_,[],h,_=>h.elim
theorem zCL:∀ (P:List Str) (os:List (Option Sy)),Ansl P os->os.length=P.length
 | [],[],_=>rfl
 | p::P,q::os,h=>by rw[AW,AW,zCL P os h.2]
 | [],_::_,h=>h.elim
 | _::_,[],h=>h.elim
theorem zI3(x:Str)(hy:x≠"yes")(hn:x≠"no")(Γ:En):inS false Γ (.v (.a (.str x))) (.v (.t [.a (.str "yes"),.a (.str "no")]))=some (.v (.a (.bl false))):=by
 show (if flatV (.str x)=true/\([V.str "yes",V.str "no"].all flatV)=true then some (mkB (inV (.str x) [V.str "yes",V.str "no"])) else none)=_
 rw[if_pos ⟨rfl,rfl⟩]
 have:inV (.str x) [V.str "yes",V.str "no"]=false:=by
  unfold inV
  rw[HY]
  intro v hv
  simp only[AF,AK,or_false]at hv
  rcases hv with rfl | rfl
  ·simp[eqV,hy,Av hy]
  ·simp[eqV,hn,Av hn]
 rw[this]; rfl
def manyN(p:Str):Nat:=if p∈W5 then arity p+1 else 0
theorem zJZ(p:Str)(P:List T)(X0 X2 X3:Option G)(hl:(T.a (.str p)::P).length<=AC):dDGet2 [] (dDispK [.inr "not",.inr "and",.inr "or",.inr "either",.inr "most"] (jW (dC (.int 2)) (jW (dC (.int 3)) (jW (dC (.int 3)) (jW (dC (.int 3)) (jW (dC (.int 4)) qQ)))))) (dOp ixS (jV 1) (dC (.int 0))) (dC (.int 0)) [X0,some (.l (.a (.str p)::P)),X2,X3]=some (.v (iT (manyN p:Int)),[X0,some (.l (.a (.str p)::P)),X2,X3]):=by
 have hd:dDispK [.inr "not",.inr "and",.inr "or",.inr "either",.inr "most"] (jW (dC (.int 2)) (jW (dC (.int 3)) (jW (dC (.int 3)) (jW (dC (.int 3)) (jW (dC (.int 4)) qQ))))) [X0,some (.l (.a (.str p)::P)),X2,X3]=some (.d (.inl [(.inr "not",iT 2),(.inr "and",iT 3),(.inr "or",iT 3),(.inr "either",iT 3),(.inr "most",iT 4)]),[X0,some (.l (.a (.str p)::P)),X2,X3]):=by kernel_rfl
 have hv:valT ([(.inr "not",iT 2),(.inr "and",iT 3),(.inr "or",iT 3),(.inr "either",iT 3),(.inr "most",iT 4)]:List (Key×T)) (.inr p)=if p∈W5 then some (iT (manyN p:Int)) else none:=by
  by_cases h:p∈W5
  ·rw[if_pos h]
   have h':=h
   simp only[W5,AF,AK,or_false]at h'
   unfold manyN
   rw[if_pos h]
   rcases h' with rfl | rfl | rfl | rfl | rfl <;> kernel_rfl
  ·rw[if_neg h]
   simp only[W5,AF,AK,or_false,not_or]at h
   obtain⟨h1,h2,h3,h4,h5⟩:=h
   simp[valT,Av h1,Av h2,Av h3,Av h4,Av h5]
 have hi:dOp ixS (jV 1) (dC (.int 0)) [X0,some (.l (.a (.str p)::P)),X2,X3]=some (.v (.a (.str p)),[X0,some (.l (.a (.str p)::P)),X2,X3]):=by
  have hl':P.length+1<=AC:=hl
  simp[gd,hl']
 rw[zBI,hd,AV]
 dsimp only
 rw[if_pos (by rfl),hi,AV]
 show (some (S.v (iT 0),[X0,some (G.l (.a (.str p)::P)),X2,X3])).bind _=_
 rw[AV]
 show ((getX [] (.inl [(.inr "not",iT 2),(.inr "and",iT 3),(.inr "or",iT 3),(.inr "either",iT 3),(.inr "most",iT 4)]) (.a (.str p))).map fun r=>(S.v (r.getD (iT 0)),_))=_
 show ((some (valT ([(.inr "not",iT 2),(.inr "and",iT 3),(.inr "or",iT 3),(.inr "either",iT 3),(.inr "most",iT 4)]:List (Key×T)) (.inr p))).map fun r=>(S.v (r.getD (iT 0)),_))=_
 rw[hv]
 by_cases h:p∈W5
 ·rw[if_pos h]; rfl
 ·rw[if_neg h]
  unfold manyN
  rw[if_neg h]; rfl
theorem zB5(x:Str)(hy:x≠"yes")(hn:x≠"no")(hq:∀ k,k < 1000->x≠"q"++numX k)(hb:∀ w∈W5,∀ ks:List Sy,(∀ k∈ks,k.qs 1000)->ks.length=arity w->x≠brS w (ks.map Sy.txt)):Ans x none:=by
 intro s hs z
 rcases zJY s with rfl | rfl | ⟨q,rfl⟩ | ⟨w,hw,ks,hk,ht,hqs,_⟩
 ·exact hy z.symm
 ·exact hn z.symm
 ·exact hq q hs z.symm
 ·exact hb w hw ks (hqs hs) hk (by rw[← z,ht])
theorem zLm{x:Str}(h:x.cps.toList.head?≠some 40)(w:Str)(K:List Str):x≠brS w K:=fun z=>h (by rw[z,zAT]; rfl)
theorem zDc(rec:DF)(x:Str)(hy:x≠"yes")(hn:x≠"no")(h40:x.cps.toList.head?≠some 40)(ha:∀ c∈x.cps.toList,c < 128)(hl:x.length<=9000):∃ q,Ans x q/\fnD none 1 4 (d_2 rec) [.v (sT x)]=some (.v (rv q),[]):=by
 have hin:=zI3 x hy hn
 have g2:(2:Nat)<=AC:=by decide
 have key:(sliceT x none (some 1)).length<=AC/\∀ Γ:En,neS Γ (.v (.a (.str (sliceT x none (some 1))))) (.v (.a (.str "(")))=some (.v (.a (.bl true))):=by
  cases hx:x.cps.toList with
  | nil =>
   have:x="":=zBu hx
   rw[this,zBL.1]
   exact⟨by decide,fun Γ=>by rw[zAJ]; rfl⟩
  | cons a r =>
   rw[zCT x a r hx]
   refine⟨show 1<=AC by decide,fun Γ=>?_⟩
   rw[hx]at h40
   have:¬ a=40:=by simpa using h40
   rw[zAJ]; simp only[show ("(":Str)=oneC 40 from rfl,zBC,this,decide_false,Dm]
 obtain⟨gs,ne⟩:=key
 simp only[sT]
 rcases zEy x ha hl with ⟨k,hk,ex,e⟩ | ⟨no,e⟩
 ·refine⟨some (.ask k),⟨hk,ex.symm⟩,?_⟩
  simp only[sT]at e
  have h0:¬ (k:Int) < 0:=by omega
  simp only[rv,Sy.t]
  generalize (k:Int)=kk at *
  simp[fnD,d_2,hin,gd,g2,zAR,gs,ne,-zAJ,e,h0]
 ·refine⟨none,zB5 x hy hn no fun w _ ks _ _=>zLm h40 w _,?_⟩
  simp only[sT]at e
  simp[fnD,d_2,hin,gd,g2,zAR,gs,ne,-zAJ,e,rv]
theorem zEa(m:List Nat)(p:Str)(P:List Str)(h:pcs ⟨m.toArray⟩=p::P):(jn (p::P)).cps.toList=m:=by
 have:=zId ⟨m.toArray⟩
 rw[h,← zBH _ (Ae _ _)]at this
 simpa using (BY this).2
theorem zIf(m:List Nat)(p:Str)(P:List Str)(h:pcs ⟨m.toArray⟩=p::P)(x:Str)(hx:x∈P):x.cps.toList.count 40<=m.count 40/\(∀ c∈x.cps.toList,c∈m)/\x.length<=m.length:=by
 have e:=zEa m p P h
 rw[zAY]at e
 obtain⟨a,b,hab⟩:=HM hx
 rw[hab,zA0,zAO]at e
 refine⟨?_,fun c hc=>?_,?_⟩
 ·rw[← e]
  simp only[Bd,DV]
  omega
 ·rw[← e]
  simp[hc]
 ·have:=congrArg Be e
  simp only[Am,AW]at this
  have hl:x.cps.toList.length=x.length:=AN
  omega
theorem zJ1(m:List Nat)(p:Str)(P:List Str)(h:pcs ⟨m.toArray⟩=p::P):P.length<=m.length:=by
 have e:=zEa m p P h
 have t:=zAi 32 (p::P) (Ae _ _)
 have hl:(jn (p::P)).cps.toList.length=(jn (p::P)).length:=AN
 rw[e]at hl
 have:(p::P).length<=tot (p::P):=Da _ _
 rw[AW]at this
 have t':(jn (p::P)).length+1=tot (p::P):=t
 omega
theorem zJO(rec:DF)(x:Str)(r:List Nat)(hx:x.cps.toList=40::r)(ha:∀ c∈x.cps.toList,c < 128)(hl:x.length<=9000)(hrec:∀ p:Str,p.cps.toList.count 40 < x.cps.toList.count 40->(∀ c∈p.cps.toList,c < 128)->p.length<=9000->∃ q,Ans p q/\rec [.v (sT p)]=some (.v (rv q),[])):∃ q,Ans x q/\fnD none 1 4 (d_2 rec) [.v (sT x)]=some (.v (rv q),[]):=by
 have hy:x≠"yes":=fun z=>by rw[z]at hx; exact absurd hx (by intro h; cases h)
 have hn:x≠"no":=fun z=>by rw[z]at hx; exact absurd hx (by intro h; cases h)
 have hqn:∀ k,k < 1000->x≠"q"++numX k:=fun k _=>no_q (by rw[hx]; simp) k
 have hin:=zI3 x hy hn
 have g2:(2:Nat)<=AC:=by decide
 have gx:x.length<=AC:=zAB (by omega)
 have e1:=zCT x 40 r hx
 have gs:(oneC 40).length<=AC:=by decide
 have ne:∀ Γ:En,neS Γ (.v (.a (.str (oneC 40)))) (.v (.a (.str "(")))=some (.v (.a (.bl false))):=fun Γ=>by rw[zAJ]; rfl
 have ln:∀ Γ:En,lenS Γ [.v (.a (.str x))]=some (.v (.a (.int (x.length:Int)))):=fun Γ=>by simp[lenS,gx]
 have ec:=zHI x (by omega)
 simp only[sT,iT]at ec
 by_cases hc:cloI x=(x.length:Int) - 1
 rotate_left
 ·refine⟨none,zB5 x hy hn hqn fun w hw ks hk _ z=>hc ?_,?_⟩
  ·rw[z]
   exact zHR w _ (zAW w hw) fun y hy=>by
    obtain⟨k,hk',rfl⟩:=Br.mp hy
    exact zAS k (hk k hk')
  ·simp only[sT]
   generalize (x.length:Int)=xl at *
   generalize cloI x=ci at *
   generalize oneC 40=oc at *
   simp[fnD,d_2,hin,gd,g2,zAR,e1,gs,ne,-zAJ,ec,ln,hc,rv]
 ·obtain⟨m,hm⟩:=zIp x r hx hc
  rw[hm]at hx
  have em:=zLX x 40 41 m hx
  have hlen:x.cps.toList.length=x.length:=AN
  rw[hx,AW,Am,B0]at hlen
  have ml:(⟨m.toArray⟩:Str).length=m.length:=by show m.toArray.size=_; simp
  have mc:(⟨m.toArray⟩:Str).cps.toList=m:=by simp
  have gm:(⟨m.toArray⟩:Str).length<=AC:=zAB (by omega)
  have cnt:x.cps.toList.count 40=m.count 40+1:=by rw[hx,DV,Bd]; simp
  have ham:∀ c∈m,c < 128:=fun c hc=>ha c (by rw[hx]; simp[hc])
  have ep:=zGT ⟨m.toArray⟩ (by rw[mc]; exact ham) (by omega)
  have whole:∀ w∈W5,∀ ks:List Sy,(∀ k∈ks,k.qs 1000)->x=brS w (ks.map Sy.txt)->pcs ⟨m.toArray⟩=w::ks.map Sy.txt:=fun w hw ks hk z=>by
   refine zHX w _ (zAW w hw) (fun y hy=>by
    obtain⟨k,hk',rfl⟩:=Br.mp hy
    exact zAS k (hk k hk')) _ ?_
   rw[z,zAT]at hx
   exact zAE (by rw[mc]; exact (List.append_cancel_right (BY hx).2).symm)
  cases hp:pcs ⟨m.toArray⟩ with
  | nil=>exact absurd hp (zKz _)
  | cons p P =>
   rw[hp]at ep whole
   have hPl:=zJ1 m p P hp
   have gP:(strsT P).length<=AC:=zAB (by simp[strsT]; omega)
   have gp:(T.a (.str p)::strsT P).length<=AC:=zAB (by simp[strsT]; omega)
   have gp':(strsT P).length+1<=AC:=gp
   have mk:=fun X0 X2 X3=>zJZ p (strsT P) X0 X2 X3 gp
   have lP:((strsT P).length:Int)=(P.length:Int):=by simp[strsT]
   simp only[sT]at ep
   rw[show strsT (p::P)=T.a (.str p)::strsT P from rfl]at ep
   simp only[iT]at mk
   by_cases hmn:P.length+1=manyN p
   rotate_left
   ·refine⟨none,zB5 x hy hn hqn fun w hw ks hk hkl z=>hmn ?_,?_⟩
    ·have:=whole w hw ks hk z
     rw[(BY this).1,(BY this).2,BA,hkl]
     unfold manyN
     rw[if_pos hw]
    ·have hmn':¬ (((strsT P).length:Int)+1)=(manyN p:Int):=by rw[lP]; omega
     simp only[sT]
     generalize (x.length:Int)=xl at *
     generalize cloI x=ci at *
     generalize oneC 40=oc at *
     generalize (manyN p:Int)=mn at *
     generalize (⟨m.toArray⟩:Str)=mt at *
     simp[fnD,d_2,hin,gd,g2,zAR,e1,gs,ne,-zAJ,ec,ln,hc,rv,em,gm,ep,mk,-zBI,gp',hmn']
   ·have hpw:p∈W5:=by
     unfold manyN at hmn
     split at hmn
     ·assumption
     ·omega
    have har:P.length=arity p:=by
     unfold manyN at hmn
     rw[if_pos hpw]at hmn
     omega
    obtain⟨os,o',hos,eo⟩:=zDW rec P none fun y hy=>by
     obtain⟨h1,h2,h3⟩:=zIf m p P hp y hy
     exact hrec y (by omega) (fun c hc=>ham c (h2 c hc)) (by omega)
    have inN:=zLc os
    have gos:(os.map rv).length<=AC:=zAB (by rw[BA,zCL P os hos]; omega)
    have hmn':(((strsT P).length:Int)+1)=(manyN p:Int):=by rw[lP]; omega
    have ct:=cut1 (T.a (.str p)) (strsT P)
    cases hany:os.any (·.isNone) with
    | true =>
     obtain⟨y,hyP,hyn⟩:=zDP P os hos hany
     refine⟨none,zB5 x hy hn hqn fun w hw ks hk _ z=>?_,?_⟩
     ·have:=whole w hw ks hk z
      rw[(BY this).2]at hyP
      obtain⟨k,hk',ek⟩:=Br.mp hyP
      exact hyn k (hk k hk') ek
     ·rw[hany]at inN
      simp only[sT,rv]
      generalize (x.length:Int)=xl at *
      generalize cloI x=ci at *
      generalize oneC 40=oc at *
      generalize (manyN p:Int)=mn at *
      generalize (⟨m.toArray⟩:Str)=mt at *
      generalize os.map rv=OV at *
      simp[fnD,d_2,hin,gd,g2,zAR,e1,gs,ne,-zAJ,ec,ln,hc,em,gm,ep,mk,-zBI,gp',hmn',ct,eo,inN,gos,gP]
    | false =>
     obtain⟨ks,e4,hks,hkt⟩:=zDy P os hos hany
     obtain⟨s,hq,ht,hxt⟩:=zHY p hpw ks hks (by rw[← har,← hkt,BA])
     have hst:s.txt=x:=by
      rw[hxt,hkt]
      refine zAE ?_
      rw[zAT,zEa m p P hp,hx]
     refine⟨some s,⟨hq,hst⟩,?_⟩
     rw[hany]at inN
     have ev:os.map rv=ks.map Sy.t:=by rw[e4,GZ]; rfl
     rw[ev]at inN eo gos
     have gks:(ks.map Sy.t).length+1<=AC:=zAB (by rw[← ev,BA,zCL P os hos]; omega)
     have gks':1+(ks.map Sy.t).length<=AC:=by rw[DC]; exact gks
     have g1:(1:Nat)<=AC:=by decide
     show _=some (G.v s.t,[])
     rw[ht]
     simp only[sT]
     generalize (x.length:Int)=xl at *
     generalize cloI x=ci at *
     generalize oneC 40=oc at *
     generalize (manyN p:Int)=mn at *
     generalize (⟨m.toArray⟩:Str)=mt at *
     generalize ks.map Sy.t=OV at *
     simp[fnD,d_2,hin,gd,g2,zAR,e1,gs,ne,-zAJ,ec,ln,hc,em,gm,ep,mk,-zBI,gp',hmn',ct,eo,inN,gos,gP,gks,gks',g1]
theorem lread:∀ (n:Nat) (x:Str),x.cps.toList.count 40 < n->(∀ c∈x.cps.toList,c < 128)->x.length<=9000->∃ q,Ans x q/\F_2 n [.v (sT x)]=some (.v (rv q),[])
 | 0,x,h,_,_=>absurd h (Nat.not_lt_zero _)
 | n+1,x,hc,ha,hl=>by
  show ∃ q,Ans x q/\fnD none 1 4 (d_2 (F_2 n)) [.v (sT x)]=_
  by_cases hy:x="yes"
  ·subst hy
   refine⟨some .yes,⟨trivial,rfl⟩,?_⟩
   have hin:∀ Γ:En,inS false Γ (.v (.a (.str "yes"))) (.v (.t [.a (.str "yes"),.a (.str "no")]))=some (.v (.a (.bl true))):=fun Γ=>rfl
   have g2:(2:Nat)<=AC:=by decide
   have g1:(1:Nat)<=AC:=by decide
   simp[fnD,d_2,hin,gd,g2,g1,rv,Sy.t]
  by_cases hn:x="no"
  ·subst hn
   refine⟨some .no,⟨trivial,rfl⟩,?_⟩
   have hin:∀ Γ:En,inS false Γ (.v (.a (.str "no"))) (.v (.t [.a (.str "yes"),.a (.str "no")]))=some (.v (.a (.bl true))):=fun Γ=>rfl
   have g2:(2:Nat)<=AC:=by decide
   have g1:(1:Nat)<=AC:=by decide
   simp[fnD,d_2,hin,gd,g2,g1,rv,Sy.t]
  cases hx:x.cps.toList with
  | nil=>exact zDc _ x hy hn (by rw[hx]; simp) ha hl
  | cons a r =>
   by_cases h40:a=40
   ·subst h40
    exact zJO _ x r hx ha hl fun p h1 h2 h3=>lread n p (by omega) h2 h3
   ·exact zDc _ x hy hn (by rw[hx]; simpa using h40) ha hl
theorem zKI(Γ:En)(fs:List (Str×V)):isXS csX mroX Γ [.v (.x "BadText" fs),.v (.f "BadText")]=some (.v (.a (.bl true))):=by
 show (((mroX.lookup ("BadText":Str)).bind fun (ms:List Str)=>if ("BadText":Str)∈csX then some (mkB (ms.contains ("BadText":Str))) else none))=_
 have e:mroX.lookup ("BadText":Str)=some (["BadText","CupError"]:List Str):=by decide +kernel
 rw[e,AV,if_pos (by decide +kernel)]
 have:(["BadText","CupError"]:List Str).contains ("BadText":Str)=true:=by decide +kernel
 rw[this]; rfl
theorem zIt(Γ:En)(fs:List (Str×V)):isXS csX mroX Γ [.v (.x "BadText" fs),.v (.a (.ty "ValueError"))]=some (.v (.a (.bl true))):=by
 show (if ("ValueError":String)="ValueError" then (mroX.lookup ("BadText":Str)).map fun _=>mkB true else none)=_
 have e:mroX.lookup ("BadText":Str)=some (["BadText","CupError"]:List Str):=by decide +kernel
 rw[if_pos rfl,e]; rfl
theorem zGm(Γ:En)(fs:List (Str×V)):isXS csX mroX Γ [.v (.x "BadText" fs),.v (.t [.f "NoDance",.f "NoName",.f "NoRing",.f "NoRow",.f "OtherSizes",.f "TooHeavy"])]=some (.v (.a (.bl false))):=by
 show ((fnsOf [.f "NoDance",.f "NoName",.f "NoRing",.f "NoRow",.f "OtherSizes",.f "TooHeavy"]).bind fun (ds:List Str)=>(mroX.lookup ("BadText":Str)).bind fun (ms:List Str)=>if ∀ d∈ds,d∈csX then some (mkB (ds.any fun d=>ms.contains d)) else none)=_
 have e:mroX.lookup ("BadText":Str)=some (["BadText","CupError"]:List Str):=by decide +kernel
 have f:fnsOf [.f "NoDance",.f "NoName",.f "NoRing",.f "NoRow",.f "OtherSizes",.f "TooHeavy"]=some (["NoDance","NoName","NoRing","NoRow","OtherSizes","TooHeavy"]:List Str):=rfl
 rw[f,AV,e,AV,if_pos (by decide +kernel)]
 have:((["NoDance","NoName","NoRing","NoRow","OtherSizes","TooHeavy"]:List Str).any fun d=>(["BadText","CupError"]:List Str).contains d)=false:=by decide +kernel
 rw[this]; rfl
theorem zIi(Γ:En)(r:Nat):dGetX gkX "row" (jV 0) (some (.v (badT r))::Γ)=some (.v (iT (r:Int)),some (.v (badT r))::Γ):=by
 show (if (("BadText":Str),("row":Str))∈gkX then ((([(("row":Str),V.int (r:Int))]:List (Str×V)).lookup ("row":Str))).bind fun v=>if handV v=true then some (S.v (.a v),some (G.v (badT r))::Γ) else none else none)=_
 rw[if_pos (by decide +kernel)]
 have:([(("row":Str),V.int (r:Int))]:List (Str×V)).lookup ("row":Str)=some (.int (r:Int)):=by
  rw[BR]; simp
 rw[this]; rfl
theorem zKx(r:Nat):F_15 [.v (badT r)]=some (.v (iT (r:Int)),[]):=by
 have h1:=fun Γ=>zKI Γ [("row",.int (r:Int))]
 have h2:=fun Γ=>zIt Γ [("row",.int (r:Int))]
 have h3:=fun Γ=>zGm Γ [("row",.int (r:Int))]
 have h4:=zIi [] r
 have g6:(6:Nat)<=AC:=by decide
 simp only[iT,badT]at *
 have e:(G.v (T.x "BadText" [("row",.int (r:Int))]))=G.v (.x "BadText" [("row",.int (r:Int))]):=rfl
 simp[F_15,fnD,d_15,h1,h2,h3,h4,gd,g6,isiS,tyN,subLT,subTy]
theorem zEG(x:Str)(c:Nat):Ar x ⟨#[c]⟩≠[]:=fun z=>by
 have e:=CN x ⟨#[c]⟩
 rw[z]at e
 rw[← e]at z
 unfold Ar at z
 have cnd:(decide ((BE ⟨#[c]⟩ []).length < (⟨#[c]⟩:Str).length) || decide (B3 (BE ⟨#[c]⟩ []) < B3 ⟨#[c]⟩))=true:=by
  rw[EV]; exact .inl (decide_eq_true (by show 0 < 1; decide))
 rw[if_pos cnd]at z
 cases z
theorem splS{z y:Str}{ws:List Str}(h:Ar z y=ws)(h0:(y.length == 0)=false)(h1:z.length<=100000)(h2:ws.length<=100000)(Γ:En):splitS Γ [.v (.a (.str z)),.v (.a (.str y))]=some (.l (strsT ws)):=by
 rw[zAh,h,if_pos ⟨h0,zAB h1,zAB h2⟩]
theorem zBT(a b:List Str):tot (a++b)=tot a+tot b:=by
 unfold tot
 rw[Cb,Ht,Am]
 omega
theorem zCz(ps:List Str)(s:Nat):tot (ps.take s)+tot (ps.drop s)=tot ps:=by rw[← zBT,Ea]
theorem zIk(ps:List Str)(s:Nat):tot (ps.drop (s+1))<=tot (ps.drop s):=by
 have:=zCz (ps.drop s) 1
 rw[El]at this
 omega
theorem zIQ(ps:List Str)(s:Nat):tot (ps.take s)<=tot ps:=by
 have:=zCz ps s
 omega
theorem zKB(c:Nat)(ps:List Str):(BE ⟨#[c]⟩ ps).length<=tot ps:=by
 cases ps with
 | nil=>show 0<=_; exact Cq _
 | cons x r=>have:=zAi c (x::r) (Ae _ _); omega
theorem zGR(x:Str)(c:Nat):tot (Ar x ⟨#[c]⟩)=x.length+1:=by
 have:=zAi c _ (zEG x c)
 rw[CN]at this
 exact this.symm
theorem zBS(ps:List Str):ps.length<=tot ps:=Da _ _
theorem zBh(a b:List Str):strsT a++strsT b=strsT (a++b):=by simp[strsT]
theorem zDN(ws:List Str)(s:Nat):cutT (strsT ws) none (some (s:Int))=strsT (ws.take s):=by rw[zH3]; simp[strsT,List.map_take]
theorem zDL(ws:List Str)(s:Nat):cutT (strsT ws) (some (s:Int)) none=strsT (ws.drop s):=by rw[zEX]; simp[strsT,List.map_drop]
theorem zF0(ws:List Str)(s:Nat):cutT (strsT ws) none (some ((s:Int)+1))=strsT (ws.take (s+1)):=zDN ws (s+1)
theorem zFo(ws:List Str)(s:Nat):cutT (strsT ws) (some ((s:Int)+1)) none=strsT (ws.drop (s+1)):=zDL ws (s+1)
def sgnX:Str:=" !#$&'()*+,-./0123456789:;<=>?@ABCDEFGHIJKLMNOPQRSTUVWXYZ[]^_`abcdefghijklmnopqrstuvwxyz{|}~"++"\""++"\\" ++ "\n"
theorem zKQ:sgnX.length=95/\∀ c∈sgnX.cps.toList,c < 128:=by decide +kernel
theorem zIU:F_7 []=some (.v (.a (.str sgnX)),[]):=by kernel_rfl
theorem zFH(a b:Int):∃ c a' b',c < 128/\F_8 [.l [iT a,iT b]]=some (.v (.a (.str ⟨#[c]⟩)),[iT a',iT b']):=by
 obtain⟨h1,h2⟩:=zKQ
 obtain⟨k,a1,b1,hk,e⟩:=zAP a b 95 (by decide) (by decide)
 have e':F_5 [.l [iT a,iT b],.v (.a (.int 95))]=some (.v (iT (k:Int)),[iT a1,iT b1]):=e
 have hl:sgnX.cps.toList.length=95:=by rw[AN]; exact h1
 have so:=zIU
 obtain⟨c,hc⟩:∃ c,sgnX.cps.toList[k]?=some c:=⟨_,Cy (by omega)⟩
 refine⟨c,a1,b1,h2 c (B8 hc),?_⟩
 have gz:sgnX.length<=AC:=zAB (by omega)
 have ix:∀ Γ:En,ixS Γ (.v (.a (.str sgnX))) (.v (.a (.int (k:Int))))=some (.v (.a (.str ⟨#[c]⟩))):=fun Γ=>by
  show (if sgnX.length<=AC then (atI sgnX.cps.toList (k:Int)).map fun c=>S.v (.a (.str ⟨#[c]⟩)) else none)=_
  rw[if_pos gz,show atI sgnX.cps.toList (k:Int)=sgnX.cps.toList[k]? from zAX,hc]; rfl
 have ln:∀ Γ:En,lenS Γ [.v (.a (.str sgnX))]=some (.v (.a (.int 95))):=fun Γ=>by
  have:lenS Γ [.v (.a (.str sgnX))]=some (.v (.a (.int (sgnX.length:Int)))):=by simp[lenS,gz]
  rw[this,h1]; rfl
 generalize sgnX=SX at *
 simp only[iT]at *
 simp[F_8,fnD,d_8,so,ln,e',ix]
theorem zCJ(x:Str)(k:Nat):(sliceT x (some (k:Int)) none).cps.toList=x.cps.toList.drop k:=by
 have hl:x.cps.toList.length=x.length:=AN
 by_cases h:k<=x.length
 ·have e:sliceT x (some (k:Int)) none=BF x (some (k:Int)) (some (x.length:Int)):=by
   show BF x (some (k:Int)) none=_
   unfold BF
   rw[Du]
  rw[e,CW x h (AL _)]
  show ((x.cps.toList.drop k).take (x.length - k)).toArray.toList=_
  rw[DZ,Bs (by rw[Cr]; omega)]
 ·have e:sliceT x (some (k:Int)) none=BF x (some (x.length:Int)) (some (x.length:Int)):=by
   show BF x (some (k:Int)) none=_
   unfold BF
   rw[Ju x.length (by omega),Du]
  rw[e,CW x (AL _) (AL _),List.drop_of_length_le (by omega)]
  simp[J0]at h ⊢
  try omega
theorem zEl{ps:List Str}{i:Nat}{w:Str}(h:ps[i]?=some w):atI (strsT ps) (i:Int)=some (.a (.str w)):=by
 rw[zAX]
 unfold strsT
 rw[Ai,h]; rfl
theorem zD5:∀ K:List Str,(Jn K).count 40=(K.map fun x=>x.cps.toList.count 40).sum
 | []=>rfl
 | x::K=>by rw[zAO,DV,Bd,zD5 K,Ah,Cz]; simp
theorem zBt(w:Str)(K:List Str)(hw:w∈W5):(brS w K).cps.toList.count 40=1+(K.map fun x=>x.cps.toList.count 40).sum:=by
 have h0:w.cps.toList.count 40=0:=HN.mpr fun z=>(zAW w hw 40 z).2.1 rfl
 rw[zAT,zAY,DV,Bd,Bd,zD5,h0]
 simp
 omega
theorem zBq(w:Str)(K:List Str)(hw:w∈W5)(h:∀ x∈K,∀ c∈x.cps.toList,c < 128):∀ c∈(brS w K).cps.toList,c < 128:=by
 have h1:∀ w∈W5,w.cps.toList.all (fun c=>decide (c < 128))=true:=by decide +kernel
 have hj:∀ K:List Str,(∀ x∈K,∀ c∈x.cps.toList,c < 128)->∀ c∈Jn K,c < 128:=by
  intro K hK c hc
  unfold Jn at hc
  obtain⟨l,hl,hc⟩:=Hf.mp hc
  obtain⟨x,hx,rfl⟩:=Br.mp hl
  rcases AF.mp hc with rfl | hc
  ·decide
  ·exact hK x hx c hc
 intro c hc
 rw[zAT,zAY]at hc
 simp only[AF,Aw,AK,or_false]at hc
 rcases hc with rfl | (hc | hc) | rfl
 ·decide
 ·exact of_decide_eq_true (A4.mp (h1 w hw) c hc)
 ·exact hj K h c hc
 ·decide
structure TxOk(s:Sy):Prop where
 asc:∀ c∈s.txt.cps.toList,c < 128
 cnt:s.txt.cps.toList.count 40<=s.parts
 dwn:s.down<=s.txt.cps.toList.count 40+1
theorem zAm:∀ s:Sy,s.qs 1000->TxOk s
 | .yes,_=>⟨by decide +kernel,by decide +kernel,by decide +kernel⟩
 | .no,_=>⟨by decide +kernel,by decide +kernel,by decide +kernel⟩
 | .ask q,h=>by
  have hp:=zDX q h
  have h0:("q"++numX q).cps.toList.count 40=0:=HN.mpr fun z=>(hp 40 z).2.1 rfl
  refine⟨fun c hc=>?_,?_,?_⟩
  ·have hc':c∈("q"++numX q).cps.toList:=hc
   rw[zAD]at hc'
   rcases Aw.mp hc' with hc | hc
   ·have:c∈[113]:=hc
    simp at this; omega
   ·have:=(zA9 q h).2 c hc; omega
  ·show ("q"++numX q).cps.toList.count 40<=1; omega
  ·show 1<=_; omega
 | .nt a,h=>by
  have ha:=zAm a h
  have e:=zBt "not" [a.txt] (by simp)
  have e':(Sy.nt a).txt.cps.toList.count 40=1+a.txt.cps.toList.count 40:=by rw[show (Sy.nt a).txt=brS "not" [a.txt] from rfl,e]; simp
  have:=ha.cnt
  have:=ha.dwn
  refine⟨zBq "not" [a.txt] (by simp) (by intro x hx; rw[AD]at hx; rw[hx]; exact ha.asc),?_,?_⟩
  ·rw[e']; simp only[Sy.parts]; omega
  ·rw[e']; simp only[Sy.down]; omega
 | .an a b,h=>by
  have ha:=zAm a h.1
  have hb:=zAm b h.2
  have e:=zBt "and" [a.txt,b.txt] (by simp)
  have e':(Sy.an a b).txt.cps.toList.count 40=1+a.txt.cps.toList.count 40+b.txt.cps.toList.count 40:=by rw[show (Sy.an a b).txt=brS "and" [a.txt,b.txt] from rfl,e]; simp; omega
  have:=ha.cnt
  have:=ha.dwn
  have:=hb.cnt
  have:=hb.dwn
  refine⟨zBq "and" [a.txt,b.txt] (by simp) (by
   intro x hx
   simp only[AF,AK,or_false]at hx
   rcases hx with rfl | rfl
   ·exact ha.asc
   ·exact hb.asc),?_,?_⟩
  ·rw[e']; simp only[Sy.parts]; omega
  ·rw[e']; simp only[Sy.down]; omega
 | .or a b,h=>by
  have ha:=zAm a h.1
  have hb:=zAm b h.2
  have e:=zBt "or" [a.txt,b.txt] (by simp)
  have e':(Sy.or a b).txt.cps.toList.count 40=1+a.txt.cps.toList.count 40+b.txt.cps.toList.count 40:=by rw[show (Sy.or a b).txt=brS "or" [a.txt,b.txt] from rfl,e]; simp; omega
  have:=ha.cnt
  have:=ha.dwn
  have:=hb.cnt
  have:=hb.dwn
  refine⟨zBq "or" [a.txt,b.txt] (by simp) (by
   intro x hx
   simp only[AF,AK,or_false]at hx
   rcases hx with rfl | rfl
   ·exact ha.asc
   ·exact hb.asc),?_,?_⟩
  ·rw[e']; simp only[Sy.parts]; omega
  ·rw[e']; simp only[Sy.down]; omega
 | .ei a b,h=>by
  have ha:=zAm a h.1
  have hb:=zAm b h.2
  have e:=zBt "either" [a.txt,b.txt] (by simp)
  have e':(Sy.ei a b).txt.cps.toList.count 40=1+a.txt.cps.toList.count 40+b.txt.cps.toList.count 40:=by rw[show (Sy.ei a b).txt=brS "either" [a.txt,b.txt] from rfl,e]; simp; omega
  have:=ha.cnt
  have:=ha.dwn
  have:=hb.cnt
  have:=hb.dwn
  refine⟨zBq "either" [a.txt,b.txt] (by simp) (by
   intro x hx
   simp only[AF,AK,or_false]at hx
   rcases hx with rfl | rfl
   ·exact ha.asc
   ·exact hb.asc),?_,?_⟩
  ·rw[e']; simp only[Sy.parts]; omega
  ·rw[e']; simp only[Sy.down]; omega
 | .mo a b c,h=>by
  have ha:=zAm a h.1
  have hb:=zAm b h.2.1
  have hc:=zAm c h.2.2
  have e:=zBt "most" [a.txt,b.txt,c.txt] (by simp)
  have e':(Sy.mo a b c).txt.cps.toList.count 40=1+a.txt.cps.toList.count 40+b.txt.cps.toList.count 40+c.txt.cps.toList.count 40:=by rw[show (Sy.mo a b c).txt=brS "most" [a.txt,b.txt,c.txt] from rfl,e]; simp; omega
  have:=ha.cnt
  have:=ha.dwn
  have:=hb.cnt
  have:=hb.dwn
  have:=hc.cnt
  have:=hc.dwn
  refine⟨zBq "most" [a.txt,b.txt,c.txt] (by simp) (by
   intro x hx
   simp only[AF,AK,or_false]at hx
   rcases hx with rfl | rfl | rfl
   ·exact ha.asc
   ·exact hb.asc
   ·exact hc.asc),?_,?_⟩
  ·rw[e']; simp only[Sy.parts]; omega
  ·rw[e']; simp only[Sy.down]; omega
theorem zIE(x:Str)(ha:∀ c∈x.cps.toList,c < 128)(hl:x.length<=9000)(hc:x.cps.toList.count 40 < 105):∃ t,F_16 [.v (.a (.str x))]=some (.v t,[])/\F_20 [.v (.a (.str x))]=some (.v t,[])/\F_0 fuel_0 [.v t,.v t]=some (.v (.a (.bl true)),[]):=by
 have g1:(1:Nat)<=AC:=by decide
 have g2:(2:Nat)<=AC:=by decide
 obtain⟨q,hq,e⟩:=lread fuel_2 x (AY hc (by decide)) ha hl
 simp only[sT]at e
 cases q with
 | some s =>
  obtain⟨hs,hx⟩:s.qs 1000/\s.txt=x:=hq
  have tx:=zAm s hs
  have hd:=tx.dwn
  rw[hx]at hd
  have ep:=zIw s hs (by rw[hx]; exact hl) (by omega)
  rw[hx]at ep
  simp only[sT,rv]at ep e
  have hsx:∃ l,s.t=.t l:=by cases s <;> exact⟨_,rfl⟩
  have hpl:Pl (fuel_0 - 1) (.t [.a (.str "told"),s.t]):=by
   have hp:=s.pl
   show Pl (108+1) _
   refine Pl.tup (by simp) fun y hy=>?_
   simp only[AF,AK,or_false]at hy
   rcases hy with rfl | rfl
   ·exact Pl.atom rfl
   ·exact hp.mono (by omega)
  refine⟨.t [.a (.str "told"),s.t],?_,?_,alike12 _ hpl⟩
  ·obtain⟨l,hl⟩:=hsx
   rw[hl]at ep ⊢
   simp[F_16,fnD,d_16,zEO,ep,gd,g1,g2]
  ·obtain⟨l,hl⟩:=hsx
   rw[hl]at e ⊢
   simp[F_20,fnD,d_20,e,gd,g2,isNoneS]
 | none =>
  have hno:∀ s:Sy,s.qs 1000->s.txt≠x:=hq
  have ep:F_14 [.v (.a (.str x))]=some (.v (.x "BadText" [("row",.int 0)]),[]):=by
   rcases zFn x ha hl with h | ⟨s,hs,hx⟩
   ·exact h
   ·exact absurd hx (hno s hs)
  have eb:F_15 [.v (.x "BadText" [("row",.int 0)])]=some (.v (.a (.int 0)),[]):=zKx 0
  have hpl:Pl (fuel_0 - 1) (.t [.a (.str "refused"),iT 0]):=by
   show Pl (108+1) _
   refine Pl.tup (by simp) fun y hy=>?_
   simp only[AF,AK,or_false]at hy
   rcases hy with rfl | rfl
   ·exact Pl.atom rfl
   ·exact Pl.int _
  have hm:("BadText":Str)∈(["BadText"]:List Str):=AE
  refine⟨.t [.a (.str "refused"),iT 0],?_,?_,alike12 _ hpl⟩
  ·simp only[iT]
   simp[F_16,fnD,d_16,zEO,ep,eb,gd,g1,g2,goO]
  ·simp only[rv]at e
   simp[F_20,fnD,d_20,e,gd,g2,isNoneS]
abbrev c40(l:List Nat):Nat:=l.count 40
def pieceL:List Str:=["yes","no","not","and","or","either","most","q","q0","q00","q07","q999","q1000","q-1","Q1","","()","(yes)","(not)","(not yes)","(and yes)","(most q1 q2 q3)","q1.","yes no","(",")","1","ask"]
theorem zDH:∀ w∈pieceL,w.length<=15/\(∀ c∈w.cps.toList,c < 128)/\c40 w.cps.toList<=1:=by decide +kernel
theorem zD3(a b:Int):∃ w a' b',w∈pieceL/\F_6 [.l [iT a,iT b]]=some (.v (.a (.str w)),[iT a',iT b']):=by
 obtain⟨k,a1,b1,hk,e⟩:=zAP a b 28 (by decide) (by decide)
 obtain⟨w,hw⟩:∃ w,pieceL[k]?=some w:=⟨_,Cy (show k < pieceL.length from hk)⟩
 refine⟨w,a1,b1,B8 hw,?_⟩
 have at':=zEl hw
 have e':F_5 [.l [iT a,iT b],.v (.a (.int 28))]=some (.v (iT (k:Int)),[iT a1,iT b1]):=e
 have wl:strsT pieceL=[.a (.str "yes"),.a (.str "no"),.a (.str "not"),.a (.str "and"),.a (.str "or"),.a (.str "either"),.a (.str "most"),.a (.str "q"),.a (.str "q0"),.a (.str "q00"),.a (.str "q07"),.a (.str "q999"),.a (.str "q1000"),.a (.str "q-1"),.a (.str "Q1"),.a (.str ""),.a (.str "()"),.a (.str "(yes)"),.a (.str "(not)"),.a (.str "(not yes)"),.a (.str "(and yes)"),.a (.str "(most q1 q2 q3)"),.a (.str "q1."),.a (.str "yes no"),.a (.str "("),.a (.str ")"),.a (.str "1"),.a (.str "ask")]:=rfl
 rw[wl]at at'
 have g15:(15:Nat)<=AC:=by decide
 have g11:(11:Nat)<=AC:=by decide
 have g26:(26:Nat)<=AC:=by decide
 have g2:(2:Nat)<=AC:=by decide
 have g28:(28:Nat)<=AC:=by decide
 simp only[iT]at *
 simp[F_6,fnD,d_6,gd,g15,g11,g26,g2,g28,e',at']
structure OtherOk(x y:Str):Prop where
 asc:∀ c∈y.cps.toList,c < 128
 len:y.length<=2 * x.length+20
 cnt:c40 y.cps.toList<=2 * c40 x.cps.toList+1
theorem zB1(x:Str)(t d:Nat)(ht:t<=x.length):(sliceT x none (some (t:Int))).length<=x.length/\(sliceT x (some (d:Int)) none).length<=x.length:=by
 have k1:=zBE x t ht
 have k2:=zCJ x d
 have xl:x.cps.toList.length=x.length:=AN
 constructor
 ·have:(sliceT x none (some (t:Int))).cps.toList.length=_:=congrArg Be k1
  rw[DK,AN]at this
  show (sliceT x none (some (t:Int))).cps.size<=_
  omega
 ·have:(sliceT x (some (d:Int)) none).cps.toList.length=_:=congrArg Be k2
  rw[Cr,AN]at this
  show (sliceT x (some (d:Int)) none).cps.size<=_
  omega
theorem zFa(l:List Nat)(t d:Nat)(h:t<=d):c40 (l.take t)+c40 (l.drop d)<=c40 l:=by
 have e:c40 (l.take t)+c40 (l.drop t)=c40 l:=by rw[← Bd,Ea]
 have:c40 (l.drop d)<=c40 (l.drop t):=by
  have e2:l.drop d=(l.drop t).drop (d - t):=by rw[El,show t+(d - t)=d by omega]
  rw[e2]
  exact (List.drop_sublist _ _).count_le _
 omega
theorem zEP(x:Str)(ha:∀ c∈x.cps.toList,c < 128)(t d:Nat)(ht:t<=x.length)(hd:t<=d)(m:Str)(hm:m.length<=1)(hma:∀ c∈m.cps.toList,c < 128):OtherOk x (sliceT x none (some (t:Int))++m++sliceT x (some (d:Int)) none):=by
 have k1:=zBE x t ht
 have k2:=zCJ x d
 obtain⟨z1,z2⟩:=zB1 x t d ht
 refine⟨fun c hc=>?_,?_,?_⟩
 ·rw[zAD,zAD,k1,k2]at hc
  rcases Aw.mp hc with hc | hc
  ·rcases Aw.mp hc with hc | hc
   ·exact ha c (Em hc)
   ·exact hma c hc
  ·exact ha c (Eo hc)
 ·rw[Au,Au]; omega
 ·have h1:CB 40 (x.cps.toList.take t)+CB 40 (x.cps.toList.drop d)<=CB 40 x.cps.toList:=zFa x.cps.toList t d hd
  have h2:CB 40 m.cps.toList<=m.cps.toList.length:=List.count_le_length
  have h3:m.cps.toList.length=m.length:=AN
  rw[zAD,zAD,k1,k2]
  show CB 40 _<=2 * CB 40 x.cps.toList+1
  rw[Bd,Bd]
  omega
theorem zJ5(x:Str)(ha:∀ c∈x.cps.toList,c < 128)(t d:Nat)(ht:t<=x.length)(hd:t<=d):OtherOk x (sliceT x none (some (t:Int))++sliceT x (some (d:Int)) none):=by
 have k1:=zBE x t ht
 have k2:=zCJ x d
 obtain⟨z1,z2⟩:=zB1 x t d ht
 refine⟨fun c hc=>?_,?_,?_⟩
 ·rw[zAD,k1,k2]at hc
  rcases Aw.mp hc with hc | hc
  ·exact ha c (Em hc)
  ·exact ha c (Eo hc)
 ·rw[Au]; omega
 ·have h1:CB 40 (x.cps.toList.take t)+CB 40 (x.cps.toList.drop d)<=CB 40 x.cps.toList:=zFa x.cps.toList t d hd
  rw[zAD,k1,k2]
  show CB 40 _<=2 * CB 40 x.cps.toList+1
  rw[Bd]
  omega
def cntS(ps:List Str):Nat:=(ps.map fun x=>x.cps.toList.count 40).sum
theorem zBB(a b:List Str):cntS (a++b)=cntS a+cntS b:=by unfold cntS; rw[Cb,Ht]
theorem zCR(ps:List Str)(s:Nat):cntS (ps.take s)+cntS (ps.drop s)=cntS ps:=by rw[← zBB,Ea]
theorem zGt(ps:List Str)(s:Nat):cntS (ps.drop (s+1))<=cntS (ps.drop s):=by
 have:=zCR (ps.drop s) 1
 rw[El]at this
 omega
theorem zES(ps:List Str):c40 (jn ps).cps.toList=cntS ps:=by
 cases ps with
 | nil=>rfl
 | cons p P =>
  have:=congrArg (CB 40) (zBH (p::P) (Ae _ _))
  rw[DV,zD5,if_neg (by decide),Nat.add_zero]at this
  exact this
theorem zH4(ps:List Str)(h:∀ p∈ps,∀ c∈p.cps.toList,c < 128):∀ c∈(jn ps).cps.toList,c < 128:=by
 intro c hc
 cases ps with
 | nil=>exact nomatch hc
 | cons p P =>
  have hj:=zBH (p::P) (Ae _ _)
  have:c∈Jn (p::P):=by rw[← hj]; exact AG _ hc
  unfold Jn at this
  obtain⟨l,hl,hc⟩:=Hf.mp this
  obtain⟨x,hx,rfl⟩:=Br.mp hl
  rcases AF.mp hc with rfl | hc
  ·decide
  ·exact h x hx c hc
theorem zCM{x:Str}{ps:List Str}(h:∀ p∈ps,∀ c∈p.cps.toList,c < 128)(ht:tot ps<=2 * x.length+20)(hc:cntS ps<=2 * c40 x.cps.toList+1):OtherOk x (jn ps) :=
 ⟨zH4 ps h,As (zKB 32 ps) ht,by rw[zES]; exact hc⟩
theorem zHy(a b:Int)(x:Str)(ha:∀ c∈x.cps.toList,c < 128)(hx:x.length<=9000):∃ y a' b',OtherOk x y/\F_9 [.l [iT a,iT b],.v (.a (.str x))]=some (.v (.a (.str y)),[iT a',iT b']):=by
 have ht:=zGR x 32
 have hne:=zEG x 32
 obtain⟨jx,hn0,fr⟩:=zDt x ha
 have sp:=fun Γ=>splS (rfl:Ar x " "=_) rfl (by omega) (by omega) Γ
 have hb:(" ":Str)=⟨#[32]⟩:=rfl
 have cx:cntS (Ar x " ")=c40 x.cps.toList:=by
  rw[← zES]
  have:=zBH _ hne
  rw[show jn (Ar x " ")=x from CN x ⟨#[32]⟩]
 rw[hb]at sp fr hn0 cx
 clear jx
 generalize Ar x (⟨#[32]⟩:Str)=ws at *
 have hl:=zBS ws
 have hpos:0 < ws.length:=by
  cases ws with
  | nil=>exact absurd rfl hne
  | cons _ _=>simp
 obtain⟨t,a1,b1,ht1,e1⟩:=zAP a b (x.length+1) (by omega) (by omega)
 obtain⟨f,a2,b2,hf,e2⟩:=zAP a1 b1 8 (by decide) (by decide)
 obtain⟨s,a3,b3,hs,e3⟩:=zAP a2 b2 ws.length hpos (by omega)
 have e1':F_5 [.l [iT a,iT b],.v (.a (.int ((x.length:Int)+1)))]=some (.v (iT (t:Int)),[iT a1,iT b1]):=e1
 have e2':F_5 [.l [iT a1,iT b1],.v (.a (.int 8))]=some (.v (iT (f:Int)),[iT a2,iT b2]):=e2
 have t1:=zCz ws s
 have t2:=zIk ws s
 have t3:=zIQ ws (s+1)
 have n1:=zCR ws s
 have n2:=zGt ws s
 have n3:=zCR ws (s+1)
 have c1:=zDN ws s
 have c2:=zFo ws s
 have c3:=zF0 ws s
 have c4:=zDL ws s
 have hln:(strsT ws).length=ws.length:=by simp[strsT]
 have sl:∀ ps:List Str,(strsT ps).length=ps.length:=fun ps=>by simp[strsT]
 have lt1:=zBS (ws.take s)
 have lt2:=zBS (ws.drop s)
 have lt3:=zBS (ws.take (s+1))
 have lt4:=zBS (ws.drop (s+1))
 have gl:ws.length<=AC:=zAB (by omega)
 have gx:x.length<=AC:=zAB (by omega)
 have ln:∀ Γ:En,lenS Γ [.v (.a (.str x))]=some (.v (.a (.int (x.length:Int)))):=fun Γ=>by simp[lenS,gx]
 have g1:(1:Nat)<=AC:=by decide
 have g5:(5:Nat)<=AC:=by decide
 have q1:(strsT (ws.take s)).length<=AC:=zAB (by rw[sl]; omega)
 have q2:(strsT (ws.drop s)).length<=AC:=zAB (by rw[sl]; omega)
 have q3:(strsT (ws.take (s+1))).length<=AC:=zAB (by rw[sl]; omega)
 have q4:(strsT (ws.drop (s+1))).length<=AC:=zAB (by rw[sl]; omega)
 have r1:(strsT (ws.take s)).length+(strsT (ws.drop (s+1))).length<=AC:=zAB (by rw[sl,sl]; omega)
 have r2:(strsT (ws.take (s+1))).length+(strsT (ws.drop s)).length<=AC:=zAB (by rw[sl,sl]; omega)
 have r3:(strsT (ws.take s)).length+1<=AC:=zAB (by rw[sl]; omega)
 have r4:(strsT (ws.take s)).length+1+(strsT (ws.drop (s+1))).length<=AC:=zAB (by rw[sl,sl]; omega)
 have r5:(strsT (ws.take s)).length+((strsT (ws.drop (s+1))).length+1)<=AC:=zAB (by rw[sl,sl]; omega)
 have jn':=fun (ps:List Str) (h:tot ps<=1000000) (Γ:En)=>zDu Γ 32 ps h
 have mtake:∀ {k:Nat} {p:Str},p∈ws.take k->∀ c∈p.cps.toList,c < 128:=fun hp=>(fr _ (Em hp)).1
 have mdrop:∀ {k:Nat} {p:Str},p∈ws.drop k->∀ c∈p.cps.toList,c < 128:=fun hp=>(fr _ (Eo hp)).1
 obtain⟨z1,z2⟩:=zB1 x t t (by omega)
 obtain⟨_,z3⟩:=zB1 x t (t+1) (by omega)
 have z3':(sliceT x (some ((t:Int)+1)) none).length<=x.length:=z3
 have gz1:(sliceT x none (some (t:Int))).length<=AC:=zAB (by omega)
 have gz2:(sliceT x (some (t:Int)) none).length<=AC:=zAB (by omega)
 have gz3:(sliceT x (some ((t:Int)+1)) none).length<=AC:=zAB (by omega)
 have cases8:(f=0\/f=1)\/f=2\/f=3\/f=4\/f=5\/f=6\/f=7:=by omega
 rcases cases8 with h01 | rfl | rfl | rfl | rfl | rfl | rfl
 ·have gy:(sliceT x none (some (t:Int))).length+(sliceT x (some ((t:Int)+1)) none).length<=AC:=zAB (by omega)
  refine⟨_,a3,b3,zJ5 x ha t (t+1) (by omega) (by omega),?_⟩
  have ed:((t+1:Nat):Int)=(t:Int)+1:=by omega
  rw[ed]
  generalize strsT ws=WS at *
  simp only[iT]at *
  rcases h01 with rfl | rfl <;> simp[F_9,fnD,d_9,-zAh,-zAg,hb,sp,hln,gl,ln,gd,e1',e2',e3,gz1,gz3,gy]
 ·obtain⟨c,a4,b4,hc,e4⟩:=zFH a3 b3
  have zc:(⟨#[c]⟩:Str).length=1:=rfl
  have gy1:(sliceT x none (some (t:Int))).length+(⟨#[c]⟩:Str).length<=AC:=zAB (by omega)
  have gy2:(sliceT x none (some (t:Int))++(⟨#[c]⟩:Str)).length+(sliceT x (some (t:Int)) none).length<=AC:=zAB (by rw[Au]; omega)
  refine⟨_,a4,b4,zEP x ha t t (by omega) (AL _) ⟨#[c]⟩ (AL _) (by simpa using hc),?_⟩
  generalize strsT ws=WS at *
  simp only[iT]at *
  simp[F_9,fnD,d_9,-zAh,-zAg,hb,sp,hln,gl,ln,gd,e1',e2',e3,e4,gz1,gz2,gy1,gy2]
 ·obtain⟨c,a4,b4,hc,e4⟩:=zFH a3 b3
  have zc:(⟨#[c]⟩:Str).length=1:=rfl
  have gy1:(sliceT x none (some (t:Int))).length+(⟨#[c]⟩:Str).length<=AC:=zAB (by omega)
  have gy2:(sliceT x none (some (t:Int))++(⟨#[c]⟩:Str)).length+(sliceT x (some ((t:Int)+1)) none).length<=AC:=zAB (by rw[Au]; omega)
  refine⟨_,a4,b4,zEP x ha t (t+1) (by omega) (by omega) ⟨#[c]⟩ (AL _) (by simpa using hc),?_⟩
  have ed:((t+1:Nat):Int)=(t:Int)+1:=by omega
  rw[ed]
  generalize strsT ws=WS at *
  simp only[iT]at *
  simp[F_9,fnD,d_9,-zAh,-zAg,hb,sp,hln,gl,ln,gd,e1',e2',e3,e4,gz1,gz3,gy1,gy2]
 ·obtain⟨m,a4,b4,hm,e4⟩:=zAP a3 b3 5 (by decide) (by decide)
  have e4':F_5 [.l [iT a3,iT b3],.v (.a (.int 5))]=some (.v (iT (m:Int)),[iT a4,iT b4]):=e4
  obtain⟨w,hw⟩:∃ w,([" ","(",")","q","0"]:List Str)[m]?=some w:=⟨_,Cy (show m < ([" ","(",")","q","0"]:List Str).length from hm)⟩
  have w0:∀ w∈([" ","(",")","q","0"]:List Str),w.length<=1/\∀ c∈w.cps.toList,c < 128:=by decide +kernel
  obtain⟨w1,w2⟩:=w0 w (B8 hw)
  have iw:atI ([.a (.str ⟨#[32]⟩),.a (.str "("),.a (.str ")"),.a (.str "q"),.a (.str "0")]:List T) (m:Int)=some (.a (.str w)):=zEl hw
  have gy1:(sliceT x none (some (t:Int))).length+w.length<=AC:=zAB (by omega)
  have gy2:(sliceT x none (some (t:Int))++w).length+(sliceT x (some (t:Int)) none).length<=AC:=zAB (by rw[Au]; omega)
  refine⟨_,a4,b4,zEP x ha t t (by omega) (AL _) w w1 w2,?_⟩
  generalize strsT ws=WS at *
  simp only[iT]at *
  simp[F_9,fnD,d_9,-zAh,-zAg,hb,sp,hln,gl,ln,gd,e1',e2',e3,e4',iw,g5,gz1,gz2,gy1,gy2]
 ·have tt:tot (ws.take s++ws.drop (s+1))<=2 * x.length+20:=by rw[zBT]; omega
  have j:∀ Γ:En,joinS Γ [.v (.a (.str ⟨#[32]⟩)),.l (strsT (ws.take s)++strsT (ws.drop (s+1)))]=some (.v (.a (.str (jn (ws.take s++ws.drop (s+1)))))):=by rw[zBh]; exact jn' _ (by omega)
  refine⟨_,a3,b3,zCM (fun p hp=>(Aw.mp hp).elim mtake mdrop) tt (by rw[zBB]; omega),?_⟩
  generalize jn (ws.take s++ws.drop (s+1))=JJ at *
  generalize strsT (ws.take s)=A1 at *
  generalize strsT (ws.drop (s+1))=A2 at *
  generalize strsT ws=WS at *
  simp only[iT]at *
  simp[F_9,fnD,d_9,-zAh,-zAg,hb,sp,hln,gl,ln,gd,e1',e2',e3,c1,c2,q1,q4,r1,j]
 ·have tt:tot (ws.take (s+1)++ws.drop s)<=2 * x.length+20:=by rw[zBT]; omega
  have j:∀ Γ:En,joinS Γ [.v (.a (.str ⟨#[32]⟩)),.l (strsT (ws.take (s+1))++strsT (ws.drop s))]=some (.v (.a (.str (jn (ws.take (s+1)++ws.drop s))))):=by rw[zBh]; exact jn' _ (by omega)
  refine⟨_,a3,b3,zCM (fun p hp=>(Aw.mp hp).elim mtake mdrop) tt (by rw[zBB]; omega),?_⟩
  generalize jn (ws.take (s+1)++ws.drop s)=JJ at *
  generalize strsT (ws.take (s+1))=A1 at *
  generalize strsT (ws.drop s)=A2 at *
  generalize strsT ws=WS at *
  simp only[iT]at *
  simp[F_9,fnD,d_9,-zAh,-zAg,hb,sp,hln,gl,ln,gd,e1',e2',e3,c3,c4,q2,q3,r2,j]
 ·obtain⟨w,a4,b4,hw,e4⟩:=zD3 a3 b3
  obtain⟨w1,w2,w3⟩:=zDH w hw
  have tw:tot [w]=w.length+1:=by show w.length+0+1=_; omega
  have cw:cntS [w]=c40 w.cps.toList:=by show c40 w.cps.toList+0=_; omega
  have tt:tot (ws.take s++([w]++ws.drop (s+1)))<=2 * x.length+20:=by rw[zBT,zBT]; omega
  have j:=jn' (ws.take s++([w]++ws.drop (s+1))) (by omega)
  rw[← zBh,← zBh]at j
  have j':∀ Γ:En,joinS Γ [.v (.a (.str ⟨#[32]⟩)),.l (strsT (ws.take s)++T.a (.str w)::strsT (ws.drop (s+1)))]=some (.v (.a (.str (jn (ws.take s++([w]++ws.drop (s+1))))))):=j
  refine⟨_,a4,b4,zCM (ps:=ws.take s++([w]++ws.drop (s+1))) (fun p hp=>?_) tt (by rw[zBB,zBB]; omega),?_⟩
  ·rcases Aw.mp hp with hp | hp
   ·exact mtake hp
   ·rcases Aw.mp hp with hp | hp
    ·rw[AD.mp hp]; exact w2
    ·exact mdrop hp
  ·generalize jn (ws.take s++([w]++ws.drop (s+1)))=JJ at *
   generalize strsT (ws.take s)=A1 at *
   generalize strsT (ws.drop (s+1))=A2 at *
   generalize strsT ws=WS at *
   simp only[iT]at *
   simp[F_9,fnD,d_9,-zAh,-zAg,hb,sp,hln,gl,ln,gd,e1',e2',e3,e4,c1,c2,g1,q1,q4,r3,r4,r5,j']
structure Tq(i:Nat)(x:Str):Prop where
 asc:∀ c∈x.cps.toList,c < 128
 len:x.length+20<=152 * 2 ^ i
 cnt:x.cps.toList.count 40+1<=13 * 2 ^ i
theorem zLE{i:Nat}(h:i<=3):2 ^ i<=8:=by
 match i,h with
 | 0,_=>decide
 | 1,_=>decide
 | 2,_=>decide
 | 3,_=>decide
structure TextW(x:Str):Prop where
 asc:∀ c∈x.cps.toList,c < 128
 len:x.length<=9000
 cnt:x.cps.toList.count 40 < 105
theorem zBz{i:Nat}{x:Str}(hi:i<=3)(h:Tq i x):TextW x:=by
 have p:=zLE hi
 have h1:=h.len
 have h2:=h.cnt
 exact⟨h.asc,by omega,by omega⟩
theorem zJe{i:Nat}{x y:Str}(h:Tq i x)(o:OtherOk x y):Tq (i+1) y:=by
 have h1:=h.len
 have h2:=h.cnt
 have o1:=o.len
 have o2:y.cps.toList.count 40<=2 * x.cps.toList.count 40+1:=o.cnt
 refine⟨o.asc,?_,?_⟩
 ·rw[JX]; omega
 ·rw[JX]; omega
theorem zJ7(s:Sy)(hs:s.qs 1000)(hp:s.parts<=12):Tq 0 s.txt:=by
 have t:=zAm s hs
 have l:=Sy.txt_len hs
 have c:=t.cnt
 exact⟨t.asc,by show _<=152; omega,by show _<=13; omega⟩
theorem zFv(w:Str)(h:w∈pieceL):TextW w:=by
 obtain⟨h1,h2,h3⟩:=zDH w h
 have h3':w.cps.toList.count 40<=1:=h3
 exact⟨h2,by omega,by omega⟩
theorem zDI(x0 x1 x3 x4 x5:Option G):∀ (ks:List T) (i:Nat) (a b:Int) (x:Str) (o7:Option G),i+ks.length<=3->Tq i x->∃ y a' b' o7',Tq (i+ks.length) y /\
  forD (gdName 7) d_law_b2 ks [x0,x1,some (.l [iT a,iT b]),x3,x4,x5,some (.v (.a (.str x))),o7]=some (.nx [x0,x1,some (.l [iT a',iT b']),x3,x4,x5,some (.v (.a (.str y))),o7'])
 | [],i,a,b,x,o7,_,h=>⟨x,a,b,o7,h,by rw[zBY]⟩
 | k::r,i,a,b,x,o7,hi,h=>by
  simp only[AW]at hi
  have hw:=zBz (by omega) h
  obtain⟨y,a1,b1,ho,e⟩:=zHy a b x hw.asc hw.len
  have t:d_law_b2 [x0,x1,some (.l [iT a,iT b]),x3,x4,x5,some (.v (.a (.str x))),some (.v k)]=some (.nx [x0,x1,some (.l [iT a1,iT b1]),x3,x4,x5,some (.v (.a (.str y))),some (.v k)]):=by
   simp only[iT]at *
   simp[d_law_b2,e]
  obtain⟨z,a2,b2,o,hz,e2⟩:=zDI x0 x1 x3 x4 x5 r (i+1) a1 b1 y (some (.v k)) (by omega) (zJe h ho)
  refine⟨z,a2,b2,o,by rw[AW,show i+(r.length+1)=i+1+r.length by omega]; exact hz,?_⟩
  rw[zAp (Γ1:=[x0,x1,some (.l [iT a,iT b]),x3,x4,x5,some (.v (.a (.str x))),some (.v k)]) rfl t]
  exact e2
theorem zHk(x0 x1:Option G)(g:Str)(hg:Tq 0 g)(a b:Int)(ts:List Str)(hl:ts.length<=100)(k:T)(o6 o7:Option G):∃ y a' b' o7',TextW y /\
  d_law_b3 [x0,x1,some (.l [iT a,iT b]),some (.v (.a (.str g))),some (.l (strsT ts)),some (.v k),o6,o7]=some (.nx [x0,x1,some (.l [iT a',iT b']),some (.v (.a (.str g))),some (.l (strsT (ts++[y,g]))),some (.v k),some (.v (.a (.str y))),o7']):=by
 obtain⟨m,a1,b1,hm,e1⟩:=zAP a b 3 (by decide) (by decide)
 have e1':F_5 [.l [iT a,iT b],.v (.a (.int 3))]=some (.v (iT (m:Int)),[iT a1,iT b1]):=e1
 have hlen:(rngT 0 (1+m)).length=1+m:=by simp[rngT]
 obtain⟨y,a2,b2,p7,hy,e2⟩:=zDI x0 x1 (some (.v (.a (.str g)))) (some (.l (strsT ts))) (some (.v k)) (rngT 0 (1+m)) 0 a1 b1 g o7 (by rw[hlen]; omega) hg
 refine⟨y,a2,b2,p7,zBz (by rw[hlen]; omega) hy,?_⟩
 have r1:=zCH (1+m) (by omega)
 have r1':rngS [.v (.a (.int (1+(m:Int))))]=some (rngT 0 (1+m)):=by
  have:((1+m:Nat):Int)=1+(m:Int):=by omega
  rw[this]at r1; exact r1
 have g2:(2:Nat)<=AC:=by decide
 have gt:(strsT ts).length+2<=AC:=zAB (by simp[strsT]; omega)
 have es:strsT (ts++[y,g])=strsT ts++[T.a (.str y),T.a (.str g)]:=by simp[strsT]
 rw[es]
 generalize strsT ts=TS at *
 generalize rngT 0 (1+m)=RG at *
 simp only[iT]at *
 simp[d_law_b3,e1',r1',e2,gd,g2,gt]
theorem zDC(x0 x1:Option G)(g:Str)(hg:Tq 0 g):∀ (ks:List T) (a b:Int) (ts:List Str) (o5 o6 o7:Option G),(∀ t∈ts,TextW t)->ts.length+2 * ks.length<=100->∃ ts' a' b' o5' o6' o7',(∀ t∈ts',TextW t)/\ts'.length<=100 /\
  forD (gdName 5) d_law_b3 ks [x0,x1,some (.l [iT a,iT b]),some (.v (.a (.str g))),some (.l (strsT ts)),o5,o6,o7]=some (.nx [x0,x1,some (.l [iT a',iT b']),some (.v (.a (.str g))),some (.l (strsT ts')),o5',o6',o7'])
 | [],a,b,ts,o5,o6,o7,h,hl=>⟨ts,a,b,o5,o6,o7,h,by simp at hl; omega,by rw[zBY]⟩
 | k::r,a,b,ts,o5,o6,o7,h,hl=>by
  simp only[AW]at hl
  obtain⟨y,a1,b1,p7,hy,t⟩:=zHk x0 x1 g hg a b ts (by omega) k o6 o7
  obtain⟨ts',a2,b2,q5,q6,q7,hq,hql,e⟩:=zDC x0 x1 g hg r a1 b1 (ts++[y,g]) (some (.v k)) (some (.v (.a (.str y)))) p7 (fun t ht=>by
   rcases Aw.mp ht with ht | ht
   ·exact h t ht
   ·simp only[AF,AK,or_false]at ht
    rcases ht with rfl | rfl
    ·exact hy
    ·exact zBz (by decide) hg) (by simp; omega)
  exact⟨ts',a2,b2,q5,q6,q7,hq,hql,by rw[zAp (Γ1:=[x0,x1,some (.l [iT a,iT b]),some (.v (.a (.str g))),some (.l (strsT ts)),some (.v k),o6,o7]) rfl t]; exact e⟩
theorem zCe(x0 x1 x2 x3 x4 x5 x7:Option G):∀ (ts:List Str) (o6:Option G),(∀ t∈ts,TextW t)->∃ o6',forD (gdName 6) d_law_b1 (strsT ts) [x0,x1,x2,x3,x4,x5,o6,x7]=some (.nx [x0,x1,x2,x3,x4,x5,o6',x7])
 | [],o6,_=>⟨o6,by rw[show strsT []=([]:List T) from rfl,zBY]⟩
 | x::r,o6,h=>by
  have hx:=h x AE
  obtain⟨TT,e1,e2,e3⟩:=zIE x hx.asc hx.len hx.cnt
  have t:d_law_b1 [x0,x1,x2,x3,x4,x5,some (.v (.a (.str x))),x7]=some (.nx [x0,x1,x2,x3,x4,x5,some (.v (.a (.str x))),x7]):=by
   simp[d_law_b1,e1,e2,e3]
  obtain⟨o,e⟩:=zCe x0 x1 x2 x3 x4 x5 x7 r (some (.v (.a (.str x)))) fun t ht=>h t (AG _ ht)
  refine⟨o,?_⟩
  rw[show strsT (x::r)=T.a (.str x)::strsT r from rfl,zAp (Γ1:=[x0,x1,x2,x3,x4,x5,some (.v (.a (.str x))),x7]) rfl t]
  exact e
theorem zIb(ns:List Int)(k:Nat)(hk:k < 1000)(o2 o3 o4 o5 o6 o7:Option G):∃ p2 p3 p4 p5 p6 p7,d_law_b4 [some (.k (intsT ns)),some (.v (iT (k:Int))),o2,o3,o4,o5,o6,o7]=some (.nx [some (.k (intsT ns)),some (.v (iT (k:Int))),p2,p3,p4,p5,p6,p7]):=by
 obtain⟨a,b,e0⟩:=zKc ns k (by omega) (by omega)
 obtain⟨c,a1,b1,hc,e1⟩:=zAP a b 2 (by decide) (by decide)
 have e1':F_5 [.l [iT a,iT b],.v (.a (.int 2))]=some (.v (iT (c:Int)),[iT a1,iT b1]):=e1
 obtain⟨q,hq0,hq,eq⟩:∃ q:Nat,0 < q/\q<=1000/\atI [iT 4,iT 1000] (c:Int)=some (iT (q:Int)):=by
  match c,hc with
  | 0,_=>exact⟨4,by decide,by decide,rfl⟩
  | 1,_=>exact⟨1000,by decide,by decide,rfl⟩
 obtain⟨s,a2,b2,h1,h2,h3,e2⟩:=zGX q hq0 hq 12 a1 b1 12 5 (by decide) (by decide) (by decide) (by decide)
 have e2':F_1 fuel_1 [.l [iT a1,iT b1],.v (iT (q:Int)),.v (.a (.int 12)),.v (.a (.int 5))]=some (.v s.t,[iT a2,iT b2]):=e2
 have h1':s.down<=5:=h1
 have hs:s.qs 1000:=Sy.qs_mono hq h3
 have e3:=zDU fuel_3 s (As h1' (by decide)) hs (by omega)
 obtain⟨w,a3,b3,hw,e4⟩:=zD3 a2 b2
 have hg:=zJ7 s hs h2
 simp only[sT]at e3
 generalize s.txt=TX at *
 generalize s.t=ST at *
 obtain⟨ts,a4,b4,p5,p6,p7,hts,htl,e5⟩:=zDC (some (.k (intsT ns))) (some (.v (iT (k:Int)))) TX hg (rngT 0 4) a3 b3 [TX,w] o5 o6 o7 (fun t ht=>by
  simp only[AF,AK,or_false]at ht
  rcases ht with rfl | rfl
  ·exact zBz (by decide) hg
  ·exact zFv _ hw) (by simp[rngT])
 obtain⟨q6,e6⟩:=zCe (some (.k (intsT ns))) (some (.v (iT (k:Int)))) (some (.l [iT a4,iT b4])) (some (.v (.a (.str TX)))) (some (.r (strsT ts))) p5 p7 ts p6 hts
 refine⟨some (.l [iT a4,iT b4]),some (.v (.a (.str TX))),some (.r (strsT ts)),p5,q6,p7,?_⟩
 have r4:rngS [.v (.a (.int 4))]=some (rngT 0 4):=zCH 4 (by decide)
 have g2:(2:Nat)<=AC:=by decide
 have gt:(strsT ts).length<=AC:=zAB (by simp[strsT]; omega)
 have ex:strsT [TX,w]=[T.a (.str TX),T.a (.str w)]:=rfl
 rw[ex]at e5
 generalize intsT ns=NS at *
 generalize strsT ts=TS at *
 generalize rngT 0 4=RG at *
 simp only[iT]at *
 simp[d_law_b4,e0,e1',eq,e2',e3,e4,gd,g2,r4,e5,gt]
 exact e6
theorem zD1(ns:List Int):∀ (ks:List Nat) (o1 o2 o3 o4 o5 o6 o7:Option G),(∀ k∈ks,k < 1000)->∃ p1 p2 p3 p4 p5 p6 p7,forD (gdName 1) d_law_b4 (tvT ks) [some (.k (intsT ns)),o1,o2,o3,o4,o5,o6,o7]=some (.nx [some (.k (intsT ns)),p1,p2,p3,p4,p5,p6,p7])
 | [],o1,o2,o3,o4,o5,o6,o7,_=>⟨o1,o2,o3,o4,o5,o6,o7,by rw[show tvT []=([]:List T) from rfl,zBY]⟩
 | k::r,o1,o2,o3,o4,o5,o6,o7,h=>by
  obtain⟨p2,p3,p4,p5,p6,p7,t⟩:=zIb ns k (h k AE) o2 o3 o4 o5 o6 o7
  obtain⟨q1,q2,q3,q4,q5,q6,q7,e⟩:=zD1 ns r (some (.v (iT (k:Int)))) p2 p3 p4 p5 p6 p7 fun j hj=>h j (AG _ hj)
  refine⟨q1,q2,q3,q4,q5,q6,q7,?_⟩
  rw[show tvT (k::r)=iT (k:Int)::tvT r from rfl,zAp (Γ1:=[some (.k (intsT ns)),some (.v (iT (k:Int))),o2,o3,o4,o5,o6,o7]) rfl t]
  exact e
theorem law_true(ns:List Int)(hns:ns.length<=63):F_law [.k (intsT ns)]=some (.v (.a (.bl true)),[]):=by
 obtain⟨p1,p2,p3,p4,p5,p6,p7,e⟩:=zD1 ns (Az 4) none none none none none none none (fun k hk=>by have:=Ei.mp hk; omega)
 rw[← zFP 4]at e
 have r4:rngS [.v (.a (.int 4))]=some (rngT 0 4):=zCH 4 (by decide)
 generalize intsT ns=NS at *
 generalize rngT 0 4=RG at *
 simp[F_law,fnD,d_law,r4,e]
structure Wr(K:AJ)(x:Str)(st:Stmt)(f:Addr):Prop where
 a:nsIn K AU x=some (some (.ref f))
 F:∃ fd,Fun K x x st f fd
theorem wr_mk{K:AJ}{x:Str}{st:Stmt}{f:Addr}{oc:AB}{od an:Option Addr}{osl:Array (Option AB)}{kV doc pm cdv ct:AB}(a:nsIn K AU x=some (some (.ref f)))(l:K.lookup f=some ⟨oc,od,.func (fnOf x x (defArgs st) (defBody st) (defScope st) .none kV doc pm an cdv ct),osl⟩)
  (c:Ce K cdv x=true) (k:BC K (.ref f)=true):Wr K x st f:=⟨a,_,zDv l c k⟩
local macro_rules | `(tactic| walk_at "b") => `(tactic| (intro _ _ _ _ _ _ us hl; first|(obtain⟨_,h⟩:=len1 hl; subst h; exact rfl)|(obtain⟨_,_,h⟩:=len2 hl; subst h; exact rfl)|(obtain⟨_,_,_,_,h⟩:=len4 hl; subst h; exact rfl)))
theorem all_mk{l:FM}{w:Al}{K:AJ}{h:Heap}{mg:Str->Option AB}{fa:Addr}(X:K.In h)(G:h.Ns AU mg)(hfa:mg "law"=some (.ref fa))
  {f1:Addr} (w1:Wr K "_law_box" st_4 f1)
  {f2:Addr} (w2:Wr K "_law_saying_text" st_3 f2)
  {f3:Addr} (w3:Wr K "_law_take" st_5 f3)
  {f4:Addr} (w4:Wr K "_law_saying" st_1 f4)
  {f5:Addr} (w5:Wr K "_law_piece" st_6 f5)
  {f6:Addr} (w6:Wr K "_law_signs" st_7 f6)
  {f7:Addr} (w7:Wr K "_law_sign" st_8 f7)
  {f8:Addr} (w8:Wr K "_law_otherwise" st_9 f8)
  {f9:Addr} (w9:Wr K "_law_alike" st_0 f9)
  {f10:Addr} (w10:Wr K "read_opened" st_10 f10)
  {f11:Addr} (w11:Wr K "is_number" st_11 f11)
  {f12:Addr} (w12:Wr K "read_bare" st_12 f12)
  {f13:Addr} (w13:Wr K "close_last" st_13 f13)
  {f14:Addr} (w14:Wr K "read_saying" st_14 f14)
  {f15:Addr} (w15:Wr K "_law_bad" st_15 f15)
  {f16:Addr} (w16:Wr K "_law_told" st_16 f16)
  {f17:Addr} (w17:Wr K "_law_pieces" st_17 f17)
  {f18:Addr} (w18:Wr K "_law_closed" st_18 f18)
  {f19:Addr} (w19:Wr K "_law_question" st_19 f19)
  {f20:Addr} (w20:Wr K "_law_saying_read" st_2 f20)
  {f21:Addr} (w21:Wr K "_law_due" st_20 f21)
  {f22:Addr} {od22 an22:Option Addr} {sl22:Array (Option AB)} {oc22 kV22 dc22 pm22 cd22 ct22:AB}
  (a22:nsIn K AU "law"=some (some (.ref f22))) (l22:K.lookup f22=some ⟨oc22,od22,.func (fnOf "law" "law" (defArgs st_law) (defBody st_law) (defScope st_law) .none kV22 dc22 pm22 an22 cd22 ct22),sl22⟩) (c22:Ce K cd22 "law"=true) (k22:BC K (.ref f22)=true)
  (z1:nsIn K AU "ValueError"=some none)
  (z2:nsIn K AU "all"=some none)
  (z3:nsIn K AU "bool"=some none)
  (z4:nsIn K AU "int"=some none)
  (z5:nsIn K AU "isinstance"=some none)
  (z6:nsIn K AU "len"=some none)
  (z7:nsIn K AU "list"=some none)
  (z8:nsIn K AU "max"=some none)
  (z9:nsIn K AU "range"=some none)
  (z10:nsIn K AU "str"=some none)
  (z11:nsIn K AU "tuple"=some none)
  (z12:nsIn K AU "zip"=some none)
  {xc1:Addr} (xa1:nsIn K AU "BadText"=some (some (.ref xc1)))
  {xc2:Addr} (xa2:nsIn K AU "CupError"=some (some (.ref xc2)))
  {xc3:Addr} (xa3:nsIn K AU "NoDance"=some (some (.ref xc3)))
  {xc4:Addr} (xa4:nsIn K AU "NoName"=some (some (.ref xc4)))
  {xc5:Addr} (xa5:nsIn K AU "NoRing"=some (some (.ref xc5)))
  {xc6:Addr} (xa6:nsIn K AU "NoRow"=some (some (.ref xc6)))
  {xc7:Addr} (xa7:nsIn K AU "OtherSizes"=some (some (.ref xc7)))
  {xc8:Addr} (xa8:nsIn K AU "TooHeavy"=some (some (.ref xc8)))
  (cq1:catches K xc1 xc2=true)
  (xk:XKC K csX mroX=true)
  (xg:XGC K gkX=true)
  {xf1:Addr} {xod1 xan1:Option Addr} {xsl1:Array (Option AB)} {xoc1 xkV1 xdc1 xpm1 xcd1 xct1:AB} (xi1:Bb K (.ref xc1) "__init__"=some (some (.ref xf1))) (xl1:K.lookup xf1=some ⟨xoc1,xod1,.func (fnOf "__init__" "BadText.__init__" (defArgs zAl) (defBody zAl) (defScope zAl) .none xkV1 xdc1 xpm1 xan1 xcd1 xct1),xsl1⟩)
  (xw1:Ce K xcd1 "BadText.__init__"=true) (xk1:BC K (.ref xf1)=true) (xe1:excI K xc1 xf1=true) (xs1:setKit K xc1 ["row"]=true) (xp1:BC K (.ref xc1)=true)
  (kc:(K.all fun q=>kcC [] q.2)=true)
  {pt1:Addr} {et1:Nat} {q1_0 r1_0 q1_1 r1_1 q1_2 r1_2 q1_3 r1_3 q1_4 r1_4:Tok} (ta1:nsIn K AU "INSIDE"=some (some (.ref pt1))) (tl1:K.lookup pt1=some ⟨.type "dict",none,.dict [⟨GU w "not",.str "not" q1_0,.int 1 r1_0⟩,⟨GU w "and",.str "and" q1_1,.int 2 r1_1⟩,⟨GU w "or",.str "or" q1_2,.int 2 r1_2⟩,⟨GU w "either",.str "either" q1_3,.int 2 r1_3⟩,⟨GU w "most",.str "most" q1_4,.int 3 r1_4⟩].toArray et1,#[]⟩)
  (tn1:(pt1 == Bm)=false) :
  ∃ fd:An,(∀ (s:AH) (v:AB),Fq s fd ⟨[v],[]⟩ [("_law_script",v)])/\∀ base:Heap,K.In base->base.Ns AU mg->FnOk l.prog w K mg base CX0 113 fa fd ["_law_script"] (spD K none 1 F_law):=by
 have e:=hfa.symm.trans (mg_of X G a22)
 cases e
 have z_ValueError:=mg_none_of X G z1
 have z_all:=mg_none_of X G z2
 have z_bool:=mg_none_of X G z3
 have z_int:=mg_none_of X G z4
 have z_isinstance:=mg_none_of X G z5
 have z_len:=mg_none_of X G z6
 have z_list:=mg_none_of X G z7
 have z_max:=mg_none_of X G z8
 have z_range:=mg_none_of X G z9
 have z_str:=mg_none_of X G z10
 have z_tuple:=mg_none_of X G z11
 have z_zip:=mg_none_of X G z12
 have z_KC:=zLP kc
 have z_XK:=xk
 have z_XG:=xg
 have xm1:=mg_of X G xa1
 have n_BadText:NK K mg "BadText":=⟨_,xa1,xm1⟩
 have xm2:=mg_of X G xa2
 have xm3:=mg_of X G xa3
 have n_NoDance:NK K mg "NoDance":=⟨_,xa3,xm3⟩
 have xm4:=mg_of X G xa4
 have n_NoName:NK K mg "NoName":=⟨_,xa4,xm4⟩
 have xm5:=mg_of X G xa5
 have n_NoRing:NK K mg "NoRing":=⟨_,xa5,xm5⟩
 have xm6:=mg_of X G xa6
 have n_NoRow:NK K mg "NoRow":=⟨_,xa6,xm6⟩
 have xm7:=mg_of X G xa7
 have n_OtherSizes:NK K mg "OtherSizes":=⟨_,xa7,xm7⟩
 have xm8:=mg_of X G xa8
 have n_TooHeavy:NK K mg "TooHeavy":=⟨_,xa8,xm8⟩
 have cat_CupError_BadText:Cat K mg "CupError" "BadText":=⟨_,xm2,fun C h=>by rw[xa1]at h; cases h; exact cq1⟩
 have xF1:=zDv (st:=zAl) xl1 xw1 xk1
 have xb1:=xF1.binds (ps:=["self","row"]) (by walk_at "b")
 have catx_CupError_p_read_saying:CatX K mg "CupError" ["BadText"]:=⟨_,xm2,fun c hc C h=>by
  simp only[AF,AK,or_false]at hc
  rcases hc with rfl
  ·rw[xa1]at h; cases h; exact cq1⟩
 have k_INSIDE:KTN w K mg "INSIDE" c_INSIDE:=(zJu _ (mg_of X G ta1) tl1 (.cons ⟨⟨_,rfl⟩,⟨_,rfl⟩,rfl⟩ (.cons ⟨⟨_,rfl⟩,⟨_,rfl⟩,rfl⟩ (.cons ⟨⟨_,rfl⟩,⟨_,rfl⟩,rfl⟩ (.cons ⟨⟨_,rfl⟩,⟨_,rfl⟩,rfl⟩ (.cons ⟨⟨_,rfl⟩,⟨_,rfl⟩,rfl⟩ (.nil)))))) (by decide)).n fun p hp=>by rw[mg_of X G ta1]at hp; cases hp; exact tn1
 obtain⟨a1,_,F1⟩:=w1
 have b1:=F1.binds (ps:=["_law_script","_law_k"]) (by walk_at "b")
 have m1:=mg_of X G a1
 obtain⟨a2,_,F2⟩:=w2
 have b2:=F2.binds (ps:=["_law_saying_here"]) (by walk_at "b")
 have m2:=mg_of X G a2
 obtain⟨a3,_,F3⟩:=w3
 have b3:=F3.binds (ps:=["_law_box_here","_law_wide"]) (by walk_at "b")
 have m3:=mg_of X G a3
 obtain⟨a4,_,F4⟩:=w4
 have b4:=F4.binds (ps:=["_law_box_here","_law_questions","_law_room","_law_down"]) (by walk_at "b")
 have m4:=mg_of X G a4
 obtain⟨a5,_,F5⟩:=w5
 have b5:=F5.binds (ps:=["_law_box_here"]) (by walk_at "b")
 have m5:=mg_of X G a5
 obtain⟨a6,_,F6⟩:=w6
 have b6:=F6.binds (ps:=[]) fun _ _ _ _ _ _ us hl=>by obtain rfl:=len0 hl; exact rfl
 have m6:=mg_of X G a6
 obtain⟨a7,_,F7⟩:=w7
 have b7:=F7.binds (ps:=["_law_box_here"]) (by walk_at "b")
 have m7:=mg_of X G a7
 obtain⟨a8,_,F8⟩:=w8
 have b8:=F8.binds (ps:=["_law_box_here","_law_text"]) (by walk_at "b")
 have m8:=mg_of X G a8
 obtain⟨a9,_,F9⟩:=w9
 have b9:=F9.binds (ps:=["_law_found","_law_due_here"]) (by walk_at "b")
 have m9:=mg_of X G a9
 obtain⟨a10,_,F10⟩:=w10
 have b10:=F10.binds (ps:=["word"]) (by walk_at "b")
 have m10:=mg_of X G a10
 obtain⟨a11,_,F11⟩:=w11
 have b11:=F11.binds (ps:=["figures"]) (by walk_at "b")
 have m11:=mg_of X G a11
 obtain⟨a12,_,F12⟩:=w12
 have b12:=F12.binds (ps:=["word"]) (by walk_at "b")
 have m12:=mg_of X G a12
 obtain⟨a13,_,F13⟩:=w13
 have b13:=F13.binds (ps:=["rows"]) (by walk_at "b")
 have m13:=mg_of X G a13
 obtain⟨a14,_,F14⟩:=w14
 have b14:=F14.binds (ps:=["text"]) (by walk_at "b")
 have m14:=mg_of X G a14
 obtain⟨a15,_,F15⟩:=w15
 have b15:=F15.binds (ps:=["_law_e"]) (by walk_at "b")
 have m15:=mg_of X G a15
 obtain⟨a16,_,F16⟩:=w16
 have b16:=F16.binds (ps:=["_law_text"]) (by walk_at "b")
 have m16:=mg_of X G a16
 obtain⟨a17,_,F17⟩:=w17
 have b17:=F17.binds (ps:=["_law_text"]) (by walk_at "b")
 have m17:=mg_of X G a17
 obtain⟨a18,_,F18⟩:=w18
 have b18:=F18.binds (ps:=["_law_text","_law_at"]) (by walk_at "b")
 have m18:=mg_of X G a18
 obtain⟨a19,_,F19⟩:=w19
 have b19:=F19.binds (ps:=["_law_piece_here"]) (by walk_at "b")
 have m19:=mg_of X G a19
 obtain⟨a20,_,F20⟩:=w20
 have b20:=F20.binds (ps:=["_law_text"]) (by walk_at "b")
 have m20:=mg_of X G a20
 obtain⟨a21,_,F21⟩:=w21
 have b21:=F21.binds (ps:=["_law_text"]) (by walk_at "b")
 have m21:=mg_of X G a21
 have F22:=zDv (st:=st_law) l22 c22 k22
 have b22:=F22.binds (ps:=["_law_script"]) (by walk_at "b")
 have m22:=mg_of X G a22
 refine⟨fnOf "law" "law" (defArgs st_law) (defBody st_law) (defScope st_law) .none kV22 dc22 pm22 an22 cd22 ct22,fun s v=>.of_eq rfl,fun base _ _=>?_⟩
 have D_4:=ok_4 (P:=l.prog) (wd:=w) (base:=base) F1 m1 b1 z_int z_len
 have D_3:=ok_3 (P:=l.prog) (wd:=w) (base:=base) F2 m2 b2 z_len z_str fuel_3
 have D_5:=ok_5 (P:=l.prog) (wd:=w) (base:=base) F3 m3 b3
 have D_1:=ok_1 F4 m4 b4 z_max D_5 fuel_1
 have D_6:=ok_6 F5 m5 b5 z_len D_5
 have D_7:=ok_7 (P:=l.prog) (wd:=w) (base:=base) F6 m6 b6
 have D_8:=ok_8 F7 m7 b7 z_len D_5 D_7
 have D_9:=ok_9 F8 m8 b8 z_len D_5 D_6 D_8
 have D_0:=ok_0 (P:=l.prog) (wd:=w) (base:=base) F9 m9 b9 z_all z_bool z_isinstance z_len z_list z_tuple z_zip fuel_0
 have x_BadText:=zLu (P:=l.prog) (wd:=w) (base:=base) xa1 xm1 xe1 (zI0 (k:=0) xF1 zEq rfl xs1 (by decide) (by decide) (by decide) (by decide)) xb1 (by decide) rfl xp1
 have X_p_read_opened:=ok_10 (P:=l.prog) (wd:=w) (base:=base) F10 m10 b10 k_INSIDE x_BadText
 have D_11:=ok_11 (P:=l.prog) (wd:=w) (base:=base) F11 m11 b11 z_all z_len
 have X_p_read_bare:=ok_12 (P:=l.prog) (wd:=w) (base:=base) F12 m12 b12 z_int D_11 x_BadText
 have X_p_close_last:=ok_13 (P:=l.prog) (wd:=w) (base:=base) F13 m13 b13 z_len z_tuple k_INSIDE x_BadText
 have X_p_read_saying:=ok_14 (P:=l.prog) (wd:=w) (base:=base) F14 m14 b14 z_len x_BadText X_p_read_opened X_p_read_bare X_p_close_last
 have D_15:=ok_15 (P:=l.prog) (wd:=w) (base:=base) F15 m15 b15 z_ValueError z_XG z_XK z_bool z_isinstance n_BadText n_NoDance n_NoName n_NoRing n_NoRow n_OtherSizes n_TooHeavy
 have D_16:=ok_16 F16 m16 b16 D_15 cat_CupError_BadText X_p_read_saying catx_CupError_p_read_saying
 have D_17:=ok_17 (P:=l.prog) (wd:=w) (base:=base) F17 m17 b17 z_int
 have D_18:=ok_18 (P:=l.prog) (wd:=w) (base:=base) F18 m18 b18 z_int z_len z_range
 have D_19:=ok_19 (P:=l.prog) (wd:=w) (base:=base) F19 m19 b19 z_int z_len
 have D_2:=ok_2 F20 m20 b20 z_KC z_int z_len z_tuple D_17 D_18 D_19 fuel_2
 have D_20:=ok_20 F21 m21 b21 D_2
 exact ok_law F22 z_range D_4 D_3 D_5 D_1 D_6 D_9 D_0 D_16 D_20
theorem walk{l:FM}{q:Ac}{loose:List Str}{XP:(Str->Option AB)->Heap->Prop}{YP:Al->Heap->Prop}{d:DefRec}{K:J1->AJ}(pure:∀ ns:List Int,ns.length<=63->F_law [.k (intsT ns)]=some (.v (.a (.bl true)),[]))(hn:l.most=some 63)(hdf:d.params.defaults=[])
  (hY:∀ (w:Al) (h:Heap),YP w h->(K w.params).In h)
  (F:∀ (w:Al) (mg:Str->Option AB) (fa:Addr) (h:Heap),(K w.params).In h->h.Ns AU mg->mg d.name=some (.ref fa) ->
   ∃ fd:An,(∀ (s:AH) (u:AB),Fq s fd ⟨[u],[]⟩ [("_law_script",u)])/\∀ base:Heap,(K w.params).In base->base.Ns AU mg->FnOk l.prog w (K w.params) mg base CX0 113 fa fd ["_law_script"] (spD (K w.params) none 1 F_law)) :
  Ha q loose XP YP l.row.toRowW d [] (fun f vs=>G7 f vs) :=
 L2.walk_of (n:=63) (k:=113) (x:="_law_script") (CX:=fun _=>CX0) (sp:=fun w=>spD (K w.params) none 1 F_law) hn (by decide) hdf ⟨rfl,by decide,by decide,rfl⟩ hY F (fun w H a ns hl hO hS=>zJ2 hO hS (pure ns hl)) fun _ _ _ _ _ z=>z
end Lw
local macro_rules | `(tactic| walk_at "w") => `(tactic| (refine' Lw.wr_mk ?a ?l ?c ?k; (case a=>k_is); (case l=>k_is); (case c=>k_is); (case k=>k_is)))
open PySem PySem.W PyProof.Rows
theorem PySem.W.Fast.tw1224264735701562727:True:=trivial
theorem PySem.W.Fast.tw9208400872579596917:True:=trivial
theorem PySem.W.Fast.tw15773627682305264468:True:=trivial
theorem PySem.W.Fast.tw6783029710003767647:True:=trivial
theorem PySem.W.Fast.tw876181625563378072:True:=trivial
theorem PySem.W.Fast.tw6294693852213372547:True:=trivial
theorem PySem.W.Fast.tw18161592892317479197:True:=trivial
theorem PySem.W.Fast.tw6781491083320063138:True:=trivial
theorem PySem.W.Fast.tw8916363330997496897:True:=trivial
theorem PySem.W.Fast.tw12602706152124185643:True:=trivial
theorem PySem.W.Fast.tw451887764142675191:True:=trivial
theorem PySem.W.Fast.tw5238098096002081928:True:=trivial
theorem PySem.W.Fast.tw13340796388085373629:True:=trivial
theorem PySem.W.Fast.tw11671704183611808932:True:=trivial
theorem PySem.W.Fast.tw18181725326777561218:True:=trivial
theorem PySem.W.Fast.tw11592155471378258050:True:=trivial
theorem PySem.W.Fast.tw660122088334207936:True:=trivial
theorem PySem.W.Fast.tw4184418347392925094:True:=trivial
theorem PySem.W.Fast.tw3498074110073474689:True:=trivial
theorem PySem.W.Fast.tw14276788308008127251:True:=trivial
theorem PySem.W.Fast.tw6010495524831277326:True:=trivial
set_option maxRecDepth 100000 in
set_option maxHeartbeats 0 in
theorem PySem.Challenge.cw_fivecups_k13_texts_of_no_saying_holds : PySem.Challenge.rw_fivecups_k13_texts_of_no_saying.Holds := by
 w_on; o_law; k_head; (case hw=>w_witness2)
 k_fill
 refine Lw.walk (l:=PySem.Challenge.rw_fivecups_k13_texts_of_no_saying) Lw.law_true rfl rfl (fun w h Y=>PySem.W.kIn_of Y) ?F
 case F =>
  intro w mg fa h KX G hmg
  refine' Lw.all_mk KX G hmg ?w1 ?w2 ?w3 ?w4 ?w5 ?w6 ?w7 ?w8 ?w9 ?w10 ?w11 ?w12 ?w13 ?w14 ?w15 ?w16 ?w17 ?w18 ?w19 ?w20 ?w21 ?a22 ?l22 ?c22 ?k22 ?z1 ?z2 ?z3 ?z4 ?z5 ?z6 ?z7 ?z8 ?z9 ?z10 ?z11 ?z12 ?xa1 ?xa2 ?xa3 ?xa4 ?xa5 ?xa6 ?xa7 ?xa8 ?cq1 ?xk ?xg ?xi1 ?xl1 ?xw1 ?xk1 ?xe1 ?xs1 ?xp1 ?kc ?ta1 ?tl1 ?tn1
  all_goals try walk_at "w"
  (case a22=>k_is); (case l22=>k_is); (case c22=>k_is); (case k22=>k_is)
  (case z1=>k_is); (case z2=>k_is); (case z3=>k_is); (case z4=>k_is); (case z5=>k_is); (case z6=>k_is); (case z7=>k_is); (case z8=>k_is); (case z9=>k_is); (case z10=>k_is); (case z11=>k_is); (case z12=>k_is)
  (case ta1=>k_is); (case tl1=>k_is); (case tn1=>rfl)
  (case kc=>kernel_rfl)
  (case xa1=>k_is)
  (case xa2=>k_is)
  (case xa3=>k_is)
  (case xa4=>k_is)
  (case xa5=>k_is)
  (case xa6=>k_is)
  (case xa7=>k_is)
  (case xa8=>k_is)
  (case cq1=>first | k_is | kernel_rfl)
  (case xk=>kernel_rfl)
  (case xg=>kernel_rfl)
  (case xi1=>k_is); (case xl1=>k_is); (case xw1=>k_is); (case xk1=>k_is); (case xe1=>kernel_rfl); (case xs1=>kernel_rfl); (case xp1=>k_is)
