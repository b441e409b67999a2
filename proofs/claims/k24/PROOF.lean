import PyProof.Rows.All
import Wide.All
import OpenK.AllK
import Wide.FinOn
import Lean
import PyProof.EqAt
import PyProof.EqKinds
import PyProof.TupleCall
import PyProof.ZipIter
import PyProof.DictItems
import PyProof.DictWalks
import KE.KSortTup
import KE.KDictSum
import PyProof.WalksMore
import PyProof.StationsW
import OpenK.KOwn
import KE.KTryMore
import PyProof.NsDelKeeps
import PyProof.RulesAs
import KE.KItemsList
import KE.KLam
import KE.KNest
import KE.KIsNot
import PyProof.ExcAttrAll.ValueError
import PyProof.DictUpdate
import PyProof.Rows.Range3
import PyProof.Rows.MinMaxN
import PySem.Challenge.RW_lockstretch_k24_stuck_by_hand
open PySem renaming wpAny_bind->PZ,Value->P0,wpAny_pure->P2,Addr->P3,Shared->P5,wpAny->Qa,model->Qd,sizeLine->Qf,Expr->Qv,starEach->Qy,mainGlobals->QF,wpAny_holding->QG,Program->QK,Heap->QO,attributeBase->QR,wpAny_mono->QS,wpAny_newObj_type->QT,eval->Q0,World->Q4,sizeLine_eq->Q6,Scope->Q8,bootBuiltins->Q9,wpAny_Call_Name_kw->Re,keywordEach->Rh,wpAny_call_entry->Ro,behindInMarks->Rt,wpAny_field->Ru,codeAny_mono->Rx,foldedSetIterable->RH,Around->RN,assignEach->RT,wpAny_setField_rec->RV,compareOp->RW,swapsWith->RX,wpAny_callSpecial?_slot->RY,cLine->R0,wpAny_standAt->R1,sysModules->R6,wpAny_truthy_bool->Sa,backToKw->Sb,Builtin->Sd,boot_len->Se,mem_of_lookup->Sg,tupleKind_room_in1->Sl,wpAny_typeNameOfWhole_itemiter->Sn,backTo->Sr,wpAny_call->SA,wpAny_execs_cons->SD,rawInt->SF,NameKind->SG,standAt->SI,holding->SJ,Stmt->SK,wpAny_typeNameOf_itemiter->SO,wpAny_execs_nil->SQ,wpAny_passesOwn->SR,DictEntry->SS,wpAny_attempt->S8,binaryOp->Td,recursionLimit->Te,codeAny->Tk,wpAny_isOneOf_itemiter->To,bindArgs->Tu,importedModules->Tv,codeAny_builtin->Tz,getMethod->TC,Arguments->TD,noteFrame->TF,wpAny_setState_of->TN,wpAny_setField->TV,firstArgMember->TW,call_meetsIn->TX,wpAny_askSetting->T3,wpAny_newList->Ud,wpAny_ite_split->Uh,wpAny_rule->Uj,IsItemIter->Um,codeAmong->Ut,hashInt->Uw,Keyword->Uy,wpAny_evalAll_nil->Uz,wpAny_pyIter_slot->UI,wpAny_dictEntries->UJ,wpAny_fieldsOf->UK,tupleKind->UQ,treeTable->UV,wpAny_isInstance->UZ,pickOrder->U0,valueAt->U2,FuncData->U6,wpAny_loadName_local->U7,callWith->U8,wpAny_newFunctionEnv->Va,wpAny_of_eq->Vd,codeAny_call_builtin->Vg,pyNext->Vj,letOwnedTupleGo->Vk,getItem->Vt,setFlight->Vz,wpAny_evalAll_cons->VF,wpAny_newFunctionEnv_cells->VH,wpAny_newTuple->VN,intKind->VT,wpAny_Assign_Name->VW,wpAny_pyIter_list->VX,wpAny_Call_method->VZ,wpAny_collect_seq->V0,assignInOrder->V3,wpAny_comprehension_free->V5,wpAny_handled->V7,noFill_tuple_add->V9,wpAny_Call_method0_late->Wb,assign->Wo,wpAny_pyNext_range_end->Wp,wpAny_pyIter_rangeiter->Wq,leaving->Wu,IsPart->Wv,wpAny_typeOf->Ww,typeOf->Wx,wpAny_Assign_Subscript->Wy,closureFor->WA,relabel->WB,wpAny_specialOf->WJ,wpAny_dictEpoch->WM,wpAny_isTrue_Compare1->WO,codeAny_call_function->WP,wpAny_notOrdered_dict->WT,builtinLookup_eq_fast->WV,codeAny_handlers_test->WW,bindName->WZ,pyIter->W0,IsRangeIter->W1,subscripted->W2,Params->W3,wpAny_letGo->W5,wpAny_throw->Xb,isSubtype_stop->Xd,entryFor_alias->Xe,isSubtype_type->Xg,wpAny_deleteEach_nil->Xi,unbindBehindTheSuite->Xk,PassesOwn->Xm,BindsTo->Xn,cellsFrom->Xo,callerA->Xp,wpAny_loadName_cell->Xr,evalArgs_none->Xv,wpAny_setEntries_of->XD,wpAny_handleBy_cons->XF,seq_tuple_add->XN,atKey->XQ,IsItemIterOut->XR,isTrue->X0,wpAny_Name->X1,wpAny_Constant_int->X2,wpAny_pyIter_tuple->X3,wpAny_pyIter_range->X4,wpAny_delItem_slot->Yb,isInstance->Yh,Within->Yk,Model->Yl,wpAny_assign_Name->Yn,wpAny_truthy_list->Yp,concat_meets->Yw,wpAny_sequenceKey->Yx,entryFor->YE,wpAny_eqBool_int->YM,storeName->YN,wpAny_getItem_of->YS,wpAny_Dict_empty->YT,Fin->YU,checkBuiltinCall->YZ,entryFor_of_tree->Y0,wpAny_Try_except->Y2,isinstance_outer->Y5,CmpOp->Y7,bindL->Y8,bindC->Y9,seqIndex_of->Zb,codeAny_of_tree->Zm,typeLookup_type->Zo,size_of_entries->Zs,call_isinstance->Zv,entryOfKey->Zx,builtinsNs->Zy,wpAny_Compare1->Zz,Operator->ZA,wpAny_bindName->ZB,wpAny_loadPart->ZC,typeLookup->ZF,call_meets->ZG,checkCount->ZP,defaultsOf->ZQ,newExc->ZR,raiseNew->ZS,setsByText->ZY,wpAny_runValue->ZZ,boundAndCalled->Z2,table->ac2,seqIndex?->ac3,truthy->ac7,evalAll->ac9
open PySem.Heap renaming get?_push_of_some->P1,get?_push_size->P8,lt_size->Qc,get?_update_other->QC,get?_update_ne->Rv,get?_update_self->RJ,SameBut->RP,get?_none_of_le->Sq,size_push->Ss,size_update->Wg,ExtBut->Xa,MadeExcOf->Xj
open PySem.Str renaming ofString->P4
open List renaming size_toArray->P6,getElem?_eq_some_iff->P9,mem_cons_self->Qj,mem_append_right->Qk,mem_cons_of_mem->Ql,mem_cons->Qm,map_cons->Qx,getElem?_eq_getElem->QA,mem_of_getElem?->QB,length_map->QI,getElem?_eq_none_iff->QM,getElem?_map->QZ,lookup_cons->Rb,mem_append->Rc,length_append->Ri,mem_singleton->Rj,length_cons->Rm,mem_append_left->Rq,getD_eq_getElem?_getD->RC,getElem?_append_left->RG,nodup_cons->RQ,mem_map->RS,all_cons->So,getElem?_cons_succ->Sx,append_nil->Sz,find?_cons->SC,filter_cons->SE,lookup->SV,nodup_nil->Tf,getElem?_set_self->Ti,pairwise_cons->Tp,map->TB,getElem?_set_ne->TQ,all_eq_true->TY,map_map->TZ,any_cons->T9,range->Ui,eraseIdx_cons_succ->Ur,getElem?_cons_zero->Uv,map_nil->UD,take_of_length_le->UH,length_take->US,getD->UW,getElem?_of_mem->Vc,mem_filter->Vi,of_mem_zip->Vm,map_append->Vo,filterMap_cons->Vq,map_congr_left->Vs,mem_filterMap->VD,replicate->VG,getElem?_zip_eq_some->VS,pairwise_map->V1,length_drop->Wa,all_map->Wz,length_nil->WI,length_singleton->WQ,getElem?_eq_none->WR,getElem?_toArray->WS,mem_range->WY,toList_toArray->Xx,forIn_toArray->Yc,nodup_append->YC,isEmpty_cons->YK,cons_append->YW,map_snd_zip->YY,mem_flatMap->Y1,isEmpty_nil->Y3,length->Za,length_set->Zh,forIn_cons->Zj,nil_append->Zu,set_comm->aa6
open PySem.W renaming Frag->P7,mg_of->QH,keepIn->QX,fnOf->Q1,hideAll->Q2,findIn->Q3,kin_not->Rl,of_hideAll->Rz,hideAll_none->RA,kia_one->RD,Looks->RF,emptyDict->RI,codeIn->RM,hideAll_get->Sf,callWith_K->Sk,codeHdIn->Sm,exmOne->Sv,instObj->Sy,envX->SX,tabObj->SZ,boot_heap->Tg,kla_obj->Tw,methodCall_KW->TH,looks_findIn->TR,kla_fn->TU,kp_binds->T5,isFn->Ux,cellsFrom_some->UA,plainGet->UR,behindTheImports->UU,excIn->U4,plainGet_of->Vr,kla_makeFunctionHit->Vw,nsIn->Vy,lookIn->VE,OpenLaw->VR,methodObj->VU,hasDictIn->VY,kla_makeFunction->V6,takerIn->WG,makesIn->WH,hideAll_size->WX,kla_callFunE->W7,kla_codeExpr->W8,callWith_K0->Xs,codeHd_of_K->Xz,callWith_KW->XB,looks_mroIn->XH,looks_subIn->XI,mroIn->XM,clsIn->XU,subIn->XV,codeRec_of->X5,mg_none_of->Yj,plainOver->Yq,specialIn->Ys,kitx_list->Yt,kitx_dict->Yu,peek->YI,isIn->YL,handedIn->YQ,kla_eval->YV,takesIn->Zf,exm_one->Zt,kitOne->ZD,boot_drawn->ZI,namesBound->ZJ,kas_sort->ZT,nsOkIn->Z0,staticsOk->ac4
open Nat renaming eq_of_beq_eq_true->Qh,le_refl->Qi,beq->Qn,ne_of_lt->Qp,lt_of_lt_of_le->Qw,ble->QV,zero_le->Ra,le_trans->Rg,lt_succ_self->Rn,le_of_ble_eq_true->Rw,lt_irrefl->RL,blt->RZ,le_of_lt->R9,lt_succ_of_lt->Sw,ne_of_gt->Tj,lt_of_le_of_lt->VM,not_lt_zero->WN,rec->Xq,add_le_add_left->Xw,le_of_eq->Yr,zero_add->Yy,succ_pos->YB,min_self->ad1,div->ad2,lt_or_ge->ad3,beq_refl->ad4,le_succ->ae3
open PySem.Value renaming ref->Qo,none->QN,bool->Si,int->Tc,isInt->Uo,isStrOf->V2,str->Xl,type->XZ,float->Y6,builtin->ac1,bytes->ad6
open Bool renaming and_eq_true->Qq,false_ne_true->Qr,false_eq_true->Qt,not_true->U5,and_eq_true_iff->Vb,eq_iff_iff->Vl,rec->VO,not_not->YD,and_false->ZH,not_false->Z1
open Option.some renaming inj->Qu
open PyProof.Rows renaming seqObj->Qz,slot_tuple_getitem->Q7,listUpdate_at->R5,envOfC->Su,get?_update_seq->SU,callWith_type1->TK,seqEpoch_at->Us,IntsAre->UC,subscriptTail_builtinR->UE,AllBare->U1,listItems_at->Vv,assignInOrder_cons->VC,arrOf->We,failedOf->Wf,call_function_entry_kw->WC,IsTup->WF,entry_list_sort->WL,slot_list_sort->W6,callWith_builtin_kwB->W9,entry_tuple_getitem->Xu,wpAny_call_entry_kw->Xy,slot_tupleiter_next->XG,Constant_none->XJ,subscriptTail->XO,args_tuple_getitem->X6,Subscript_->X7,isTrue_plain->Ym,assignInOrder_nil->Yo,plain_sorted->Yz,entry_sorted->YA,callWith_builtin1->YR,kind_sorted->Zd,ksk_end->Zw,slicePart_none->ZE,ksk_tail->ZL,general'->ZN,ksk_rest->ZO,KskOut->ad0
open PySem.PassesOwn renaming never->QD
open False renaming elim->QE
open PySem.F renaming plainAttrs_list->QJ,slot_list_append->Rf,type_list_append->Rk,slot_dict_itemiterator_next->Rs,plainAttrs_dict->Ry,slot_dict_get->RK,slot_list_extend->SB,slot_dict_delitem->SM,slot_dict_update->S9,type_list_extend->Ta,entry_dict_get->Tn,called_set->Ts,slot_dict_getitem->T7,args_tuple_add_2->T8,type_dict_update->Uf,entry_tuple_add->Uq,slot_tuple_add->UB,args_dict_itemiterator_next_1->UM,type_dict_get->UO,entry_dict_itemiterator_next->UY,slot_dict_itemiterator_iter->Ve,args_dict_delitem_2->Vu,entry_dict_delitem->VL,excBase_ValueError->VQ,args_dict_get_2->Wc,args_dict_get_3->Wd,slot_dict_items->Wh,slot_dict_items_iter->WE,slot_list_pop->X8,plain_set_new->Zn,slot_set_iter->Zq
open Array renaming length_toList->QL,getElem?_eq_some_iff->Rp,getElem?_toList->Sh,getElem?_setIfInBounds_ne->UN,toList_inj->Wi,toList_map->Wj,getElem?_eq_none->WD,forIn_toList->Yd,size_push->Zl,size_zip->ZM,toList->ac8,mk->ae4
open PySem.Paired renaming length->QP,snoc->Zc
open PySem.Obj renaming mapSeq->QU,isFreed_of_fields->UP,data_mapFields->VP,data_mapDictKeys->Xh,cls_mapFields->YJ,putSet->ZV,mapFields->ac0
open PySem.Challenge renaming rw_lockstretch_k24_stuck_by_hand->QW,pw_lockstretch_k24_stuck_by_hand->SN
open PySem.SetTable renaming below->QY,fresh->Xf,insertAt->YF,fill->ab9
open Int renaming le_refl->Rr,toNat_natCast->TM,le_antisymm->Vp,ofNat->VA,eq_ofNat_of_zero_le->Wn,toNat->Y4,negSucc->Ze,mul_one->ae0
open PySem.NameKind renaming free->RE,cell->U3
open Ne renaming symm->RO
open True renaming intro->RU
open PySem.Calls renaming callWith_builtin->Sc,spliced_cons->Sj,evalArgs_plain->SW,spliced_nil->TL,Name_function_global->VB
open Prod renaming fst->SH
open PySem.Builtin.Slice renaming slicePlaces->SL,sliceAdjust->T6,sliceApplied->VI,slicePartIndex->Zg,sliceFields->aa3
open PySem.Builtin.Tuple renaming tupleExact->SY,tupleItemsOf->VJ
open Prod.mk renaming inj->Th
open Option renaming map_eq_some_iff->Tl,isSome_map->UF,isSome_iff_exists->V4,join_some->Wm,isSome_some->X9,isSome_none->Ye,map->af4
open PySem.pickOrder renaming go->Tq
open Exists renaming intro->Tt
open PySem.Builtin.Dict_items renaming ownsTuple->Tx,ownedTupleFields->Ue,pairFromOwner->UL,ownedTupleIsFree->XT,newIterator->YX,dictOf->aa4
open Sum renaming inr->TJ,inl->Ug
open And renaming intro->T4
open PySem.Builtin.List renaming listTooLong->Ua,listLengthHint->Vx
open PySem.W.Fast renaming te14364793385576792824->Ub,te10110043849684766642->Uc,te5923862056798008813->Uk,te4187177175401517315->Ul
open PySem.Builtin.Range renaming rangeSize->Up,small->ae8
open PyProof.Rows.F renaming plain_set_update_loop->Uu,entry_set_update_loop->Wk
open Or renaming inl->UG,inr->W4
open PySem.SeqAt renaming EqAt->UT
open PyProof.Rows.SortSt renaming mk'->UX
open PySem.Around renaming frames_deeper->U9,under_plainId->Vf,under->Wt
open PySem.Builtin.Dict renaming takeOut->Vh,showsAll->WU,dictSlotArgs->aa5,noArgs->ae7
open ForInStep renaming yield->Vn
open PySem.Builtin.Frozenset renaming sizeOf->V8,updateFrom->Zr,newClass->ZW
open PySem.W.Looks renaming ld->Wl,here->ae9,tag->af9
open PyProof renaming noPylong_small->Ws
open StateT renaming run_pure->WK
open PySem.Heap.SameBut renaming update->XC
open PySem.EntryCells renaming newEntry->XE
open PySem.Shared renaming TypeIs->XS
open PySem.SeqAt.EqAt renaming int_str->XW,str_int->XY,same->Zi
open PySem.Code renaming quiet_builtin->Yg,isFrame->Yv,frames->ae2
open PySem.W.KF renaming slot_gs->Yi
open String renaming splitOnAux->YG,splitOn->ZX
open PySem.SetTable.below renaming go->YH
open PyProof.Rows.IsTup renaming new->YO
open Array.Perm renaming refl->Zk
open PySem.SeqAt.RcNeAt renaming lists_lengths->ZK,tuple_list->ac5,list_tuple->ac6,tuples->ae6,lists->af2
open List.Perm renaming cons->ZU
open PySem.EqNone renaming eq_none_none->Z3,eq_none_bool->Z4,eq_bool_none->Z5,ne_none_none->Z8,ne_none_bool->Z9,ne_bool_none->aa0,eq_none_int->aa7,eq_none_str->aa8,eq_int_none->aa9,eq_str_none->ab1,ne_none_int->ab3,ne_none_str->ab4,ne_int_none->ab5,ne_str_none->ab7
open PySem.EqMixed renaming eq_bool_str->Z6,eq_str_bool->Z7,ne_bool_str->aa1,ne_str_bool->aa2,eq_int_str->ab0,eq_str_int->ab2,ne_int_str->ab6,ne_str_int->ab8
open Sum.inr renaming inj->ad5
open PySem.CmpOp renaming NotIn->ad7
open PySem.Data renaming fields->ad8
open PySem.Walks renaming range->ad9,tuple->ae5,list->af3
open PySem.IsRange renaming new->ae1
open PySem.Heap.IsSliceOf renaming new->af0
open PySem.W.WShape renaming has->af1
open List.Sublist renaming nodup->af5,map->ag1
open PySem.Within renaming cons->af6
open List.Pairwise renaming nil->af7,imp->af8
open PySem.W.WData renaming int->ag0
open PySem.Heap.DictOf renaming new->ag2
set_option Elab.async false
set_option linter.all false
set_option maxRecDepth 100000
variable{pins:List (P3×PySem.Obj)}{E:P0->P5->Prop}{K:P7}{s:P5}{w:Q4}{A:RN}{mg:PySem.Str->Option P0}{P:QK}{us:List P0}{ix:List (Option Nat)}{pos:PySem.Pos}{prog:QK}{st:SK}{es:List Qv}{sl:List Nat}{base:QO}{fd:U6}{ρ:List P3}{y:Option Int}{osl:Array (Option P0)}
local macro_rules | `(tactic| nofun) => `(tactic| with_unfolding_all rfl)
noncomputable section
namespace L2
open PySem PySem.Spec PyProof.Rows
theorem de{d c:Type}{P:Prop}{A B C:d->c->Prop}(h:∃a b,A a b/\B a b/\C a b)(k:∀a b,A a b->B a b->C a b->P):P:=by
 obtain⟨a,b,p,q,r⟩:=h;exact k a b p q r

abbrev bj:=Sum Int Str
def sH:bj->P0->Bool
 | .inl k,v=>Uo k v
 | .inr x,v=>V2 x v
def L6(w:Q4):bj->Int
 | .inl k=>Uw k
 | .inr x=>hashStr w x
theorem cx:∀{k:bj} {v:P0},sH k v=true->(∃i t,k=Ug i/\v=Tc i t)∨(∃x t,k=TJ x/\v=Xl x t)
 | .inl i,v,h=>by
  obtain⟨t,e⟩:=Value.isInt_shape (k:=i) (v:=v) h;exact .inl ⟨i,t,rfl,e⟩
 | .inr x,v,h=>by
  obtain⟨t,e⟩:=Value.isStrOf_shape (x:=x) (v:=v) h;exact .inr ⟨x,t,rfl,e⟩
theorem A9(i:Int)(t:Tok):sH (.inl i) (.int i t)=true:=by simp[sH,Uo]
theorem Ba(x:Str)(t:Tok):sH (.inr x) (.str x t)=true:=by simp[sH,V2]
theorem JK(a b:Int):decide ((Ug a:bj)=Ug b)=(a==b):=by
 by_cases e:a=b
 ·subst e;simp
 ·have h:¬(Ug a:bj)=Ug b:=λq=>e (Sum.inl.inj q);rw[decide_eq_false h];exact(beq_eq_false_iff_ne.mpr e).symm
theorem JL(a b:Str):decide ((TJ a:bj)=TJ b)=decide (a=b):=by
 by_cases e:a=b
 ·subst e;simp
 ·have h:¬(TJ a:bj)=TJ b:=λq=>e (ad5 q);rw[decide_eq_false h,decide_eq_false e]
theorem JM(a:Int)(b:Str):decide ((Ug a:bj)=TJ b)=false:=decide_eq_false (λq=>nomatch q)
theorem JN(a:Str)(b:Int):decide ((TJ a:bj)=Ug b)=false:=decide_eq_false (λq=>nomatch q)

def aY(prog:QK)(w:Q4):PySem.KeyKind prog w bj where
 is:=sH
 hash:=L6 w
 inj:=λv a b g hb=>by
  rcases cx g with ⟨i,t,rfl,rfl⟩ | ⟨x,t,rfl,rfl⟩
  ·rcases cx hb with ⟨j,u,rfl,e⟩ | ⟨y,u,rfl,e⟩
   ·injection e with c _;rw[c]
   ·exact nomatch e
  ·rcases cx hb with ⟨j,u,rfl,e⟩ | ⟨y,u,rfl,e⟩
   ·exact nomatch e
   ·injection e with c _;rw[c]
 byValue:=λk v h=>by
  rcases cx h with ⟨i,t,rfl,rfl⟩ | ⟨x,t,rfl,rfl⟩<;>rfl
 pyHash:=λd h=>by
  rcases cx d with ⟨i,t,rfl,rfl⟩ | ⟨x,t,rfl,rfl⟩
  ·exact wpAny_pyHash_int h
  ·exact wpAny_pyHash_str h
 eqBool:=λf d h=>by
  rcases cx f with ⟨i,t,rfl,rfl⟩ | ⟨x,t,rfl,rfl⟩
  ·rcases cx d with ⟨j,u,rfl,rfl⟩ | ⟨y,u,rfl,rfl⟩
   ·rw[JK] at h;exact YM h
   ·rw[JM] at h;exact XW i t y u _ _ _ _ h
  ·rcases cx d with ⟨j,u,rfl,rfl⟩ | ⟨y,u,rfl,rfl⟩
   ·rw[JN] at h;exact XY x t j u _ _ _ _ h
   ·rw[JL] at h;exact wpAny_eqBool_str h
 «strs»:=λk x t v h=>by
  rcases cx h with ⟨i,u,rfl,e⟩ | ⟨y,u,rfl,e⟩
  ·exact nomatch e
  ·injection e with c _;subst c;cases v<;>rfl

theorem vV(prog:QK)(w:Q4)(i:Int)(t:Tok):(aY prog w).is (.inl i) (.int i t)=true:=A9 i t
theorem ji(prog:QK)(w:Q4)(x:Str)(t:Tok):(aY prog w).is (.inr x) (.str x t)=true:=Ba x t

inductive V where
 | non | bl (b:Bool) | int (i:Int) | str (x:Str) | byt (b:Array UInt8) | flt (b:UInt64) | ref (a:P3) | ty (n:String)
 deriving DecidableEq

def aN:V->P0->Prop
 | .non,u=>u=QN
 | .bl b,u=>u=Si b
 | .int i,u=>∃t,u=Tc i t
 | .str x,u=>∃t,u=Xl x t
 | .byt b,u=>∃t,u=ad6 b t
 | .flt b,u=>∃t,u=Y6 b t
 | .ref a,u=>u=Qo a
 | .ty n,u=>u=XZ n

abbrev aJ:List V->List P0->Prop:=Paired aN
theorem aJ.length{xs:List V}(r:aJ xs us):xs.length=us.length:=QP r
theorem aJ.get:∀{xs:List V} {us:List P0} {i:Nat} {x:V},aJ xs us->xs[i]?=some x->∃u,us[i]?=some u/\aN x u
 | _,_,_,_,.nil,e=>by simp at e
 | _,_,0,_,.cons r _,e=>by simp at e;subst e;exact⟨_,rfl,r⟩
 | _,_,i+1,x,.cons _ t,e=>by
  obtain⟨u,h1,c⟩:=aJ.get (i:=i) (x:=x) t (by simpa using e);exact⟨u,by simpa using h1,c⟩
theorem aJ.set{x:V}{u:P0}(r:aN x u):∀{xs:List V} {us:List P0} (i:Nat),aJ xs us->aJ (xs.set i x) (us.set i u)
 | _,_,_,.nil=>.nil
 | _,_,0,.cons _ t=>.cons r t
 | _,_,i+1,.cons q t=>.cons q (aJ.set r i t)
theorem aJ.append:∀{xs ys:List V} {us ws:List P0},aJ xs us->aJ ys ws->aJ (xs++ys) (us++ws)
 | _,_,_,_,.nil,s=>s
 | _,_,_,_,.cons r t,s=>.cons r (aJ.append t s)
theorem aJ.take:∀{xs:List V} {us:List P0} (n:Nat),aJ xs us->aJ (xs.take n) (us.take n)
 | _,_,0,_=>.nil
 | _,_,_+1,.nil=>.nil
 | _,_,n+1,.cons r t=>.cons r (aJ.take n t)
theorem aJ.drop:∀{xs:List V} {us:List P0} (n:Nat),aJ xs us->aJ (xs.drop n) (us.drop n)
 | _,_,0,r=>r
 | _,_,_+1,.nil=>.nil
 | _,_,n+1,.cons _ t=>aJ.drop n t
theorem aJ.none_of:∀{xs:List V} {us:List P0} {i:Nat},aJ xs us->xs[i]?=none->us[i]?=none:=λ{xs us i} r e=>by
 have h1:=r.length;have c:xs.length≤i:=QM.mp e;exact QM.mpr (by omega)

def fQ:Option V->Option P0->Prop
 | some v,some u=>aN v u
 | none,none=>True
 | _,_=>False
def KV{c:Type}:List (c×V)->List (c×P0)->Prop:=Paired λ(p:c×V) (q:c×P0)=>p.1=q.1/\aN p.2 q.2

def kV:bj->V
 | .inl i=>.int i
 | .inr x=>.str x

inductive HO where
 /-- a list -/
 | lst (xs:List V)
 /-- a tuple (never changes) -/
 | tup (xs:List V)
 /-- a dict whose keys are ints and texts;one whose keys are tuples of ints and texts (the empty one is both) -/
 | dK (kvs:List (bj×V)) | dT (kvs:List (List bj×V))
 /-- a set of ints: its members,its size -/
 | set (S:Int->Bool) (n:Nat)
 /-- an instance of the class at C,its dict at dx,its attributes -/
 | ins (C dx:P3) (fs:List (Str×V))
 /-- the dict of the instance at x -/
 | own (x:P3)
 /-- the dict of an exception -/
 | xd (fs:List (Str×V))
 /-- a bound method,f of x -/
 | met (f x:P3)
 /-- a range object lo,lo+1,.. below hi -/
 | rng (lo hi:Int)
 /-- a thing that is known to the object (the script;a dict while a loop walks it): read,never written while it is so -/
 | frz (o:Obj) (u:HO)
 /-- a code object's ac2 -/
 | tbl (ps:Array P0)
 /-- any other thing,by what is true of its one object (a def of one's own: SetO a S n:=HO.ext λh=>..) -/
 | ext (φ:QO->Prop)

abbrev Hp:=P3->Option HO
def upd(H:Hp)(a:P3)(o:HO):Hp:=λb=>if b=a then some o else H b
theorem aA{H:Hp}{a:P3}{o:HO}:upd H a o a=some o:=by unfold upd;rw[if_pos rfl]
theorem al{H:Hp}{a b:P3}{o:HO}(h:b≠a):upd H a o b=H b:=by unfold upd;rw[if_neg h]
theorem zq{H:Hp}{a:P3}{o u:HO}:upd (upd H a o) a u=upd H a u:=by
 funext b;unfold upd;split<;>rfl
theorem IQ{H:Hp}{a b:P3}{o u:HO}(h:H a=some o)(h':H b=some u)(d:o≠u):a≠b:=by
 intro e;subst e;rw[h] at h';exact d (Qu h')
theorem cV{H:Hp}{a b:P3}{o:HO}(h:H a=some o)(h':H b=none):a≠b:=by
 intro e;subst e;rw[h] at h';cases h'

section
variable(P:QK)(w:Q4)
def bD(H:Hp)(h:QO)(a:P3):HO->Prop
 | .lst xs=>xs.length≤Qf/\∃(its:List P0) (n:Nat),aJ xs its/\h.get? a=some {cls:=.type "list",data:=.seq its.toArray n}
 | .tup xs=>xs.length≤Qf/\∃its:List P0,aJ xs its/\WF h a its.toArray
 | .dK kvs=>kvs.length≤Qf/\(a==R6)=false/\∃vs,KV kvs vs/\h.DictOf (aY P w) a vs
 | .dT kvs=>kvs.length≤Qf/\(a==R6)=false/\∃xs:List (List bj×P3×P0),
   Paired (λ(p:List bj×V) (q:List bj×P3×P0)=>p.1=q.1/\H q.2.1=some (.tup<|p.1.map kV)/\aN p.2 q.2.2) kvs xs /\
   ∃o es ep,h.get? a=some o/\o.ExactDict/\o.data=.dict es ep/\es.toList=xs.map (Zx<|UQ<|aY P w)/\(xs.map (·.1)).Nodup
 | .set S n=>h.SetOf (VT P w) a S n
 | .ins C d fs=>H d=some (.own a)/\fs.length≤1000/\d≠a/\h.get? a=some (Sy C d) /\
   ∃c,h.Ns1 d c/\(∀f,fQ (fs.lookup f) (c f))/\Yk c (fs.map (·.1))
 | .own _=>∃o,h.get? a=some o
 | .xd fs=>∃c,h.Ns1 a c/\∀f,fQ (fs.lookup f) (c f)
 | .rng lo j=>∃t u v,h.get? a=some {cls:=.type "range",data:=.fields #[.int lo t,.int j u,.int 1 v]}
 | .frz o u=>h.get? a=some o/\bD H h a u
 | .tbl ps=>h.get? a=some {cls:=.none,data:=.fields ps}
 | .met f x=>h.get? a=some (VU (.ref f)<|.ref x)
 | .ext g=>g h/\(∃o,h.get? a=some o)/\∀h1 i:QO,g h1->(∀o,h1.get? a=some o->i.get? a=some o)->g i
def jc(H:Hp)(h:QO):Prop:=∀a o,H a=some o->bD P w H h a o
end
section
variable{H H':Hp}{h h':QO}{a:P3}{o:HO}
theorem bD.lt(x:bD P w H h a o):a<h.objs.size:=by
 cases o with
 | lst xs=>obtain⟨_,_,_,_,e⟩:=x;exact Qc e
 | tup xs=>obtain⟨_,_,_,p⟩:=x;exact p.lt
 | dK kvs=>obtain⟨_,_,_,_,o,_,_,e,_⟩:=x;exact Qc e
 | dT kvs=>obtain⟨_,_,_,_,o,_,_,e,_⟩:=x;exact Qc e
 | set S n=>obtain⟨o,_,_,_,e,_⟩:=x;exact Qc e
 | ins C g fs=>obtain⟨_,_,_,e,_⟩:=x;exact Qc e
 | own y=>obtain⟨_,e⟩:=x;exact Qc e
 | xd fs=>obtain⟨_,⟨_,_,_,e,_⟩,_⟩:=x;exact Qc e
 | rng lo d=>obtain⟨_,_,_,e⟩:=x;exact Qc e
 | frz ob u=>obtain⟨e,_⟩:=x;exact Qc e
 | tbl ps=>exact Qc (show h.get? a=some _ from x)
 | met f y=>exact Qc (show h.get? a=some _ from x)
 | ext c=>obtain⟨_,⟨_,e⟩,_⟩:=x;exact Qc e
theorem Paired.mapP{d c:Type}{F G:d->c->Prop}:∀{l₁:List d} {l₂:List c},Paired F l₁ l₂->(∀a b,F a b->G a b)->Paired G l₁ l₂
 | _,_,.nil,_=>.nil
 | _,_,.cons r t,f=>.cons (f _ _ r) (Paired.mapP t f)
theorem bD.stay(x:bD P w H h a o)(k:∀b u,(b=a∨H b=some (.own a))->h.get? b=some u->h'.get? b=some u)
  (ho:∀b,H b=some (.own a)->H' b=some (.own a)) (ht:∀b xs,H b=some (.tup xs)->H' b=some (.tup xs)):bD P w H' h' a o:=by
 induction o with
 | lst xs=>obtain⟨z,its,n,r,e⟩:=x;exact⟨z,its,n,r,k _ _ (.inl rfl) e⟩
 | tup xs=>obtain⟨z,its,r,ob,e,c⟩:=x;exact⟨z,its,r,ob,k _ _ (.inl rfl) e,c⟩
 | dK kvs=>obtain⟨z,y,vs,r,ob,es,ep,e,c⟩:=x;exact⟨z,y,vs,r,ob,es,ep,k _ _ (.inl rfl) e,c⟩
 | dT kvs=>
  obtain⟨z,y,xs,r,ob,es,ep,e,c⟩:=x;exact⟨z,y,xs,Paired.mapP r λp q z=>⟨z.1,ht _ _ z.2.1,z.2.2⟩,ob,es,ep,k _ _ (.inl rfl) e,c⟩
 | set S n=>obtain⟨ob,es,ep,t,e,c⟩:=x;exact⟨ob,es,ep,t,k _ _ (.inl rfl) e,c⟩
 | ins C L fs=>
  obtain⟨d,z,ne,e,i,⟨g,es,ep,l,c⟩,r⟩:=x;exact⟨ho _ d,z,ne,k _ _ (.inl rfl) e,i,⟨g,es,ep,k _ _ (.inr d) l,c⟩,r⟩
 | own y=>obtain⟨ob,e⟩:=x;exact⟨ob,k _ _ (.inl rfl) e⟩
 | xd fs=>obtain⟨i,⟨g,es,ep,e,c⟩,r⟩:=x;exact⟨i,⟨g,es,ep,k _ _ (.inl rfl) e,c⟩,r⟩
 | rng lo I=>obtain⟨t,u,v,e⟩:=x;exact⟨t,u,v,k _ _ (.inl rfl) e⟩
 | frz ob u j=>obtain⟨e,q⟩:=x;exact⟨k _ _ (.inl rfl) e,j q⟩
 | tbl ps=>
  have e:h.get? a=some {cls:=.none,data:=.fields ps}:=x;show h'.get? a=some {cls:=.none,data:=.fields ps};exact k a _ (.inl rfl) e
 | met f y=>
  have e:h.get? a=some (VU (.ref f)<|.ref y):=x;show h'.get? a=some (VU (.ref f)<|.ref y);exact k a _ (.inl rfl) e
 | ext m=>obtain⟨p,⟨o,e⟩,st⟩:=x;exact⟨st _ _ p λo q=>k _ _ (.inl rfl) q,⟨o,k _ _ (.inl rfl) e⟩,st⟩
theorem jc.lt(x:jc P w H h)(e:H a=some o):a<h.objs.size:=(x a o e).lt
theorem jc.fresh(x:jc P w H h)(e:h.objs.size≤a):H a=none:=by
 cases q:H a with
 | none=>rfl
 | some u=>exact absurd (Qw (x.lt q) e) (RL _)
theorem jc.kept(x:jc P w H h)(k:∀b u,h.get? b=some u->h'.get? b=some u):jc P w H h':=λa o e=>
 (x a o e).stay (λb u _ q=>k b u q) (λ_ q=>q) λ_ _ q=>q
theorem jc.laid(x:jc P w H h)(k:∀b u,h.get? b=some u->h'.get? b=some u)(d:h.objs.size≤a)(new:bD P w (upd H a o) h' a o):jc P w (upd H a o) h':=λb u e=>by
 have hn:=x.fresh d;by_cases hb:b=a
 ·subst hb;rw[aA] at e;cases e;exact new
 ·rw[al hb] at e;exact(x b u e).stay (λc v _ q=>k c v q) (λc q=>by rw[al (cV q hn)];exact q) λc xs q=>by rw[al (cV q hn)];exact q
end
def Rd(H:Hp)(a:P3)(u:HO):Prop:=H a=some u∨∃o,H a=some (.frz o u)
theorem Rd.ok{H:Hp}{h:QO}{a:P3}{u:HO}(r:Rd H a u)(x:jc P w H h):bD P w H h a u:=by
 rcases r with r | ⟨o,r⟩
 ·exact x a u r
 ·obtain⟨_,q⟩:=x a _ r;exact q
def L7:Option HO->Prop
 | some (.lst _)=>True
 | some (.dK _)=>True
 | some (.dT _)=>True
 | some (.set _ _)=>True
 | some (.ins _ _ _)=>True
 | some (.ext _)=>True
 | _=>False
section
variable{H:Hp}{h h':QO}{x e:P3}{o':HO}
theorem jc.write(ok:jc P w H h)(i:L7 (H x))(he:e=x∨H e=some (.own x))(k:∀b u,b≠e->h.get? b=some u->h'.get? b=some u)(j:∃u,h'.get? e=some u)
  (new:bD P w (upd H x o') h' x o'):jc P w (upd H x o') h':=λb u q=>by
 have f:∀c y,H c=some (.own y)->c≠x:=λc y r z=>by subst z;rw[r] at i;exact i
 have g:∀c xs,H c=some (.tup xs)->c≠x:=λc xs r z=>by subst z;rw[r] at i;exact i
 by_cases hb:b=x
 ·subst hb;rw[aA] at q;cases q;exact new
 ·rw[al hb] at q;by_cases d:b=e
  ·have l:H b=some (.own x):=by
    rcases he with z | z
    ·exact absurd (d.trans z) hb
    ·rw[d];exact z
   rw[q] at l;cases l;obtain⟨v,m⟩:=j;exact⟨v,by rw[d];exact m⟩
  ·refine(ok b u q).stay (λc v hc r=>k c v ?_ r) (λc r=>by rw[al (f c b r)];exact r) λc xs r=>by rw[al (g c xs r)];exact r
   rcases hc with rfl | hc
   ·exact d
   ·rintro rfl;rcases he with z | z
    ·exact f c b hc z
    ·rw[hc] at z;cases z;exact hb rfl
end
structure Un(fs ex:List P3)(H H':Hp)(h h':QO):Prop where
 keep:∀b o,h.get? b=some o->H b=none->b∉fs->b∉ex->h'.get? b=some o
 slot:∀b o,h.get? b=some o->H b=none->b∈fs->b∉ex->∃sl,h'.get? b=some {o with slots:=sl}
 free:∀b o,h.get? b=some o->H b=none->b∉ex->H' b=none
 there:∀b o,h.get? b=some o->b∉ex->∃o',h'.get? b=some o'
 tups:∀b xs,H b=some (.tup xs)->H' b=some (.tup xs)
 frzs:∀b o u,H b=some (.frz o u)->H' b=some (.frz o u)
 tbls:∀b ps,H b=some (.tbl ps)->∃more,H' b=some (.tbl<|ps++more)
section
variable{fs fs' ex ex':List P3}{H H1 H2:Hp}{h h1 h2 h':QO}{a x e:P3}{o:HO}
theorem Un.any(u:Un fs ex H H1 h h1){b:P3}{ob:Obj}(q:h.get? b=some ob)(n:H b=none)(c:b∉ex):∃sl,h1.get? b=some {ob with slots:=sl}:=by
 by_cases hb:b∈fs
 ·exact u.slot b ob q n hb c
 ·exact⟨ob.slots,u.keep b ob q n hb c⟩
theorem Un.kept(k:∀b u,h.get? b=some u->h'.get? b=some u):Un fs ex H H h h' :=
 ⟨λb ob q _ _ _=>k b ob q,λb ob q _ _ _=>⟨ob.slots,k b ob q⟩,λ_ _ _ n _=>n,λb ob q _=>⟨ob,k b ob q⟩,λ_ _ q=>q,λ_ _ _ q=>q,λ_ ps q=>⟨#[],by rw[q];simp⟩⟩
theorem Un.refl:Un fs ex H H h h:=Un.kept λ_ _ q=>q
theorem Un.laid(k:∀b u,h.get? b=some u->h'.get? b=some u)(c:h.objs.size≤a)(hn:H a=none):Un fs ex H (upd H a o) h h' where
 keep:=λb u q _ _ _=>k b u q
 slot:=λb u q _ _ _=>⟨u.slots,k b u q⟩
 free:=λb u q n _=>by rw[al (Qp<|Qw (Qc q) c)];exact n
 there:=λb u q _=>⟨u,k b u q⟩
 tups:=λb xs q=>by rw[al (cV q hn)];exact q
 frzs:=λb u xs q=>by rw[al (cV q hn)];exact q
 tbls:=λb ps q=>⟨#[],by rw[al (cV q hn),q];simp⟩
theorem Un.write(d:L7 (H x))(he:e=x∨H e=some (.own x))(k:∀b u,b≠e->h.get? b=some u->h'.get? b=some u)(g:∃u,h'.get? e=some u):Un fs ex H (upd H x o) h h':=by
 have i:∀b,H b=none->b≠x:=λb n z=>by subst z;rw[n] at d;exact d
 have hb:∀b,H b=none->b≠e:=λb n z=>by
  subst z;rcases he with r | r
  ·exact i b n r
  ·rw[n] at r;cases r
 have f:∀b u,H b=some u->¬L7 (some u)->b≠x:=λb u q nm z=>by subst z;rw[q] at d;exact nm d
 refine⟨λb u q n _ _=>k b u (hb b n) q,λb u q n _ _=>⟨u.slots,k b u (hb b n) q⟩,λb u q n _=>by rw[al (i b n)];exact n,λb u q _=>?_,
  λb xs q=>by rw[al (f b _ q λz=>z)];exact q,λb u xs q=>by rw[al (f b _ q λz=>z)];exact q,λb ps q=>⟨#[],by rw[al (f b _ q λz=>z),q];simp⟩⟩
 by_cases c:b=e
 ·subst c;exact g
 ·exact⟨u,k b u c q⟩
end
def LV(h:QO)(H:Hp):List P3:=(Ui h.objs.size).filter λa=>(H a).isSome
def ur(h:QO)(H:Hp):QO:=Q2 h (LV h H)
theorem Bb(h:QO)(H:Hp):(ur h H).objs.size=h.objs.size:=WX _ _
theorem pk{h:QO}{H:Hp}{b:P3}{o:Obj}(e:h.get? b=some o)(n:H b=none):(ur h H).get? b=some o :=
 Sf _ e λc=>by
  have q:(H b).isSome=true:=(Vi.mp c).2;rw[n] at q;simp at q
theorem F8{h:QO}{H:Hp}{b:P3}{o:Obj}(e:(ur h H).get? b=some o):h.get? b=some o/\H b=none:=by
 have c:h.get? b=some o:=Rz (LV h H) e;refine⟨c,?_⟩;cases q:H b with
 | none=>rfl
 | some x=>
  have d:b∈LV h H:=Vi.mpr ⟨WY.mpr<|Qc c,by simp[q]⟩;have z:(ur h H).get? b=none:=RA (LV h H) d;rw[z] at e;cases e

def F9(g h:QO)(L:P3):List (P3×Obj):=(Ui h.objs.size).filterMap λa=>if a=L∨(g.get? a).isSome=true then none else(h.get? a).map λo=>(a,o)
def rest(g h:QO)(L d:P3):List (P3×Obj):=(F9 g h L).filter λp=>decide (p.1≠d)
structure Mod(K:P7)(mg:Str->Option P0)(base:QO):Prop where
 kin:K.In base
 glob:base.Ns QF mg
 blt:∃mb,base.Ns Zy mb/\∀x:Str,x≠"__name__" -> mb x=Q9 x
 nolimit:base.NoLimit

structure Cx where
 prog:QK
 w:Q4
 K:P7
 mg:Str->Option P0
 base:QO
 A:RN
 N:List Str
 s₀:P5
 H₀:Hp
 env:Env
 outer:List Env
 stack:List Env
 ex:List P3
 fn:Str->Bool
 calm:Bool
 pn:List (P3×Obj)
 xe:P0->P5->Prop
def g8(l:List Env):List P3:=l.filterMap (·.frame)
abbrev Cx.fs(X:Cx):List P3:=g8 X.outer

def JO(c:Q8)(x:Str):Prop:=c.names.lookup x=some .local∨c.names.lookup x=some .cell∨c.names.lookup x=some .free
def dJ(c:Q8)(x:Str):Prop:=c.names.lookup x=some .local∨c.names.lookup x=some .cell
def On(env:Env)(h:QO)(m:Str->Option P0)(x:Str)(u:P0):Prop :=
 (env.kindOf x=some .local/\m x=some u)∨((env.kindOf x=some .cell∨env.kindOf x=some .free)/\∃c,env.cells.lookup x=some c/\h.IsCell c (some u))

structure Cx.Ok(X:Cx):Prop where
 mod:Mod X.K X.mg X.base
 kind:X.env.scope.kind=.function
 glob:X.env.globals=QF
 blt:X.env.builtins=Zy
 above:X.s₀.heap.objs.size≤X.env.locals
 inj:∀x y c,X.env.cells.lookup x=some c->X.env.cells.lookup y=some c->x=y
 has:∀x,(X.env.kindOf x=some .cell∨X.env.kindOf x=some .free)->∃c,X.env.cells.lookup x=some c
 cab:∀x c,X.fn x=true->X.env.cells.lookup x=some c->X.s₀.heap.objs.size≤c
 hd:X.calm=true->X.A.handled=none
 frames:X.A.frames=some X.stack
 stk:X.stack=X.outer∨(X.stack=X.env::X.outer/\X.env.frame=some X.env.locals)
 exf:∀b∈X.ex,b≠X.env.locals/\∀x c,X.env.cells.lookup x=some c->c≠b
 bs:∀b o,X.base.get? b=some o->X.s₀.heap.get? b=some o/\X.H₀ b=none
 bsz:X.base.objs.size≤X.s₀.heap.objs.size
 noex:∀b o,X.base.get? b=some o->b∉X.ex
 exfs:∀b∈X.ex,b∉X.fs
 funs:X.s₀.heap.FunFrames X.base X.outer
 frf:∀b∈X.fs,X.H₀ b=none

structure ay(X:Cx)(pins:List (P3×Obj))(σ:List (Option V))(H:Hp)(s:P5):Prop where
 ok:X.Ok
 os:s.os=X.s₀.os
 bare:U1 s.gens
 base:Un X.fs X.ex X.H₀ H X.s₀.heap s.heap
 loc:∃m,s.heap.Ns X.env.locals m/\∀(i:Nat) (x:Str) (v:V),X.N[i]?=some x->σ[i]?=some (some v)->JO X.env.scope x->∃u,aN v u/\On X.env s.heap m x u
 cell:∀x c,X.env.cells.lookup x=some c->∃v,s.heap.IsCell c v
 free:H X.env.locals=none
 freeC:∀x c,X.env.cells.lookup x=some c->H c=none
 pin:∀p∈X.pn++pins,s.heap.get? p.1=some p.2/\H p.1=none/\p.1≠X.env.locals/\p.1∉X.fs/\∀v,p.2.data≠.cell v
 hok:jc X.prog X.w H s.heap
 len:σ.length=X.N.length

section
variable{X:Cx}{σ:List (Option V)}{H H':Hp}{h':QO}
theorem Cx.Ok.nofr(ok:X.Ok){b:P3}{o:Obj}(e:X.base.get? b=some o):b∉X.fs:=λhb=>by
 have:=(ok.funs.mem hb).1;rw[e] at this;cases this
theorem ay.bs(I:ay X pins σ H s):∀b o,X.base.get? b=some o->s.heap.get? b=some o/\H b=none:=λb o e=>
 ⟨I.base.keep b o (I.ok.bs b o e).1 (I.ok.bs b o e).2 (I.ok.nofr e) (I.ok.noex b o e),I.base.free b o (I.ok.bs b o e).1 (I.ok.bs b o e).2 (I.ok.noex b o e)⟩
theorem ay.bk(I:ay X pins σ H s):∀b o,X.base.get? b=some o->s.heap.get? b=some o:=λb o e=>(I.bs b o e).1
theorem ay.mod(I:ay X pins σ H s):Mod X.K X.mg X.base:=I.ok.mod
theorem ay.kIn(I:ay X pins σ H s):X.K.In s.heap:=I.ok.mod.kin.keeps I.bk
theorem ay.lt(I:ay X pins σ H s):X.env.locals<s.heap.objs.size:=let ⟨_,hn,_⟩:=I.loc;hn.lt
theorem ay.sz(I:ay X pins σ H s):X.s₀.heap.objs.size≤s.heap.objs.size:=Rg I.ok.above (R9 I.lt)
theorem ay.nofs(I:ay X pins σ H s){a:P3}(h:s.heap.objs.size≤a):a∉X.fs:=λhb=>by
 obtain⟨_,o,ho,_⟩:=I.ok.funs.mem hb;exact absurd (Qw (Qc ho)<|Rg I.sz h) (RL _)
theorem ay.cne(I:ay X pins σ H s):∀x c,X.env.cells.lookup x=some c->c≠X.env.locals:=λx c e z=>by
 obtain⟨v,o,ho,hd⟩:=I.cell x c e;obtain⟨m,⟨g,es,ep,d,f,_⟩,_⟩:=I.loc;rw[z,d] at ho;cases ho;rw[f] at hd;cases hd
theorem ay.funs(I:ay X pins σ H s):s.heap.FunFrames X.base X.outer:=by
 have all:∀(l:List Env),(∀b∈g8 l,b∈X.fs)->X.s₀.heap.FunFrames X.base l->s.heap.FunFrames X.base l:=by
  intro l
  induction l with
  | nil=>intro _ _;trivial
  | cons env r f=>
   intro hs h;obtain⟨i,⟨L,o,c,hn,ho,hd⟩,g⟩:=h;have d:L∈X.fs:=hs L (by unfold g8;rw[Vq,c];exact Qj);obtain⟨sl,e⟩:=I.base.slot L o ho (I.ok.frf L d) d λz=>I.ok.exfs L z d;exact⟨i,⟨L,_,c,hn,e,hd⟩,f (λb hb=>hs b (by unfold g8;rw[Vq,c];exact Ql _ hb)) g⟩
 exact all X.outer (λ_ hb=>hb) I.ok.funs

theorem ay.stack(I:ay X pins σ H s):s.heap.FunFrames X.base X.stack:=by
 rcases I.ok.stk with e | ⟨e,c⟩
 ·rw[e];exact I.funs
 ·rw[e];obtain⟨m,hn,_⟩:=I.loc;refine .cons (by rw[I.ok.kind];decide) c hn ?_ I.funs;exact Sq (Rg I.ok.bsz I.ok.above)
theorem ay.stkSub(I:ay X pins σ H s):∀b∈g8 X.stack,b∈X.env.locals::X.fs:=λb hb=>by
 rcases I.ok.stk with e | ⟨e,c⟩
 ·rw[e] at hb;exact Ql _ hb
 ·rw[e] at hb;unfold g8 at hb;rw[Vq,c] at hb;exact hb
theorem ay.stkFree(I:ay X pins σ H s):∀b∈g8 X.stack,H b=none:=λb hb=>by
 rcases Qm.mp (I.stkSub b hb) with e | hb
 ·rw[e];exact I.free
 ·obtain⟨_,o,ho,_⟩:=I.ok.funs.mem hb;exact I.base.free b o ho (I.ok.frf b hb) λz=>I.ok.exfs b z hb

theorem ay.step{g':Array GenState}{t':Nat}{d':Drawn}{ch:List P3}(I:ay X pins σ H s)
  (h:∀b∈ch,(b∈X.ex∨X.s₀.heap.objs.size≤b)/\b≠X.env.locals/\(∀x c,X.env.cells.lookup x=some c->c≠b)/\∀p∈X.pn++pins,p.1≠b)
  (keep:∀b o,b≠X.env.locals->b∉X.fs->b∉ch->s.heap.get? b=some o->H b=none->h'.get? b=some o)
  (slot:∀b o,b≠X.env.locals->b∈X.fs->b∉ch->s.heap.get? b=some o->H b=none->∃sl,h'.get? b=some {o with slots:=sl}) (free:∀b o,b∉ch->s.heap.get? b=some o->H b=none->H' b=none)
  (there:∀b o,b∉ch->s.heap.get? b=some o->∃O,h'.get? b=some O)
  (tups:∀b xs,H b=some (.tup xs)->H' b=some (.tup xs)) (frzs:∀b o u,H b=some (.frz o u)->H' b=some (.frz o u)) (tbls:∀b ps,H b=some (.tbl ps)->∃more,H' b=some (.tbl<|ps++more))
  (ns:∀m,s.heap.Ns X.env.locals m->h'.Ns X.env.locals m) (hok:jc X.prog X.w H' h') (hg:U1 g') :
  ay X pins σ H' {s with heap:=h',gens:=g',drawn:=d',toks:=t'}:=by
 have Q:∀b o,X.s₀.heap.get? b=some o->b≠X.env.locals:=λb o e=>Qp (Qw (Qc e) I.ok.above);have C:∀b o,X.s₀.heap.get? b=some o->b∉X.ex->b∉ch:=λb o e f hb=>by
  rcases(h b hb).1 with z | z
  ·exact f z
  ·exact absurd (Qw (Qc e) z) (RL _)
 have j:∀x c,X.env.cells.lookup x=some c->∀v,s.heap.IsCell c v->h'.IsCell c v:=λx c e v ⟨o,ho,hd⟩=>by
  have g:c∉ch:=λz=>(h c z).2.2.1 x c e rfl;by_cases hc:c∈X.fs
  ·obtain⟨sl,q⟩:=slot c o (I.cne x c e) hc g ho (I.freeC x c e);exact⟨_,q,hd⟩
  ·exact⟨o,keep c o (I.cne x c e) hc g ho<|I.freeC x c e,hd⟩
 refine⟨I.ok,I.os,hg,⟨λb o e n hb f=>?_,λb o e n hb f=>?_,λb o e n f=>?_,λb o e f=>?_,λb xs e=>tups b xs (I.base.tups b xs e),λb o xs e=>frzs b o xs (I.base.frzs b o xs e),λb ps e=>?_⟩,?_,λx c e=>?_,?_,λx c e=>?_,λp hp=>?_,hok,I.len⟩
 ·exact keep b o (Q b o e) hb (C b o e f) (I.base.keep b o e n hb f) (I.base.free b o e n f)
 ·obtain⟨sl,L⟩:=I.base.slot b o e n hb f;obtain⟨Y,U⟩:=slot b _ (Q b o e) hb (C b o e f) L (I.base.free b o e n f);exact⟨Y,U⟩
 ·obtain⟨O,L⟩:=I.base.there b o e f;exact free b O (C b o e f) L (I.base.free b o e n f)
 ·obtain⟨O,L⟩:=I.base.there b o e f;exact there b O (C b o e f) L
 ·obtain⟨m1,L⟩:=I.base.tbls b ps e;obtain⟨m2,U⟩:=tbls b _ L;exact⟨m1++m2,by rw[U,Array.append_assoc]⟩
 ·obtain⟨m,hn,hl⟩:=I.loc;refine⟨m,ns m hn,λi x v L U e3=>?_⟩;obtain⟨u,r,l⟩:=hl i x v L U e3;refine⟨u,r,?_⟩;rcases l with l | ⟨k,c,e,z⟩
  ·exact .inl l
  ·exact .inr ⟨k,c,e,j x c e _ z⟩
 ·obtain⟨v,z⟩:=I.cell x c e;exact⟨v,j x c e v z⟩
 ·obtain⟨m,⟨o,_,_,ho,_⟩,_⟩:=I.loc;exact free _ o (λz=>(h _ z).2.1 rfl) ho I.free
 ·obtain⟨v,o,ho,hd⟩:=I.cell x c e;exact free c o (λz=>(h c z).2.2.1 x c e rfl) ho (I.freeC x c e)
 ·obtain⟨e,n,ne,Z,d⟩:=I.pin p hp;have g:p.1∉ch:=λz=>(h p.1 z).2.2.2 p hp rfl;exact⟨keep p.1 p.2 ne Z g e n,free p.1 p.2 g e n,ne,Z,d⟩
theorem ay.un{t':Nat}(I:ay X pins σ H s)(u:Un X.fs [] H H' s.heap h')(hok:jc X.prog X.w H' h'):ay X pins σ H' {s with heap:=h',toks:=t'}:=by
 obtain⟨m,⟨o,es,ep,ho,r⟩,_⟩:=id I.loc;obtain⟨sl,i⟩:=u.any ho I.free (by simp);exact I.step (g':=s.gens) (d':=s.drawn) (ch:=[]) (λ_ z=>nomatch z) (λb o _ hb _ e n=>u.keep b o e n hb (by simp)) (λb o _ hb _ e n=>u.slot b o e n hb (by simp)) (λb o _ e n=>u.free b o e n (by simp)) (λb o _ e=>u.there b o e (by simp)) u.tups u.frzs u.tbls (λl h=>by
  obtain⟨j,d,f,c,g⟩:=h;rw[ho] at c;cases c;exact⟨_,d,f,i,g⟩) hok I.bare
theorem ay.call{g':Array GenState}{t':Nat}{d':Drawn}{ch:List P3}(I:ay X pins σ H s)(u:Un (g8 X.stack) ch H H' s.heap h')(hok:jc X.prog X.w H' h')(C:U1 g')
  (g:∀b∈ch,(b∈X.ex∨X.s₀.heap.objs.size≤b)/\b≠X.env.locals/\(∀x c,X.env.cells.lookup x=some c->c≠b)/\∀p∈X.pn++pins,p.1≠b) :
  ay X pins σ H' {s with heap:=h',gens:=g',drawn:=d',toks:=t'}:=by
 obtain⟨m,⟨o,es,ep,ho,r⟩,_⟩:=id I.loc;obtain⟨sl,h⟩:=u.any ho I.free λz=>(g _ z).2.1 rfl;exact I.step (ch:=ch) g (λb o h hb d e n=>u.keep b o e n (λz=>(Qm.mp<|I.stkSub b z).elim h hb) d) (λb o _ _ d e n=>u.any e n d) (λb o d e n=>u.free b o e n d) (λb o d e=>u.there b o e d) u.tups u.frzs u.tbls (λO q=>by
  obtain⟨L,i,j,f,l⟩:=q;rw[ho] at f;cases f;exact⟨_,i,j,h,l⟩) hok C
theorem ay.turned{t':Nat}{it:P3}(I:ay X pins σ H s)(k:∀b o,b≠it->s.heap.get? b=some o->h'.get? b=some o)(hn:H it=none)(g:it≠X.env.locals)
  (h1:it∈X.ex∨X.s₀.heap.objs.size≤it) (j:∀x c,X.env.cells.lookup x=some c->c≠it) (i:∀p∈X.pn++pins,p.1≠it):ay X pins σ H {s with heap:=h',toks:=t'}:=by
 have f:∀b u,H b=some u->b≠it:=λb u e z=>by rw[z,hn] at e;cases e
 refine I.step (g':=s.gens) (d':=s.drawn) (ch:=[it]) (λb hb=>?_) (λb o _ _ d e _=>k b o (λz=>d (by simp[z])) e) (λb o _ _ d e _=>⟨o.slots,k b o (λz=>d (by simp[z])) e⟩) (λ_ _ _ _ n=>n)
  (λb o d e=>⟨o,k b o (λz=>d (by simp[z])) e⟩) (λ_ _ e=>e) (λ_ _ _ e=>e) (λb ps e=>⟨#[],by rw[e];simp⟩) (λm h=>?_) (λb u e=>?_) I.bare
 ·have e:b=it:=by simpa using hb
  subst e;exact⟨h1,g,j,i⟩
 ·obtain⟨o,es,ep,ho,r⟩:=h;exact⟨o,es,ep,k _ o (RO g) ho,r⟩
 ·refine(I.hok b u e).stay (λc v d q=>k c v ?_ q) (λ_ q=>q) λ_ _ q=>q;rcases d with z | z
  ·rw[z];exact f b u e
  ·exact f c _ z
theorem ay.tok(I:ay X pins σ H s)(t:Nat):ay X pins σ H {s with toks:=t}:=I.un (h':=s.heap) (t':=t) Un.refl I.hok
theorem ay.kept{t':Nat}(I:ay X pins σ H s)(k:∀b u,s.heap.get? b=some u->h'.get? b=some u):ay X pins σ H {s with heap:=h',toks:=t'}:=I.un (Un.kept k) (I.hok.kept k)
theorem ay.laid{a:P3}{o:HO}{t':Nat}(I:ay X pins σ H s)(k:∀b u,s.heap.get? b=some u->h'.get? b=some u)(c:s.heap.objs.size≤a)(new:bD X.prog X.w (upd H a o) h' a o) :
  ay X pins σ (upd H a o) {s with heap:=h',toks:=t'}:=I.un (Un.laid k c<|I.hok.fresh c) (I.hok.laid k c new)
theorem ay.write{x e:P3}{o:HO}{t':Nat}(I:ay X pins σ H s)(d:L7 (H x))(he:e=x∨H e=some (.own x))(k:∀b u,b≠e->s.heap.get? b=some u->h'.get? b=some u)(c:∃u,h'.get? e=some u)
  (new:bD X.prog X.w (upd H x o) h' x o):ay X pins σ (upd H x o) {s with heap:=h',toks:=t'}:=I.un (Un.write d he k c) (I.hok.write d he k c new)
theorem ay.weak{c:List (Option V)}(I:ay X pins σ H s)(f:c.length=σ.length)(w:∀(i:Nat) v,c[i]?=some (some v)->σ[i]?=some (some v)):ay X pins c H s :=
 ⟨I.ok,I.os,I.bare,I.base,let ⟨m,hn,d⟩:=I.loc;⟨m,hn,λi x v j h g=>d i x v j (w i v h) g⟩,I.cell,I.free,I.freeC,I.pin,I.hok,f.trans I.len⟩
theorem ay.pins_of{pins':List (P3×Obj)}(I:ay X pins σ H s)(h:∀p∈pins',s.heap.get? p.1=some p.2/\H p.1=none/\p.1≠X.env.locals/\p.1∉X.fs/\∀v,p.2.data≠.cell v):ay X pins' σ H s :=
 ⟨I.ok,I.os,I.bare,I.base,I.loc,I.cell,I.free,I.freeC,λp c=>(Rc.mp c).elim (λz=>I.pin p (Rq _ z)) (h p),I.hok,I.len⟩

theorem pz{N:List Str}(c:N.Nodup){i j:Nat}{x:Str}(a:N[i]?=some x)(b:N[j]?=some x):i=j:=by
 obtain⟨h1,f⟩:=P9.mp a;obtain⟨g,d⟩:=P9.mp b;exact(List.getElem_inj c).mp (f.trans d.symm)

theorem sI{M:Yl}{i:Nat}{x:Str}{v:V}{u:P0}{Q:Unit->P5->Prop}(I:ay X pins σ H s)(hN:X.N.Nodup)(hi:X.N[i]?=some x)(g:dJ X.env.scope x)(r:aN v u)
  (h:∀s',ay X pins (σ.set i<|some v) H s'->(∃a,RP a s.heap s'.heap/\(a=X.env.locals∨X.env.cells.lookup x=some a))->Q () s') (hf:X.fn x=true∨X.env.scope.names.lookup x=some .local:=by with_unfolding_all (first | exact .inl rfl | exact .inr rfl | assumption)):Qa M A (YN X.env x u) Q E s:=by
 obtain⟨m,hn,hl⟩:=id I.loc;have hcls:(X.env.scope.kind==.class||(X.env.scope.kind==.module&&X.env.locals !=X.env.globals))=false:=by rw[I.ok.kind];rfl
 have L:i<σ.length:=by rw[I.len];exact(P9.mp hi).1
 have cne:=I.cne;have tracked:∀{a:P3} {h':QO},(∃o,s.heap.get? a=some o/\H a=none)->RP a s.heap h'->jc X.prog X.w H h':=λ{a h'} ha hs b ob e=>by
  obtain⟨_,_,l⟩:=ha;refine(I.hok b ob e).stay (λc w' hc q=>(hs.2 c ?_).trans q) (λ_ q=>q) λ_ _ q=>q;rintro rfl;rcases hc with rfl | hc
  ·rw[l] at e;cases e
  ·rw[l] at hc;cases hc
 rcases g with hk | hk
 ·refine wpAny_storeName_local hk hn (λh' hn' hs=>?_) hcls;obtain⟨oL,_,_,hoL,_⟩:=id hn;refine h _ ⟨I.ok,I.os,I.bare,⟨λb o e n hb g=>?_,λb o e n hb g=>?_,I.base.free,λb o e g=>?_,I.base.tups,I.base.frzs,I.base.tbls⟩,⟨_,hn',λj y v' f C e3=>?_⟩,λy c e=>?_,I.free,I.freeC,λp hp=>?_,tracked ⟨oL,hoL,I.free⟩ hs,by simpa using I.len⟩ ⟨_,hs,.inl rfl⟩
  ·exact(hs.2 b<|Qp<|Qw (Qc e) I.ok.above).trans (I.base.keep b o e n hb g)
  ·obtain⟨sl,f⟩:=I.base.slot b o e n hb g;exact⟨sl,(hs.2 b<|Qp<|Qw (Qc e) I.ok.above).trans f⟩
  ·obtain⟨o',f⟩:=I.base.there b o e g;exact⟨o',(hs.2 b<|Qp<|Qw (Qc e) I.ok.above).trans f⟩
  ·by_cases O:j=i
   ·subst O;rw[hi] at f;cases f;rw[Ti L] at C;cases C;exact⟨u,r,.inl ⟨hk,by simp⟩⟩
   ·rw[TQ (RO O)] at C;obtain⟨u',r',q⟩:=hl j y v' f C e3;refine⟨u',r',?_⟩;rcases q with ⟨k,e⟩ | ⟨k,c,e,z⟩
    ·refine .inl ⟨k,?_⟩;have:y≠x:=λe=>O (pz hN f<|e▸hi);simp[this,e]
    ·exact .inr ⟨k,c,e,z.sameBut hs<|cne y c e⟩
  ·obtain⟨w',z⟩:=I.cell y c e;exact⟨w',z.sameBut hs<|cne y c e⟩
  ·obtain⟨e,n,ne,nf,d⟩:=I.pin p hp;exact⟨(hs.2 p.1 ne).trans e,n,ne,nf,d⟩
 ·have U:X.fn x=true:=by
   rcases hf with z | z
   ·exact z
   ·rw[z] at hk;cases hk
  obtain⟨c,hc⟩:=I.ok.has x (.inl hk);obtain⟨w',z⟩:=I.cell x c hc;refine wpAny_storeName_cell I.ok.kind hk hc z (λh' hc' hs=>?_);obtain⟨oc,Z,Y⟩:=id z;refine h {s with heap:=h'} ⟨I.ok,I.os,I.bare,⟨λb o e n hb g=>?_,λb o e n hb g=>?_,I.base.free,λb o e g=>?_,I.base.tups,I.base.frzs,I.base.tbls⟩,⟨m,hn.sameBut hs<|RO<|cne x c hc,λj y v' f C e3=>?_⟩,λy c' e=>?_,I.free,I.freeC,λp hp=>?_,tracked ⟨oc,Z,I.freeC x c hc⟩ hs,by simpa using I.len⟩ ⟨c,hs,.inr hc⟩
  ·exact(hs.2 b<|Qp<|Qw (Qc e)<|I.ok.cab x c U hc).trans (I.base.keep b o e n hb g)
  ·obtain⟨sl,f⟩:=I.base.slot b o e n hb g;exact⟨sl,(hs.2 b<|Qp<|Qw (Qc e)<|I.ok.cab x c U hc).trans f⟩
  ·obtain⟨o',f⟩:=I.base.there b o e g;exact⟨o',(hs.2 b<|Qp<|Qw (Qc e)<|I.ok.cab x c U hc).trans f⟩
  ·by_cases O:j=i
   ·subst O;rw[hi] at f;cases f;rw[Ti L] at C;cases C;exact⟨u,r,.inr ⟨.inl hk,c,hc,hc'⟩⟩
   ·rw[TQ (RO O)] at C;obtain⟨u',r',q⟩:=hl j y v' f C e3;refine⟨u',r',?_⟩;rcases q with q | ⟨k,c',e,z'⟩
    ·exact .inl q
    ·refine .inr ⟨k,c',e,z'.sameBut hs ?_⟩;rintro rfl;exact O (pz hN f<|I.ok.inj _ _ _ e hc▸hi)
  ·by_cases hcc:c'=c
   ·subst hcc;exact⟨_,hc'⟩
   ·obtain⟨w2,z2⟩:=I.cell y c' e;exact⟨w2,z2.sameBut hs hcc⟩
  ·obtain⟨e,n,ne,nf,d⟩:=I.pin p hp;refine⟨(hs.2 p.1 ?_).trans e,n,ne,nf,d⟩;intro q;rw[q,Z] at e;have q':oc=p.2:=Qu e;exact d w' (by rw[<-q'];exact Y)
theorem gm{M:Yl}{i:Nat}{x:Str}{v:V}{u:P0}{Q:Unit->P5->Prop}(I:ay X pins σ H s)(g:X.N.Nodup)(d:X.N[i]?=some x)(c:dJ X.env.scope x)(r:aN v u)
  (h:∀s',ay X pins (σ.set i<|some v) H s'->Q () s') (f:X.fn x=true∨X.env.scope.names.lookup x=some .local:=by with_unfolding_all (first | exact .inl rfl | exact .inr rfl | assumption)):Qa M A (YN X.env x u) Q E s :=
 sI I g d c r (λs' j _=>h s' j) f
theorem ay.call'{s':P5}{ch:List P3}(I:ay X pins σ H s)(ho:s'.os=s.os)(u:Un (g8 X.stack) ch H H' s.heap s'.heap)(hok:jc X.prog X.w H' s'.heap)(g:U1 s'.gens)
  (d:∀b∈ch,(b∈X.ex∨X.s₀.heap.objs.size≤b)/\b≠X.env.locals/\(∀x c,X.env.cells.lookup x=some c->c≠b)/\∀p∈X.pn++pins,p.1≠b):ay X pins σ H' s':=by
 obtain⟨h',g',d',t',f⟩:=s';have e:f=s.os:=ho;subst e;exact I.call (g':=g') (t':=t') (d':=d') u hok g d
end
abbrev XK:=P0->Option P3->Hp->Prop
abbrev St:=List (Option V)
abbrev VK:=V->Hp->Prop
abbrev TE:=St->Hp->VK->Prop
abbrev TT:=St->Hp->(Bool->Hp->Prop)->Prop
abbrev TA:=St->Hp->(List V->Hp->Prop)->Prop
structure rD where
 nx:St->Hp->Prop
 rt:VK
 bk:St->Hp->Prop:=λ_ _=>False
 ct:St->Hp->Prop:=λ_ _=>False
abbrev TS:=rD->St->Hp->Prop

def EP(X:Cx)(pins:List (P3×Obj))(σ:St)(Q:VK)(u:P0)(s':P5):Prop:=∃v c,ay X pins σ c s'/\aN v u/\Q v c
def TP(X:Cx)(pins:List (P3×Obj))(σ:St)(Q:Bool->Hp->Prop)(b:Bool)(s':P5):Prop:=∃c,ay X pins σ c s'/\Q b c
def AP(X:Cx)(pins:List (P3×Obj))(σ:St)(Q:List V->Hp->Prop)(us:List P0)(s':P5):Prop:=∃vs c,ay X pins σ c s'/\aJ vs us/\Q vs c
def SP(X:Cx)(pins:List (P3×Obj))(D:rD)(f:Flow)(s':P5):Prop :=
 match f with
 | .next=>∃c d,ay X pins c d s'/\D.nx c d
 | .brk=>∃c d,ay X pins c d s'/\D.bk c d
 | .cont=>∃c d,ay X pins c d s'/\D.ct c d
 | .ret u=>∃v c d,ay X pins c d s'/\aN v u/\D.rt v d

def PE(X:Cx)(e:Qv)(t:TE):Prop :=
 ∀(pins:List (P3×Obj)) (s:P5) (σ:St) (H:Hp) (Q:VK),ay X pins σ H s->t σ H Q->Qa (Qd X.prog X.w) X.A (Q0 e X.env) (EP X pins σ Q) X.xe s
def PT(X:Cx)(e:Qv)(t:TT):Prop :=
 ∀(pins:List (P3×Obj)) (s:P5) (σ:St) (H:Hp) (Q:Bool->Hp->Prop),ay X pins σ H s->t σ H Q->Qa (Qd X.prog X.w) X.A (X0 e X.env<|Q0 e X.env) (TP X pins σ Q) X.xe s
def PW(X:Cx)(e:Qv)(t:TT):Prop :=
 ∀(whole:Sem P0) (pins:List (P3×Obj)) (s:P5) (σ:St) (H:Hp) (Q:Bool->Hp->Prop),ay X pins σ H s->t σ H Q->Qa (Qd X.prog X.w) X.A (X0 e X.env whole) (TP X pins σ Q) X.xe s
theorem PW.pt{X:Cx}{e:Qv}{t:TT}(h:PW X e t):PT X e t:=h _
def PA(X:Cx)(es:List Qv)(t:TA):Prop :=
 ∀(pos:Pos) (pins:List (P3×Obj)) (s:P5) (σ:St) (H:Hp) (Q:List V->Hp->Prop),ay X pins σ H s->t σ H Q->Qa (Qd X.prog X.w) X.A (spliced<|Sr pos<|Qy es X.env) (AP X pins σ Q) X.xe s
def PS(X:Cx)(st:SK)(t:TS):Prop :=
 ∀(pins:List (P3×Obj)) (s:P5) (σ:St) (H:Hp) (D:rD),ay X pins σ H s->t D σ H->Qa (Qd X.prog X.w) X.A (exec st X.env) (SP X pins D) X.xe s
def gC(X:Cx)(st:List SK)(t:TS):Prop :=
 ∀(pins:List (P3×Obj)) (s:P5) (σ:St) (H:Hp) (D:rD),ay X pins σ H s->t D σ H->Qa (Qd X.prog X.w) X.A (execs st X.env) (SP X pins D) X.xe s
theorem bv{c:Type}{t:Sem c}{Q d:c->P5->Prop}{M:Yl}(h:Qa M A t Q E s)(hQ:∀a s,Q a s->d a s):Qa M A t d E s:=QS h hQ λ_ _ x=>x
section
variable{X:Cx}
def C9(i:Nat):TE:=λσ H Q=>∃v,σ[i]?=some (some v)/\Q v H
def tC(v:V):TE:=λ_ H Q=>Q v H
theorem xO{i:Nat}{x:Str}(q:X.N[i]?=some x)(j:JO X.env.scope x)(hd:(x==("__debug__":Str))=false:=by decide)(f:(x==("__classdict__":Str))=false:=by decide):PE X (.Name x pos) (C9 i):=by
 intro pins s σ H Q I h;obtain⟨v,e,h⟩:=h;obtain⟨m,hn,p⟩:=I.loc;obtain⟨u,r,l⟩:=p i x v q e j;have fin:EP X pins σ Q u s:=⟨v,H,I,r,h⟩
 rcases l with ⟨hk,o⟩ | ⟨hk,c,g,d⟩
 ·exact X1 (U7 I.ok.kind hk hn o fin) hd
 ·rcases hk with hk | hk
  ·exact X1 (Xr I.ok.kind hk g d fin) hd
  ·exact X1 (wpAny_loadName_free I.ok.kind hk g d fin f) hd
theorem cW{i j pos}:PE X (.Constant (.int i) j pos) (tC<|.int i):=λ_ _ _ H _ I h=>X2 ⟨.int i,H,I.tok _,⟨_,rfl⟩,h⟩
theorem L8{b j pos}:PE X (.Constant (.bool b) j pos) (tC<|.bl b):=λ_ _ _ H _ I h=>Constant_bool ⟨.bl b,H,I,rfl,h⟩
theorem xP{j pos}:PE X (.Constant .none j pos) (tC .non):=λ_ _ _ H _ I h=>XJ ⟨.non,H,I,rfl,h⟩
theorem g9{x j pos}:PE X (.Constant (.str x) j pos) (tC<|.str x):=λ_ _ _ H _ I h=>Calls.Constant_str ⟨.str x,H,I.tok _,⟨_,rfl⟩,h⟩

def Gl(X:Cx)(x:Str):Prop:=X.env.kindOf x=some .globalImplicit
theorem dM{σ:St}{H:Hp}{x:Str}{u:P0}{Q:P0->P5->Prop}(I:ay X pins σ H s)(d:Gl X x)(c:X.mg x=some u)(h:Q u s)
  (hd:(x==("__debug__":Str))=false:=by decide):Qa (Qd X.prog X.w) X.A (Q0 (.Name x pos) X.env) Q E s :=
 VB I.ok.kind d (Calls.loadGlobal_global (by rw[I.ok.glob];exact I.mod.glob.keeps I.bk) c h) hd
theorem kK{σ:St}{H:Hp}{x:Str}{u:P0}{Q:P0->P5->Prop}(I:ay X pins σ H s)(f:Gl X x)(d:X.mg x=none)(c:Q9 x=some u)(h:Q u s)
  (hn:x≠"__name__":=by decide) (hd:(x==("__debug__":Str))=false:=by decide):Qa (Qd X.prog X.w) X.A (Q0 (.Name x pos) X.env) Q E s:=by
 obtain⟨i,h1,g⟩:=I.mod.blt;exact VB I.ok.kind f (Calls.loadGlobal_builtin (by rw[I.ok.glob];exact I.mod.glob.keeps I.bk) d (by rw[I.ok.blt];exact h1.keeps I.bk) ((g x hn).trans c) h) hd
theorem zr{x:Str}{v:V}{u:P0}(d:Gl X x)(c:X.mg x=some u)(r:aN v u)(hd:(x==("__debug__":Str))=false:=by decide):PE X (.Name x pos) (tC v) :=
 λ_ _ _ H _ I h=>dM I d c ⟨v,H,I,r,h⟩ hd
theorem oK{x:Str}{v:V}{u:P0}(f:Gl X x)(d:X.mg x=none)(c:Q9 x=some u)(r:aN v u)(hn:x≠"__name__":=by decide)(hd:(x==("__debug__":Str))=false:=by decide):PE X (.Name x pos) (tC v) :=
 λ_ _ _ H _ I h=>kK I f d c ⟨v,H,I,r,h⟩ hn hd

variable{a b:Qv}{ta tb:TE}
def PC(X:Cx)(d:Y7)(a b:Qv)(t:TE):Prop :=
 ∀(pins:List (P3×Obj)) (s:P5) (σ:St) (H:Hp) (Q:VK),ay X pins σ H s->t σ H Q ->
  Qa (Qd X.prog X.w) X.A (Q0 a X.env) (λv s₁=>Qa (Qd X.prog X.w) X.A (Q0 b X.env) (λu c=>Qa (Qd X.prog X.w) X.A (RW d v u) (EP X pins σ Q) X.xe c) X.xe s₁) X.xe s
theorem vW(b:Qv){c:Y7}(h:c≠.In)(d:c≠.NotIn):Rt c b=false:=by
 have g:(c==CmpOp.In)=false:=by cases c<;>first | rfl | exact absurd rfl h
 have f:(c==ad7)=false:=by cases c<;>first | rfl | exact absurd rfl d
 cases b<;>simp[Rt,g,f]
def Da(ta:TE):TE:=λσ H Q=>ta σ H λx H1=>Q (.bl<|decide<|x=.non) H1
def Db(ta:TE):TE:=λσ H Q=>ta σ H λx H1=>Q (.bl<|!decide (x=.non)) H1
theorem aN.none_iff{x:V}{v:P0}(r:aN x v):(v==QN)=decide (x=.non):=by
 cases x with
 | non=>cases r;rfl
 | bl _=>cases r;rfl
 | int _=>obtain⟨t,rfl⟩:=r;rfl
 | str _=>obtain⟨t,rfl⟩:=r;rfl
 | byt _=>obtain⟨t,rfl⟩:=r;rfl
 | flt _=>obtain⟨t,rfl⟩:=r;rfl
 | ref _=>cases r;rfl
 | ty _=>cases r;rfl
theorem cF{j pos'}(f:PE X a ta):PC X .Is a (.Constant .none j pos') (Da ta):=by
 intro pins s σ H Q I h;refine bv (f pins s σ H _ I h) λv g c=>de c λx H1 I1 d q1=>?_;exact XJ (is_none_gen ⟨.bl _,H1,I1,by rw[d.none_iff];rfl,q1⟩)
theorem Ga{j pos'}(f:PE X a ta):PC X .IsNot a (.Constant .none j pos') (Db ta):=by
 intro pins s σ H Q I h;refine bv (f pins s σ H _ I h) λv g c=>de c λx H1 I1 d q1=>?_;exact XJ (isnot_none_gen ⟨.bl _,H1,I1,by rw[d.none_iff];rfl,q1⟩)
def tB(t:TE):TT:=λσ H Q=>t σ H λx H1=>∃c,x=.bl c/\Q c H1
theorem pA{c:Y7}{t:TE}(h:PC X c a b t)(h1:Rt c b=false:=by with_unfolding_all (first | exact vW _ (by decide) (by decide) | rfl)):PE X (.Compare a [c] [b] pos) t:=λpins s σ H Q I d=>Zz (h pins s σ H Q I d) h1
theorem cR{f:Y7}{t:TE}(h:PC X f a b t)(h1:Rt f b=false:=by with_unfolding_all (first | exact vW _ (by decide) (by decide) | rfl)):PT X (.Compare a [f] [b] pos) (tB t):=by
 intro pins s σ H Q I j;refine WO (bv (h pins s σ H _ I j) λv p h1=>bv h1 λu o l=>bv l λc m g=>de g λx H1 I1 i q1=>?_) h1;obtain⟨d,rfl,q⟩:=q1;cases i;exact Sa ⟨H1,I1,q⟩
theorem JP{e:Qv}{t:TE}(h:PE X e t)(he:∀whole,X0 e X.env whole=(do let v <-whole;SI e.pos;SJ [v] (ac7 v)):=by with_unfolding_all (intro _;rfl)):PT X e (tB t):=by
 intro pins s σ H Q I g;refine Ym (bv (h pins s σ H _ I g) λv i c=>de c λx H1 I1 f q1=>?_) (he _);obtain⟨d,rfl,q⟩:=q1;cases f;exact Sa ⟨H1,I1,q⟩

variable{tA tB':TT}{rest:List Qv}
def L9(t u:TT):TT:=λσ H Q=>t σ H λc H1=>if c=true then u σ H1 Q else Q false H1
def Pi(t u:TT):TT:=λσ H Q=>t σ H λc H1=>if c=true then Q true H1 else u σ H1 Q
def Oo(t:TT):TT:=λσ H Q=>t σ H λc H1=>Q (!c) H1
theorem Gb(d:PT X a tA):PW X (.BoolOp .And [a] pos) tA:=by
 intro f pins s σ H Q I h;refine isTrue_and (bv (d pins s σ H Q I h) λc g e=>?_);cases c with
 | true=>exact isTrue_and_nil e
 | false=>exact e
theorem JQ(d:PT X a tA):PW X (.BoolOp .Or [a] pos) tA:=by
 intro f pins s σ H Q I h;refine isTrue_or (bv (d pins s σ H Q I h) λc g e=>?_);cases c with
 | false=>exact isTrue_or_nil e
 | true=>exact e
theorem JR(g:PT X a tA)(hb:PW X (.BoolOp .And (b::rest) pos) tB'):PW X (.BoolOp .And (a::b::rest) pos) (L9 tA tB'):=by
 intro d pins s σ H Q I h;refine isTrue_and (bv (g pins s σ H _ I h) λc f ⟨H1,I1,q1⟩=>?_);cases c with
 | true=>exact hb d pins f σ H1 Q I1 q1
 | false=>exact⟨H1,I1,q1⟩
theorem Ma(g:PT X a tA)(hb:PW X (.BoolOp .Or (b::rest) pos) tB'):PW X (.BoolOp .Or (a::b::rest) pos) (Pi tA tB'):=by
 intro d pins s σ H Q I h;refine isTrue_or (bv (g pins s σ H _ I h) λc f ⟨H1,I1,q1⟩=>?_);cases c with
 | true=>exact⟨H1,I1,q1⟩
 | false=>exact hb d pins f σ H1 Q I1 q1
theorem JS(d:PT X a tA):PT X (.UnaryOp .Not a pos) (Oo tA):=by
 intro pins s σ H Q I h;exact isTrue_not (d pins s σ H (λc H1=>Q (!c) H1) I h)
def Mb(ta tb:TE):TE:=λσ H Q=>ta σ H λx H1=>∃c,x=.bl c/\if c=true then tb σ H1 Q else Q (.bl false) H1
def Op(ta tb:TE):TE:=λσ H Q=>ta σ H λx H1=>∃c,x=.bl c/\if c=true then Q (.bl true) H1 else tb σ H1 Q
def Mc(ta:TE):TE:=λσ H Q=>ta σ H λx H1=>∃c,x=.bl c/\Q (.bl<|!c) H1
theorem JT{c}{t:TE}(h:PE X a t):PE X (.BoolOp c [a] pos) t:=λpins s σ H Q I d=>BoolOp_one (h pins s σ H Q I d)
theorem JU(i:PE X a ta)(hb:PE X (.BoolOp .And (b::rest) pos) tb):PE X (.BoolOp .And (a::b::rest) pos) (Mb ta tb):=by
 intro pins s σ H Q I h;refine BoolOp_and (bv (i pins s σ H _ I h) λv f d=>de d λx H1 I1 g q1=>?_);obtain⟨c,rfl,q1⟩:=q1;cases g;refine Sa ?_;cases c with
 | true=>exact hb pins f σ H1 Q I1 q1
 | false=>exact⟨.bl false,H1,I1,rfl,q1⟩
theorem Md(i:PE X a ta)(hb:PE X (.BoolOp .Or (b::rest) pos) tb):PE X (.BoolOp .Or (a::b::rest) pos) (Op ta tb):=by
 intro pins s σ H Q I h;refine BoolOp_or (bv (i pins s σ H _ I h) λv f d=>de d λx H1 I1 g q1=>?_);obtain⟨c,rfl,q1⟩:=q1;cases g;refine Sa ?_;cases c with
 | false=>exact hb pins f σ H1 Q I1 q1
 | true=>exact⟨.bl true,H1,I1,rfl,q1⟩
theorem JV(g:PE X a ta):PE X (.UnaryOp .Not a pos) (Mc ta):=by
 intro pins s σ H Q I h;refine UnaryOp_ (bv (g pins s σ H _ I h) λv i d=>de d λx H1 I1 f q1=>?_);obtain⟨c,rfl,q1⟩:=q1;cases f;exact not_of (Sa ⟨.bl<|!c,H1,I1,rfl,q1⟩)
def Pj(t:TT)(ta tb:TE):TE:=λσ H Q=>t σ H λc H1=>if c=true then ta σ H1 Q else tb σ H1 Q
theorem pB{c:Qv}(g:PT X c tA)(i:PE X a ta)(hb:PE X b tb):PE X (.IfExp c a b pos) (Pj tA ta tb):=by
 intro pins s σ H Q I h;refine wpAny_IfExp (bv (g pins s σ H _ I h) λd f ⟨H1,I1,q1⟩=>?_);cases d with
 | true=>exact i pins f σ H1 Q I1 q1
 | false=>exact hb pins f σ H1 Q I1 q1
end
def ie(K:P7)(H:Hp)(a:P3)(xs:List V):Prop :=
 Rd H a (.lst xs) ∨
  ∃(o:Obj) (its:Array P0) (n:Nat),K.lookup a=some o/\o.cls=.type "list"/\o.dict=none/\o.data=.seq its n/\its.size≤Qf/\aJ xs its.toList
def ic(K:P7)(H:Hp)(a:P3)(xs:List V):Prop :=
 Rd H a (.tup xs) ∨
  ∃(o:Obj) (its:Array P0) (n:Nat),K.lookup a=some o/\o.cls=.type "tuple"/\o.data=.seq its n/\its.size≤Qf/\aJ xs its.toList
def Oq:P0->Option V
 | .none=>some .non
 | .bool b=>some (.bl b)
 | .int i _=>some (.int i)
 | .str x _=>some (.str x)
 | .bytes b _=>some (.byt b)
 | .float b _=>some (.flt b)
 | .ref a=>some (.ref a)
 | .type n=>some (.ty n)
 | _=>none
theorem aN.abs{x:V}{u:P0}(r:aN x u):Oq u=some x:=by
 cases x with
 | non=>cases r;rfl
 | bl _=>cases r;rfl
 | int _=>obtain⟨t,rfl⟩:=r;rfl
 | str _=>obtain⟨t,rfl⟩:=r;rfl
 | byt _=>obtain⟨t,rfl⟩:=r;rfl
 | flt _=>obtain⟨t,rfl⟩:=r;rfl
 | ref _=>cases r;rfl
 | ty _=>cases r;rfl
theorem aN.inj{x y:V}{u:P0}(r:aN x u)(q:aN y u):x=y:=Qu (r.abs.symm.trans q.abs)
theorem aJ.inj:∀{xs ys:List V} {us:List P0},aJ xs us->aJ ys us->xs=ys
 | _,_,_,.nil,.nil=>rfl
 | _,_,_,.cons r t,.cons c t'=>by rw[r.inj c,aJ.inj t t']
section
variable{X:Cx}{σ:St}{H:Hp}{a:P3}{xs ys:List V}
theorem ie.of(h:H a=some (.lst xs)):ie K H a xs:=.inl (.inl h)
theorem ic.of(h:H a=some (.tup xs)):ic K H a xs:=.inl (.inl h)
theorem ay.list(I:ay X pins σ H s)(h:ie X.K H a xs):∃its:List P0,aJ xs its/\PlainL s.heap a its.toArray/\xs.length≤Qf:=by
 rcases h with h | ⟨o,its,n,c,d,hd,hs,hz,r⟩
 ·obtain⟨z,its,n,r,e⟩:=h.ok I.hok;exact⟨its,r,⟨_,n,e,rfl,rfl,rfl⟩,z⟩
 ·refine⟨its.toList,r,⟨o,n,I.kIn a o c,d,hd,by simpa using hs⟩,?_⟩;have e:=r.length;simp only[QL] at e;omega
theorem ay.tuple(I:ay X pins σ H s)(h:ic X.K H a xs):∃its:List P0,aJ xs its/\WF s.heap a its.toArray/\xs.length≤Qf:=by
 rcases h with h | ⟨o,its,n,c,d,hs,hz,r⟩
 ·obtain⟨z,its,r,p⟩:=h.ok I.hok;exact⟨its,r,p,z⟩
 ·refine⟨its.toList,r,⟨o,I.kIn a o c,d,n,by simpa using hs⟩,?_⟩;have e:=r.length;simp only[QL] at e;omega
theorem ay.list_inj(I:ay X pins σ H s)(h:ie X.K H a xs)(h':ie X.K H a ys):xs=ys:=by
 obtain⟨its,r,⟨o,n,e,_,_,d⟩,_⟩:=I.list h;obtain⟨its',f,⟨i,j,c,_,_,d'⟩,_⟩:=I.list h';rw[e] at c;cases c;rw[d] at d';injection d' with g _;have:its=its':=by simpa using congrArg ac8 g
 subst this;exact r.inj f
theorem ay.tuple_inj(I:ay X pins σ H s)(h:ic X.K H a xs)(h':ic X.K H a ys):xs=ys:=by
 obtain⟨its,r,⟨o,e,_,n,d⟩,_⟩:=I.tuple h;obtain⟨its',f,⟨i,c,_,j,d'⟩,_⟩:=I.tuple h';rw[e] at c;cases c;rw[d] at d';injection d' with g _;have:its=its':=by simpa using congrArg ac8 g
 subst this;exact r.inj f
end
abbrev Cx.wish(X:Cx)(E:P0->P5->Prop):Cx:={X with xe:=E}
abbrev Cx.nox(X:Cx):Cx:=X.wish λ_ _=>False
theorem Cx.Ok.wish{X:Cx}(ok:X.Ok)(E:P0->P5->Prop):(X.wish E).Ok :=
 ⟨ok.mod,ok.kind,ok.glob,ok.blt,ok.above,ok.inj,ok.has,ok.cab,ok.hd,ok.frames,ok.stk,ok.exf,ok.bs,ok.bsz,ok.noex,ok.exfs,ok.funs,ok.frf⟩
theorem Cx.Ok.unwish{X:Cx}(ok:(X.wish E).Ok):X.Ok :=
 ⟨ok.mod,ok.kind,ok.glob,ok.blt,ok.above,ok.inj,ok.has,ok.cab,ok.hd,ok.frames,ok.stk,ok.exf,ok.bs,ok.bsz,ok.noex,ok.exfs,ok.funs,ok.frf⟩
section
variable{X:Cx}{σ:St}{H:Hp}
theorem ay.wish(I:ay X pins σ H s)(E:P0->P5->Prop):ay (X.wish E) pins σ H s:=⟨I.ok.wish E,I.os,I.bare,I.base,I.loc,I.cell,I.free,I.freeC,I.pin,I.hok,I.len⟩
theorem ay.unwish(I:ay (X.wish E) pins σ H s):ay X pins σ H s:=⟨I.ok.unwish,I.os,I.bare,I.base,I.loc,I.cell,I.free,I.freeC,I.pin,I.hok,I.len⟩
theorem SP.unwish{D:rD}{f:Flow}{s':P5}(h:SP (X.wish E) pins D f s'):SP X pins D f s':=by
 cases f with
 | next=>obtain⟨c,d,I,q⟩:=h;exact⟨c,d,I.unwish,q⟩
 | brk=>obtain⟨c,d,I,q⟩:=h;exact⟨c,d,I.unwish,q⟩
 | cont=>obtain⟨c,d,I,q⟩:=h;exact⟨c,d,I.unwish,q⟩
 | ret u=>obtain⟨v,c,d,I,r,q⟩:=h;exact⟨v,c,d,I.unwish,r,q⟩
theorem gC.nox{st:List SK}{t:TS}(h:gC X.nox st t):gC X st t:=λpins s σ H D I c=>
 QS (h pins s σ H D (I.wish _) c) (λ_ _ q=>q.unwish) λ_ _ z=>QE z
end
section
variable{X:Cx}{rest:List SK}{t u:TS}{e:Qv}{te:TE}
def IR:TS:=λD σ H=>D.nx σ H
def Dc(t u:TS):TS:=λD σ H=>t {D with nx:=u D} σ H
theorem zt:gC X [] IR:=λ_ _ σ H _ I h=>SQ ⟨σ,H,I,h⟩
theorem cX(h1:PS X st t)(g:gC X rest u):gC X (st::rest) (Dc t u):=by
 intro pins s σ H D I h;refine SD (bv (h1 pins s σ H {D with nx:=u D} I h) λf d q=>?_);cases f with
 | next=>
  obtain⟨c,j,i,q⟩:=q;exact g pins d c j D i q
 | ret v=>exact q
 | brk=>exact q
 | cont=>exact q
theorem oM(h1:PS X st t):gC X [st] t:=by
 intro pins s σ H D I h;refine SD (bv (h1 pins s σ H D I h) λf c q=>?_);cases f with
 | next=>exact SQ q
 | ret v=>exact q
 | brk=>exact q
 | cont=>exact q
theorem ay.quiet{σ:St}{H:Hp}(I:ay X pins σ H s):interactive X.env=false:=by simp[interactive,I.ok.kind]
def Me(te:TE):TS:=λD σ H=>te σ H λ_ H1=>D.nx σ H1
theorem zu(he:PE X e te)(hs:RX e none pos.line X.env=pure false:=by nofun):PS X (.Expr e pos) (Me te):=by
 intro pins s σ H D I h;exact wpAny_Expr_any (bv (he pins s σ H _ I h) λv d c=>de c λx H1 I1 f q1=>⟨σ,H1,I1,q1⟩) I.quiet hs
def Mf(te:TE):TS:=λD σ H=>te σ H D.rt
theorem ut(he:PE X e te):PS X (.Return (some e) pos) (Mf te):=by
 intro pins s σ H D I h;exact wpAny_Return_some (bv (he pins s σ H _ I h) λv f c=>de c λx H1 I1 d q1=>⟨x,σ,H1,I1,d,q1⟩)
def Mg:TS:=λD _ H=>D.rt .non H
theorem Gc:PS X (.Return none pos) Mg:=λ_ _ σ H _ I h=>wpAny_Return_none ⟨.non,σ,H,I,rfl,h⟩
def Mh(c:TT)(t u:TS):TS:=λD σ H=>c σ H λb H1=>if b=true then t D σ H1 else u D σ H1
theorem IS{c:Qv}{a b:List SK}{f:TT}(i:PT X c f)(j:gC X a t)(hb:gC X b u):PS X (.If c a b pos) (Mh f t u):=by
 intro pins s σ H D I h;refine wpAny_If (bv (i pins s σ H _ I h) λd g ⟨H1,I1,q1⟩=>?_);cases d with
 | true=>exact j pins g σ H1 D I1 q1
 | false=>exact hb pins g σ H1 D I1 q1
def JW:TS:=λ_ _ _=>False
theorem De:PS X st JW:=λ_ _ _ _ _ _ h=>h.elim
end
abbrev TG:=V->St->Hp->(St->Hp->Prop)->Prop
abbrev CY:=List V->St->Hp->(St->Hp->Prop)->Prop
def PG(X:Cx)(c:Qv)(t:TG):Prop :=
 ∀(pins:List (P3×Obj)) (s:P5) (σ:St) (H:Hp) (v:V) (u:P0) (Q:St->Hp->Prop),ay X pins σ H s->aN v u->t v σ H Q ->
  Qa (Qd X.prog X.w) X.A (Wo c X.env u) (λ_ s'=>∃d f,ay X pins d f s'/\Q d f) X.xe s
def xL(X:Cx)(ts:List Qv)(t:CY):Prop :=
 ∀(pins:List (P3×Obj)) (s:P5) (σ:St) (H:Hp) (vs:List V) (us:List P0) (Q:St->Hp->Prop),ay X pins σ H s->aJ vs us->t vs σ H Q ->
  Qa (Qd X.prog X.w) X.A (V3 ((RT ts X.env).map (·.2)) us) (λ_ s'=>∃c d,ay X pins c d s'/\Q c d) X.xe s
abbrev JX:=V->V->V->Hp->(Hp->Prop)->Prop
def Mi(X:Cx)(t:JX):Prop :=
 ∀(pins:List (P3×Obj)) (s:P5) (σ:St) (H:Hp) (o i v:V) (c iv u:P0) (Q:Hp->Prop),ay X pins σ H s->aN o c->aN i iv->aN v u->t o i v H Q ->
  Qa (Qd X.prog X.w) X.A (setItem c iv u) (λ_ s'=>∃d,ay X pins σ d s'/\Q d) X.xe s
abbrev Mj:=V->V->Hp->VK->Prop
def Pk(X:Cx)(c:ZA)(t:Mj):Prop :=
 ∀(pins:List (P3×Obj)) (s:P5) (σ:St) (H:Hp) (x y:V) (v u:P0) (Q:VK),ay X pins σ H s->aN x v->aN y u->t x y H Q ->
  Qa (Qd X.prog X.w) X.A (inplaceOp c v u) (EP X pins σ Q) X.xe s
section
variable{X:Cx}
def fY(i:Nat):TG:=λv σ H Q=>Q (σ.set i<|some v) H
theorem uu{i:Nat}{x:Str}(g:X.N.Nodup)(d:X.N[i]?=some x)(c:dJ X.env.scope x)(f:X.fn x=true∨X.env.scope.names.lookup x=some .local:=by with_unfolding_all (first | exact .inl rfl | exact .inr rfl | assumption)):PG X (.Name x pos) (fY i):=by
 intro pins s σ H v u Q I r h;exact Yn (gm I g d c r (λs' j=>⟨_,H,j,h⟩) f)
def Ml:CY:=λvs σ H Q=>vs=[]/\Q σ H
def Df(t:TG)(u:CY):CY:=λvs σ H Q=>∃v r,vs=v::r/\t v σ H λc d=>u r c d Q
theorem zw:xL X [] Ml:=by
 intro pins s σ H vs us Q I r h;obtain⟨e,h⟩:=h;subst e;cases r;exact Yo ⟨σ,H,I,h⟩
theorem pC{e:Qv}{t:TG}{u:CY}(h1:PG X e t)(i:xL X es u)
  (hs:(RT (e::es) X.env).map (·.2)=Wo e X.env::(RT es X.env).map (·.2):=by nofun):xL X (e::es) (Df t u):=by
 intro pins s σ H vs us Q I r h;obtain⟨v,l,j,h⟩:=h;subst j;cases r with
 | cons r g=>
  rw[hs];refine VC (bv (h1 pins s σ H _ _ _ I r h) λ_ f d=>?_);obtain⟨c,H1,I1,q1⟩:=d;exact i pins f c H1 _ _ Q I1 g q1
def JY(K:P7)(n:Nat)(t:CY):TG:=λv σ H Q=>∃a xs,v=.ref a/\ic K H a xs/\xs.length=n/\t xs σ H Q
theorem Dg{k:Nat}{t:CY}{n:Nat}(j:X.calm=true)(h:xL X es t)
  (hn:(RT es X.env).length=n:=by nofun) (d:(RT es X.env).findIdx? (·.1)=none:=by nofun):PG X (.Tuple es k pos) (JY X.K n t):=by
 intro pins s σ H v u Q I r c;obtain⟨a,xs,l,i,hl,c⟩:=c;subst l;cases r;obtain⟨its,f,ht,hz⟩:=I.tuple i;refine assign_Tuple_tuple (I.ok.hd j) ht (by simp[hn,<-hl,f.length]) d λh' g=>?_;have I1:ay X pins σ H {s with heap:=h'}:=I.kept (t':=s.toks) λb o e=>g b o (Qp<|Qc e) e;exact h pins _ σ H xs _ Q I1 (by simpa using f) c
def Mm(c d:TE)(t:JX):TG:=λv σ H Q=>c σ H λo H1=>d σ H1 λi g=>t o i v g λf=>Q σ f
theorem JZ{o i:Qv}{f g:TE}{t:JX}(ho:PE X o f)(z:PE X i g)(hs:Mi X t)
  (C:∀v,Wo (.Subscript o i pos) X.env v=(do
   let c <-SJ [v] (Q0 o X.env);let iv <-SJ [v,c] (Q0 i X.env)
   SI pos
   SJ [v,c,iv] (setItem c iv v)
   release [v,c,iv] []):=by with_unfolding_all (intro _;rfl)):PG X (.Subscript o i pos) (Mm f g t):=by
 intro pins s σ H v u Q I r h;rw[C];refine PZ (QG<|bv (ho pins s σ H _ I h) λc l d=>de d λx H1 I1 p q1=>?_);refine PZ (QG<|bv (z pins l σ H1 _ I1 q1) λiv j d=>de d λy U L m q2=>?_);refine PZ (R1<|PZ<|QG<|bv (hs pins j σ U x y v c iv u _ L p m r q2) λ_ Y ⟨O,I3,q⟩=>?_);exact wpAny_release ⟨σ,O,I3,q⟩
def jj(c:TE)(g:TG):TS:=λD σ H=>c σ H λx H1=>g x σ H1 D.nx
theorem cY{c e:Qv}{d:TE}{g:TG}(he:PE X e d)(m:PG X c g)(hs:swapsWithSole [c] e pos.line X.env=pure false:=by nofun)(l:swappedStores [c] e X.env=pure none:=by nofun)
  (h1:(RT [c] X.env).map (·.2)=[Wo c X.env]:=by nofun):PS X (.Assign [c] e pos) (jj d g):=by
 intro pins s σ H D I h;refine wpAny_Assign_stores (bv (he pins s σ H _ I h) λv i f=>de f λx H1 I1 j q1=>?_) hs l;rw[h1];exact bv (m pins i σ H1 x v _ I1 j q1) λ_ o q=>q
theorem kM{i:Nat}{x:Str}{e:Qv}{c:TE}{pos':Pos}(m:X.N.Nodup)(j:X.N[i]?=some x)(g:dJ X.env.scope x)(he:PE X e c)(hs:RX e (some<|.Name x pos') pos.line X.env=pure false:=by nofun)(l:X.fn x=true∨X.env.scope.names.lookup x=some .local:=by with_unfolding_all (first | exact .inl rfl | exact .inr rfl | assumption)) :
  PS X (.Assign [.Name x pos'] e pos) (jj c<|fY i):=by
 intro pins s σ H D I h;refine VW (bv (he pins s σ H _ I h) λv q d=>de d λy H1 I1 f q1=>?_) hs;exact gm I1 m j g f (λp o=>⟨_,H1,o,q1⟩) l
def Mp(i j:Nat)(c:TA):TS:=λD σ H=>c σ H λvs H1=>∃v w,vs=[v,w]/\D.nx ((σ.set i<|some v).set j (some w)) H1
theorem Dh{i j:Nat}{x y:Str}{a b:Qv}{C:TA}{r m pt:Pos}{kt k2 c}(hc:X.calm=true)(Q:X.N.Nodup)(hi:X.N[i]?=some x)(hj:X.N[j]?=some y)(z:i≠j)
  (O:X.env.scope.names.lookup x=some .local) (L:X.env.scope.names.lookup y=some .local) (ha:PA X [a,b] C)
  (hw:swappedStores [.Tuple [.Name x r,.Name y m] kt pt] (.Tuple [a,b] k2 c) X.env=pure (some [x,y]))
  (hs:swapsWithSole [.Tuple [.Name x r,.Name y m] kt pt] (.Tuple [a,b] k2 c) pos.line X.env=pure false:=by nofun) :
  PS X (.Assign [.Tuple [.Name x r,.Name y m] kt pt] (.Tuple [a,b] k2 c) pos) (Mp i j C):=by
 intro pins s σ H D I h;rw[exec_Assign_arm];refine PZ (R1 ?_);rw[hs];refine PZ (P2 ?_);rw[if_neg (by decide)];refine PZ (Tuple_<|bv (ha _ pins s σ H _ I h) λus g Y=>de Y λvs H1 I1 r1 q1=>?_);obtain⟨v,w,e1,q1⟩:=q1;subst e1;obtain⟨f,d,rfl,Z,l⟩:∃f d,us=[f,d]/\aN v f/\aN w d:=by
  cases r1 with
  | cons p q=>
   cases q with
   | cons p' q'=>
    cases q';exact⟨_,_,rfl,p,p'⟩
 refine QT ?_ (by show 2≤Qf;decide);have I2:ay X pins σ H1 {g with heap:=g.heap.push {cls:=.type "tuple",data:=.seq [f,d].toArray}}:=I1.kept (t':=g.toks) λb o e=>P1 _ e;rw[hw];refine PZ (P2 ?_);show Qa (Qd X.prog X.w) X.A (do rule "assign.swapped-stores";let items <-unpackItems (.ref g.heap.objs.size) 2 none;V3 [λv=>WZ X.env y v,λv=>WZ X.env x v] items.reverse;pure Flow.next) _ _ _;refine PZ (Uj<|PZ<|unpackItems_tuple (items:=#[f,d]) (I.ok.hd hc) (YO g.heap _) λh' u=>?_);have I3:=I2.kept (h':=h') (t':=g.toks) λb o e=>u b o (Qp<|Qc e) e;show Qa _ _ (V3 [λv=>WZ X.env y v,λv=>WZ X.env x v] [d,f] >>= λ_=>pure Flow.next) _ _ _;refine PZ (VC<|ZB<|gm I3 Q hj (.inl L) l (λs2 I4=>?_)<|.inr L);refine VC (ZB<|gm I4 Q hi (.inl O) Z (λs3 U=>Yo (P2 ?_))<|.inr O);rw[aa6 _ _ (RO z)] at U;exact⟨_,H1,U,q1⟩
def Mq(i:Nat)(d:TE)(c:Mj):TS:=λD σ H=>∃x,σ[i]?=some (some x)/\d σ H λy H1=>c x y H1 λz f=>D.nx (σ.set i<|some z) f
theorem xQ{i:Nat}{x:Str}{e:Qv}{L:TE}{p:ZA}{C:Mj}{pos':Pos}(hN:X.N.Nodup)(O:X.N[i]?=some x)(q:dJ X.env.scope x)(he:PE X e L)(ho:Pk X p C)(hf:X.fn x=true∨X.env.scope.names.lookup x=some .local:=by with_unfolding_all (first | exact .inl rfl | exact .inr rfl | assumption)) :
  PS X (.AugAssign (.Name x pos') p e pos) (Mq i L C):=by
 intro pins s σ H D I h;obtain⟨v,e1,h⟩:=h;obtain⟨m,hn,hl⟩:=I.loc;have o:JO X.env.scope x:=by rcases q with k | k;exact .inl k;exact .inr (.inl k)
 obtain⟨u,r,l⟩:=hl i x v O e1 o;refine wpAny_AugAssign_Name ?_;have go:Qa (Qd X.prog X.w) X.A (Q0 e X.env) (λw g=>Qa (Qd X.prog X.w) X.A (inplaceOp p u w) (λr f=>Qa (Qd X.prog X.w) X.A (YN X.env x r) (λ_=>SP X pins D .next) X.xe f) X.xe g) X.xe s:=by
  refine bv (he pins s σ H _ I h) λw Q j=>de j λy H1 I1 Y q1=>?_;refine bv (ho pins Q σ H1 v y u w _ I1 r Y q1) λz s2 j=>de j λzv H2 I2 U q2=>?_;exact gm I2 hN O q U (λs3 I3=>⟨_,H2,I3,q2⟩) hf
 rcases l with ⟨hk,Z⟩ | ⟨hk,c,hc,d⟩
 ·exact U7 I.ok.kind hk hn Z go
 ·rcases hk with hk | hk
  ·exact Xr I.ok.kind hk hc d go
  ·rcases q with k | k
   ·have:X.env.scope.names.lookup x=some .free:=hk;rw[k] at this;cases this
   ·have:X.env.scope.names.lookup x=some .free:=hk;rw[k] at this;cases this
def Pl(f:Int->Int->Int):Mj:=λx y H Q=>∃i j,x=.int i/\y=.int j/\Q (.int<|f i j) H
theorem xR:Pk X .Add (Pl λi j=>i+j):=by
 intro pins s σ H x y v u Q I d c h;obtain⟨i,j,g,f,q⟩:=h;subst g;subst f;obtain⟨t,rfl⟩:=d;obtain⟨t',rfl⟩:=c;exact iadd_int ⟨.int _,H,I.tok _,⟨_,rfl⟩,q⟩
end
section
variable{X:Cx}
def Di(c:TT)(h:TS):TS:=λD σ H=>∃W:Nat->St->Hp->Prop,(∃m,W m σ H)/\∀m σ H,W m σ H ->
 c σ H λb H1=>if b=true then ∃N:St->Hp->Prop,(∀d g,N d g->∃f,f < m/\W f d g)/\h {D with nx:=N,ct:=N,bk:=D.nx} σ H1 else D.nx σ H1
theorem Dj{c:Qv}{body:List SK}{r:TT}{u:TS}(x:Xm (Qd X.prog X.w) X.A X.env X.xe)(hc:PT X c r)(hb:gC X body u):PS X (.While c body [] pos) (Di r u):=by
 intro pins s σ H D I h;obtain⟨W,⟨m0,U⟩,turn⟩:=h;refine wpAny_While (codeAny_whileLoop (λn s'=>∃i O,ay X pins i O s'/\W n i O) ?_ m0 ⟨σ,H,I,U⟩);rintro n Z ⟨g,H1,I1,Q⟩;refine SR x (bv (hc pins Z g H1 _ I1<|turn n g H1 Q) λb Y ⟨L,C,q2⟩=>?_);cases b with
 | true=>
  obtain⟨N,z,q2⟩:=q2;rw[if_pos rfl];refine SR x (bv (hb pins Y g L _ C q2) λf s3 l=>?_);cases f with
  | next=>
   obtain⟨d,j,I3,o⟩:=l;obtain⟨p,q,m⟩:=z d j o;exact⟨p,q,d,j,I3,m⟩
  | cont=>
   obtain⟨d,j,I3,o⟩:=l;obtain⟨p,q,m⟩:=z d j o;exact⟨p,q,d,j,I3,m⟩
  | brk=>exact l
  | ret v=>exact l
 | false=>
  rw[if_neg Qr];exact SQ ⟨g,L,C,q2⟩
end
structure It where
 go:Nat->Hp->Prop
 yld:Nat->Hp->V->Hp->Prop
 stop:Nat->Hp->Prop
def jd(X:Cx)(pins:List (P3×Obj))(H:Hp)(b:P3):Prop :=
 H b=none/\b≠X.env.locals/\b∉X.fs/\(b∈X.ex∨X.s₀.heap.objs.size≤b)/\(∀x c,X.env.cells.lookup x=some c->c≠b)/\∀p∈X.pn++pins,p.1≠b
theorem ay.fpOk{X:Cx}{σ:St}{H d:Hp}{b:P3}(I:ay X pins σ H s)(hb:s.heap.objs.size≤b)(hn:d b=none):jd X pins d b:=by
 refine⟨hn,Tj<|Qw I.lt hb,I.nofs hb,.inr<|Rg I.sz hb,λx c e z=>?_,λp f z=>?_⟩
 ·obtain⟨v,q⟩:=I.cell x c e;exact absurd (Qw q.lt<|by rw[z];exact hb) (RL _)
 ·exact absurd (Qw (Qc (I.pin p f).1)<|by rw[z];exact hb) (RL _)
structure vX(P:QK)(w:Q4)(K:P7)(tg:Qv)(J:It)(fp:List P3)(it:P3)(tn:Nat->QO->Prop):Prop where
 mem:it∈fp
 obj:∀i h,tn i h->∀b∈fp,∃o,h.get? b=some o/\∀v,o.data≠.cell v
 keep:∀i h h',tn i h->(∀b∈fp,∀o,h.get? b=some o->h'.get? b=some o)->tn i h'
 item:∀(X:Cx),X.prog=P->X.w=w->X.K=K->X.calm=true->∀(i:Nat) (pins:List (P3×Obj)) (s:P5) (σ:St) (H:Hp) (E:P0->P5->Prop),ay X pins σ H s->(∀b∈fp,jd X pins H b)->tn i s.heap->J.go i H ->
  Qa (Qd P w) X.A (Vj<|.ref it) (λr s1=>∃u,r=some u /\
   Qa (Qd P w) X.A (Vk tg (.ref it) u) (λ_ s2=>∃x H',ay X pins σ H' s2/\aN x u/\J.yld i H x H'/\tn (i+1) s2.heap/\∀b∈fp,H' b=none) E s1) E s
 done:∀(X:Cx),X.prog=P->X.w=w->X.K=K->X.calm=true->∀(i:Nat) (pins:List (P3×Obj)) (s:P5) (σ:St) (H:Hp) (E:P0->P5->Prop),ay X pins σ H s->(∀b∈fp,jd X pins H b)->tn i s.heap->J.stop i H ->
  Qa (Qd P w) X.A (Vj<|.ref it) (λr s1=>r=none/\ay X pins σ H s1) E s
 self:∀(A:RN) (i:Nat) (s:P5) (Q:P0->P5->Prop) (E:P0->P5->Prop),tn i s.heap->Q (.ref it) s->Qa (Qd P w) A (W0<|.ref it) Q E s
abbrev TI:=St->Hp->(It->Hp->Prop)->Prop
def Os(X:Cx)(pins:List (P3×Obj))(σ:St)(i:Qv)(R:It->Hp->Prop)(c:P0)(g:P5):Prop :=
 ∃(it:P3) (h:List P3) (f:Nat->QO->Prop) (J:It) (d:Hp),c=.ref it/\ay X pins σ d g/\vX X.prog X.w X.K i J h it f/\f 0 g.heap/\(∀b∈h,jd X pins d b)/\R J d
def PI(X:Cx)(d iter:Qv)(c:TI):Prop :=
 ∀(pins:List (P3×Obj)) (s:P5) (σ:St) (H:Hp) (R:It->Hp->Prop),ay X pins σ H s->c σ H R ->
  Qa (Qd X.prog X.w) X.A (Q0 iter X.env) (λv f=>Qa (Qd X.prog X.w) X.A (W0 v) (Os X pins σ d R) X.xe f) X.xe s

theorem vY{M:Yl}{c:Qv}{it:P3}{u:P0}{o:Obj}{n:String}{vs:Array P0}{Q:Unit->P5->Prop}(ho:s.heap.get? it=some o)(d:o.cls=.type n)(hd:o.data=.fields vs)
    (hn:["enumerate","zip","dict_itemiterator","dict_reverseitemiterator","odict_iterator","itertools.zip_longest","itertools.pairwise"].contains n=false) (hQ:Q () s):Qa M A (Vk c (.ref it) u) Q E s:=by
  unfold Vk;cases c<;>first
    | exact P2 hQ
    | (cases u<;>first
        | exact P2 hQ
        | (refine PZ (wpAny_load ho ?_)
           rw[d,hd];show Qa M A (if (["enumerate","zip","dict_itemiterator","dict_reverseitemiterator","odict_iterator","itertools.zip_longest","itertools.pairwise"].contains n&&vs[0]?==some (SF _))=true then _ else _) Q E s;rw[if_neg (by intro h;rw[hn,Bool.false_and] at h;cases h)];exact P2 hQ))

def Pm(K:P7)(a:P3):It :=
 ⟨λi H=>∃xs x,ie K H a xs/\xs[i]?=some x,λi H x c=>c=H/\∀xs,ie K H a xs->xs[i]?=some x,λi H=>∃xs,ie K H a xs/\xs.length≤i⟩
def Pn(K:P7)(a:P3):It :=
 ⟨λi H=>∃xs x,ic K H a xs/\xs[i]?=some x,λi H x c=>c=H/\∀xs,ic K H a xs->xs[i]?=some x,λi H=>∃xs,ic K H a xs/\xs.length≤i⟩
def N7(lo:Int)(n:Nat):It:=⟨λi _=>i<n,λi H x c=>c=H/\x=.int (lo+i),λi _=>n≤i⟩
theorem Bc{tg:Qv}(a it:P3):vX P w K tg (Pm K a) [it] it (λi h=>h.IsListIter it a i) where
 mem:=by simp
 obj:=λi h st b hb=>by
  have e:b=it:=by simpa using hb
  subst e;obtain⟨o,e,c,d⟩:=st;exact⟨o,e,λv z=>by rw[d] at z;cases z⟩
 keep:=λi h h' st k=>st.at λo e=>k it (by simp) o e
 item:=by
  intro X hP q C Z i pins s σ H E I j st r;subst hP q C;obtain⟨xs,x,g,m⟩:=r;obtain⟨its,l,p,hz⟩:=I.list g;obtain⟨u,hu,ru⟩:=l.get m;obtain⟨Y,U,f2,Q,O,L⟩:=j it (by simp);refine wpAny_pyNext_list_item st p.isList (x:=u) (by simpa using hu) λh' f sb=>?_;have I1:ay X pins σ H {s with heap:=h'}:=I.turned (t':=s.toks) (λb o hb e=>(sb.2 b hb).trans e) Y U Q O L;obtain⟨o,e,c,d⟩:=id f;exact⟨u,rfl,vY (s:={s with heap:=h'}) e c d (by decide) ⟨x,H,I1,ru,⟨rfl,λys hy=>by rw[I.list_inj hy g];exact m⟩,f,λb hb=>(j b hb).1⟩⟩
 done:=by
  intro X hP q C Z i pins s σ H E I j st r;subst hP q C;obtain⟨xs,g,m⟩:=r;obtain⟨its,l,p,hz⟩:=I.list g;obtain⟨Y,U,f2,Q,O,L⟩:=j it (by simp);have hl:=l.length;exact wpAny_pyNext_list_end (I.ok.hd Z) st p.isList (by simp;omega) λh' eb=>⟨rfl,I.turned (t':=s.toks) (λb o hb e=>eb b o hb e) Y U Q O L⟩
 self:=λ_ _ _ _ _ st h=>wpAny_pyIter_listiter st h
theorem xT{tg:Qv}(a it:P3):vX P w K tg (Pn K a) [it] it (λi h=>h.IsTupleIter it a i) where
 mem:=by simp
 obj:=λi h st b hb=>by
  have e:b=it:=by simpa using hb
  subst e;obtain⟨o,e,c,d⟩:=st;exact⟨o,e,λv z=>by rw[d] at z;cases z⟩
 keep:=λi h h' st k=>st.at λo e=>k it (by simp) o e
 item:=by
  intro X hP q C Z i pins s σ H E I j st r;subst hP q C;obtain⟨xs,x,g,m⟩:=r;obtain⟨its,l,p,hz⟩:=I.tuple g;obtain⟨u,hu,ru⟩:=l.get m;obtain⟨Y,U,f2,Q,O,L⟩:=j it (by simp);refine wpAny_pyNext_tuple_item st (show s.heap.IsTuple a its.toArray from p) (x:=u) (by simpa using hu) λh' f sb=>?_;have I1:ay X pins σ H {s with heap:=h'}:=I.turned (t':=s.toks) (λb o hb e=>(sb.2 b hb).trans e) Y U Q O L;obtain⟨o,e,c,d⟩:=id f;exact⟨u,rfl,vY (s:={s with heap:=h'}) e c d (by decide) ⟨x,H,I1,ru,⟨rfl,λys hy=>by rw[I.tuple_inj hy g];exact m⟩,f,λb hb=>(j b hb).1⟩⟩
 done:=by
  intro X hP q C Z i pins s σ H E I j st r;subst hP q C;obtain⟨xs,g,m⟩:=r;obtain⟨its,l,p,hz⟩:=I.tuple g;obtain⟨Y,U,f2,Q,O,L⟩:=j it (by simp);have hl:=l.length;exact wpAny_pyNext_tuple_end (I.ok.hd Z) st (show s.heap.IsTuple a its.toArray from p) (by simp;omega) λh' eb=>⟨rfl,I.turned (t':=s.toks) (λb o hb e=>eb b o hb e) Y U Q O L⟩
 self:=λ_ _ _ _ _ st h=>wpAny_pyIter_tupleiter st h
theorem xU{C:Qv}(it:P3)(lo:Int)(n:Nat):vX P w K C (N7 lo n) [it] it (λi h=>W1 h it (lo+(i:Nat)*1) ((n:Int) - (i:Nat)) 1) where
 mem:=by simp
 obj:=λi h st b hb=>by
  have e:b=it:=by simpa using hb
  subst e;exact⟨_,st,λv z=>by
   have x:ad8 _=Data.cell v:=z;cases x⟩
 keep:=λi h h' st k=>k it (by simp) _ st
 item:=by
  intro X hP f l j i pins s σ H E I d st g;subst hP f l;obtain⟨u,r,Q,q,p,m⟩:=d it (by simp);have W:=ad9 (prog:=X.prog) (w:=X.w) (I.ok.hd j) it lo 1 n;refine W.item i s _ _ g st λv h' tk O c L=>?_;obtain⟨t,rfl⟩:=O;have I1:ay X pins σ H {s with heap:=h',toks:=tk}:=I.turned (λb o hb e=>L b o (by simpa using hb) e) u r q p m;refine⟨_,rfl,vY (s:={s with heap:=h',toks:=tk}) (n:="range_iterator") c rfl rfl (by decide) ⟨.int<|lo+i,H,I1,⟨t,?_⟩,⟨rfl,rfl⟩,c,λb hb=>(d b hb).1⟩⟩;rw[ae0]
 done:=by
  intro X hP f l j i pins s σ H E I d st g;subst hP f l;obtain⟨u,r,Q,q,p,m⟩:=d it (by simp);exact Wp (I.ok.hd j) st (by have:n≤i:=g;omega) λh' U=>⟨rfl,I.turned (t':=s.toks) (λb o hb e=>U b o hb e) u r q p m⟩
 self:=λ_ _ _ _ _ st h=>Wq st h
section
variable{X:Cx}{tg:Qv}
def IT(K:P7)(tl:TE):TI:=λσ H R=>tl σ H λx H1=>∃a,x=.ref a/\(∃xs,ie K H1 a xs)/\R (Pm K a) H1
def Mr(K:P7)(tl:TE):TI:=λσ H R=>tl σ H λx H1=>∃a,x=.ref a/\(∃xs,ic K H1 a xs)/\R (Pn K a) H1
theorem f8{l:Qv}{tl:TE}(i:PE X l tl):PI X tg l (IT X.K tl):=by
 intro pins s σ H R I h;refine bv (i pins s σ H _ I h) λv c d=>de d λx H1 I1 f q1=>?_;obtain⟨a,e,⟨xs,g⟩,q⟩:=q1;subst e;cases f;obtain⟨its,j,p,hz⟩:=I1.list g;refine VX p.isList ?_;refine⟨c.heap.objs.size,[c.heap.objs.size],_,_,H1,rfl,I1.kept (t':=c.toks) λb o e=>P1 _ e,Bc a _,⟨_,P8 _ rfl,rfl,rfl⟩,λb hb=>?_,q⟩;have e:b=c.heap.objs.size:=by simpa using hb
 subst e;exact I1.fpOk (Qi _) (I1.hok.fresh<|Qi _)
theorem cS{l:Qv}{tl:TE}(i:PE X l tl):PI X tg l (Mr X.K tl):=by
 intro pins s σ H R I h;refine bv (i pins s σ H _ I h) λv c d=>de d λx H1 I1 f q1=>?_;obtain⟨a,e,⟨xs,g⟩,q⟩:=q1;subst e;cases f;obtain⟨its,j,p,hz⟩:=I1.tuple g;refine X3 (show c.heap.IsTuple a its.toArray from p) ?_;refine⟨c.heap.objs.size,[c.heap.objs.size],_,_,H1,rfl,I1.kept (t':=c.toks) λb o e=>P1 _ e,xT a _,⟨_,P8 _ rfl,rfl,rfl⟩,λb hb=>?_,q⟩;have e:b=c.heap.objs.size:=by simpa using hb
 subst e;exact I1.fpOk (Qi _) (I1.hok.fresh<|Qi _)
theorem Dk{σ:St}{H:Hp}{R:It->Hp->Prop}{lo c:Int}{t u v:Tok}{tk:Nat}(I:ay X pins σ H s)(h1:-(2 ^ 62)≤lo)(g:lo<2 ^ 62)(f:-(2 ^ 62)≤c)(d:c<2 ^ 62)
  (q:R (N7 lo (c - lo).toNat) H):Qa (Qd X.prog X.w) X.A (W0<|.ref s.heap.objs.size) (Os X pins σ tg R) E {s with heap:=s.heap.push {cls:=.type "range",data:=.fields #[.int lo t,.int c u,.int 1 v]},toks:=tk}:=by
 refine X4 (ae1 ..) (small_one h1 g f d) ?_;have I1:ay X pins σ H {s with heap:=s.heap.push {cls:=.type "range",data:=.fields #[.int lo t,.int c u,.int 1 v]},toks:=tk}:=I.kept λb o e=>P1 _ e;refine⟨(s.heap.push {cls:=.type "range",data:=.fields #[.int lo t,.int c u,.int 1 v]}).objs.size,[(s.heap.push {cls:=.type "range",data:=.fields #[.int lo t,.int c u,.int 1 v]}).objs.size],_,_,H,rfl,
  I1.kept (t':=tk) λb o e=>P1 _ e,xU _ lo (c - lo).toNat,?_,λb hb=>?_,q⟩
 ·have i:lo+((0:Nat):Int)*1=lo:=by simp
  have h:(((c - lo).toNat:Nat):Int) - ((0:Nat):Int)=Up lo c 1:=by rw[rangeSize_one];split<;>omega
  show W1 _ _ (lo+((0:Nat):Int)*1) ((((c - lo).toNat:Nat):Int) - ((0:Nat):Int)) 1;rw[i,h];exact P8 _ rfl
 ·have e:b=(s.heap.push {cls:=.type "range",data:=.fields #[.int lo t,.int c u,.int 1 v]}).objs.size:=by simpa using hb
  subst e;exact I1.fpOk (Qi _) (I1.hok.fresh<|Qi _)
def IU(c:TA):TI:=λσ H R=>c σ H λvs H1=>∃j:Int,vs=[.int j]/\-(2 ^ 62)≤j/\j<2 ^ 62/\R (N7 0 j.toNat) H1
theorem jN{a:Qv}{c:TA}{p pos:Pos}(l:Gl X "range")(i:X.mg "range" = none)(m:PA X [a] c)(hs:Qy [a] X.env=[(false,Q0 a X.env)]:=by nofun):PI X tg (.Call (.Name "range" p) [a] [] pos) (IU c):=by
 intro pins s σ H R I h;refine Call_ (kK I l i boot_range<|TK (bv (m pos pins s σ H _ I h) λus o d=>de d λvs H1 I1 g q1=>?_) hs rfl);obtain⟨j,e,q1,q2,q⟩:=q1;subst e;cases g with
 | cons r f=>
  cases f;obtain⟨t,rfl⟩:=r;exact call_range_1 (Dk I1 (by omega) (by omega) q1 q2<|by simpa using q)
def Ms(j:TI)(g:TG)(l:TS):TS:=λD σ H=>j σ H λJ H1=>∃W:Nat->Nat->St->Hp->Prop,(∃m,W 0 m σ H1)/\∀i m σ H,W i m σ H ->
 (J.stop i H/\D.nx σ H)∨(J.go i H/\∃N:St->Hp->Prop,(∀c d,N c d->∃h,h < m/\W (i+1) h c d)/\∀x d,J.yld i H x d->g x σ d λf o=>l {D with nx:=N,ct:=N,bk:=D.nx} f o)
def pE(c:List P3)(h:QO):List (P3×Obj):=c.filterMap λb=>(h.get? b).map λo=>(b,o)
theorem iC{c:List P3}{h:QO}{b:P3}{o:Obj}(hb:b∈c)(e:h.get? b=some o):(b,o)∈pE c h:=VD.mpr ⟨b,hb,by rw[e];rfl⟩
theorem Be{c:List P3}{h:QO}{p:P3×Obj}(d:p∈pE c h):p.1∈c/\h.get? p.1=some p.2:=by
 obtain⟨b,hb,e⟩:=VD.mp d;cases q:h.get? b with
 | none=>rw[q] at e;cases e
 | some o=>
  rw[q] at e;have f:(b,o)=p:=Qu e;subst f;exact⟨hb,q⟩
theorem ay.pinned{σ:St}{H:Hp}{c:List P3}(I:ay X pins σ H s)(h:∀b∈c,jd X pins H b)(ho:∀b∈c,∃o,s.heap.get? b=some o/\∀v,o.data≠.cell v):ay X (pins++pE c s.heap) σ H s :=
 I.pins_of λp g=>(Rc.mp g).elim (λz=>I.pin p (Qk _ z)) λz=>by
  obtain⟨hb,e⟩:=Be z;obtain⟨l,j,i,_⟩:=h p.1 hb;obtain⟨o,f,d⟩:=ho p.1 hb;rw[e] at f;cases f;exact⟨e,l,j,i,d⟩
theorem ay.unpinned{pins pl:List (P3×Obj)}{σ:St}{H:Hp}(I:ay X (pins++pl) σ H s):ay X pins σ H s:=I.pins_of λp c=>I.pin p (Qk _<|Rq _ c)
theorem Dl{iter:Qv}{body:List SK}{wi:TI}{g:TG}{tb:TS}(hp:Xm (Qd X.prog X.w) X.A X.env X.xe)(hc:X.calm=true)(hi:PI X tg iter wi)(hg:PG X tg g)(hb:gC X body tb)
  (hs:∀x,RH iter X.env x=pure x:=by with_unfolding_all (intro _;rfl)):PS X (.For tg iter body [] pos) (Ms wi g tb):=by
 intro pins s σ H D I h;refine wpAny_For (bv (hi pins s σ H _ I h) λv s1 h1=>bv h1 λitv s2 h2=>?_) hs;obtain⟨it,fp,tn,J,H2,e,I2,T,st2,f2,W,⟨m0,w0⟩,turn⟩:=h2;subst e
 -- what stays true of the O Y through the loop
 have p:∀{C:Hp},(∀b∈fp,C b=none)->∀b∈fp,jd X pins C b:=λhn b hb=>⟨hn b hb,(f2 b hb).2⟩
 refine codeAny_forLoop_any (λn s'=>∃i l C,ay X pins l C s'/\tn i s'.heap/\(∀b∈fp,C b=none)/\W i n l C) ?_ m0 ⟨0,σ,H2,I2,st2,λb hb=>(f2 b hb).1,w0⟩;rintro n s3 ⟨i,j,H3,I3,U,fr3,w3⟩;rcases turn i n j H3 w3 with ⟨stop,qn⟩ | ⟨go,N,hN,step⟩
 ·refine SR hp (bv (T.done X rfl rfl rfl hc i pins s3 j H3 X.xe I3 (p fr3) U stop) λr s4 ⟨hr,I4⟩=>?_);subst hr;exact SQ ⟨j,H3,I4,qn⟩
 ·refine SR hp (bv (T.item X rfl rfl rfl hc i pins s3 j H3 X.xe I3 (p fr3) U go) λr s4 ⟨u,hr,h4⟩=>?_);subst hr;refine SR hp (bv h4 λ_ s5 z9=>?_);obtain⟨x,H5,I5,r5,y5,Q,fr5⟩:=z9;have I5':=I5.pinned (p fr5) (T.obj _ _ Q);refine SR hp (bv (hg _ s5 j H5 x u _ I5' r5<|step x H5 y5) λ_ s6 z9=>?_);obtain⟨σ6,H6,I6,q6⟩:=z9;refine SR hp (bv (hb _ s6 σ6 H6 _ I6 q6) λf s7 L=>?_);have again:∀{c:St} {z:Hp},ay X (pins++pE fp s5.heap) c z s7->N c z->∃m,m<n/\∃i l C,ay X pins l C s7/\tn i s7.heap/\(∀b∈fp,C b=none)/\W i m l C:=λ{c z} q Z=>by
   obtain⟨m',hm,w7⟩:=hN c z Z;refine⟨m',hm,i+1,c,z,q.unpinned,T.keep _ _ _ Q λb hb o e=>(q.pin (b,o)<|Qk _<|Qk _<|iC hb e).1,λb hb=>?_,w7⟩;obtain⟨o,e,d⟩:=T.obj _ _ Q b hb;exact(q.pin (b,o)<|Qk _<|Qk _<|iC hb e).2.1
  cases f with
  | next=>obtain⟨c,z,q,Z⟩:=L;exact again q Z
  | cont=>obtain⟨c,z,q,Z⟩:=L;exact again q Z
  | brk=>obtain⟨c,z,q,L⟩:=L;exact⟨c,z,q.unpinned,L⟩
  | ret v=>obtain⟨x7,c,z,q,r7,L⟩:=L;exact⟨x7,c,z,q.unpinned,r7,L⟩
end
abbrev R2:=V->V->Hp->VK->Prop
def kN(X:Cx)(f:P0->P0->Sem P0)(r:R2):Prop :=
 ∀(pins:List (P3×Obj)) (s:P5) (σ:St) (H:Hp) (x y:V) (v u:P0) (Q:VK),ay X pins σ H s->aN x v->aN y u->r x y H Q ->
  Qa (Qd X.prog X.w) X.A (f v u) (EP X pins σ Q) X.xe s
def Ot(X:Cx)(f:P0->Sem P0)(r:V->Hp->VK->Prop):Prop :=
 ∀(pins:List (P3×Obj)) (s:P5) (σ:St) (H:Hp) (x:V) (v:P0) (Q:VK),ay X pins σ H s->aN x v->r x H Q ->
  Qa (Qd X.prog X.w) X.A (f v) (EP X pins σ Q) X.xe s
def cZ(X:Cx)(f:P0)(r:List V->Hp->VK->Prop):Prop :=
 ∀(pins:List (P3×Obj)) (s:P5) (σ:St) (H:Hp) (xs:List V) (us:List P0) (Q:VK),ay X pins σ H s->aJ xs us->r xs H Q ->
  Qa (Qd X.prog X.w) X.A (call f us) (EP X pins σ Q) X.xe s
def Mt(X:Cx)(r:V->Hp->(Bool->Hp->Prop)->Prop):Prop :=
 ∀(pins:List (P3×Obj)) (s:P5) (σ:St) (H:Hp) (x:V) (v:P0) (Q:Bool->Hp->Prop),ay X pins σ H s->aN x v->r x H Q ->
  Qa (Qd X.prog X.w) X.A (ac7 v) (TP X pins σ Q) X.xe s

def J0(r:R2)(d c:TE):TE:=λσ H Q=>d σ H λx H1=>c σ H1 λy f=>r x y f Q
def PB(r:V->Hp->VK->Prop)(c:TE):TE:=λσ H Q=>c σ H λx H1=>r x H1 Q
def rI(C:Int->Int->Prop)(g:Int->Int->V):R2:=λx y H Q=>∃i j,x=.int i/\y=.int j/\C i j/\Q (g i j) H
def xW(g:Int->Int->V):R2:=λx y H Q=>∃i j,x=.int i/\y=.int j/\Q (g i j) H
def rU(g:Int->V):V->Hp->VK->Prop:=λx H Q=>∃i,x=.int i/\Q (g i) H

section
variable{X:Cx}{a b c:Qv}{ta tb tc:TE}
theorem J2(q:PE X a ta)(hb:PE X b tb){σ:St}{H:Hp}{R:V->V->Hp->Prop}(I:ay X pins σ H s)
  (h:ta σ H λx H1=>tb σ H1 λy d=>R x y d) {Q:P0->P5->Prop} {f:P0->P0->Sem P0}
  (p:∀v u i x y d,ay X pins σ d i->aN x v->aN y u->R x y d->Qa (Qd X.prog X.w) X.A (f v u) Q X.xe i) :
  Qa (Qd X.prog X.w) X.A (Q0 a X.env) (λv s₁=>Qa (Qd X.prog X.w) X.A (Q0 b X.env) (λu g=>Qa (Qd X.prog X.w) X.A (f v u) Q X.xe g) X.xe s₁) X.xe s:=by
 refine bv (q pins s σ H _ I h) λv l j=>de j λx H1 I1 o q1=>?_;refine bv (hb pins l σ H1 _ I1 q1) λu i j=>de j λy d r m q2=>?_;exact p v u i x y d r o m q2

theorem fu{d:ZA}{r:R2}(ho:kN X (Td d) r)(j:PE X a ta)(hb:PE X b tb):PE X (.BinOp a d b pos) (J0 r ta tb):=by
 intro pins s σ H Q I h;exact wpAny_BinOp (J2 j hb I h λv u f x y m l i g q=>ho pins f σ m x y v u Q l i g q)
theorem Mu{d:UnaryOp}{r:V->Hp->VK->Prop}(ho:Ot X (unaryOp d) r)(j:PE X a ta):PE X (.UnaryOp d a pos) (PB r ta):=by
 intro pins s σ H Q I h;exact UnaryOp_ (bv (j pins s σ H _ I h) λv g f=>de f λx H1 I1 i q1=>ho pins g σ H1 x v Q I1 i q1)
theorem N8{f:P0->P0->Sem P0}{C:Int->Int->Prop}{g:Int->Int->Int}
  (rule:∀(i j:Int) (t u:Tok) (s:P5) (Q:P0->P5->Prop) (E:P0->P5->Prop),C i j->Q (.int (g i j) s.toks) {s with toks:=s.toks+1}->Qa (Qd X.prog X.w) X.A (f (.int i t)<|.int j u) Q E s) :
  kN X f (rI C λi j=>.int (g i j)):=by
 intro pins s σ H x y v u Q I l d h;obtain⟨i,j,rfl,rfl,m,q⟩:=h;obtain⟨t,rfl⟩:=l;obtain⟨t',rfl⟩:=d;exact rule i j t t' s _ _ m ⟨.int<|g i j,H,I.tok _,⟨_,rfl⟩,q⟩
theorem Mv{f:P0->P0->Sem P0}{g:Int->Int->Int}
  (rule:∀(i j:Int) (t u:Tok) (s:P5) (Q:P0->P5->Prop) (E:P0->P5->Prop),Q (.int (g i j) s.toks) {s with toks:=s.toks+1}->Qa (Qd X.prog X.w) X.A (f (.int i t)<|.int j u) Q E s) :
  kN X f (xW λi j=>.int (g i j)):=by
 intro pins s σ H x y v u Q I l d h;obtain⟨i,j,rfl,rfl,q⟩:=h;obtain⟨t,rfl⟩:=l;obtain⟨t',rfl⟩:=d;exact rule i j t t' s _ _ ⟨.int<|g i j,H,I.tok _,⟨_,rfl⟩,q⟩
theorem J3{f:P0->P0->Sem P0}{g:Int->Int->Bool}
  (rule:∀(i j:Int) (t u:Tok) (s:P5) (Q:P0->P5->Prop) (E:P0->P5->Prop),Q (.bool<|g i j) s->Qa (Qd X.prog X.w) X.A (f (.int i t)<|.int j u) Q E s) :
  kN X f (xW λi j=>.bl (g i j)):=by
 intro pins s σ H x y v u Q I l d h;obtain⟨i,j,rfl,rfl,q⟩:=h;obtain⟨t,rfl⟩:=l;obtain⟨t',rfl⟩:=d;exact rule i j t t' s _ _ ⟨.bl<|g i j,H,I,rfl,q⟩

def Ou(i j:Int):Prop:=0<j/\j<1073741824
def Ov(i j:Int):Prop:=0≤j/\j≤1000000/\i.natAbs<2 ^ 64
def Gd(i j:Int):Prop:=(-(2 ^ 64)<i/\i<2 ^ 64)∨(-(2 ^ 64)<j/\j<2 ^ 64)
theorem Gd.ok{i j:Int}(h:Gd i j):IntMulOk i j:=by
 rcases h with ⟨h1,d⟩ | ⟨h1,d⟩
 ·exact .of_left (intBits_le_64 h1 d)
 ·exact .of_right (intBits_le_64 h1 d)
theorem fR:kN X (Td .Add) (xW λi j=>.int (i+j)):=Mv λ_ _ _ _ _ _ _ q=>add_int q
theorem uw:kN X (Td .Sub) (xW λi j=>.int (i - j)):=Mv λ_ _ _ _ _ _ _ q=>sub_int q
theorem pF:kN X (Td .Mult) (rI Gd λi j=>.int (i*j)):=N8 λ_ _ _ _ _ _ _ d q=>mul_int q d.ok
theorem ux:kN X (Td .FloorDiv) (rI Ou λi j=>.int (i / j)):=N8 λi j _ _ _ _ _ d q=>by
 have h1:(0:Int)<j:=d.1;have f:j<1073741824:=d.2;exact floordiv_int (by omega) (by rw[Int.fdiv_eq_ediv_of_nonneg i (by omega)];exact q) (.inl<|Ws<|by omega)
theorem mB:kN X (Td .Mod) (rI (λ_ j=>0<j) λi j=>.int (i%j)):=N8 λi j _ _ _ _ _ d q=>by
 have h1:(0:Int)<j:=d;exact mod_int' (by omega) (by rw[Int.fmod_eq_emod_of_nonneg i (by omega)];exact q)
theorem Dm:kN X (Td .Pow) (rI Ov λi j=>.int (i ^ j.toNat)):=N8 λ_ _ _ _ _ _ _ d q=>pow_int_small d.1 d.2.1 d.2.2 q
theorem PD{f:P0->Sem P0}{g:Int->Int}
  (rule:∀(i:Int) (t:Tok) (s:P5) (Q:P0->P5->Prop) (E:P0->P5->Prop),Q (.int (g i) s.toks) {s with toks:=s.toks+1}->Qa (Qd X.prog X.w) X.A (f<|.int i t) Q E s) :
  Ot X f (rU λi=>.int (g i)):=by
 intro pins s σ H x v Q I d h;obtain⟨i,rfl,q⟩:=h;obtain⟨t,rfl⟩:=d;exact rule i t s _ _ ⟨.int<|g i,H,I.tok _,⟨_,rfl⟩,q⟩
theorem J4:Ot X (unaryOp .USub) (rU λi=>.int (-i)):=PD λ_ _ _ _ _ q=>neg_int q
end
def Dn:V->V->Bool
 | .non,.non=>true | .non,.int _=>true | .int _,.non=>true | .non,.bl _=>true | .bl _,.non=>true | .non,.str _=>true | .str _,.non=>true
 | .int _,.int _=>true | .bl _,.bl _=>true | .str _,.str _=>true | .byt _,.byt _=>true
 | .int _,.str _=>true | .str _,.int _=>true | .bl _,.str _=>true | .str _,.bl _=>true
 | _,_=>false
def Po:R2:=λx y H Q=>Dn x y=true/\Q (.bl<|decide<|x=y) H
def Pp:R2:=λx y H Q=>Dn x y=true/\Q (.bl<|!decide (x=y)) H

theorem zx{i j:Int}:decide (V.int i=V.int j)=(i==j):=by
 rw[Vl];simp
theorem Do{i j:Bool}:decide (V.bl i=V.bl j)=(i==j):=by
 rw[Vl];simp
theorem zy{i j:Str}:decide (V.str i=V.str j)=(i==j):=by
 rw[Vl];simp
theorem zz{i j:Array UInt8}:decide (V.byt i=V.byt j)=(i.toList==j.toList):=by
 rw[Vl];cases i;cases j;simp

section
variable{X:Cx}{a b c:Qv}{ta tb tc:TE}
theorem bG{σ:St}{H:Hp}{Q:VK}{k d:Bool}(I:ay X pins σ H s)(q:Q (.bl k) H)(e:k=d):EP X pins σ Q (.bool d) s:=by
 subst e;exact⟨.bl k,H,I,rfl,q⟩
theorem ig:kN X (RW .Eq) Po:=by
 intro pins s σ H x y v u Q I f d h;obtain⟨hs,q⟩:=h;cases x with
 | non=>
  cases f;cases y with
  | non=>cases d;exact Z3 (bG I q<|by simp)
  | bl j=>cases d;exact Z4 (bG I q<|by simp)
  | int j=>obtain⟨t',rfl⟩:=d;exact aa7 (bG I q<|by simp)
  | str j=>obtain⟨t',rfl⟩:=d;exact aa8 (bG I q<|by simp)
  | _=>exact absurd (show false=true from hs) Qr
 | bl i=>
  cases f;cases y with
  | non=>cases d;exact Z5 (bG I q<|by simp)
  | bl j=>cases d;exact eq_bool (bG I q Do)
  | str j=>obtain⟨t',rfl⟩:=d;exact Z6 (bG I q<|by simp)
  | _=>exact absurd (show false=true from hs) Qr
 | int i=>
  obtain⟨t,rfl⟩:=f;cases y with
  | non=>cases d;exact aa9 (bG I q<|by simp)
  | int j=>obtain⟨t',rfl⟩:=d;exact eq_int (bG I q zx)
  | str j=>obtain⟨t',rfl⟩:=d;exact ab0 (bG I q<|by simp)
  | _=>exact absurd (show false=true from hs) Qr
 | str i=>
  obtain⟨t,rfl⟩:=f;cases y with
  | non=>cases d;exact ab1 (bG I q<|by simp)
  | bl j=>cases d;exact Z7 (bG I q<|by simp)
  | int j=>obtain⟨t',rfl⟩:=d;exact ab2 (bG I q<|by simp)
  | str j=>obtain⟨t',rfl⟩:=d;exact eq_str (bG I q zy)
  | _=>exact absurd (show false=true from hs) Qr
 | byt i=>
  obtain⟨t,rfl⟩:=f;cases y with
  | byt j=>obtain⟨t',rfl⟩:=d;exact PySem.W.eq_bytes (bG I q zz)
  | _=>exact absurd (show false=true from hs) Qr
 | _=>cases y<;>exact absurd (show false=true from hs) Qr
theorem jk:kN X (RW .NotEq) Pp:=by
 intro pins s σ H x y v u Q I f d h;obtain⟨hs,q⟩:=h;cases x with
 | non=>
  cases f;cases y with
  | non=>cases d;exact Z8 (bG I q<|by simp)
  | bl j=>cases d;exact Z9 (bG I q<|by simp)
  | int j=>obtain⟨t',rfl⟩:=d;exact ab3 (bG I q<|by simp)
  | str j=>obtain⟨t',rfl⟩:=d;exact ab4 (bG I q<|by simp)
  | _=>exact absurd (show false=true from hs) Qr
 | bl i=>
  cases f;cases y with
  | non=>cases d;exact aa0 (bG I q<|by simp)
  | bl j=>cases d;exact ne_bool (bG I q<|congrArg not Do)
  | str j=>obtain⟨t',rfl⟩:=d;exact aa1 (bG I q<|by simp)
  | _=>exact absurd (show false=true from hs) Qr
 | int i=>
  obtain⟨t,rfl⟩:=f;cases y with
  | non=>cases d;exact ab5 (bG I q<|by simp)
  | int j=>obtain⟨t',rfl⟩:=d;exact ne_int (bG I q<|congrArg not zx)
  | str j=>obtain⟨t',rfl⟩:=d;exact ab6 (bG I q<|by simp)
  | _=>exact absurd (show false=true from hs) Qr
 | str i=>
  obtain⟨t,rfl⟩:=f;cases y with
  | non=>cases d;exact ab7 (bG I q<|by simp)
  | bl j=>cases d;exact aa2 (bG I q<|by simp)
  | int j=>obtain⟨t',rfl⟩:=d;exact ab8 (bG I q<|by simp)
  | str j=>obtain⟨t',rfl⟩:=d;exact ne_str (bG I q<|congrArg not zy)
  | _=>exact absurd (show false=true from hs) Qr
 | byt i=>
  obtain⟨t,rfl⟩:=f;cases y with
  | byt j=>obtain⟨t',rfl⟩:=d;exact PySem.W.ne_bytes (bG I q<|congrArg not zz)
  | _=>exact absurd (show false=true from hs) Qr
 | _=>cases y<;>exact absurd (show false=true from hs) Qr

theorem pG:kN X (RW .Lt) (xW λi j=>.bl (decide<|i<j)):=J3 λ_ _ _ _ _ _ _ q=>lt_int q
theorem Mw:kN X (RW .Gt) (xW λi j=>.bl (decide<|j<i)):=J3 λ_ _ _ _ _ _ _ q=>gt_int q
theorem IV:kN X (RW .GtE) (xW λi j=>.bl (decide<|j≤i)):=J3 λ_ _ _ _ _ _ _ q=>ge_int q
theorem Dp(b:Qv){d:Y7}(h:d≠.In:=by decide)(f:d≠.NotIn:=by decide):Rt d b=false:=by
 have i:(d==CmpOp.In)=false:=by cases d<;>first | rfl | exact absurd rfl h
 have g:(d==ad7)=false:=by cases d<;>first | rfl | exact absurd rfl f
 cases b<;>simp[Rt,i,g]
theorem Ge{d:Y7}{r:R2}(ho:kN X (RW d) r)(l:PE X a ta)(hb:PE X b tb)(j:Rt d b=false):PE X (.Compare a [d] [b] pos) (J0 r ta tb):=by
 intro pins s σ H Q I h;exact Zz (J2 l hb I h λv u f x y o m i g q=>ho pins f σ o x y v u Q m i g q) j
def vZ(t:TE):TT:=λσ H Q=>t σ H λx d=>∃k,x=.bl k/\Q k d
theorem uy{f:Y7}{r:R2}(ho:kN X (RW f) r)(q:PE X a ta)(hb:PE X b tb)(p:Rt f b=false):PT X (.Compare a [f] [b] pos) (vZ<|J0 r ta tb):=by
 intro pins s σ H Q I h;refine WO (bv (q pins s σ H _ I h) λv i d=>de d λx H1 I1 m q1=>bv (hb pins i σ H1 _ I1 q1) λu g d=>de d λy O C l q2=>
  bv (ho pins g σ O x y v u _ C m l q2) λc U ⟨z,L,I3,j,k,e,o⟩=>?_) p
 subst e;cases j;exact Sa ⟨L,I3,o⟩
def Mx(K:P7)(x:V)(H:Hp)(k:Bool):Prop :=
 match x with
 | .non=>k=false
 | .bl b=>k=b
 | .int i=>k=(i !=0)
 | .str y=>y.length≤Qf/\k=((y.length:Int) !=0)
 | .byt y=>y.size≤Qf/\k=((y.size:Int) !=0)
 | .ref p=>(∃xs,ie K H p xs/\k=!xs.isEmpty)∨(∃xs,ic K H p xs/\k=!xs.isEmpty)∨∃kvs,H p=some (.dK kvs)/\k=!kvs.isEmpty
 | _=>False
theorem xX{d:Type}{kvs:List (d×V)}{vs:List (d×P0)}(r:KV kvs vs):(!vs.isEmpty)=!kvs.isEmpty:=by
 cases r<;>rfl
theorem kO{xs:List V}{its:List P0}(r:aJ xs its):(!its.toArray.isEmpty)=!xs.isEmpty:=by
 cases r<;>simp
theorem mC:(Qf:Nat)<2 ^ 63:=by rw[Q6];decide
theorem xY:Mt X (λx H Q=>∃k,Mx X.K x H k/\Q k H):=by
 intro pins s σ H x v Q I g h;obtain⟨k,e,q⟩:=h;have u:=mC;have hs:Qf=16777216:=Q6;cases x with
 | non=>
  cases g;have d:k=false:=e;subst d;exact truthy_none ⟨H,I,q⟩
 | bl b=>
  cases g;have d:k=b:=e;subst d;exact Sa ⟨H,I,q⟩
 | int i=>
  obtain⟨t,rfl⟩:=g;have d:k=(i !=0):=e;subst d;exact PySem.P.truthy_int ⟨H,I,q⟩
 | str y=>
  obtain⟨t,rfl⟩:=g;obtain⟨l,d⟩:y.length≤Qf/\k=((y.length:Int) !=0):=e;subst d;exact PySem.P.truthy_str (by omega) ⟨H,I.tok _,q⟩
 | byt y=>
  obtain⟨t,rfl⟩:=g;obtain⟨l,d⟩:y.size≤Qf/\k=((y.size:Int) !=0):=e;subst d;exact PySem.W.truthy_bytes (by omega) ⟨H,I.tok _,q⟩
 | ref p=>
  cases g;have d:(∃xs,ie X.K H p xs/\k=!xs.isEmpty)∨(∃xs,ic X.K H p xs/\k=!xs.isEmpty)∨∃kvs,H p=some (.dK kvs)/\k=!kvs.isEmpty:=e;rcases d with ⟨xs,j,d⟩ | ⟨xs,j,d⟩ | ⟨kvs,j,d⟩
  ·subst d;obtain⟨its,r,pl,hz⟩:=I.list j;have f:=r.length;exact Yp pl.isList (by simp only[P6];omega) ⟨H,I.tok _,by rw[kO r];exact q⟩
  ·subst d;obtain⟨its,r,pl,hz⟩:=I.tuple j;have f:=r.length;exact truthy_tuple pl (by simp only[P6];omega) ⟨H,I.tok _,by rw[kO r];exact q⟩
  ·subst d;obtain⟨hz,o,vs,r,m⟩:kvs.length≤Qf/\(p==R6)=false/\∃vs,KV kvs vs/\s.heap.DictOf (aY X.prog X.w) p vs:=I.hok p _ j;have f:kvs.length=vs.length:=QP r;exact wpAny_truthy_dict o m (by omega) ⟨H,I.tok _,by rw[xX r];exact q⟩
 | _=>exact(show False from e).elim
theorem v1(j:PE X a ta)(he:∀whole,X0 a X.env whole=(do let v <-whole;SI a.pos;SJ [v] (ac7 v))) :
  PT X a (λσ H Q=>ta σ H λx d=>∃k,Mx X.K x d k/\Q k d):=by
 intro pins s σ H Q I h;exact Ym (bv (j pins s σ H _ I h) λv g f=>de f λx H1 I1 i q1=>xY pins g σ H1 x v Q I1 i q1) (he _)

theorem iW{x:V}(r:aJ [x] us):∃u,us=[u]/\aN x u:=by
 cases r with
 | cons f d=>cases d;exact⟨_,rfl,f⟩
theorem v4{x y:V}(r:aJ [x,y] us):∃u d,us=[u,d]/\aN x u/\aN y d:=by
 cases r with
 | cons i h=>
  cases h with
  | cons g f=>cases f;exact⟨_,_,rfl,i,g⟩
theorem Bf(f:X.calm=true):cZ X (.builtin "max") (λxs H Q=>∃i j,xs=[.int i,.int j]/\Q (.int<|if j > i then j else i) H):=by
 intro pins s σ H xs us Q I r h;obtain⟨i,j,rfl,q⟩:=h;obtain⟨u,g,rfl,⟨t,rfl⟩,⟨t',rfl⟩⟩:=v4 r;refine max_two_ints (I.ok.hd f) λh' tk k=>⟨_,H,I.kept k,?_,q⟩
 by_cases d:j > i
 ·rw[if_pos d,if_pos d];exact⟨_,rfl⟩
 ·rw[if_neg d,if_neg d];exact⟨_,rfl⟩
theorem Bg(f:X.calm=true):cZ X (.builtin "min") (λxs H Q=>∃i j,xs=[.int i,.int j]/\Q (.int<|if j<i then j else i) H):=by
 intro pins s σ H xs us Q I r h;obtain⟨i,j,rfl,q⟩:=h;obtain⟨u,g,rfl,⟨t,rfl⟩,⟨t',rfl⟩⟩:=v4 r;refine min_two_ints (I.ok.hd f) λh' tk k=>⟨_,H,I.kept k,?_,q⟩
 by_cases d:j<i
 ·rw[if_pos d,if_pos d];exact⟨_,rfl⟩
 ·rw[if_neg d,if_neg d];exact⟨_,rfl⟩
end
structure xZ(h:QO)(x dx C:P3)(mA:Str->Option P0):Prop where
 obj:h.get? x=some (Sy C dx)
 ns:h.Ns1 dx mA
 ne:dx≠x

theorem Bh{h:QO}{g:P3}{f:Str->Option P0}(n:h.Ns1 g f):∃d,h.get? g=some d/\∀name,VE name d=some (f name):=by
 obtain⟨o,es,ep,ho,hd,l,_,j⟩:=n;refine⟨o,ho,λname=>?_⟩;have e:=j name;unfold nsFind findBy at e;rw[<-Array.find?_toList] at e;unfold VE;rw[hd];dsimp only;split
 ·rename_i y q;rw[q] at e;exact congrArg some e
 ·rename_i q;rw[q] at e;have a:es.toList.any (·.refKey)=false:=by
   rw[List.any_eq_false];intro y i;obtain⟨z,t,c⟩:=l y (Array.mem_toList_iff.mp i);simp[DictEntry.refKey,c]
  have m:¬es.toList.any (·.refKey)=true:=by rw[a];exact Qr
  rw[if_neg m];exact congrArg some e

theorem xZ.look{h:QO}{x f C:P3}{d:Str->Option P0}(I:xZ h x f C d):∃c,PySem.W.InstAt h x (Sy C f) C (some c)/\∀name,VE name c=some (d name) :=
 let ⟨c,ho,g⟩:=Bh I.ns
 ⟨c,⟨I.obj,rfl,rfl,ho⟩,g⟩

section
variable{x dx C f:P3}{mA:Str->Option P0}{name:Str}{v:P0}
theorem Gf{expr:Bool}{Q:P0->P5->Prop}(X:K.In s.heap)(I:xZ s.heap x dx C mA)(j:UR K C name=true)(i:VY K C=true)
  (l:Q3 K (.ref C) name=some none) (d:mA name=some v) (c:YQ v=true) (h:Q v {s with toks:=s.toks+1}) :
  Qa (Qd prog w) A (getAttr (.ref x) name expr) Q E s:=by
 obtain⟨m,J,g⟩:=I.look;exact PySem.W.get_value X J (Vr j).1 (PySem.W.findObj_own i l rfl<|by rw[g,d]) c h

theorem Dq{pl:Sem Bool}{Q:P0×List P0->P5->Prop}(X:K.In s.heap)(I:xZ s.heap x dx C mA)(c:UR K C name=true)
  (j:Q3 K (.ref C) name=some (some<|.ref f)) (ht:Ux K (.ref f)=true) (g:mA name=none) (h:Q (.ref f,[.ref x]) s) :
  Qa (Qd prog w) A (TC (.ref x) name pl) Q E s:=by
 obtain⟨d,J,i⟩:=I.look;exact PySem.W.method_fn X J (Vr c).1 (Vr c).2 j (beq_iff_eq.mp ht) (by show(VE name d).map (·.isSome)=some false;rw[i,g];rfl) h

theorem Gg{ns:List Str}{Q:Unit->P5->Prop}(X:K.In s.heap)(I:xZ s.heap x dx C mA)
  (hs:Q3 K (.ref C) "__setattr__" = some (some<|.builtin "object.__setattr__")) (p:Yq K C=true) (ht:WG K C name=some none) (q:VY K C=true)
  (o:Yk mA ns) (hsz:ns.length≤Qf)
  (h:∀h',xZ h' x dx C (λy=>if y=name then some v else mA y)->RP dx s.heap h'->Q () {s with heap:=h',toks:=s.toks+2}) :
  Qa (Qd prog w) A (setAttr (.ref x) name v) Q E s:=by
 obtain⟨L,J,U⟩:=I.look;refine PySem.W.set_plain X J hs (PySem.W.osa_open (s:={s with toks:=s.toks+1}) (r:=none) X J p ht λb=>?_);obtain⟨cd,u,j⟩:=PySem.W.any_some q;have m:s.heap.get? x=some ⟨.ref C,some dx,.plain,#[]⟩:=I.obj;refine PZ (P2<|PZ<|PZ<|ZC m<|PZ<|ae9 (s:={s with toks:=s.toks+1}) (PySem.W.looks_clsIn X u) ?_);rw[j];refine P2 (a:=some dx) (PZ<|P2<|PZ ?_);refine wpAny_nsSet1 (s:={s with toks:=s.toks+1}) I.ns λh' d c=>?_;obtain⟨O,z,H,g,i,l⟩:=d.count (af6 name v o);refine PZ (wpAny_lookBehind g (by rw[i];exact pastItsLine_dict (Rg l<|by rw[Rm];omega)) ?_);exact P2 (h _ ⟨(c.2 _<|RO I.ne).trans I.obj,d,I.ne⟩ c)

theorem v5{R:Result->P5->Prop}{vs:List P0}{c:List (Str×P0)}(X:K.In s.heap)(i:WH K C=true)
  (j:Q3 K (.ref C) "__init__" = some (some<|.ref f)) (l:PySem.W.typeIn K (.ref f)=some (.type "function"))
  (h:Tk (Qd prog w) (A.under<|.builtin "type.__call__" ⟨.ref C::vs,c⟩) (.call (.ref f) ⟨.ref (s.heap.objs.size+1)::vs,c⟩) (PySem.W.InitBack (s.heap.objs.size+1) R)
   {s with heap:=(s.heap.push RI).push (Sy C s.heap.objs.size)}) :
  Tk (Qd prog w) A (.call (.ref C) ⟨vs,c⟩) R s:=by
 obtain⟨m,g,d,t,os⟩:=s;exact PySem.W.make_core (PySem.W.makes_of X i) (TR X j) (λself=>PySem.W.bind_fn X self l) (.inl rfl) h
end
def iD(f:Str)(v:V):List (Str×V)->List (Str×V)
 | []=>[(f,v)]
 | (g,x)::r=>if g=f then(g,v)::r else(g,x)::iD f v r
theorem nC(f g:Str)(v:V):∀fs:List (Str×V),(iD f v fs).lookup g=if g=f then some v else fs.lookup g
 | []=>by
  show SV g [(f,v)]=_;by_cases h:g=f
  ·have hb:(g==f)=true:=beq_iff_eq.mpr h;simp only[SV,hb,if_pos h]
  ·have hb:(g==f)=false:=beq_eq_false_iff_ne.mpr h;simp only[SV,hb,if_neg h]
 | (k,x)::r=>by
  have d:=nC f g v r;rw[show iD f v ((k,x)::r)=(if k=f then(k,v)::r else(k,x)::iD f v r) from rfl];by_cases c:k=f
  ·rw[if_pos c];by_cases h:g=k
   ·have hb:(g==k)=true:=beq_iff_eq.mpr h;simp only[SV,hb,if_pos (h.trans c)]
   ·have hb:(g==k)=false:=beq_eq_false_iff_ne.mpr h;simp only[SV,hb,if_neg (λe:g=f=>h (e.trans c.symm))]
  ·rw[if_neg c];by_cases h:g=k
   ·have hb:(g==k)=true:=beq_iff_eq.mpr h;simp only[SV,hb,if_neg (λe:g=f=>c (h.symm.trans e))]
   ·have hb:(g==k)=false:=beq_eq_false_iff_ne.mpr h;simp only[SV,hb];exact d
theorem mD(f:Str)(v:V):∀fs:List (Str×V),f∈(iD f v fs).map (·.1)/\∀g,g∈fs.map (·.1)->g∈(iD f v fs).map (·.1)
 | []=>⟨by simp[iD],λg h=>by simp at h⟩
 | (k,x)::r=>by
  obtain⟨i,d⟩:=mD f v r;rw[show iD f v ((k,x)::r)=(if k=f then(k,v)::r else(k,x)::iD f v r) from rfl];by_cases c:k=f
  ·rw[if_pos c];subst c;exact⟨by simp,λg h=>by simpa using h⟩
  ·rw[if_neg c];refine⟨?_,λg h=>?_⟩
   ·rw[Qx];exact Ql _ i
   ·rw[Qx] at h ⊢;rcases Qm.mp h with e | e
    ·exact Qm.mpr (.inl e)
    ·exact Ql _ (d g e)
theorem nE(f:Str)(v:V):∀fs:List (Str×V),(iD f v fs).length≤fs.length+1
 | []=>by simp[iD]
 | (k,x)::r=>by
  have d:=nE f v r;rw[show iD f v ((k,x)::r)=(if k=f then(k,v)::r else(k,x)::iD f v r) from rfl];by_cases c:k=f
  ·rw[if_pos c,Rm,Rm];omega
  ·rw[if_neg c,Rm,Rm];omega

theorem fQ.some_of{v:V}{o:Option P0}(r:fQ (some v) o):∃u,o=some u/\aN v u:=by
 cases o with
 | none=>exact(show False from r).elim
 | some u=>exact⟨u,rfl,r⟩
theorem fQ.none_of{o:Option P0}(r:fQ none o):o=none:=by
 cases o with
 | none=>rfl
 | some u=>exact(show False from r).elim
theorem Bi{v:V}{u:P0}(r:aN v u):YQ u=true:=by
 cases v with
 | non=>cases(show u=QN from r);rfl
 | bl b=>cases(show u=Si b from r);rfl
 | int i=>obtain⟨t,e⟩:=(show ∃t,u=Tc i t from r);cases e;rfl
 | str x=>obtain⟨t,e⟩:=(show ∃t,u=Xl x t from r);cases e;rfl
 | byt b=>obtain⟨t,e⟩:=(show ∃t,u=ad6 b t from r);cases e;rfl
 | flt b=>obtain⟨t,e⟩:=(show ∃t,u=Y6 b t from r);cases e;rfl
 | ref a=>cases(show u=Qo a from r);rfl
 | ty n=>cases(show u=XZ n from r);rfl

section
variable{H H':Hp}{h h':QO}{a C dx:P3}{fs fs':List (Str×V)}
theorem oO(hok:jc P w H h)(e:H a=some (.ins C dx fs)):∃c,xZ h a dx C c/\(∀f,fQ (fs.lookup f) (c f))/\Yk c (fs.map (·.1))/\fs.length≤1000/\H dx=some (.own a):=by
 obtain⟨d,z,ne,ob,c,n,r,q⟩:=(show bD P w H h a (.ins C dx fs) from hok a _ e)
 exact⟨c,⟨ob,n,ne⟩,r,q,z,d⟩
end
structure oP(K:P7)(C:P3):Prop where
 pg:UR K C Str.empty=true
 hd:VY K C=true
 po:Yq K C=true
 sa:Q3 K (.ref C) "__setattr__" = some (some<|.builtin "object.__setattr__")
theorem oP.get{C:P3}(c:oP K C)(f:Str):UR K C f=true:=c.pg
def b9(K:P7)(C:P3)(f:Str):Prop:=Q3 K (.ref C) f=some none
theorem b9.taker{C:P3}{f:Str}(n:b9 K C f):WG K C f=some none:=by
 unfold WG;rw[show Q3 K (.ref C) f=some none from n];rfl
structure uz(K:P7)(C:P3)(m:Str)(f:P3):Prop where
 at_:Q3 K (.ref C) m=some (some<|.ref f)
 fn:Ux K (.ref f)=true
 kp:QX K (.ref f)=true

section
variable{X:Cx}{σ:St}{H:Hp}{a C dx:P3}{fs:List (Str×V)}{f:Str}{v:V}
theorem x4{b:Bool}{Q:P0->P5->Prop}(I:ay X pins σ H s)(e:H a=some (.ins C dx fs))(c:oP X.K C)(n:b9 X.K C f)(l:fs.lookup f=some v)
  (h:∀u s',ay X pins σ H s'->aN v u->Q u s'):Qa (Qd X.prog X.w) A (getAttr (.ref a) f b) Q E s:=by
 obtain⟨g,O,r,_,_,_⟩:=oO I.hok e;obtain⟨u,i,d⟩:=fQ.some_of (v:=v) (o:=g f) (by rw[<-l];exact r f);exact Gf I.kIn O (c.get f) c.hd n i (Bi d) (h u _ (I.tok _) d)

theorem iE{m:Str}{g:P3}{pl:Sem Bool}{Q:P0×List P0->P5->Prop}(I:ay X pins σ H s)(e:H a=some (.ins C dx fs))(c:oP X.K C)(k:uz X.K C m g)(l:fs.lookup m=none)
  (h:Q (.ref g,[.ref a]) s):Qa (Qd X.prog X.w) A (TC (.ref a) m pl) Q E s:=by
 obtain⟨d,O,r,_,_,_⟩:=oO I.hok e;have hn:d m=none:=fQ.none_of (by rw[<-l];exact r m);exact Dq I.kIn O (c.get m) k.at_ k.fn hn h

theorem x5{y:V}{u:P0}{Q:Unit->P5->Prop}(I:ay X pins σ H s)(e:H a=some (.ins C dx fs))(c:oP X.K C)(n:b9 X.K C f)(U:fs.length<1000)(m:aN y u)
  (h:∀s',ay X pins σ (upd H a<|.ins C dx<|iD f y fs) s'->Q () s'):Qa (Qd X.prog X.w) A (setAttr (.ref a) f u) Q E s:=by
 obtain⟨j,O,r,i,_,ho⟩:=oO I.hok e;have hz:(fs.map (·.1)).length≤Qf:=by rw[QI,Q6];omega
 refine Gg I.kIn O c.sa c.po n.taker c.hd i hz λh' d l=>h _ ?_;have hd:∃o,h'.get? dx=some o:=let ⟨o,_,_,L,_⟩:=d.ns;⟨o,L⟩;refine I.write (x:=a) (e:=dx) (by rw[e];exact RU) (.inr ho) (λb q hb z=>(l.2 b hb).trans z) hd ?_;refine⟨by rw[al O.ne];exact ho,?_,O.ne,d.obj,_,d.ns,λg=>?_,λg p=>?_⟩
 ·have:=nE f y fs;omega
 ·show fQ ((iD f y fs).lookup g) (if g=f then some u else j g);rw[nC];by_cases q:g=f
  ·rw[if_pos q,if_pos q];exact m
  ·rw[if_neg q,if_neg q];exact r g
 ·by_cases q:g=f
  ·rw[q];exact(mD f y fs).1
  ·refine(mD f y fs).2 g (i g λz=>p ?_);show(if g=f then some u else j g)=none;rw[if_neg q];exact z

theorem ay.made(I:ay X pins σ H s):ay X pins σ (upd (upd H s.heap.objs.size<|.own<|s.heap.objs.size+1) (s.heap.objs.size+1)<|.ins C s.heap.objs.size [])
  {s with heap:=(s.heap.push RI).push (Sy C s.heap.objs.size)}:=by
 have c:(s.heap.push RI).get? s.heap.objs.size=some RI:=P8 s.heap rfl;have h:((s.heap.push RI).push (Sy C s.heap.objs.size)).get? (s.heap.objs.size+1)=some (Sy C s.heap.objs.size):=by
  have:=P8 (s.heap.push RI) (o:=Sy C s.heap.objs.size) rfl
  rwa [Ss] at this
 have g:(s.heap.push RI).Ns s.heap.objs.size (λ_=>none):=⟨RI,#[],_,c,rfl,(λe he=>absurd he (by simp)),λ_=>rfl⟩
 have I1:=I.laid (a:=s.heap.objs.size) (o:=.own (s.heap.objs.size+1)) (h':=s.heap.push RI) (t':=s.toks) (λb u q=>P1 _ q) (Qi _) ⟨_,c⟩;refine I1.laid (a:=s.heap.objs.size+1) (o:=.ins C s.heap.objs.size []) (t':=s.toks) (λb u q=>P1 _ q) (Yr<|Ss _ _) ?_;have ne:s.heap.objs.size≠s.heap.objs.size+1:=Qp (Rn _);refine⟨by rw[al ne,aA],Ra _,ne,h,λ_=>none,(Heap.Ns1.of_empty g).at λo q=>P1 _ q,λ_=>RU,λy d=>absurd rfl d⟩

theorem Gh{env:Env}{e:Qv}{Q:P0->P5->Prop}(hb:QR e f env (Q0 e env)=Q0 e env)
  (h:Qa (Qd prog w) A (Q0 e env) (λo s₁=>Qa (Qd prog w) A (getAttr o f true) Q E s₁) E s):Qa (Qd prog w) A (Q0 (.Attribute e f pos) env) Q E s :=
 Attribute_any_ h (by rw[arm_eval_Attribute,hb])
end
def Ow(K:P7)(c:TE)(f:Str):TE:=λσ H Q=>c σ H λx H1=>∃a C d fs v,x=.ref a/\H1 a=some (.ins C d fs)/\oP K C/\b9 K C f/\fs.lookup f=some v/\Q v H1
def Ox(K:P7)(h g:TE)(f:Str):TS:=λD σ H=>g σ H λy H1=>h σ H1 λx d=>∃a C c fs,x=.ref a/\d a=some (.ins C c fs)/\oP K C/\b9 K C f/\fs.length<1000 /\
 D.nx σ (upd d a<|.ins C c<|iD f y fs)
section
variable{X:Cx}{o e value:Qv}{f:Str}{pos pos' tpos:Pos}{ta tv:TE}
theorem J5(he:PE X e ta)(hb:QR e f X.env (Q0 e X.env)=Q0 e X.env):PE X (.Attribute e f pos) (Ow X.K ta f):=by
 intro pins s σ H Q I h;refine Gh hb (bv (he pins s σ H _ I h) λu z d=>?_);obtain⟨x,H1,I1,g,a,C,L,fs,v,ex,j,c,n,l,q⟩:=d;subst ex;obtain rfl:u=Qo a:=g;exact x4 I1 j c n l λp r m i=>⟨v,H1,m,i,q⟩
theorem J6(r:PE X o ta)(p:PE X value tv)(hs:RX value (some<|.Attribute o f pos') pos.line X.env=pure false):PS X (.Assign [.Attribute o f pos'] value pos) (Ox X.K ta tv f):=by
 intro pins s σ H D I h;refine plainObj_wpAny_Assign_Attribute (bv (p pins s σ H _ I h) λu g d=>de d λy H1 I1 i q=>bv (r pins g σ H1 _ I1 q) λm Q d=>?_) hs;obtain⟨x,Y,L,j,a,C,U,fs,ex,z,c,n,l,q2⟩:=d;subst ex;obtain rfl:m=Qo a:=j;exact x5 L z c n l i λO I3=>⟨σ,_,I3,q2⟩
end
section
variable{X:Cx}{σ:St}{H:Hp}{Q:P0->P5->Prop}{c:P0}{b:Bool}
inductive mE (K:P7) (H:Hp):V->P0->Prop where
 | non:mE K H .non (.type "NoneType")
 | bl (x:Bool):mE K H (.bl x) (.type "bool")
 | int (i:Int):mE K H (.int i) (.type "int")
 | str (x:Str):mE K H (.str x) (.type "str")
 | flt (x:UInt64):mE K H (.flt x) (.type "float")
 | lst {a:P3} {xs:List V} (e:H a=some (.lst xs)):mE K H (.ref a) (.type "list")
 | frz {a:P3} {o:Obj} {xs:List V} (e:H a=some (.frz o (.lst xs))):mE K H (.ref a) (.type "list")
 | tup {a:P3} {xs:List V} (e:H a=some (.tup xs)):mE K H (.ref a) (.type "tuple")
 | dK {a:P3} {kvs:List (bj×V)} (e:H a=some (.dK kvs)):mE K H (.ref a) (.type "dict")
 | dT {a:P3} {kvs:List (List bj×V)} (e:H a=some (.dT kvs)):mE K H (.ref a) (.type "dict")
 | ins {a C dx:P3} {fs:List (Str×V)} (e:H a=some (.ins C dx fs)) (cl:oP K C) (ha:Q3 K (.ref C) "__class__" = some (some (.builtin "object.__class__")))
   (hn:Ys K (.builtin "object.__class__") "__get__" = some (some<|.builtin "getset_descriptor.__get__")) (htk:Zf K (.builtin "object.__class__")=some true)
   (hm:XM K C (.type "object")=some true):mE K H (.ref a) (.ref C)
theorem Bj{x:V}{u t:P0}(I:ay X pins σ H s)(d:aN x u)(ty:mE X.K H x t)(e:ZD X.K t c=some b)(h:∀tk,Q (.bool b) {s with toks:=tk}) :
  Qa (Qd X.prog X.w) A (call (.builtin "isinstance") [u,c]) Q E s:=by
 cases ty with
 | non=>cases(show u=QN from d);exact RD PySem.W.kitx_none I.kIn RU e (λz=>nomatch z) h
 | bl y=>cases(show u=Si y from d);exact RD PySem.W.kitx_bool I.kIn RU e (λz=>nomatch z) h
 | int i=>obtain⟨t,q⟩:=(show ∃t,u=Tc i t from d);cases q;exact RD PySem.W.kitx_int I.kIn RU e (λz=>nomatch z) h
 | str y=>obtain⟨t,q⟩:=(show ∃t,u=Xl y t from d);cases q;exact RD PySem.W.kitx_str I.kIn RU e (λz=>nomatch z) h
 | flt y=>obtain⟨t,q⟩:=(show ∃t,u=Y6 y t from d);cases q;exact RD PySem.W.kitx_float I.kIn RU e (λz=>nomatch z) h
 | @lst a xs f=>
  cases(show u=Qo a from d);obtain⟨_,_,n,_,h1⟩:=(show bD X.prog X.w H s.heap a (.lst xs) from I.hok a _ f)
  exact RD Yt I.kIn ⟨_,h1,rfl⟩ e (λz=>nomatch z) h
 | @frz a ob xs f=>
  cases(show u=Qo a from d);obtain⟨_,_,_,n,_,h1⟩:=(show bD X.prog X.w H s.heap a (.frz ob<|.lst xs) from I.hok a _ f)
  exact RD Yt I.kIn ⟨_,h1,rfl⟩ e (λz=>nomatch z) h
 | @tup a xs f=>
  cases(show u=Qo a from d);obtain⟨_,_,_,p⟩:=(show bD X.prog X.w H s.heap a (.tup xs) from I.hok a _ f)
  obtain⟨o,h1,g,_⟩:=p;exact RD PySem.W.kitx_tuple I.kIn ⟨o,h1,g⟩ e (λz=>nomatch z) h
 | @dK a kvs f=>
  cases(show u=Qo a from d);obtain⟨_,_,vs,_,p⟩:=(show bD X.prog X.w H s.heap a (.dK kvs) from I.hok a _ f)
  obtain⟨o,es,ep,h1,g,_⟩:=p;exact RD Yu I.kIn ⟨o,h1,g.1⟩ e (λz=>nomatch z) h
 | @dT a kvs f=>
  cases(show u=Qo a from d);obtain⟨_,_,xs,_,o,es,ep,h1,g,_⟩:=(show bD X.prog X.w H s.heap a (.dT kvs) from I.hok a _ f)
  exact RD Yu I.kIn ⟨o,h1,g.1⟩ e (λz=>nomatch z) h
 | @ins a C U fs f cl m hn j l=>
  cases(show u=Qo a from d);obtain⟨L,O,_⟩:=oO I.hok f;obtain⟨r,J,_⟩:=O.look;exact RD (PySem.W.kitx_own (cl.get _) cl.hd m hn j l) I.kIn J e (λz=>nomatch z) h
end
structure a9(k:Nat)(A:RN):Prop where
 hd:A.handled=none
 dp:A.depth+3*k+5<Te
 un:A.units+16*k+200<R0
theorem a9.mono{j k:Nat}(r:a9 k A)(h:j≤k):a9 j A:=⟨r.hd,by have:=r.dp;omega,by have:=r.un;omega⟩
theorem a9.deeper{k:Nat}(r:a9 (k+1) A)(env:Env):a9 k (A.deeper env) :=
 ⟨r.hd,by have:=r.dp;show A.depth+1+3*k+5<_;omega,by have:=r.un;show A.units+3+16*k+200<_;omega⟩
theorem a9.in1{k:Nat}(r:a9 (k+1) A):a9 k A.in1 :=
 ⟨r.hd,by have:=r.dp;show A.depth+3*k+5<_;omega,by have:=r.un;show A.units+1+16*k+200<_;omega⟩
theorem x6{C:P3}{c:List (Str×P0)}:(A.under<|.builtin "type.__call__" ⟨.ref C::us,c⟩).depth=A.depth+1:=by
 first | rfl | simp[Wt,Code.weight,Code.isCreation,Code.isGuard,Code.isCaller,ae2,Yv,guardIds]
theorem x8{C:P3}{c:List (Str×P0)}:(A.under<|.builtin "type.__call__" ⟨.ref C::us,c⟩).units=A.units+1:=by
 first | rfl | simp[Wt,Code.cUnits,ae2,Yv]
theorem a9.make{k:Nat}(r:a9 (k+1) A)(C:P3)(us:List P0)(c:List (Str×P0)):a9 k (A.under<|.builtin "type.__call__" ⟨.ref C::us,c⟩) :=
 ⟨r.hd,by have:=r.dp;rw[x6];omega,by have:=r.un;rw[x8];omega⟩
theorem a9.depth{k:Nat}(r:a9 k A):A.depth<Te:=by have:=r.dp;omega
theorem a9.units{k:Nat}(r:a9 k A):A.units+64<R0:=by have:=r.un;omega
def mF:TA:=λ_ H Q=>Q [] H
def j9(d:TE)(c:TA):TA:=λσ H Q=>d σ H λx H1=>c σ H1 λxs f=>Q (x::xs) f
section
variable{X:Cx}{e:Qv}{te:TE}{t:TA}
theorem d9:PA X [] mF:=λ_ _ _ _ H Q I h=>TL ⟨[],H,I,.nil,h⟩
abbrev hE9(X:Cx)(e:Qv)(es:List Qv):Prop:=Qy (e::es) X.env=(false,Q0 e X.env)::Qy es X.env
abbrev hP9(X:Cx)(p:Pos)(es:List Qv):Prop:=(Sr p<|Qy es X.env).any (·.1)=false
abbrev hD9(x:Str):Prop:=(x==("__debug__":Str))=false
theorem cg(j:PE X e te)(i:PA X es t)(hs:hE9 X e es:=by nofun):PA X (e::es) (j9 te t):=by
 intro pos pins s σ H Q I h;rw[hs];show Qa _ _ (spliced ((false,Q0 e X.env)::Sr pos (Qy es X.env))) _ _ s;refine Sj (bv (j pins s σ H _ I h) λu d c=>de c λx H1 I1 g q1=>?_);exact bv (i pos pins d σ H1 _ I1 q1) λus o c=>de c λxs m l f q2=>⟨x::xs,m,l,.cons g f,q2⟩

def My(t:TA):TE:=λσ H Q=>t σ H λxs H1=>xs.length≤Qf/\∀p,H1 p=none->Q (.ref p) (upd H1 p<|.tup xs)
def Oy(t:TA):TE:=λσ H Q=>t σ H λxs H1=>xs.length≤Qf/\∀p,H1 p=none->Q (.ref p) (upd H1 p<|.lst xs)
theorem Dr{d}(h:PA X es t):PE X (.Tuple es d pos) (My t):=by
 intro pins s σ H Q I f;refine wpAny_Tuple_spliced (bv (h pos pins s σ H _ I f) λus c ⟨xs,H1,I1,r,z,q⟩=>⟨by rw[<-r.length];exact z,?_⟩);have g:H1 c.heap.objs.size=none:=I1.hok.fresh (Qi _);refine⟨.ref c.heap.objs.size,upd H1 c.heap.objs.size<|.tup xs,I1.laid (t':=c.toks) (λb u e=>P1 _ e) (Qi _) ?_,rfl,q _ g⟩;exact⟨z,us,r,⟨_,P8 _ rfl,rfl,_,rfl⟩⟩
theorem J7(h:PA X es t):PE X (.List es pos) (Oy t):=by
 intro pins s σ H Q I d;refine wpAny_List_spliced (bv (h pos pins s σ H _ I d) λus c ⟨xs,H1,I1,r,z,q⟩=>⟨by rw[<-r.length];exact z,?_⟩);have f:H1 c.heap.objs.size=none:=I1.hok.fresh (Qi _);refine⟨.ref c.heap.objs.size,upd H1 c.heap.objs.size<|.lst xs,I1.laid (t':=c.toks) (λb u e=>P1 _ e) (Qi _) ?_,rfl,q _ f⟩;exact⟨z,us,0,r,P8 _ rfl⟩
end
abbrev Sp:=List V->Hp->VK->XK->Prop
abbrev kP:=List Env->Hp->P5->XK->P0->P5->Prop

structure jl(P:QK)(w:Q4)(K:P7)(mg:Str->Option P0)(base:QO)(A:RN)(outer:List Env)(s:P5)(H:Hp):Prop where
 frames:A.frames=some outer
 mod:Mod K mg base
 bs:∀b o,base.get? b=some o->s.heap.get? b=some o/\H b=none
 bsz:base.objs.size≤s.heap.objs.size
 funs:s.heap.FunFrames base outer
 frf:∀b∈g8 outer,H b=none
 hok:jc P w H s.heap
 bare:U1 s.gens
def CE(outer:List Env)(P:QK)(w:Q4)(H:Hp)(s:P5)(Q:VK)(u:P0)(s':P5):Prop :=
 ∃v c,s'.os=s.os/\U1 s'.gens/\Un (g8 outer) [] H c s.heap s'.heap/\jc P w c s'.heap/\aN v u/\Q v c
def CR(CX:kP)(outer:List Env)(P:QK)(w:Q4)(H:Hp)(s:P5)(Q:VK)(E:XK)(r:Result)(s':P5):Prop :=
 match r with
 | .ok (.ret u)=>CE outer P w H s Q u s'
 | .ok _=>False
 | .error e=>CX outer H s E e s'
structure bS(P:QK)(w:Q4)(K:P7)(mg:Str->Option P0)(base:QO)(CX:kP)(k:Nat)(f:P3)(fd:U6)(ps:List Str)(sp:Sp):Prop where
 len:∀vs H Q E,sp vs H Q E->vs.length=ps.length
 run:∀(A:RN) (outer:List Env) (s:P5) (H:Hp) (args:Args) (us:List P0) (vs:List V) (Q:VK) (E:XK),a9 k A->jl P w K mg base A outer s H->Xn s fd args (ps.zip us)->aJ vs us->sp vs H Q E ->
  Tk (Qd P w) A (.call (.ref f) args) (CR CX outer P w H s Q E) s
theorem bS.mono{CX:kP}{j k:Nat}{f:P3}{ps:List Str}{sp:Sp}(F:bS P w K mg base CX j f fd ps sp)(h:j≤k) :
  bS P w K mg base CX k f fd ps sp:=⟨F.len,λA outer s H args us vs Q E c=>F.run A outer s H args us vs Q E (c.mono h)⟩
theorem jl.make{outer:List Env}{H:Hp}(e:jl P w K mg base A outer s H)(C:P3)(us:List P0)(c:List (Str×P0)) :
  jl P w K mg base (A.under<|.builtin "type.__call__" ⟨.ref C::us,c⟩) outer s H:=⟨by first | exact e.frames | (simpa[Wt,Code.envs,Yv,pushEnvs] using e.frames),e.mod,e.bs,e.bsz,e.funs,e.frf,e.hok,e.bare⟩
theorem jl.in1{outer:List Env}{H:Hp}(e:jl P w K mg base A outer s H) :
  jl P w K mg base A.in1 outer s H:=⟨e.frames,e.mod,e.bs,e.bsz,e.funs,e.frf,e.hok,e.bare⟩

section
variable{X:Cx}{σ:St}{H:Hp}{s s':P5}
theorem ay.env0(I:ay X pins σ H s):jl X.prog X.w X.K X.mg X.base X.A X.stack s H :=
 ⟨I.ok.frames,I.ok.mod,I.bs,Rg I.ok.bsz I.sz,I.stack,I.stkFree,I.hok,I.bare⟩
theorem ay.after{Q:VK}{u:P0}(I:ay X pins σ H s)(h:CE X.stack X.prog X.w H s Q u s'):EP X pins σ Q u s':=by
 obtain⟨v,i,os,bare,un,hok,r,q⟩:=h;obtain⟨f,g,d,t,c⟩:=s';obtain rfl:c=s.os:=os;exact⟨v,i,I.call (h':=f) (g':=g) (d':=d) (t':=t) (ch:=[]) un hok bare<|λb z=>absurd z (by simp),r,q⟩
end
def kh(sp:Sp)(dvs:List V)(E:XK)(t:TA):TE:=λσ H Q=>t σ H λvs H1=>sp (vs++dvs) H1 Q E
def zA(C:P3)(m:Str)(sp:Sp)(dvs:List V)(E:XK)(c:TE)(t:TA):TE:=λσ H Q=>c σ H λx H1=>∃a d fs,x=.ref a/\H1 a=some (.ins C d fs)/\fs.lookup m=none /\
 t σ H1 λvs f=>sp (x::(vs++dvs)) f Q E
def IW(C:P3)(sp:Sp)(dvs:List V)(E:XK)(t:TA):TE:=λσ H Q=>t σ H λvs H1=>∀x c,H1 x=none->H1 c=none->c≠x ->
 sp (.ref x::(vs++dvs)) (upd (upd H1 c<|.own x) x<|.ins C c []) (λv d=>v=.non/\Q (.ref x) d) E

def cC(K:P7)(fd:U6)(ps:List Str)(ds:List P0):Prop :=
 ∀(s:P5) (us:List P0),K.In s.heap->(us++ds).length=ps.length->Xn s fd ⟨us,[]⟩ (ps.zip<|us++ds)
theorem cC.all{ps:List Str}(h:∀us:List P0,us.length=ps.length->Tu fd ⟨us,[]⟩=pure (ps.zip us)):cC K fd ps []:=λs us _ c=>by
 rw[Sz] at c ⊢;exact .of_eq (h us c)

def ck(CX:kP)(X:Cx)(E:XK):Prop:=∀(pins:List (P3×Obj)) (σ:St) (H:Hp) (s:P5) (e:P0) (s':P5),ay X pins σ H s->CX X.stack H s E e s'->X.xe e s'

section
variable{X:Cx}{CX:kP}{k:Nat}{f C:P3}{ps:List Str}{sp:Sp}{dvs:List V}{ds:List P0}{E:XK}{x m:Str}{p pos apos:Pos}{e o:Qv}{ta:TE}{t:TA}
theorem pH{σ:St}{H:Hp}{Q:VK}{vs:List V}(F:bS X.prog X.w X.K X.mg X.base CX k f fd ps sp)(g:a9 k X.A)(hb:cC X.K fd ps ds)(hd:aJ dvs ds)(d:ck CX X E)
  (I:ay X pins σ H s) (r:aJ vs us) (h:sp (vs++dvs) H Q E):Qa (Qd X.prog X.w) X.A (call (.ref f) us) (EP X pins σ Q) X.xe s:=by
 have r2:aJ (vs++dvs) (us++ds):=r.append hd;have i:(us++ds).length=ps.length:=by rw[<-r2.length];exact F.len _ _ _ _ h
 refine SA (Rx (F.run X.A X.stack s H ⟨us,[]⟩ (us++ds) (vs++dvs) Q E g I.env0 (hb s us I.kIn i) r2 h) λr s' c=>?_);cases r with
 | error e=>exact d pins σ H s e s' I c
 | ok fl=>
  cases fl with
  | ret u=>exact I.after c
  | next=>exact QE c
  | brk=>exact QE c
  | cont=>exact QE c

theorem uA(F:bS X.prog X.w X.K X.mg X.base CX k f fd ps sp)(j:a9 k X.A)(z:Gl X x)(l:X.mg x=some (.ref f))(u:QX X.K (.ref f)=true)(hb:cC X.K fd ps ds)(hd:aJ dvs ds)(i:ck CX X E)
  (L:PA X (e::es) t) (d:(x==("__debug__":Str))=false:=by decide) (he:hE9 X e es:=by nofun) (c:hP9 X pos es:=by nofun) :
  PE X (.Call (.Name x p) (e::es) [] pos) (kh sp dvs E t):=by
 intro pins s σ H Q I h;refine Re (dM I z l ?_ d);refine Sk (h₀:=X.base) I.ok.mod.kin u (bv (L pos pins s σ H _ I h) λus O g=>de g λvs H1 I1 r q=>⟨I1.kIn,?_⟩) he c;exact pH F j hb hd i I1 r q
theorem Dt(F:bS X.prog X.w X.K X.mg X.base CX k f fd ps sp)(g:a9 k X.A)(l:Gl X x)(i:X.mg x=some (.ref f))(j:QX X.K (.ref f)=true)(hb:cC X.K fd ps ds)(hd:aJ dvs ds)(d:ck CX X E)
  (c:(x==("__debug__":Str))=false:=by decide):PE X (.Call (.Name x p) [] [] pos) (kh sp dvs E mF):=by
 intro pins s σ H Q I h;refine Re (dM I l i ?_ c);exact Xs I.kIn j (pH (us:=[]) F g hb hd d I .nil h)

theorem Gi{pl:Sem Bool}(he:PE X o ta)(c:oP X.K C)(z:uz X.K C m f)(F:bS X.prog X.w X.K X.mg X.base CX k f fd ps sp)(Z:a9 k X.A)(hb:cC X.K fd ps ds)(hd:aJ dvs ds)(Y:ck CX X E)(ha:PA X (e::es) t)
  (g:hE9 X e es:=by nofun) (i:hP9 X pos es:=by nofun)
  (ht:Q0 (.Call (.Attribute o m apos) (e::es) [] pos) X.env=(do
   let j <-Q0 o X.env
   SI apos.atName
   let (f,first) <-SJ [j] (TC j m pl)
   U8 pos f first (Sr pos<|Qy (e::es) X.env) (Sb pos<|Rh [] X.env)):=by nofun) :
  PE X (.Call (.Attribute o m apos) (e::es) [] pos) (zA C m sp dvs E ta t):=by
 intro pins s σ H Q I h;refine TH (pl:=pl) (bv (he pins s σ H _ I h) λu O d=>?_) ht;obtain⟨x,H1,I1,U,a,dx,fs,ex,ea,l,q⟩:=d;subst ex;obtain rfl:u=Qo a:=U;refine iE I1 ea c z l ?_;refine Sk (first:=[.ref a]) (h₀:=X.base) I.ok.mod.kin z.kp (bv (ha pos pins O σ H1 _ I1 q) λus s2 d=>de d λvs H2 L r q2=>⟨L.kIn,?_⟩) g i;exact pH (us:=.ref a::us) (vs:=.ref a::vs) F Z hb hd Y L (.cons rfl r) q2
theorem Du{pl:Sem Bool}(he:PE X o ta)(c:oP X.K C)(g:uz X.K C m f)(F:bS X.prog X.w X.K X.mg X.base CX k f fd ps sp)(z:a9 k X.A)(hb:cC X.K fd ps ds)(hd:aJ dvs ds)(r:ck CX X E)
  (ht:Q0 (.Call (.Attribute o m apos) [] [] pos) X.env=(do
   let d <-Q0 o X.env
   SI apos.atName
   let (f,first) <-SJ [d] (TC d m pl)
   U8 pos f first (Sr pos<|Qy [] X.env) (Sb pos<|Rh [] X.env)):=by nofun) :
  PE X (.Call (.Attribute o m apos) [] [] pos) (zA C m sp dvs E ta mF):=by
 intro pins s σ H Q I h;refine TH (pl:=pl) (bv (he pins s σ H _ I h) λu O i=>?_) ht;obtain⟨x,H1,I1,j,a,U,fs,ex,L,l,q⟩:=i;subst ex;obtain rfl:u=Qo a:=j;refine iE I1 L c g l ?_;exact Xs (first:=[.ref a]) I1.kIn g.kp (pH (us:=[.ref a]) (vs:=[.ref a]) F z hb hd r I1 (.cons rfl .nil) q)

structure Mk(K:P7)(C f:P3):Prop where
 makes:WH K C=true
 init:Q3 K (.ref C) "__init__" = some (some<|.ref f)
 fn:Ux K (.ref f)=true
 kp:QX K (.ref C)=true

theorem Dv{σ:St}{H:Hp}{Q:VK}{vs:List V}(M:Mk X.K C f)(F:bS X.prog X.w X.K X.mg X.base CX k f fd ps sp)(L:a9 (k+1) X.A)(hb:cC X.K fd ps ds)(hd:aJ dvs ds)
  (z:ck CX X E) (I:ay X pins σ H s) (r:aJ vs us)
  (h:∀x d,H x=none->H d=none->d≠x->sp (.ref x::(vs++dvs)) (upd (upd H d<|.own x) x<|.ins C d []) (λv U=>v=.non/\Q (.ref x) U) E) :
  Qa (Qd X.prog X.w) X.A (call (.ref C) us) (EP X pins σ Q) X.xe s:=by
 have j:=h (s.heap.objs.size+1) s.heap.objs.size (I.hok.fresh<|ae3 _) (I.hok.fresh<|Qi _) (Qp<|Rn _);have g:=ay.made (C:=C) I;have i:aJ (V.ref (s.heap.objs.size+1)::(vs++dvs)) (Qo (s.heap.objs.size+1)::(us++ds)):=.cons rfl (r.append hd);have O:(Qo (s.heap.objs.size+1)::us++ds).length=ps.length:=by
  have e:=i.length;rw[F.len _ _ _ _ j] at e;exact e.symm
 refine SA (v5 (f:=f) I.kIn M.makes M.init (beq_iff_eq.mp M.fn) (Rx (F.run _ X.stack _ _ ⟨Qo (s.heap.objs.size+1)::us,[]⟩ (Qo (s.heap.objs.size+1)::(us++ds)) _ _ E (L.make C us [])
  (g.env0.make C us []) (hb _ (Qo (s.heap.objs.size+1)::us) g.kIn O) i j) λr s' c=>?_))
 cases r with
 | error e=>exact z pins σ _ _ e s' g c
 | ok fl=>
  cases fl with
  | ret u=>
   obtain⟨v,Y,I3,l,ev,q⟩:=g.after c;subst ev;exact⟨l,⟨V.ref<|s.heap.objs.size+1,Y,I3,rfl,q⟩⟩
  | next=>exact QE c
  | brk=>exact QE c
  | cont=>exact QE c
theorem Gj(M:Mk X.K C f)(F:bS X.prog X.w X.K X.mg X.base CX k f fd ps sp)(j:a9 (k+1) X.A)(u:Gl X x)(l:X.mg x=some (.ref C))(hb:cC X.K fd ps ds)(hd:aJ dvs ds)(i:ck CX X E)
  (z:PA X (e::es) t) (d:(x==("__debug__":Str))=false:=by decide) (he:hE9 X e es:=by nofun) (c:hP9 X pos es:=by nofun) :
  PE X (.Call (.Name x p) (e::es) [] pos) (IW C sp dvs E t):=by
 intro pins s σ H Q I h;refine Re (dM I u l ?_ d);refine Sk (h₀:=X.base) I.ok.mod.kin M.kp (bv (z pos pins s σ H _ I h) λus L g=>de g λvs H1 I1 r q=>⟨I1.kIn,?_⟩) he c;exact Dv M F j hb hd i I1 r q
end
def PK(X:Cx)(c:List Uy)(t:TA):Prop :=
 ∀(pos:Pos) (pins:List (P3×Obj)) (s:P5) (σ:St) (H:Hp) (Q:List V->Hp->Prop),ay X pins σ H s->t σ H Q->Qa (Qd X.prog X.w) X.A (ac9 ((Sb pos<|Rh c X.env).map (·.2))) (AP X pins σ Q) X.xe s
section
variable{X:Cx}{CX:kP}{k:Nat}{f C:P3}{ps ks:List Str}{sp:Sp}{E:XK}{x m:Str}{p pos apos kpos:Pos}{e o:Qv}{kws:List Uy}{te ta:TE}{t tk:TA}{nm:Option Str}
theorem J8:PK X [] mF:=λ_ _ _ _ H Q I h=>Uz ⟨[],H,I,.nil,h⟩
theorem Gk(l:PE X e te)(j:PK X kws t):PK X (⟨nm,e,kpos⟩::kws) (j9 te t):=by
 intro pos pins s σ H Q I h;show Qa _ _ (ac9 ((do let v <-Q0 e X.env;SI pos;pure v)::(Sb pos<|Rh kws X.env).map (·.2))) _ _ s;refine VF (PZ<|bv (l pins s σ H _ I h) λu d c=>de c λx H1 I1 i q1=>PZ (R1<|P2 ?_));exact bv (j pos pins d σ H1 _ I1 q1) λus z c=>de c λxs r q g q2=>⟨x::xs,r,q,.cons i g,q2⟩

variable{g:List P0->List P0->List P0}{gV:List V->List V->List V}
end
structure aj(N P:List Str)(sc:Q8):Prop where
 kind:sc.kind=.function
 co:sc.isCoroutine=false
 gen:sc.isGenerator=false
 nd:N.Nodup
 pre:N.take P.length=P
 par:∀x∈P,sc.names.lookup x=some .local∨sc.names.lookup x=some .cell
 nofree:∀y∈sc.names,y.2≠.free

theorem sJ{kindOf:Str->Option SG}{x:Str}:∀{binds:List (Str×P0)} {m:Str->Option P0},(∀v,(x,v)∉binds)->Y8 kindOf binds m x=m x
 | [],_,_=>rfl
 | (n,v)::r,m,h=>by
  unfold Y8;rw[sJ λw c=>h w (Ql _ c)];split
  ·have:x≠n:=by rintro rfl;exact h v Qj
   simp[this]
  ·rfl
theorem sK{kindOf:Str->Option SG}{x:Str}:∀{binds:List (Str×P0)} {m:Str->Option P0},(∀v,(x,v)∉binds)->Y9 kindOf binds m x=m x
 | [],_,_=>rfl
 | (n,v)::r,m,h=>by
  unfold Y9;rw[sK λw c=>h w (Ql _ c)];split
  ·rfl
  ·have:x≠n:=by rintro rfl;exact h v Qj
   simp[this]
theorem sL{kindOf:Str->Option SG}{x:Str}{v:P0}:∀{P:List Str} {vs:List P0} {i:Nat} {m:Str->Option P0},P.Nodup->P[i]?=some x->vs[i]?=some v->kindOf x=some .local ->
  Y8 kindOf (P.zip vs) m x=some v
 | [],_,_,_,_,h,_,_=>by simp at h
 | _::_,[],_,_,_,_,h,_=>by simp at h
 | p::P,w::vs,0,m,nd,h1,c,d=>by
  simp at h1 c;subst h1;subst c;show Y8 kindOf ((p,w)::P.zip vs) m p=_;unfold Y8;rw[sJ λv f=>(RQ.mp nd).1 (Vm f).1,if_pos d];simp
 | p::P,w::vs,i+1,m,nd,h1,c,d=>by
  show Y8 kindOf ((p,w)::P.zip vs) m x=_;unfold Y8;exact sL (i:=i) (RQ.mp nd).2 (by simpa using h1) (by simpa using c) d
theorem sM{kindOf:Str->Option SG}{x:Str}{v:P0}:∀{P:List Str} {vs:List P0} {i:Nat} {m:Str->Option P0},P.Nodup->P[i]?=some x->vs[i]?=some v->kindOf x≠some .local ->
  Y9 kindOf (P.zip vs) m x=some v
 | [],_,_,_,_,h,_,_=>by simp at h
 | _::_,[],_,_,_,_,h,_=>by simp at h
 | p::P,w::vs,0,m,nd,h1,c,d=>by
  simp at h1 c;subst h1;subst c;show Y9 kindOf ((p,w)::P.zip vs) m p=_;unfold Y9;rw[sK λv f=>(RQ.mp nd).1 (Vm f).1,if_neg d];simp
 | p::P,w::vs,i+1,m,nd,h1,c,d=>by
  show Y9 kindOf ((p,w)::P.zip vs) m x=_;unfold Y9;exact sM (i:=i) (RQ.mp nd).2 (by simpa using h1) (by simpa using c) d

def fw(N:List Str)(vs:List V):St:=vs.map some++VG (N.length - vs.length) none

@[reducible] def bT(CX:kP)(P:QK)(w:Q4)(K:P7)(mg:Str->Option P0)(base:QO)(N:List Str)(qual:Str)(scope:Q8)(f:P3)(cd:P0)(A:RN)(outer:List Env)(s:P5)(H:Hp)(E:XK):Cx where
 prog:=P
 w:=w
 K:=K
 mg:=mg
 base:=base
 A:=A.deeper (Su qual scope s.heap.objs.size f cd)
 N:=N
 s₀:=s
 H₀:=H
 env:=Su qual scope s.heap.objs.size f cd
 outer:=outer
 stack:=Su qual scope s.heap.objs.size f cd::outer
 ex:=[]
 calm:=true
 fn:=λ_=>true
 pn:=[]
 xe:=λe s'=>Qa (Qd P w) (A.deeper<|Su qual scope s.heap.objs.size f cd) (Wu (Su qual scope s.heap.objs.size f cd) e) (λ_ c=>CX outer H s E e c) (λd c=>CX outer H s E d c) s'

theorem v6{d:Q8}{n:Nat}{x:Str}(h:d.names.lookup x=some .cell):∃c,(Xo n d.names []).lookup x=some c:=by
 have q:=UA d.names n [] (.inl h);exact V4.mp q

theorem sN{CX:kP}{N ps:List Str}{qual:Str}{scope:Q8}{f:P3}{cd:P0}{outer:List Env}{s C:P5}{H:Hp}{E:XK}{vs:List V}
  (S:aj N ps scope) (hd:A.handled=none) (g:jl P w K mg base A outer s H) (Y:vs.length=ps.length) (r:aJ vs us)
  (x:InCallC s s.heap.objs.size (Y8 (Su qual scope s.heap.objs.size f cd).kindOf (ps.zip us) λ_=>none) (Xo (s.heap.objs.size+1) scope.names []) (Y9 (Su qual scope s.heap.objs.size f cd).kindOf (ps.zip us) λ_=>none) C) :
  ay (bT CX P w K mg base N qual scope f cd A outer s H E) [] (fw N vs) H C:=by
 have Q:ps.length≤N.length:=by have:=congrArg Za S.pre;rw[US] at this;omega
 obtain⟨h1,tk,rfl,L⟩:=x.done;have j:∀b:P3,b∉(bT CX P w K mg base N qual scope f cd A outer s H E).ex:=λb z=>absurd (show b∈([]:List P3) from z) (by simp);refine⟨⟨g.mod,S.kind,rfl,rfl,Qi _,λy z c h1 d=>?_,λy hy=>?_,λy c _ h=>?_,λ_=>hd,U9 g.frames,.inr ⟨rfl,rfl⟩,λb z=>absurd z (j b),g.bs,g.bsz,λb _ _=>j b,λb z=>absurd z (j b),g.funs,g.frf⟩,
  rfl,g.bare,Un.kept L,⟨_,x.toInCall.ns,λi y v h1 d Z=>?_⟩,λy c h=>⟨_,x.cell y c h⟩,g.hok.fresh<|Qi _,λy c h=>?_,λp m=>absurd (show p∈([]:List (P3×Obj)) from m) (by simp),g.hok.kept L,?_⟩
 ·exact name_of_addr x.apart (Sg h1) (Sg d)
 ·have hy:scope.names.lookup y=some .cell∨scope.names.lookup y=some .free:=hy;rcases hy with hy | hy
  ·exact v6 hy
  ·exact absurd rfl (S.nofree _<|Sg hy)
 ·exact R9 (x.above y c<|Sg h)
 ·have o:i<vs.length:=by
   unfold fw at d;by_cases o:i<vs.length
   ·exact o
   ·rw[List.getElem?_append_right (by simpa using o)] at d;rw[List.getElem?_replicate] at d;split at d<;>cases d
  have U:vs[i]?=some v:=by
   unfold fw at d;rw[RG (by simpa using o),QZ] at d;cases e:vs[i]? with
   | none=>rw[e] at d;cases d
   | some a=>rw[e] at d;cases d;rfl
  obtain⟨u,I,O⟩:=r.get U;have m:ps[i]?=some y:=by
   rw[<-S.pre,List.getElem?_take_of_lt (by omega)];exact h1
  have l:ps.Nodup:=by rw[<-S.pre];exact S.nd.sublist (List.take_sublist _ _)
  refine⟨u,O,?_⟩;rcases S.par y (QB m) with k | k
  ·exact .inl ⟨k,sL l m I k⟩
  ·obtain⟨c,e⟩:=v6 (n:=s.heap.objs.size+1) k;refine .inr ⟨.inl k,c,e,?_⟩;have q:=x.cell y c e;rw[sM l m I (by show scope.names.lookup y≠_;rw[k];decide)] at q;exact q
 ·exact g.hok.fresh (R9<|x.above y c<|Sg h)
 ·unfold fw;show _=N.length;rw[Ri,QI,List.length_replicate];omega

theorem zB{CX:kP}{k:Nat}{f:P3}{name qual:Str}{params:TD}{body:List SK}{scope:Q8}{O kV doc L c ct oc:P0}{U Z:Option P3}
  {N ps:List Str} {sp:Sp} (lk:K.lookup f=some ⟨oc,Z,.func<|Q1 name qual params body scope O kV doc L U c ct,osl⟩) (z:RM K c qual=true) (S:aj N ps scope)
  (len:∀vs H Q E,sp vs H Q E->vs.length=ps.length)
  (hbody:∀(A:RN) (outer:List Env) (s:P5) (H:Hp) (vs:List V) (Q:VK) (E:XK),a9 k (A.deeper<|Su qual scope s.heap.objs.size f c)->sp vs H Q E ->
   ∃t,gC (bT CX P w K mg base N qual scope f c A outer s H E) body t/\t {nx:=λ_ g=>Q .non g,rt:=Q} (fw N vs) H) :
  bS P w K mg base CX (k+1) f (Q1 name qual params body scope O kV doc L U c ct) ps sp:=by
 refine⟨len,λA outer s H args us vs Q E p j hb r i=>?_⟩;have hl:=len _ _ _ _ i;have Y:K.In s.heap:=j.mod.kin.keeps λb o e=>(j.bs b o e).1;have m:s.heap.NoLimit:=j.mod.nolimit.keeps λb o e=>(j.bs b o e).1;have h:∀y∈ps.zip us,scope.names.lookup y.1=some .local∨(scope.names.lookup y.1=some .cell/\((Xo (s.heap.objs.size+1) scope.names []).lookup y.1).isSome=true):=λ⟨n,v⟩ hy=>by
  rcases S.par n (Vm hy).1 with q | q
  ·exact .inl q
  ·exact .inr ⟨q,UA _ _ _<|.inl q⟩
 refine WP p.depth (Y _ _ lk) rfl S.co S.gen rfl (X5 Y z) (hb _ _ _ _ ?_);refine VH S.kind h λenv he C x=>?_;subst he;refine⟨m.keeps x.toInCall.keep,codeAny_func ?_⟩;obtain⟨t,ht,hq⟩:=hbody A outer s H vs Q E (p.deeper _) i;have I:ay (bT CX P w K mg base N qual scope f c A outer s H E) [] (fw N vs) H C:=sN S p.hd j hl r x;refine QS (ht [] C (fw N vs) H _ I hq) (λfl s' hs=>?_) λe s' hs=>hs;have fin:∀{d:St} {g:Hp} {v:V} {u:P0},ay (bT CX P w K mg base N qual scope f c A outer s H E) [] d g s'->aN v u->Q v g->CE outer P w H s Q u s' :=
  λ{d g v u} J l q=>⟨v,g,J.os,J.bare,J.base,J.hok,l,q⟩
 cases fl with
 | ret u=>
  obtain⟨v,d,g,J,l,q⟩:=hs;exact fin J l q
 | next=>
  obtain⟨d,g,J,q⟩:=hs;exact fin (v:=V.non) (u:=QN) J rfl q
 | brk=>
  obtain⟨_,_,_,q⟩:=hs;exact QE q
 | cont=>
  obtain⟨_,_,_,q⟩:=hs;exact QE q
section
variable{X:Cx}{x:Str}{p pos:Pos}{e:Qv}{t:TA}{id T:String}{r:List V->Hp->VK->Prop}
def J9(r:List V->Hp->VK->Prop)(t:TA):TE:=λσ H Q=>t σ H λvs H1=>r vs H1 Q
theorem ii(o:cZ X (.builtin id) r)(m:Gl X x)(l:X.mg x=none)(j:Q9 x=some (.builtin id))(q:PA X (e::es) t)(hn:x≠"__name__":=by decide)(d:(x==("__debug__":Str))=false:=by decide)
  (he:hE9 X e es:=by nofun) (c:hP9 X pos es:=by nofun):PE X (.Call (.Name x p) (e::es) [] pos) (J9 r t):=by
 intro pins s σ H Q I h;refine Re (kK I m l j ?_ hn d);exact YR (bv (q pos pins s σ H _ I h) λus g f=>de f λvs H1 I1 i q1=>o pins g σ H1 vs us Q I1 i q1) he c
theorem sO(o:cZ X (.type T) r)(m:Gl X x)(l:X.mg x=none)(j:Q9 x=some (.type T))(q:PA X (e::es) t)(hn:x≠"__name__":=by decide)(d:(x==("__debug__":Str))=false:=by decide)
  (he:hE9 X e es:=by nofun) (c:hP9 X pos es:=by nofun):PE X (.Call (.Name x p) (e::es) [] pos) (J9 r t):=by
 intro pins s σ H Q I h;refine Re (kK I m l j ?_ hn d);exact TK (bv (q pos pins s σ H _ I h) λus g f=>de f λvs H1 I1 i q1=>o pins g σ H1 vs us Q I1 i q1) he c
end
end L2
variable{xs:List L2.V}{vs:List L2.V}{H:L2.Hp}{X:L2.Cx}{σ:L2.St}
namespace HT
open PySem PyProof.Rows
section
open PySem.SeqAt
open PySem.AutoSeq1 (wpAny_loadPart')
open PySem.MeetsSeq PySem.MeetsSeq2 PySem.MeetsSeq3
end
section
theorem cat_tup{t b:P3}{vs ws:List P0}{Q:P0->P5->Prop}(ht:WF s.heap t vs.toArray)(hb:WF s.heap b ws.toArray)(j:vs≠[])
  (h1:ws=[]->Q (.ref t) s) (o:ws≠[]->Q (.ref s.heap.objs.size) {s with heap:=s.heap.push {cls:=.type "tuple",data:=.seq (vs++ws).toArray}})
  (hsz:vs.length+ws.length≤Qf):Qa (Qd prog w) A (Td .Add (.ref t)<|.ref b) Q E s:=by
 obtain⟨⟨cls,dd,data,sl⟩,ho,l,n,hd⟩:=id ht;obtain⟨⟨m,g,data2,d⟩,c,f,i,hd2⟩:=id hb;simp only at l hd f hd2;subst l hd f hd2;have e:vs.toArray++ws.toArray=(vs++ws).toArray:=by simp
 by_cases h:ws=[]
 ·exact Yw ⟨_,ho,rfl⟩ ⟨_,c,rfl⟩ V9 XN UB Uq (T8 _ _)
   (tuple_addW1 t b vs.toArray ws.toArray n i dd g sl d (by simpa using j)<|by simp[h]) ⟨ho,c,h1 h⟩
 ·refine Yw ⟨_,ho,rfl⟩ ⟨_,c,rfl⟩ V9 XN UB Uq (T8 _ _)
   (tuple_addW2 t b vs.toArray ws.toArray n i dd g sl d (by simpa using j) (by simpa using h)<|by rw[P6,P6];exact hsz) ⟨ho,c,?_⟩
  rw[e];exact o h

def sIx(n d:Nat):Option Int->Nat
 | none=>d
 | some v=>if v<0 then(v+(n:Int)).toNat else min v.toNat n
theorem sIx_none(n d:Nat):sIx n d none=d:=rfl
theorem sIx_nat(n d k:Nat):sIx n d (some (k:Int))=min k n:=by
 show(if (k:Int)<0 then((k:Int)+(n:Int)).toNat else min (k:Int).toNat n)=min k n;rw[if_neg (by omega),TM]
theorem Ka(n d:Nat)(hd:d≤n)(o:Option Int):sIx n d o≤n:=by
 cases o with
 | none=>exact hd
 | some v=>
  show(if v<0 then(v+(n:Int)).toNat else min v.toNat n)≤n;by_cases c:v<0
  ·rw[if_pos c];omega
  ·rw[if_neg c];exact Nat.min_le_right _ _
theorem zC(v:Int)(n d:Nat):(if v<0 then max (v+(n:Int)) 0 else min v (n:Int))=((sIx n d (some v):Nat):Int):=by
 show(if v<0 then max (v+(n:Int)) 0 else min v (n:Int))=(((if v<0 then(v+(n:Int)).toNat else min v.toNat n):Nat):Int);by_cases c:v<0
 ·simp only[if_pos c];omega
 ·simp only[if_neg c];omega
theorem x9(lo c:Option Int)(n:Nat):T6 lo c 1 (n:Int)=(((sIx n 0 lo:Nat):Int),((sIx n n c:Nat):Int)):=by
 have h1:¬((1:Int)<0):=by omega
 unfold T6;simp only[h1,if_false];refine Prod.ext ?_ ?_
 ·cases lo with
  | none=>rfl
  | some v=>exact zC v n 0
 ·cases c with
  | none=>rfl
  | some v=>exact zC v n n
theorem ya(i j:Nat):SL (i:Int) (j:Int) 1=j - i:=by
 unfold SL;have h1:(1:Int) > 0:=by omega
 simp only[h1,if_true,Int.ediv_one];split<;>omega
theorem pI{v:P0}{o:Option Int}{Q:Option Int->P5->Prop}(p:Wv v o)(h:Q o s):Qa (Qd prog w) A (Zg v) Q E s:=by
 cases p with
 | none=>exact ZE h
 | int i t=>exact slicePart_int h
theorem sliceApplied_gen{sl:P3}{i g:P0}{lo d:Option Int}{n:Nat}{Q:Int×Int×Nat->P5->Prop}(hs:s.heap.IsSliceOf sl i g .none)(pl:Wv i lo)(j:Wv g d)
  (h:Q (((sIx n 0 lo:Nat):Int),1,sIx n n d - sIx n 0 lo) s):Qa (Qd prog w) A (VI (.ref sl)<|pure (n:Int)) Q E s:=by
 obtain⟨os,c,l,f⟩:=id hs;unfold VI aa3;refine PZ (PZ<|Ru c f (x:=i) rfl<|PZ<|Ru c f (x:=g) rfl<|PZ<|Ru c f (x:=.none) rfl<|P2 ?_);refine PZ (ZE ?_);show Qa _ _ (if ((1:Int)==0)=true then _ else _) _ _ s;rw[if_neg (by decide)];refine PZ (pI pl<|PZ<|pI j<|PZ<|P2 ?_);show Qa _ _ (match T6 lo d 1 (n:Int) with | (lo,d)=>pure (lo,(1:Int),SL lo d 1)) _ _ s;rw[x9 lo d n];show Qa _ _ (pure (((sIx n 0 lo:Nat):Int),(1:Int),SL ((sIx n 0 lo:Nat):Int) ((sIx n n d:Nat):Int) 1)) _ _ s;rw[ya];exact P2 h
theorem Dw(xs:Array P0)(i k:Nat):((Ui k).filterMap λ(m:Nat)=>xs[((i:Int)+(m:Int)*1).toNat]?).toArray=((xs.toList.drop i).take k).toArray:=by
 have e:(λ(m:Nat)=>xs[((i:Int)+(m:Int)*1).toNat]?)=λm=>xs[i+m]?:=by
  funext m;have:((i:Int)+(m:Int)*1).toNat=i+m:=by omega
  rw[this]
 rw[e];have:=pick_run xs i k;rw[List.filterMap_map] at this;have c:((λx=>xs[x]?)∘λx=>i+x)=λm=>xs[i+m]?:=rfl;rw[c] at this;rw[this]

theorem getItem_tuple_cut{t sl:P3}{items:Array P0}{o l:P0}{lo d:Option Int}{Q:P0->P5->Prop}(ht:WF s.heap t items)(hs:s.heap.IsSliceOf sl o l .none)(pl:Wv o lo)(p:Wv l d)
  (r:¬(sIx items.size 0 lo=0/\sIx items.size items.size d=items.size))
  (h:Q (.ref s.heap.objs.size) {s with heap:=s.heap.push {cls:=.type "tuple",data:=.seq ((items.toList.drop<|sIx items.size 0 lo).take (sIx items.size items.size d - sIx items.size 0 lo)).toArray}})
  (hsz:items.size≤Qf):Qa (Qd prog w) A (Vt (.ref t)<|.ref sl) Q E s:=by
 have c:sizeOk (.seq ((items.toList.drop<|sIx items.size 0 lo).take (sIx items.size items.size d - sIx items.size 0 lo)).toArray):=by
  show((items.toList.drop<|sIx items.size 0 lo).take (sIx items.size items.size d - sIx items.size 0 lo)).toArray.size≤Qf;rw[P6,US,Wa,QL];omega
 have x:sIx items.size items.size d≤items.size:=Ka _ _ (Qi _) d;obtain⟨os,f,i,u⟩:=id hs;have j:s.TypeIs (.ref sl) "slice":=⟨os,f,i⟩
 unfold Vt
 try with_reducible refine QG ?_
 first | refine PZ (P2 ?_) | skip
 refine PZ (Yx ht.typeIs (by decide) ?_);refine PZ (RY (name:=P4 "__getitem__") ht.typeIs Q7
  (Ro Q7 ht.typeIs Xu ?_<|X6 _ _))
 show Qa _ _ (VJ (.ref t) >>= _) _ _ s;refine PZ (tupleItemsOf_ ht ?_);refine PZ (Ww j ?_);rw[if_pos (by decide)];refine PZ (sliceApplied_gen hs pl p ?_);have g:¬((((sIx items.size 0 lo:Nat):Int)==0&&(1:Int)==1&&(sIx items.size items.size d - sIx items.size 0 lo)==items.size)=true):=by
  intro q;rw[Qq,Qq] at q;have q1:((sIx items.size 0 lo:Nat):Int)=0:=eq_of_beq q.1.1;have q2:sIx items.size items.size d - sIx items.size 0 lo=items.size:=eq_of_beq q.2;exact r ⟨by omega,by omega⟩
 show Qa _ _ (if (((sIx items.size 0 lo:Nat):Int)==0&&(1:Int)==1&&(sIx items.size items.size d - sIx items.size 0 lo)==items.size)=true then _ else _) _ _ s;rw[if_neg g,Dw]
 first
  | exact PZ (m:=SY _) (QT (P2 ⟨_,rfl,P2 h⟩) c)
  | exact PZ (m:=SY _) (QT (PZ (P2 (P2 ⟨_,rfl,P2 h⟩))) c)
  | exact PZ (PZ (m:=SY _) (QT (P2 (P2 ⟨_,rfl,P2 h⟩)) c))
  | exact PZ (PZ (m:=SY _) (QT (P2 ⟨_,rfl,P2 h⟩) c))
end
end HT
namespace L2
open PySem PySem.Spec PyProof.Rows
abbrev TO:=St->Hp->(Option Int->Hp->Prop)->Prop
def PO(X:Cx)(e:Option Qv)(t:TO):Prop :=
 ∀(pins:List (P3×Obj)) (s:P5) (σ:St) (H:Hp) (Q:Option Int->Hp->Prop),ay X pins σ H s->t σ H Q ->
  Qa (Qd X.prog X.w) X.A (evalPart e X.env) (λu s'=>∃o c,ay X pins σ c s'/\Wv u o/\Q o c) X.xe s
def zD:TO:=λ_ H Q=>Q none H
def IX(t:TE):TO:=λσ H Q=>t σ H λx H1=>∃i,x=.int i/\Q (some i) H1

theorem yb{ns:List Int}:∀{us:List P0},aJ (ns.map V.int) us->UC us ns:=by
 induction ns with
 | nil=>intro us r;rw[UD] at r;cases r;exact .nil
 | cons n ns f=>
  intro us r;rw[Qx] at r;cases r with
  | cons d c=>
   obtain⟨t,e⟩:=d;subst e;exact .cons n t (f c)

section
variable{e:Qv}{te:TE}{lo hi:Option Qv}{tl th:TO}{pos p2:Pos}
theorem zE:PO X none zD:=by
 intro pins s σ H Q I h;rw[evalPart_none];exact P2 ⟨none,H,I,.none,h⟩
theorem zF(h:PE X e te):PO X (some e) (IX te):=by
 intro pins s σ H Q I f;rw[evalPart_some];refine bv (h pins s σ H _ I f) λu g c=>de c λx H1 I1 d q1=>?_;obtain⟨i,rfl,q⟩:=q1;obtain⟨t,rfl⟩:=d;exact⟨some i,H1,I1,.int i t,q⟩

def Mz(X:Cx)(r:V->Option Int->Option Int->Hp->VK->Prop):Prop :=
 ∀(pins:List (P3×Obj)) (s:P5) (σ:St) (H:Hp) (x:V) (v d c:P0) (lo hi:Option Int) (sl:P3) (Q:VK),ay X pins σ H s->aN x v->s.heap.IsSliceOf sl d c .none->Wv d lo->Wv c hi->r x lo hi H Q ->
  ∃T id,ZF (.type T) "__getitem__" = pure (some<|.builtin id)/\s.TypeIs v T/\Qa (Qd X.prog X.w) X.A (Vt v<|.ref sl) (EP X pins σ Q) X.xe s
def Pq(r:V->Option Int->Option Int->Hp->VK->Prop)(te:TE)(tl th:TO):TE:=λσ H Q=>te σ H λx H1=>tl σ H1 λl d=>th σ d λu c=>r x l u c Q
theorem v7{r:V->Option Int->Option Int->Hp->VK->Prop}(L:Mz X r)(he:PE X e te)(O:PO X lo tl)(C:PO X hi th):PE X (.Subscript e (.Slice lo hi none p2) pos) (Pq r te tl th):=by
 intro pins s σ H Q I h;refine X7 (bv (he pins s σ H _ I h) λv m d=>de d λx H1 I1 o q1=>?_);refine wpAny_Slice (bv (O pins m σ H1 _ I1 q1) λg j d=>de d λl H2 I2 pl q2=>bv (C pins j σ H2 _ I2 q2) λf c d=>de d λu i I3 z p=>?_);rw[evalPart_none];refine P2 ?_;have Z:ay X pins σ i {c with heap:=c.heap.push {cls:=.type "slice",data:=.fields #[g,f,.none]}}:=I3.kept (t':=c.toks) λb ob q=>P1 _ q;obtain⟨T,id,Y,ht,U⟩:=L pins {c with heap:=c.heap.push {cls:=.type "slice",data:=.fields #[g,f,.none]}} σ i x v g f l u c.heap.objs.size Q Z o (af0 ..) pl z p;show Qa (Qd X.prog X.w) X.A (XO e (.Slice lo hi none p2) v<|.ref c.heap.objs.size) (EP X pins σ Q) X.xe {c with heap:=c.heap.push {cls:=.type "slice",data:=.fields #[g,f,.none]}};exact tail_any (ops:=[.ref c.heap.objs.size,v]) ht Y U (by nofun)

def mG(xs:List V)(lo hi:Option Int):List V:=(xs.drop<|HT.sIx xs.length 0 lo).take (HT.sIx xs.length xs.length hi - HT.sIx xs.length 0 lo)
theorem v8(xs:List V)(lo hi:Option Int):(mG xs lo hi).length≤xs.length:=by
 unfold mG;rw[US,Wa];omega
def Oz(K:P7):V->Option Int->Option Int->Hp->VK->Prop:=λx lo hi H Q=>∃a xs,x=.ref a/\ic K H a xs /\
 ¬(HT.sIx xs.length 0 lo=0/\HT.sIx xs.length xs.length hi=xs.length)/\∀p,H p=none->Q (.ref p) (upd H p<|.tup<|mG xs lo hi)
theorem Kb:Mz X (Oz X.K):=by
 intro pins s σ H x v l j lo hi sl Q I d hs pl f h;obtain⟨a,xs,rfl,g,i,q⟩:=h;cases d;obtain⟨its,r,ht,hz⟩:=I.tuple g;have c:its.toArray.size=xs.length:=by rw[P6];exact r.length.symm
 refine⟨"tuple",_,Q7.lookup,ht.typeIs,?_⟩;refine HT.getItem_tuple_cut ht hs pl f (by rw[c];exact i) ?_ (by rw[c];exact hz);rw[c];refine⟨.ref s.heap.objs.size,_,I.laid (t':=s.toks) (o:=.tup (mG xs lo hi)) (λb ob q=>P1 _ q) (Qi _) ?_,rfl,q _<|I.hok.fresh<|Qi _⟩;exact⟨Rg (v8 xs lo hi) hz,_,(r.drop<|HT.sIx xs.length 0 lo).take (HT.sIx xs.length xs.length hi - HT.sIx xs.length 0 lo),YO _ _⟩

def MA(K:P7):R2:=λx y H Q=>∃a b xs ys,x=.ref a/\y=.ref b/\ic K H a xs/\ic K H b ys/\xs≠[]/\xs.length+ys.length≤Qf /\
 (ys=[]->Q (.ref a) H)/\(ys≠[]->∀p,H p=none->Q (.ref p) (upd H p<|.tup<|xs++ys))
theorem aJ.nil_iff(r:aJ xs us):us=[]↔xs=[]:=by
 cases r with
 | nil=>simp
 | cons _ _=>simp
theorem Gm:kN X (Td .Add) (MA X.K):=by
 intro pins s σ H x y v u Q I f d h;obtain⟨a,b,xs,ys,rfl,rfl,j,hb,i,hz,q1,q2⟩:=h;cases f;cases d;obtain⟨its,r1,g,_⟩:=I.tuple j;obtain⟨c,r2,p2,_⟩:=I.tuple hb;refine HT.cat_tup g p2 (λz=>i (r1.nil_iff.mp z)) (λz=>⟨.ref a,H,I,rfl,q1<|r2.nil_iff.mp z⟩) (λz=>?_) (by rw[<-r1.length,<-r2.length];exact hz);refine⟨.ref s.heap.objs.size,_,I.laid (t':=s.toks) (o:=.tup (xs++ys)) (λb ob q=>P1 _ q) (Qi _) ?_,rfl,q2 (λw=>z (r2.nil_iff.mpr w)) _<|I.hok.fresh<|Qi _⟩;exact⟨by rw[Ri];exact hz,_,r1.append r2,YO _ _⟩
end
def Dx(n:Nat)(i:Int):Option Nat:=if 0≤i then(if i<n then some i.toNat else none) else if -(n:Int)≤i then some (i+n).toNat else none
def F4{c:Type}(xs:List c)(i:Int):Option c:=(Dx xs.length i).bind λj=>xs[j]?
theorem zG{n:Nat}{i:Int}{j:Nat}(h:Dx n i=some j):ac3 i n=some j/\j<n/\-(n:Int)≤i/\i<n:=by
 unfold Dx at h;by_cases h0:0≤i
 ·rw[if_pos h0] at h;by_cases h1:i<n
  ·rw[if_pos h1] at h;have e:i.toNat=j:=Qu h;exact⟨by rw[Zb h0 h1,e],by omega,by omega,h1⟩
  ·rw[if_neg h1] at h;cases h
 ·rw[if_neg h0] at h;by_cases h1:-(n:Int)≤i
  ·rw[if_pos h1] at h;have e:(i+n).toNat=j:=Qu h;exact⟨by rw[seqIndex_neg (by omega) h1,e],by omega,h1,by omega⟩
  ·rw[if_neg h1] at h;cases h
theorem zH{c:Type}{xs:List c}{i:Int}{v:c}(h:F4 xs i=some v):∃j,ac3 i xs.length=some j/\xs[j]?=some v/\j<xs.length/\-(xs.length:Int)≤i/\i<xs.length:=by
 unfold F4 at h;cases e:Dx xs.length i with
 | none=>rw[e] at h;cases h
 | some j=>
  rw[e] at h;obtain⟨h1,g,f,d⟩:=zG e;exact⟨j,h1,h,g,f,d⟩
theorem zI{c:Type}{xs:List c}{j:Nat}{v:c}(h:xs[j]?=some v):F4 xs (j:Int)=some v:=by
 have d:j<xs.length:=(P9.mp h).1;have e:Dx xs.length (j:Int)=some j:=by
  unfold Dx;rw[if_pos (by omega),if_pos (by omega)];simp
 unfold F4;rw[e];exact h
def zJ(b:Qv):Prop:=∀o i,W2 b false o i=operate [o,i] (Vt o i)
def N9(X:Cx)(r:R2):Prop :=
 ∀(value slice:Qv) (pins:List (P3×Obj)) (s:P5) (σ:St) (H:Hp) (x y:V) (v u:P0) (Q:VK),ay X pins σ H s->aN x v->aN y u->r x y H Q ->
  W2 slice false v u=operate [v,u] (Vt v u)->Qa (Qd X.prog X.w) X.A (XO value slice v u) (EP X pins σ Q) X.xe s
def OA(X:Cx)(id:String)(r:V->List V->Hp->VK->Prop):Prop :=
 ∀(pins:List (P3×Obj)) (s:P5) (σ:St) (H:Hp) (x:V) (xs:List V) (v:P0) (us:List P0) (Q:VK),ay X pins σ H s->aN x v->aJ xs us->r x xs H Q ->
  Qa (Qd X.prog X.w) X.A (call (.builtin id) (v::us)) (EP X pins σ Q) X.xe s
section
variable{a b:Qv}{ta tb:TE}
theorem IY{r:R2}(g:N9 X r)(i:PE X a ta)(hb:PE X b tb)(hs:zJ b):PE X (.Subscript a b pos) (J0 r ta tb):=by
 intro pins s σ H Q I h;exact X7 (J2 i hb I h λv u c x y l j f d q=>g a b pins c σ l x y v u Q j f d q (hs _ _))

def OB(K:P7):R2:=λx y H Q=>∃p xs i v,x=.ref p/\y=.int i/\ie K H p xs/\F4 xs i=some v/\Q v H
def OC(K:P7):R2:=λx y H Q=>∃p xs i v,x=.ref p/\y=.int i/\ic K H p xs/\F4 xs i=some v/\Q v H
theorem zK:N9 X (OB X.K):=by
 intro value slice pins s σ H x y v u Q I l g h hs;obtain⟨p,xs,i,z,rfl,rfl,m,he,q⟩:=h;cases l;obtain⟨t,rfl⟩:=g;obtain⟨its,r,pl,hz⟩:=I.list m;obtain⟨j,h1,L,O,C,o⟩:=zH he;obtain⟨w,f,c⟩:=r.get L;have hl:=r.length;have hn:=mC;have fin:EP X pins σ Q w s:=⟨z,H,I,c,q⟩
 by_cases h0:0≤i
 ·have d:i.toNat=j:=by
   rw[Zb h0 o] at h1;exact Qu h1
  exact item_listR pl.isList h0 (by omega) (by rw[d];simpa using f) fin hs
 ·have d:(i+(its.toArray.size:Int)).toNat=j:=by
   rw[seqIndex_neg (by omega) C] at h1;rw[P6,<-hl];exact Qu h1
  exact UE (x:=w) pl.isList.typeIs slot_list_getitem.lookup
   (wpAny_getItem_list_neg (Q:=λr s'=>r=w/\EP X pins σ Q r s') pl.isList (by omega) (by rw[P6]<;>omega) (by omega) (by rw[d];simpa using f) ⟨rfl,fin⟩) hs
theorem Kc:N9 X (OC X.K):=by
 intro value slice pins s σ H x y v u Q I f d h hs;obtain⟨p,xs,i,z,rfl,rfl,g,he,q⟩:=h;cases f;obtain⟨t,rfl⟩:=d;obtain⟨its,r,pl,hz⟩:=I.tuple g;obtain⟨j,h1,l,L,C,o⟩:=zH he;obtain⟨w,m,c⟩:=r.get l;have hl:=r.length;have hn:=mC;have fin:EP X pins σ Q w s:=⟨z,H,I,c,q⟩
 exact UE (x:=w) pl.typeIs Q7.lookup
  (getItem_tuple (j:=j) (Q:=λr s'=>r=w/\EP X pins σ Q r s') pl (by omega) (by omega) (by rw[P6,<-hl];exact h1) (by simpa using m) ⟨rfl,fin⟩) hs
theorem yc(its:List P0)(n j:Nat)(u:P0):QU (·.setIfInBounds j u) {cls:=.type "list",data:=.seq its.toArray n}={cls:=.type "list",data:=.seq (its.set j u).toArray n}:=by
 simp[QU]
theorem ay.lst{pins:List (P3×Obj)}{σ:St}{H:Hp}{s:P5}{p:P3}{xs:List V}(I:ay X pins σ H s)(h:H p=some (.lst xs)) :
  ∃(its:List P0) (n:Nat),aJ xs its/\s.heap.get? p=some {cls:=.type "list",data:=.seq its.toArray n}/\xs.length≤Qf:=by
 obtain⟨z,its,n,r,e⟩:=I.hok p _ h;exact⟨its,n,r,e,z⟩
theorem ay.lstUpd{p:P3}{xs ys:List V}{its its':List P0}{n c:Nat}{f:Obj->Obj}(I:ay X pins σ H s)(h:H p=some (.lst xs))
  (ho:s.heap.get? p=some {cls:=.type "list",data:=.seq its.toArray n}) (d:f {cls:=.type "list",data:=.seq its.toArray n}={cls:=.type "list",data:=.seq its'.toArray c}) (r:aJ ys its') (hz:ys.length≤Qf) (t:Nat) :
  ay X pins σ (upd H p<|.lst ys) {s with heap:=s.heap.update p f,toks:=t}:=by
 have e:(s.heap.update p f).get? p=some {cls:=.type "list",data:=.seq its'.toArray c}:=by
  rw[RJ f ho (by rw[d]<;>rfl),d]
 refine I.write (x:=p) (e:=p) (by rw[h];trivial) (.inl rfl) (λb u hb q=>(QC _ _<|RO hb).trans q) ⟨_,e⟩ ?_;exact⟨hz,its',c,r,e⟩
def Dy:V->V->V->Hp->(Hp->Prop)->Prop:=λo i v H Q=>∃p xs k j,o=.ref p/\i=.int k/\H p=some (.lst xs)/\Dx xs.length k=some j/\Q (upd H p<|.lst<|xs.set j v)
theorem Dz:Mi X Dy:=by
 intro pins s σ H o i v L iv u Q I x z m h;obtain⟨p,xs,k,j,rfl,rfl,d,C,q⟩:=h;cases x;obtain⟨t,rfl⟩:=z;obtain⟨its,n,r,ho,hz⟩:=I.lst d;obtain⟨h1,O,g,f⟩:=zG C;have hl:=r.length;have hn:=mC;have l:ay X pins σ (upd H p<|.lst<|xs.set j v) {s with heap:=s.heap.update p (QU (·.setIfInBounds j u))} :=
  I.lstUpd d ho (yc its n j u) (r.set m j) (by rw[Zh];exact hz) s.toks
 by_cases h0:0≤k
 ·have c:k.toNat=j:=by
   rw[Zb h0 f] at h1;exact Qu h1
  exact PySem.W.ki_setAt ho h0 (by omega) (by rw[P6,<-hl];exact f) (by rw[c];exact⟨_,l,q⟩)
 ·have c:(k+(its.toArray.size:Int)).toNat=j:=by
   rw[seqIndex_neg (by omega) g] at h1;rw[P6,<-hl];exact Qu h1
  exact PySem.W.ki_setBack ho (by omega) (by rw[P6,<-hl];exact g) (by omega) (by rw[c];exact⟨_,l,q⟩)

def eR:V->Bool
 | .non=>true
 | .bl _=>true
 | .int _=>true
 | .str _=>true
 | _=>false
def xM:V->V->Bool
 | .non,.non=>true
 | .bl a,.bl b=>a==b
 | .bl a,.int b=>(if a then 1 else 0)==b
 | .int a,.bl b=>a==(if b then 1 else 0)
 | .int a,.int b=>a==b
 | .str a,.str b=>a==b
 | _,_=>false
theorem DA{y x:V}{u v:P0}(d:aN y u)(c:aN x v)(g:eR y=true)(f:eR x=true):UT A s u v (xM y x):=by
 cases y with
 | non=>
  cases d;cases x with
  | non=>cases c;exact Zi _
  | bl b=>cases c;exact SeqAt.EqAt.none_bool b
  | int b=>obtain⟨t,rfl⟩:=c;exact SeqAt.EqAt.none_int b t
  | str b=>obtain⟨t,rfl⟩:=c;exact SeqAt.EqAt.none_str b t
  | _=>exact absurd (show false=true from f) Qr
 | bl a=>
  cases d;cases x with
  | non=>cases c;exact SeqAt.EqAt.bool_none a
  | bl b=>cases c;exact SeqAt.EqAt.bool_bool a b
  | int b=>obtain⟨t,rfl⟩:=c;exact SeqAt.EqAt.bool_int a b t
  | str b=>obtain⟨t,rfl⟩:=c;exact SeqAt.EqAt.bool_str a b t
  | _=>exact absurd (show false=true from f) Qr
 | int a=>
  obtain⟨t',rfl⟩:=d;cases x with
  | non=>cases c;exact SeqAt.EqAt.int_none a t'
  | bl b=>cases c;exact SeqAt.EqAt.int_bool a t' b
  | int b=>obtain⟨t,rfl⟩:=c;exact SeqAt.EqAt.int_int a t' b t
  | str b=>obtain⟨t,rfl⟩:=c;exact XW a t' b t
  | _=>exact absurd (show false=true from f) Qr
 | str a=>
  obtain⟨t',rfl⟩:=d;cases x with
  | non=>cases c;exact SeqAt.EqAt.str_none a t'
  | bl b=>cases c;exact SeqAt.EqAt.str_bool a t' b
  | int b=>obtain⟨t,rfl⟩:=c;exact XY a t' b t
  | str b=>obtain⟨t,rfl⟩:=c;exact SeqAt.EqAt.str_str a t' b t
  | _=>exact absurd (show false=true from f) Qr
 | _=>exact absurd (show false=true from g) Qr
def yd(x:V)(u:P0):Bool:=match u with
 | .none=>xM .non x
 | .bool b=>xM (.bl b) x
 | .int i _=>xM (.int i) x
 | .str z _=>xM (.str z) x
 | _=>false
theorem DB{x y:V}{u:P0}(r:aN y u)(f:eR y=true):yd x u=xM y x:=by
 cases y with
 | non=>cases r;rfl
 | bl b=>cases r;rfl
 | int i=>obtain⟨t,rfl⟩:=r;rfl
 | str z=>obtain⟨t,rfl⟩:=r;rfl
 | _=>exact absurd (show false=true from f) Qr
theorem lE{x:V}:∀{xs:List V} {us:List P0},aJ xs us->xs.all eR=true->us.any (yd x)=xs.any λy=>xM y x
 | _,_,.nil,_=>rfl
 | y::xs,u::us,.cons r t,f=>by
  rw[So,Qq] at f;rw[T9,T9,DB r f.1,lE t f.2]
theorem jm{A:RN}{s:P5}{x:V}{v:P0}(c:aN x v)(d:eR x=true):∀{xs:List V} {us:List P0},aJ xs us->xs.all eR=true->∀u∈us,UT A s u v (yd x u)
 | _,_,.nil,_=>λu hu=>by cases hu
 | y::xs,u::us,.cons r t,f=>λg hu=>by
  rw[So,Qq] at f;rcases Qm.mp hu with rfl | hu
  ·rw[DB r f.1];exact DA r c f.1 d
  ·exact jm c d t f.2 g hu
def F5(x:V)(xs:List V):Bool:=xs.any λy=>xM y x
def OD(K:P7)(neg:Bool):R2:=λx y H Q=>∃p xs,y=.ref p/\(ie K H p xs∨ic K H p xs)/\eR x=true/\xs.all eR=true/\Q (.bl<|if neg then !F5 x xs else F5 x xs) H
theorem Bk:kN X (RW .In) (OD X.K false):=by
 intro pins s σ H x y v u Q I d g h;obtain⟨p,xs,rfl,hq,f,fs,q⟩:=h;cases g;rcases hq with hq | hq
 ·obtain⟨its,r,pl,hz⟩:=I.list hq;refine SeqAt.in_listAt (yd x) pl.isList (λw c=>jm d f r fs w (by simpa using c)) ⟨.bl _,H,I,rfl,?_⟩;rw[show its.toArray.any (yd x)=its.any (yd x) by simp,lE r fs];exact q
 ·obtain⟨its,r,pl,hz⟩:=I.tuple hq;refine SeqAt.in_tupleAt (yd x) pl (λw c=>jm d f r fs w (by simpa using c)) ⟨.bl _,H,I,rfl,?_⟩;rw[show its.toArray.any (yd x)=its.any (yd x) by simp,lE r fs];exact q
theorem lF:kN X (RW .NotIn) (OD X.K true):=by
 intro pins s σ H x y v u Q I d g h;obtain⟨p,xs,rfl,hq,f,fs,q⟩:=h;cases g;rcases hq with hq | hq
 ·obtain⟨its,r,pl,hz⟩:=I.list hq;refine SeqAt.notIn_listAt (yd x) pl.isList (λw c=>jm d f r fs w (by simpa using c)) ⟨.bl _,H,I,rfl,?_⟩;rw[show its.toArray.any (yd x)=its.any (yd x) by simp,lE r fs];exact q
 ·obtain⟨its,r,pl,hz⟩:=I.tuple hq;refine SeqAt.notIn_tupleAt (yd x) pl (λw c=>jm d f r fs w (by simpa using c)) ⟨.bl _,H,I,rfl,?_⟩;rw[show its.toArray.any (yd x)=its.any (yd x) by simp,lE r fs];exact q
theorem lG:cZ X (.builtin "len") (λxs H Q=>∃p ys,xs=[.ref p]/\(ie X.K H p ys∨ic X.K H p ys)/\Q (.int ys.length) H):=by
 intro pins s σ H xs us Q I r h;obtain⟨p,ys,rfl,hq,q⟩:=h;obtain⟨u,rfl,f⟩:=iW r;cases f;have hn:=mC;rcases hq with hq | hq
 ·obtain⟨its,d,pl,hz⟩:=I.list hq;have c:=d.length;exact Calls.call_len_list pl.isList (by simp only[P6]<;>omega) ⟨.int ys.length,H,I.tok _,⟨s.toks+1,by rw[P6,c]⟩,q⟩
 ·obtain⟨its,d,pl,hz⟩:=I.tuple hq;have c:=d.length;exact len_tuple pl (by simp only[P6]<;>omega) ⟨.int ys.length,H,I.tok _,⟨s.toks+1,by rw[P6,c]⟩,q⟩
theorem hJ:cZ X (.type "tuple") (λxs H Q=>∃p ys,xs=[.ref p]/\((ie X.K H p ys/\∀l,H l=none->Q (.ref l) (upd H l<|.tup ys))∨(ic X.K H p ys/\Q (.ref p) H))):=by
 intro pins s σ H xs us Q I r h;obtain⟨p,ys,rfl,h⟩:=h;obtain⟨u,rfl,g⟩:=iW r;cases g;rcases h with ⟨d,q⟩ | ⟨d,q⟩
 ·obtain⟨its,c,pl,hz⟩:=I.list d;have f:=c.length;refine call_tuple_list pl.isList (λh' kp=>?_) (by simp only[P6]<;>omega);have I1:ay X pins σ H {s with heap:=h'}:=I.kept (t':=s.toks) kp;have i:ay X pins σ (upd H h'.objs.size<|.tup ys) {s with heap:=h'.push {cls:=.type "tuple",data:=.seq its.toArray}} :=
   I1.laid (t':=s.toks) (λb o e=>P1 _ e) (Qi _) (show bD X.prog X.w _ _ _ (.tup ys) from⟨hz,its,c,YO _ _⟩)
  exact⟨.ref h'.objs.size,_,i,rfl,q _<|I1.hok.fresh<|Qi _⟩
 ·obtain⟨its,c,pl,hz⟩:=I.tuple d;exact call_tuple_same pl ⟨.ref p,H,I,rfl,q⟩

def OE(K:P7)(T:String)(x:V)(H:Hp):Prop:=match x with
 | .str _=>T = "str"
 | .int _=>T = "int"
 | .ref p=>(T = "list"/\∃xs,ie K H p xs)∨(T = "tuple"/\∃o,K.lookup p=some o/\o.cls=.type "tuple"/\o.dict=none) ∨
   (T = "dict"/\((∃kvs,H p=some (.dK kvs))∨∃kvs,H p=some (.dT kvs)))∨(T = "set"/\∃S n,H p=some (.set S n))
 | _=>False
theorem DC{T:String}{x:V}{v:P0}(I:ay X pins σ H s)(r:aN x v)(ty:OE X.K T x H) :
  s.TypeIs v T/\∀a,v=.ref a->∃ob,s.heap.get? a=some ob/\ob.dict=none:=by
 cases x with
 | str z=>
  obtain⟨t,rfl⟩:=r;cases(show T = "str" from ty);exact⟨typeIs_str s z t,λ_ e=>nomatch e⟩
 | int i=>
  obtain⟨t,rfl⟩:=r;cases(show T = "int" from ty);exact⟨typeIs_int s i t,λ_ e=>nomatch e⟩
 | ref p=>
  cases r;rcases ty with ⟨rfl,xs,g⟩ | ⟨rfl,o,d,h,hd⟩ | ⟨rfl,d⟩ | ⟨rfl,S,n,d⟩
  ·obtain⟨its,_,pl,_⟩:=I.list g;refine⟨pl.isList.typeIs,λa e=>?_⟩;cases e;obtain⟨o,n,e,c,hd,_⟩:=pl;exact⟨o,e,hd⟩
  ·refine⟨⟨o,I.kIn p o d,h⟩,λa e=>?_⟩;cases e;exact⟨o,I.kIn _ o d,hd⟩
  ·have z:∃o,s.heap.get? p=some o/\o.ExactDict:=by
    rcases d with ⟨kvs,d⟩ | ⟨kvs,d⟩
    ·obtain⟨_,_,_,_,o,_,_,e,ex,_⟩:=I.hok p _ d;exact⟨o,e,ex⟩
    ·obtain⟨_,_,_,_,o,_,_,e,ex,_⟩:=I.hok p _ d;exact⟨o,e,ex⟩
   obtain⟨o,e,ex⟩:=z;refine⟨⟨o,e,ex.1⟩,λa f=>?_⟩;cases f;exact⟨o,e,ex.2.1⟩
  ·obtain⟨o,_,_,_,e,ex,_⟩:=I.hok p _ d;refine⟨⟨o,e,ex.1⟩,λa f=>?_⟩;cases f;exact⟨o,e,ex.2.1⟩
 | _=>exact QE ty
def Kd(K:P7)(T:String)(r:V->List V->Hp->VK->Prop)(c:TE):TE:=λσ H Q=>c σ H λx H1=>OE K T x H1/\r x [] H1 Q
def Oa(K:P7)(T:String)(r:V->List V->Hp->VK->Prop)(c:TE)(t:TA):TE:=λσ H Q=>c σ H λx H1=>OE K T x H1/\t σ H1 λxs d=>r x xs d Q
variable{o e:Qv}{to:TE}{t:TA}{name:Str}{apos cpos:Pos}{T id:String}{r:V->List V->Hp->VK->Prop}
theorem Ke(l:PlainAttrs T)(slot:Slot T name id)(f:Wx (.builtin id)=pure (.type "method_descriptor"))(hm:OA X id r)(ho:PE X o to)
  (d:QR o name X.env (Q0 o X.env)=Q0 o X.env:=by nofun) (c:(apos.endLine==cpos.line)=true:=by nofun):PE X (.Call (.Attribute o name apos) [] [] cpos) (Kd X.K T r to):=by
 intro pins s σ H Q I h;refine Wb d c (bv (ho pins s σ H _ I h) λv j i=>?_);obtain⟨x,H1,I1,g,ty,q1⟩:=i;obtain⟨h1,m⟩:=DC I1 g ty;exact⟨T,id,l,slot,f,h1,m,Sc rfl<|Xv<|hm pins j σ H1 x [] v [] Q I1 g .nil q1⟩
theorem gn(z:PlainAttrs T)(slot:Slot T name id)(j:Wx (.builtin id)=pure (.type "method_descriptor"))(C:OA X id r)(ho:PE X o to)(L:PA X (e::es) t)
  (f:QR o name X.env (Q0 o X.env)=Q0 o X.env:=by nofun)
  (g:((Sr cpos<|Qy (e::es) X.env).all (λx=>!x.1)&&(Sb cpos<|Rh [] X.env).all (λx=>x.1.isSome)
  &&decide ((e::es).length+([]:List Uy).length+(if ([]:List Uy).isEmpty then 0 else 1)<30))=true:=by nofun)
  (d:(apos.endLine==cpos.line)=true:=by nofun) (hs:hE9 X e es:=by nofun) (c:hP9 X cpos es:=by nofun) :
  PE X (.Call (.Attribute o name apos) (e::es) [] cpos) (Oa X.K T r to t):=by
 intro pins s σ H Q I h;refine wpAny_Call_method_late f g d rfl (bv (ho pins s σ H _ I h) λv q i=>?_);obtain⟨x,H1,I1,l,ty,q1⟩:=i;obtain⟨h1,O⟩:=DC I1 l ty;refine⟨T,id,z,slot,j,h1,O,?_⟩;have m:=L cpos pins q σ H1 _ I1 q1;rw[hs] at m ⊢;refine Sc (by show(false||(Sr cpos<|Qy es X.env).any (·.1))=false;rw[c]<;>rfl) (SW ?_);exact bv m λus p i=>de i λvs Y U u q2=>C pins p σ Y x vs v us Q U l u q2
end
def Ob(X:Cx)(id:String)(r:V->List V->Hp->VK->Prop):Prop :=
 ∀(pins:List (P3×Obj)) (s:P5) (σ:St) (H:Hp) (x:V) (xs:List V) (v:P0) (us:List P0) (Q:VK),ay X pins σ H s->aN x v->aJ xs us->r x xs H Q ->
  Qa (Qd X.prog X.w) X.A (call (.builtin id) (v::us)) (EP X pins σ Q) X.xe s

theorem aJ.one:∀{x:V} {us:List P0},aJ [x] us->∃u,us=[u]/\aN x u
 | _,_,.cons r .nil=>⟨_,rfl,r⟩
theorem aJ.zero:∀{us:List P0},aJ [] us->us=[]
 | _,.nil=>rfl
theorem aJ.dropLast(h:aJ xs us):aJ xs.dropLast us.dropLast:=by
 induction h with
 | nil=>exact .nil
 | cons r t c=>
  cases t with
  | nil=>exact .nil
  | cons q t'=>exact .cons r c
theorem ye{c:Type}(l:List c):l.eraseIdx (l.length - 1)=l.dropLast:=by
 induction l with
 | nil=>rfl
 | cons a r d=>
  cases r with
  | nil=>rfl
  | cons b r=>
   have e:(a::b::r).length - 1=((b::r).length - 1)+1:=by
    have h1:(a::b::r).length=r.length+2:=rfl;have f:(b::r).length=r.length+1:=rfl;omega
   rw[e,Ur,d]
   all_goals rfl
section
variable{l b:P3}{xs ys zs:List V}
theorem ay.lset{its its':List P0}{n:Nat}{f:Array P0->Array P0}{t':Nat}(I:ay X pins σ H s)(h:H l=some (.lst xs))
  (e:s.heap.get? l=some {cls:=.type "list",data:=.seq its.toArray n}) (g:f its.toArray=its'.toArray) (c:aJ ys its') (hz:ys.length≤Qf) :
  ay X pins σ (upd H l<|.lst ys) {s with heap:=s.heap.update l (QU f),toks:=t'}:=by
 have q:=PySem.IsL.update e f;rw[g] at q;refine I.write (x:=l) (e:=l) (by rw[h];exact trivial) (.inl rfl) (λi u hb d=>(QC s.heap (QU f)<|RO hb).trans d) ⟨_,q⟩ ?_;exact⟨hz,its',_,c,q⟩
theorem ay.lnew{its:List P0}{t':Nat}(I:ay X pins σ H s)(c:aJ ys its)(hz:ys.length≤Qf) :
  ay X pins σ (upd H s.heap.objs.size<|.lst ys) {s with heap:=s.heap.push {cls:=.type "list",data:=.seq its.toArray},toks:=t'} :=
 I.laid (λ_ _ q=>P1 _ q) (Qi _) ⟨hz,its,0,c,P8 _ rfl⟩
theorem ay.fresh(I:ay X pins σ H s):H s.heap.objs.size=none:=I.hok.fresh (Qi _)
theorem ay.lstM(I:ay X pins σ H s)(c:H l=some (.lst xs)):xs.length≤Qf/\∃(its:List P0) (n:Nat),aJ xs its/\xs.length=its.length/\s.heap.get? l=some {cls:=.type "list",data:=.seq its.toArray n}:=by
 obtain⟨z,its,n,r,e⟩:=I.hok l _ c;exact⟨z,its,n,r,r.length,e⟩

theorem DD{n:Nat}(h:n≤Qf):Ua n=false:=by
 unfold Ua;exact decide_eq_false (by omega)
end
section
def Gn:V->List V->Hp->VK->Prop:=λx vs H Q=>∃l xs y,x=.ref l/\vs=[y]/\H l=some (.lst xs)/\xs.length<Qf/\Q .non (upd H l<|.lst<|xs++[y])
theorem Bl:Ob X "list.append" Gn:=by
 intro pins s σ H x vs v us Q I d f h;obtain⟨l,xs,y,rfl,rfl,c,hz,q⟩:=h;cases d;obtain⟨u,rfl,g⟩:=f.one;obtain⟨z,its,n,r,i,e⟩:=I.lstM c;refine ZG Rf ⟨_,e,rfl⟩ F.entry_list_append (F.args_list_append_2 _ _) (PySem.list_append l its.toArray n u<|by rw[P6];omega) ⟨e,?_⟩;refine⟨.non,_,I.lset (its':=its++[u]) c e (by simp) (r.append<|.cons g .nil) ?_,rfl,q⟩;rw[Ri,WQ];omega

def zL:V->List V->Hp->VK->Prop:=λx vs H Q=>∃l b xs zs,x=.ref l/\vs=[.ref b]/\H l=some (.lst xs)/\H b=some (.lst zs)/\xs.length+zs.length≤Qf/\Q .non (upd H l<|.lst<|xs++zs)
theorem jO:Ob X "list.extend" zL:=by
 intro pins s σ H x vs v us Q I f g h;obtain⟨l,b,xs,C,rfl,rfl,d,hB,hz,q⟩:=h;cases f;obtain⟨u,rfl,i⟩:=g.one;cases i;obtain⟨z,its,n,r,O,e⟩:=I.lstM d;obtain⟨L,its2,m,j,o,p⟩:=I.lstM hB;have hsz:its.toArray.size+its2.toArray.size≤Qf:=by rw[P6,P6];omega
 have c:¬(!its.toArray.isEmpty&&Ua (its.toArray.size+its2.toArray.size))=true:=by
  rw[DD hsz,ZH];exact Qr
 refine ZG SB ⟨_,e,rfl⟩ F.entry_list_extend (F.args_list_extend_2 _ _)
  (AutoSeq1.list_extend_list_list_0 l its.toArray n b its2.toArray m c (by rw[P6];omega)<|by omega) ⟨e,p,?_⟩
 refine⟨.non,_,I.lset (its':=its++its2) d e (by simp) (r.append j) ?_,rfl,q⟩;rw[Ri];omega

def MB:V->List V->Hp->VK->Prop:=λx vs H Q=>∃l xs y,x=.ref l/\vs=[]/\H l=some (.lst xs)/\xs[xs.length - 1]?=some y/\Q y (upd H l<|.lst xs.dropLast)
theorem Kf:Ob X "list.pop" MB:=by
 intro pins s σ H x vs v us Q I g i h;obtain⟨l,xs,y,rfl,rfl,f,m,q⟩:=h;cases g;have d:=i.zero;subst d;obtain⟨z,its,n,r,hl,e⟩:=I.lstM f;obtain⟨u,o,j⟩:=r.get m;have c:its.toArray[its.toArray.size - 1]?=some u:=by
  show its.toArray[its.length - 1]?=some u;rw[<-Sh,<-hl];exact o
 refine ZG X8 ⟨_,e,rfl⟩ F.entry_list_pop (F.args_list_pop_1 _) (MeetsSeq.list_pop_last l its.toArray n u c<|by rw[P6];omega) ⟨e,?_⟩;refine⟨y,_,I.lset (its':=its.dropLast) f e ?_ r.dropLast ?_,j,q⟩
 ·show its.toArray.eraseIdxIfInBounds (its.toArray.size - 1)=its.dropLast.toArray;rw[P6,List.eraseIdxIfInBounds_toArray,ye]
 ·rw[List.length_dropLast];omega

def OF:R2:=λx y H Q=>∃l b xs zs,x=.ref l/\y=.ref b/\H l=some (.lst xs)/\H b=some (.lst zs)/\xs.length+zs.length≤Qf/\∀p,H p=none->Q (.ref p) (upd H p<|.lst<|xs++zs)
theorem Kg:kN X (Td .Add) OF:=by
 intro pins s σ H x y v u Q I d c h;obtain⟨l,b,xs,o,rfl,rfl,i,hB,hz,q⟩:=h;cases d;cases c;obtain⟨z,its,n,r,L,e⟩:=I.lstM i;obtain⟨p,its2,C,f,g,m⟩:=I.lstM hB;refine PySem.P.add_list e m ?_ (by rw[P6,P6];omega);have j:its.toArray++its2.toArray=(its++its2).toArray:=by simp
 rw[j];exact⟨.ref _,_,I.lnew (t':=s.toks) (r.append f)<|by rw[Ri];omega,rfl,q _ I.fresh⟩
end
section
end
section
end
section
variable{κ:Type}[DecidableEq κ]
def c7(kvs:List (κ×V))(k:κ):Option V:=(kvs.find? λkv=>decide (kv.1=k)).map (·.2)
def df(kvs:List (κ×V))(k:κ)(v:V):List (κ×V) :=
 if (kvs.any λkv=>decide (kv.1=k))=true then kvs.map (λkv=>if kv.1=k then(kv.1,v) else kv) else kvs++[(k,v)]
def ij(kvs:List (κ×V))(k:κ):List (κ×V):=kvs.filter λkv=>decide (kv.1≠k)

theorem pJ{p:κ×V}{r:List (κ×V)}{k:κ}(e:p.1=k):c7 (p::r) k=some p.2:=by simp[c7,SC,e]
theorem lH{p:κ×V}{r:List (κ×V)}{k:κ}(e:¬p.1=k):c7 (p::r) k=c7 r k:=by simp[c7,SC,e]
theorem pK(k:κ):∀kvs:List (κ×V),(kvs.any λkv=>decide (kv.1=k))=(c7 kvs k).isSome
 | []=>rfl
 | p::r=>by
  rw[T9];by_cases e:p.1=k
  ·simp only[pJ e,decide_eq_true e,Bool.true_or,X9]
  ·rw[lH e,decide_eq_false e,Bool.false_or];exact pK k r
theorem jn(kvs:List (κ×V))(k:κ)(v:V):(df kvs k v).length≤kvs.length+1:=by
 unfold df;split
 ·rw[QI];omega
 ·rw[Ri,Rm,WI];omega
theorem fQ.isSome_eq{o:Option V}{u:Option P0}(r:fQ o u):o.isSome=u.isSome:=by
 cases o with
 | none=>cases u with
  | none=>rfl
  | some _=>exact(show False from r).elim
 | some _=>cases u with
  | none=>exact(show False from r).elim
  | some _=>rfl
theorem fQ.getD{o:Option V}{u:Option P0}{d:V}{d':P0}(r:fQ o u)(c:aN d d'):aN (o.getD d) (u.getD d'):=by
 cases o with
 | none=>cases u with
  | none=>exact c
  | some _=>exact(show False from r).elim
 | some _=>cases u with
  | none=>exact(show False from r).elim
  | some _=>exact r

theorem KV.val{kvs:List (κ×V)}{vs:List (κ×P0)}(r:KV kvs vs)(k:κ):fQ (c7 kvs k) (U2 vs k):=by
 unfold KV at r
 induction r with
 | nil=>exact RU
 | @cons p q ps qs h t d=>
  obtain⟨h1,f⟩:=h;by_cases e:p.1=k
  ·have c:q.1=k:=h1.symm.trans e;have b:U2 (q::qs) k=some q.2:=by simp[U2,SC,c]
   rw[pJ e,b];exact f
  ·have c:¬q.1=k:=λz=>e (h1.trans z);have b:U2 (q::qs) k=U2 qs k:=by simp[U2,SC,c]
   rw[lH e,b];exact d
theorem KV.any{kvs:List (κ×V)}{vs:List (κ×P0)}(r:KV kvs vs)(k:κ):(kvs.any λkv=>decide (kv.1=k))=vs.any λkv=>decide (kv.1=k):=by
 unfold KV at r
 induction r with
 | nil=>rfl
 | cons h t c=>rw[T9,T9,c,h.1]
theorem KV.repl{kvs:List (κ×V)}{vs:List (κ×P0)}(r:KV kvs vs)(k:κ){y:V}{u:P0}(c:aN y u) :
  KV (kvs.map λkv=>if kv.1=k then(kv.1,y) else kv) (vs.map λkv=>if kv.1=k then(kv.1,u) else kv):=by
 unfold KV at r ⊢
 induction r with
 | nil=>exact .nil
 | @cons p q ps qs h t d=>
  rw[Qx,Qx];refine .cons ?_ d;obtain⟨h1,f⟩:=h;by_cases e:p.1=k
  ·rw[if_pos e,if_pos (h1.symm.trans e)];exact⟨h1,c⟩
  ·rw[if_neg e,if_neg (λz=>e (h1.trans z))];exact⟨h1,f⟩
theorem KV.put{kvs:List (κ×V)}{vs:List (κ×P0)}(r:KV kvs vs)(k:κ){y:V}{u:P0}(c:aN y u):KV (df kvs k y) (stored vs k u):=by
 unfold df stored;rw[r.any k];by_cases e:(vs.any λkv=>decide (kv.1=k))=true
 ·rw[if_pos e,if_pos e];exact r.repl k c
 ·rw[if_neg e,if_neg e];exact Zc r ⟨rfl,c⟩
theorem KV.drop{kvs:List (κ×V)}{vs:List (κ×P0)}(r:KV kvs vs)(k:κ):KV (ij kvs k) (without vs k):=by
 unfold KV at r ⊢;unfold ij without
 induction r with
 | nil=>exact .nil
 | @cons p q ps qs h t c=>
  obtain⟨h1,d⟩:=h;rw[SE,SE];by_cases e:p.1=k
  ·have a:¬decide (p.1≠k)=true:=by simp[e]
   have b:¬decide (q.1≠k)=true:=by simp[h1.symm.trans e]
   rw[if_neg a,if_neg b];exact c
  ·have f:¬q.1=k:=λz=>e (h1.trans z);have a:decide (p.1≠k)=true:=by simp[e]
   have b:decide (q.1≠k)=true:=by simp[f]
   rw[if_pos a,if_pos b];exact .cons ⟨h1,d⟩ c
theorem KV.length{kvs:List (κ×V)}{vs:List (κ×P0)}(r:KV kvs vs):kvs.length=vs.length:=QP r
theorem v9(kvs:List (κ×V))(k:κ):(ij kvs k).length≤kvs.length:=List.length_filter_le _ _
end
theorem jo{k:bj}{u:P0}(r:aN (kV k) u):(aY P w).is k u=true:=by
 cases k with
 | inl i=>obtain⟨t,e⟩:=(show ∃t,u=Tc i t from r);subst e;exact vV P w i t
 | inr x=>obtain⟨t,e⟩:=(show ∃t,u=Xl x t from r);subst e;exact ji P w x t
theorem sP{P:QK}{w:Q4}:∀{ks:List bj} {us:List P0},aJ (ks.map kV) us->ItemsAre (aY P w) ks us
 | [],_,r=>by rw[UD] at r;cases r;exact .nil
 | k::ks,_,r=>by
  rw[Qx] at r;cases r with
  | cons h t=>exact .cons (jo h) (sP t)

abbrev KT(H:Hp):List (List bj×V)->List (List bj×P3×P0)->Prop:=Paired λp q=>p.1=q.1/\H q.2.1=some (.tup<|p.1.map kV)/\aN p.2 q.2.2
theorem KT.val{kvs:List (List bj×V)}{xs:List (List bj×P3×P0)}(r:KT H kvs xs)(k:List bj):fQ (c7 kvs k) ((XQ xs k).map (·.2)):=by
 induction r with
 | nil=>exact RU
 | @cons p q ps qs h t d=>
  obtain⟨h1,_,f⟩:=h;by_cases e:p.1=k
  ·have c:q.1=k:=h1.symm.trans e;have b:XQ (q::qs) k=some q.2:=by simp[XQ,SC,c]
   rw[pJ e,b];exact f
  ·have c:¬q.1=k:=λz=>e (h1.trans z);have b:XQ (q::qs) k=XQ qs k:=by simp[XQ,SC,c]
   rw[lH e,b];exact d
theorem KT.repl{kvs:List (List bj×V)}{xs:List (List bj×P3×P0)}(r:KT H kvs xs)(k:List bj){y:V}{u:P0}(d:aN y u) :
  KT H (kvs.map λkv=>if kv.1=k then(kv.1,y) else kv) (xs.map<|putAt k u):=by
 induction r with
 | nil=>exact .nil
 | @cons p q ps qs h t f=>
  rw[Qx,Qx];refine .cons ?_ f;obtain⟨h1,c,g⟩:=h;unfold putAt;by_cases e:p.1=k
  ·rw[if_pos e,if_pos (h1.symm.trans e)];exact⟨h1,c,d⟩
  ·rw[if_neg e,if_neg (λz=>e (h1.trans z))];exact⟨h1,c,g⟩
theorem KT.put{kvs:List (List bj×V)}{xs:List (List bj×P3×P0)}(r:KT H kvs xs)(k:List bj){b:P3}{y:V}{u:P0}(hb:H b=some (.tup<|k.map kV))(c:aN y u) :
  KT H (df kvs k y) (storedH xs k b u):=by
 have e:(kvs.any λkv=>decide (kv.1=k))=(XQ xs k).isSome:=by
  rw[pK,(r.val k).isSome_eq,UF]
 unfold df storedH;rw[e];by_cases q:(XQ xs k).isSome=true
 ·rw[if_pos q,if_pos q];exact r.repl k c
 ·rw[if_neg q,if_neg q];exact Zc r ⟨rfl,hb,c⟩
theorem KT.keeps{H c:Hp}{kvs:List (List bj×V)}{xs:List (List bj×P3×P0)}(r:KT H kvs xs)(ht:∀b ys,H b=some (.tup ys)->c b=some (.tup ys)):KT c kvs xs :=
 Paired.mapP r λ_ _ z=>⟨z.1,ht _ _ z.2.1,z.2.2⟩

section
variable{h:QO}{a:P3}
theorem IZ{u:HO}(ok:jc P w H h)(e:Rd H a u):bD P w H h a u:=e.ok ok
theorem nF{kvs:List (bj×V)}(ok:jc P w H h)(e:Rd H a (.dK kvs)):kvs.length≤Qf/\(a==R6)=false/\∃vs,KV kvs vs/\h.DictOf (aY P w) a vs :=
 show bD P w H h a (.dK kvs) from IZ ok e
theorem pL{kvs:List (bj×V)}(ok:jc P w H h)(e:H a=some (.dK kvs)):kvs.length≤Qf/\(a==R6)=false/\∃vs,KV kvs vs/\h.DictOf (aY P w) a vs:=nF ok (.inl e)
theorem dv{ks:List bj}(ok:jc P w H h)(e:H a=some (.tup<|ks.map kV)):(UQ<|aY P w).is h ks a:=by
 obtain⟨_,its,r,o,h1,d,n,c⟩:=(show bD P w H h a (.tup<|ks.map kV) from ok a _ e)
 exact⟨o,its.toArray,n,h1,d,c,by simpa using sP r⟩
theorem nG{kvs:List (List bj×V)}(ok:jc P w H h)(e:Rd H a (.dT kvs)):kvs.length≤Qf/\(a==R6)=false /\
  ∃xs,KT H kvs xs/\h.DictOfH (UQ<|aY P w) a xs:=by
 obtain⟨z,y,xs,r,o,es,ep,h1,i,g,f,d⟩:=(show bD P w H h a (.dT kvs) from IZ ok e)
 refine⟨z,y,xs,r,o,es,ep,h1,i,g,f,λx hx=>?_,d⟩;have all:∀{l:List (List bj×V)} {m:List (List bj×P3×P0)},KT H l m->∀x∈m,(UQ<|aY P w).is h x.1 x.2.1:=by
  intro l m q
  induction q with
  | nil=>intro x hx;exact nomatch hx
  | @cons p q ps qs hq t c=>
   intro x hx;rcases Qm.mp hx with e | hx
   ·subst e;exact dv ok (by rw[<-hq.1];exact hq.2.1)
   ·exact c x hx
 exact all r x hx
theorem I0{kvs:List (List bj×V)}(ok:jc P w H h)(e:H a=some (.dT kvs)):kvs.length≤Qf/\(a==R6)=false /\
  ∃xs,KT H kvs xs/\h.DictOfH (UQ<|aY P w) a xs:=nG ok (.inl e)
end
def iF(H:Hp)(a:P3)(y:V)(r:Option V):Prop :=
 (∃kvs k,Rd H a (.dK kvs)/\y=kV k/\r=c7 kvs k)∨∃kvs k b,Rd H a (.dT kvs)/\y=.ref b/\H b=some (.tup<|k.map kV)/\r=c7 kvs k
def rE(H:Hp)(a:P3)(y v:V)(c:Hp):Prop :=
 (∃kvs k,H a=some (.dK kvs)/\y=kV k/\kvs.length<Qf/\c=upd H a (.dK<|df kvs k v)) ∨
 ∃kvs k b,H a=some (.dT kvs)/\y=.ref b/\H b=some (.tup<|k.map kV)/\kvs.length<Qf/\c=upd H a (.dT<|df kvs k v)
theorem iF.k{H:Hp}{a:P3}{kvs:List (bj×V)}{k:bj}(e:H a=some (.dK kvs)):iF H a (kV k) (c7 kvs k):=.inl ⟨kvs,k,.inl e,rfl,rfl⟩
theorem rE.k{H:Hp}{a:P3}{kvs:List (bj×V)}{k:bj}{v:V}(e:H a=some (.dK kvs))(c:kvs.length<Qf):rE H a (kV k) v (upd H a<|.dK<|df kvs k v):=.inl ⟨kvs,k,e,rfl,c,rfl⟩
theorem rE.t{H:Hp}{a b:P3}{kvs:List (List bj×V)}{k:List bj}{v:V}(e:H a=some (.dT kvs))(d:H b=some (.tup<|k.map kV))(c:kvs.length<Qf) :
  rE H a (.ref b) v (upd H a<|.dT<|df kvs k v):=.inr ⟨kvs,k,b,e,rfl,d,c,rfl⟩


section
variable{a:P3}{y v:V}{u r:P0}{o:Option V}
theorem ay.big(I:ay X pins σ H s):R6<s.heap.objs.size:=by
 have h:QF<s.heap.objs.size:=(I.mod.glob.keeps I.bk).lt;exact Nat.lt_trans (by decide) h

theorem sQ{Q:P0->P5->Prop}(x:A.units+1<R0)(I:ay X pins σ H s)(g:iF H a y (some v))(q:aN y u)(h:∀f s',ay X pins σ H s'->aN v f->Q f s') :
  Qa (Qd X.prog X.w) A (Vt (.ref a) u) Q E s:=by
 rcases g with ⟨kvs,k,e,m,l⟩ | ⟨kvs,k,b,e,m,L,l⟩
 ·subst m;obtain⟨z,hd,vs,d,dd⟩:=nF I.hok e;obtain⟨f,i,c⟩:=fQ.some_of (v:=v) (o:=U2 vs k) (by rw[l];exact d.val k);exact YS (jo q) dd.mapOf i (h f _ (I.tok _) c)
 ·subst m;cases(show u=Qo b from q);obtain⟨z,hd,xs,d,dd⟩:=nG I.hok e;obtain⟨f,i,c⟩:=fQ.some_of (v:=v) (o:=(XQ xs k).map (·.2)) (by rw[l];exact d.val k);obtain⟨p,C,j⟩:=Tl.mp i;refine wpAny_getItem_heap (Sl x) (dv I.hok L) dd C ?_;rw[j];exact h f _ (I.tok _) c
theorem OG{Q:P0->P5->Prop}(i:A.units+1<R0)(I:ay X pins σ H s)(g:iF H a y o)(f:aN y u)(h:∀s',ay X pins σ H s'->Q (.bool o.isSome) s') :
  Qa (Qd X.prog X.w) A (RW .In u<|.ref a) Q E s:=by
 rcases g with ⟨kvs,k,e,d,l⟩ | ⟨kvs,k,b,e,d,j,l⟩
 ·subst d;obtain⟨z,hd,vs,c,dd⟩:=nF I.hok e;refine wpAny_in_of (jo f) hd dd.mapOf ?_;rw[<- (c.val k).isSome_eq,<-l];exact h _ (I.tok _)
 ·subst d;cases(show u=Qo b from f);obtain⟨z,hd,xs,c,dd⟩:=nG I.hok e;refine wpAny_in_heap (Sl i) (dv I.hok j) hd dd ?_;have q:=(c.val k).isSome_eq;rw[UF] at q;rw[<-q,<-l];exact h _ (I.tok _)
theorem Go{Q:P0->P5->Prop}(i:A.units+1<R0)(I:ay X pins σ H s)(g:iF H a y o)(f:aN y u)(h:∀s',ay X pins σ H s'->Q (.bool<|!o.isSome) s') :
  Qa (Qd X.prog X.w) A (RW .NotIn u<|.ref a) Q E s:=by
 rcases g with ⟨kvs,k,e,d,l⟩ | ⟨kvs,k,b,e,d,j,l⟩
 ·subst d;obtain⟨z,hd,vs,c,dd⟩:=nF I.hok e;refine wpAny_notIn_of (jo f) hd dd.mapOf ?_;rw[<- (c.val k).isSome_eq,<-l];exact h _ (I.tok _)
 ·subst d;cases(show u=Qo b from f);obtain⟨z,hd,xs,c,dd⟩:=nG I.hok e;refine wpAny_notIn_heap (Sl i) (dv I.hok j) hd dd ?_;have q:=(c.val k).isSome_eq;rw[UF] at q;rw[<-q,<-l];exact h _ (I.tok _)
theorem jP{h':QO}{t':Nat}{ob:HO}(I:ay X pins σ H s)(c:L7 (H a))(hs:RP a s.heap h')(he:∃q,h'.get? a=some q)(new:bD X.prog X.w (upd H a ob) h' a ob) :
  ay X pins σ (upd H a ob) {s with heap:=h',toks:=t'} :=
 I.write (x:=a) (e:=a) c (.inl rfl) (λb q hb z=>(hs.2 b hb).trans z) he new
theorem uB{d:Hp}{h':QO}{kvs:List (bj×V)}{vs:List (bj×P0)}(z:kvs.length≤Qf)(hd:(a==R6)=false)(c:KV kvs vs)(dd:h'.DictOf (aY P w) a vs) :
  bD P w d h' a (.dK kvs):=⟨z,hd,vs,c,dd⟩
theorem sR{O:Hp}{Q:Unit->P5->Prop}(U:A.units+1<R0)(I:ay X pins σ H s)(g:rE H a y v O)(p:aN y u)(x:aN v r)(h:∀s',ay X pins σ O s'->Q () s') :
  Qa (Qd X.prog X.w) A (setItem (.ref a) u r) Q E s:=by
 rcases g with ⟨kvs,k,e,j,l,m⟩ | ⟨kvs,k,b,e,j,L,l,m⟩
 ·subst j m;obtain⟨z,hd,vs,rel,dd⟩:=pL I.hok e;have hz:vs.length≤Qf:=by rw[<-rel.length];exact z
  have i:(df kvs k v).length≤Qf:=by have:=jn kvs k v;omega
  refine wpAny_setItem_pairs (hsz:=hz) (jo p) dd λh' d hs=>h _ ?_;have he:∃q,h'.get? a=some q:=let ⟨q,_,_,f,_⟩:=d;⟨q,f⟩;exact jP I (by rw[e];exact RU) hs he (uB i hd (rel.put k x) d)
 ·subst j m;cases(show u=Qo b from p);obtain⟨z,hd,xs,rel,dd⟩:=I0 I.hok e;have hz:xs.length≤Qf:=by rw[<-QP rel];exact z
  have i:(df kvs k v).length≤Qf:=by have:=jn kvs k v;omega
  refine wpAny_setItem_heap (hsz:=hz) (Sl U) (dv I.hok L) dd λh' d hs=>h _ ?_;obtain⟨q,es,ep,f,h2,h3,Z,_,Y⟩:=d;refine jP I (by rw[e];exact RU) hs ⟨q,f⟩ ⟨i,hd,_,(rel.put k L x).keeps λc ys C=>?_,q,es,ep,f,h2,h3,Z,Y⟩;rw[al (IQ C e<|λz=>nomatch z)];exact C
end
section
variable{a:P3}{kvs:List (bj×V)}{k:bj}{u:P0}
theorem Bm{Q:Unit->P5->Prop}(I:ay X pins σ H s)(e:H a=some (.dK kvs))(d:aN (kV k) u)(l:(c7 kvs k).isSome=true)(h:∀s',ay X pins σ (upd H a<|.dK<|ij kvs k) s'->Q () s') :
  Qa (Qd X.prog X.w) A (delItem (.ref a) u) Q E s:=by
 obtain⟨z,hd,vs,rel,dd⟩:=pL I.hok e;refine Yb dd.typeIs (by decide) SM
  (TX SM dd.typeIs VL (Vu _ _) (meets_dict_delitem_pairs (aY X.prog X.w) a<|jo d) ⟨vs,dd,by rw[<-rel.length];exact z,by rw[<- (rel.val k).isSome_eq];exact l,λh' c hs=>h _ ?_⟩)
 have he:∃q,h'.get? a=some q:=let ⟨q,_,_,f,_⟩:=c;⟨q,f⟩;exact jP I (by rw[e];exact RU) hs he (uB (Rg (v9 kvs k) z) hd (rel.drop k) c)
end
def DE(i:Qv):Prop:=∀c iv,W2 i false c iv=operate [c,iv] (Vt c iv)
theorem uC{env:Env}{value slice:Qv}{T id:String}{Q:P0->P5->Prop}
  (l:ZF (.type T) "__getitem__" = pure (some<|.builtin id)) (hs:DE slice)
  (h:Qa (Qd prog w) A (Q0 value env) (λo s₁=>Qa (Qd prog w) A (Q0 slice env) (λi c=>c.TypeIs o T/\Qa (Qd prog w) A (Vt o i) Q E c) E s₁) E s) :
  Qa (Qd prog w) A (Q0 (.Subscript value slice pos) env) Q E s:=by
 refine X7 (QS h (λo s₁ h₁=>QS h₁ (λi c d=>?_) λ_ _ x=>x) λ_ _ x=>x);obtain⟨j,d⟩:=d;unfold XO;refine PZ ?_;rw[getitemInPython_of_ne j.not_modules];refine PZ (WJ j l ?_);have fin:Qa (Qd prog w) A (W2 slice false o i) (λr f=>Qa (Qd prog w) A (letTemporaryGo value o r >>= λ_=>pure r) Q E f) E c:=by
  rw[hs o i];exact wpAny_operating (QS d (λr f g=>PZ (wpAny_letTemporaryGo<|P2 g)) λ_ _ x=>x)
 first
  | exact P2 (PZ fin)
  | exact PZ (P2 (PZ fin))
  | exact PZ fin

theorem nH{a:P3}{y:V}{o:Option V}(I:ay X pins σ H s)(g:iF H a y o):s.TypeIs (.ref a) "dict":=by
 rcases g with ⟨kvs,k,e,_,_⟩ | ⟨kvs,k,b,e,_,_,_⟩
 ·obtain⟨_,_,vs,_,dd⟩:=nF I.hok e;exact dd.typeIs
 ·obtain⟨_,_,xs,_,dd⟩:=nG I.hok e;exact dd.typeIs
def MC(d ty:TE):TE:=λσ H Q=>d σ H λx H1=>ty σ H1 λy c=>∃a v,x=.ref a/\iF c a y (some v)/\Q v c
def MD(ty d:TE):TE:=λσ H Q=>ty σ H λy H1=>d σ H1 λx c=>∃a o,x=.ref a/\iF c a y o/\Q (.bl o.isSome) c
def zM(ty d:TE):TE:=λσ H Q=>ty σ H λy H1=>d σ H1 λx c=>∃a o,x=.ref a/\iF c a y o/\Q (.bl<|!o.isSome) c
def ME(f ty d:TE):TS:=λD σ H=>d σ H λv H1=>f σ H1 λx h=>ty σ h λy g=>∃a c,x=.ref a/\rE g a y v c/\D.nx σ c
section
variable{o i e value:Qv}{pos pos' tpos:Pos}{td ty tv:TE}
theorem Gp(p:X.A.units+1<R0)(ho:PE X o td)(q:PE X i ty)(hs:DE i):PE X (.Subscript o i pos) (MC td ty):=by
 intro pins s σ H Q I h;refine uC T7.lookup hs (bv (ho pins s σ H _ I h) λu j c=>de c λx H1 I1 m q1=>bv (q pins j σ H1 _ I1 q1) λiv L c=>?_);obtain⟨y,r,f,l,a,v,ex,g,q2⟩:=c;subst ex;obtain rfl:u=Qo a:=m;exact⟨nH f g,sQ p f g l λz C I3 d=>⟨v,r,I3,d,q2⟩⟩
theorem DF(m:X.A.units+1<R0)(p:PE X i ty)(ho:PE X o td):PC X .In i o (MD ty td):=by
 intro pins s σ H Q I h;refine bv (p pins s σ H _ I h) λiv d c=>de c λy H1 I1 f q1=>bv (ho pins d σ H1 _ I1 q1) λu C c=>?_;obtain⟨x,r,q,j,a,l,ex,g,q2⟩:=c;subst ex;obtain rfl:u=Qo a:=j;exact OG m q g f λz I3=>⟨.bl l.isSome,r,I3,rfl,q2⟩
theorem Bn(m:X.A.units+1<R0)(p:PE X i ty)(ho:PE X o td):PC X .NotIn i o (zM ty td):=by
 intro pins s σ H Q I h;refine bv (p pins s σ H _ I h) λiv d c=>de c λy H1 I1 f q1=>bv (ho pins d σ H1 _ I1 q1) λu C c=>?_;obtain⟨x,r,q,j,a,l,ex,g,q2⟩:=c;subst ex;obtain rfl:u=Qo a:=j;exact Go m q g f λz I3=>⟨.bl<|!l.isSome,r,I3,rfl,q2⟩
theorem Gq(z:X.A.units+1<R0)(ho:PE X o td)(C:PE X i ty)(q:PE X value tv)(hs:RX value (some<|.Subscript o i pos') pos.line X.env=pure false) :
  PS X (.Assign [.Subscript o i pos'] value pos) (ME td ty tv):=by
 intro pins s σ H D I h;refine Wy (bv (q pins s σ H _ I h) λr f c=>de c λv H1 I1 m q1=>bv (ho pins f σ H1 _ I1 q1) λu d c=>de c λx U O l q2=>bv (C pins d σ U _ O q2) λiv Z c=>?_) hs;obtain⟨y,H3,I3,j,a,Q,ex,g,p⟩:=c;subst ex;obtain rfl:u=Qo a:=l;exact sR z I3 g j m λY L=>⟨σ,Q,L,p⟩
end
theorem wa(h:QO)(hb:R6<h.objs.size):bD P w H (h.push {cls:=.type "dict",data:=.dict #[]}) h.objs.size (.dK []) :=
 ⟨Ra _,beq_eq_false_iff_ne.mpr<|RO<|Qp hb,[],.nil,ag2 h⟩
theorem DG(h:QO)(hb:R6<h.objs.size):bD P w H (h.push {cls:=.type "dict",data:=.dict #[]}) h.objs.size (.dT []) :=
 ⟨Ra _,beq_eq_false_iff_ne.mpr<|RO<|Qp hb,[],.nil,_,#[],0,P8 _ rfl,⟨rfl,rfl,rfl⟩,rfl,rfl,Tf⟩
def Kh:TE:=λ_ H Q=>∀p,H p=none->Q (.ref p) (upd H p<|.dK [])
def Ki:TE:=λ_ H Q=>∀p,H p=none->Q (.ref p) (upd H p<|.dT [])
section
theorem wb:PE X (.Dict [] [] pos) Kh:=λpins s σ H Q I h=>
 YT ⟨.ref s.heap.objs.size,_,I.laid (a:=s.heap.objs.size) (o:=.dK []) (t':=s.toks) (λ_ _ q=>P1 _ q) (Qi _)<|wa s.heap I.big,rfl,h _<|I.hok.fresh<|Qi _⟩
theorem DH:PE X (.Dict [] [] pos) Ki:=λpins s σ H Q I h=>
 YT ⟨.ref s.heap.objs.size,_,I.laid (a:=s.heap.objs.size) (o:=.dT []) (t':=s.toks) (λ_ _ q=>P1 _ q) (Qi _)<|DG s.heap I.big,rfl,h _<|I.hok.fresh<|Qi _⟩
end
def pM:List (TE×TE)->St->Hp->(List (V×V)->Hp->Prop)->Prop
 | [],_,H,Q=>Q [] H
 | (tk,c)::r,σ,H,Q=>tk σ H λx H1=>c σ H1 λy f=>pM r σ f λps d=>Q ((x,y)::ps) d
abbrev VV:List (V×V)->List (P0×P0)->Prop:=Paired λp q=>aN p.1 q.1/\aN p.2 q.2
def MF(X:Cx)(pos:Pos)(keys:List (Option Qv))(c:List Qv)(d:List (TE×TE)):Prop :=
 ∀(pins:List (P3×Obj)) (s:P5) (σ:St) (H:Hp) (Q:List (V×V)->Hp->Prop),ay X pins σ H s->pM d σ H Q ->
  Qa (Qd X.prog X.w) X.A (evalPairs<|pairTrees keys c X.env pos) (λvs s'=>∃ps f,ay X pins σ f s'/\VV ps vs/\Q ps f) X.xe s
theorem zN:MF X pos [] [] []:=λpins s σ H Q I h=>pairTrees_nil_walk ⟨[],H,I,.nil,h⟩
theorem pN{k v:Qv}{ks:List (Option Qv)}{vs:List Qv}{tk g:TE}{d:List (TE×TE)}(r:PE X k tk)(p:PE X v g)(q:MF X pos ks vs d) :
  MF X pos (some k::ks) (v::vs) ((tk,g)::d):=λpins s σ H Q I h=>
 pairTrees_cons_walk (bv (r pins s σ H _ I h) λu j c=>de c λx H1 I1 m q1=>bv (p pins j σ H1 _ I1 q1) λU i c=>de c λy L z l q2=>
  bv (q pins i σ L _ z q2) λO Y c=>de c λps C I3 f o=>⟨(x,y)::ps,C,I3,.cons ⟨m,l⟩ f,o⟩)

def dR(kvs more:List (bj×V)):List (bj×V):=more.foldl (λacc kv=>df acc kv.1 kv.2) kvs
theorem KV.merge:∀{more:List (bj×V)} {rs:List (bj×P0)} {kvs:List (bj×V)} {vs:List (bj×P0)},KV more rs->KV kvs vs->KV (dR kvs more) (merged vs rs):=by
 intro more rs kvs vs r;unfold KV at r
 induction r generalizing kvs vs with
 | nil=>intro q;exact q
 | @cons p q ps qs h t c=>
  intro r0;have e:KV (df kvs p.1 p.2) (stored vs q.1 q.2):=by
   have:=r0.put p.1 h.2;rw[<-h.1];exact this
  exact c e
theorem ki:∀(more kvs:List (bj×V)),(dR kvs more).length≤kvs.length+more.length
 | [],kvs=>by show kvs.length≤kvs.length+0;omega
 | p::r,kvs=>by
  have h1:=ki r (df kvs p.1 p.2);have c:=jn kvs p.1 p.2;show(dR (df kvs p.1 p.2) r).length≤_;rw[Rm];omega
theorem pO{P:QK}{w:Q4}:∀{kvs:List (bj×V)} {d:List (P0×P0)},VV (kvs.map λkv=>(kV kv.1,kv.2)) d->∃rs,Carries (aY P w) d rs/\KV kvs rs
 | [],_,r=>by rw[UD] at r;cases r;exact⟨[],RU,.nil⟩
 | p::kvs,_,r=>by
  rw[Qx] at r;cases r with
  | @cons a b f bs h t=>
   obtain⟨rs,c,q⟩:=pO (P:=P) (w:=w) t;obtain⟨b1,b2⟩:=b;exact⟨(p.1,b2)::rs,⟨jo h.1,rfl,c⟩,.cons ⟨rfl,h.2⟩ q⟩
def MG(c:List (TE×TE)):TE:=λσ H Q=>∀p,H p=none->pM c σ (upd H p<|.dK []) λps d=>d p=some (.dK [])/\∃kvs:List (bj×V),ps=kvs.map (λkv=>(kV kv.1,kv.2))/\kvs.length≤15/\Q (.ref p) (upd d p<|.dK<|dR [] kvs)
theorem zO{keys:List (Option Qv)}{d:List Qv}{f:List (TE×TE)}(h:MF X pos keys d f)(g:keys.all (·.isSome)=true)(C:keys.length=d.length)(h0:keys≠[])
  (l:keys.length≤15):PE X (.Dict keys d pos) (MG f):=by
 intro pins s σ H Q I q;have hn:=I.hok.fresh (Qi s.heap.objs.size);have I1:=I.laid (a:=s.heap.objs.size) (o:=.dK []) (h':=s.heap.push {cls:=.type "dict",data:=.dict #[]}) (t':=s.toks) (λ_ _ q=>P1 _ q) (Qi _) (wa s.heap I.big);refine wpAny_Dict_walk (knd:=aY X.prog X.w) g C h0 l (bv (h pins _ σ _ _ I1<|q _ hn) λL O p=>?_);obtain⟨ps,U,m,j,e,kvs,ep,lk,q2⟩:=p;subst ep;obtain⟨rs,c,u⟩:=pO (P:=X.prog) (w:=X.w) j;obtain⟨z,hd,r,r0,dd⟩:=pL m.hok e;cases r0;refine⟨rs,c,dd,λh' i hs=>⟨.ref s.heap.objs.size,_,?_,rfl,q2⟩⟩;have hz:(dR [] kvs).length≤Qf:=by
  have h1:=ki kvs [];rw[WI] at h1;rw[Q6];omega
 have he:∃q,h'.get? s.heap.objs.size=some q:=let ⟨q,_,_,x,_⟩:=i;⟨q,x⟩;exact jP m (by rw[e];exact RU) hs he (uB hz hd (u.merge .nil) i)


structure M1(X:Cx)(o:Qv)(m:Str)(apos:Pos)(e:Qv)(cpos:Pos):Prop where
 base:QR o m X.env (Q0 o X.env)=Q0 o X.env
 few:((Sr cpos<|Qy [e] X.env).all (λx=>!x.1)&&(Sb cpos<|Rh [] X.env).all (λx=>x.1.isSome)
 &&decide (([e]:List Qv).length+([]:List Uy).length+(if ([]:List Uy).isEmpty then 0 else 1)<30))=true
 line:(apos.endLine==cpos.line)=true
 trees:Sr cpos (Qy [e] X.env)=[(false,Q0 e X.env)]
structure M2(X:Cx)(o:Qv)(m:Str)(apos:Pos)(e f:Qv)(cpos:Pos):Prop where
 base:QR o m X.env (Q0 o X.env)=Q0 o X.env
 few:((Sr cpos<|Qy [e,f] X.env).all (λx=>!x.1)&&(Sb cpos<|Rh [] X.env).all (λx=>x.1.isSome)
 &&decide (([e,f]:List Qv).length+([]:List Uy).length+(if ([]:List Uy).isEmpty then 0 else 1)<30))=true
 line:(apos.endLine==cpos.line)=true
 trees:Sr cpos (Qy [e,f] X.env)=[(false,Q0 e X.env),(false,Q0 f X.env)]

def Oc(H:Hp)(a:P3):Prop:=(∃kvs,Rd H a (.dK kvs))∨∃kvs,Rd H a (.dT kvs)
theorem yf{a:P3}(I:ay X pins σ H s)(d:Oc H a) :
  s.TypeIs (.ref a) "dict"/\(∀b,Qo a=.ref b->∃ob,s.heap.get? b=some ob/\ob.dict=none)/\(a==R6)=false:=by
 rcases d with ⟨kvs,e⟩ | ⟨kvs,e⟩
 ·obtain⟨_,hd,vs,_,dd⟩:=nF I.hok e;refine⟨dd.typeIs,λb q=>?_,hd⟩;cases q;obtain⟨ob,_,_,h1,c,_⟩:=dd;exact⟨ob,h1,c.2.1⟩
 ·obtain⟨_,hd,xs,_,dd⟩:=nG I.hok e;refine⟨dd.typeIs,λb q=>?_,hd⟩;cases q;obtain⟨ob,_,_,h1,c,_⟩:=dd;exact⟨ob,h1,c.2.1⟩

section
variable{a:P3}{y d:V}{u r:P0}{o:Option V}
theorem Kj{Q:P0->P5->Prop}(m:A.units+1<R0)(I:ay X pins σ H s)(g:iF H a y o)(j:aN y u)(h:∀i s',ay X pins σ H s'->aN (o.getD .non) i->Q i s') :
  Qa (Qd X.prog X.w) A (call (.builtin "dict.get") [.ref a,u]) Q E s:=by
 rcases g with ⟨kvs,k,e,f,l⟩ | ⟨kvs,k,b,e,f,p,l⟩
 ·subst f;obtain⟨z,hd,vs,c,dd⟩:=nF I.hok e;refine TX RK dd.typeIs Tn (Wc _ _) (meets_dict_get (aY X.prog X.w) a (jo j) hd) ⟨_,dd.mapOf,h _ _ (I.tok _) ?_⟩;rw[l];exact(c.val k).getD rfl
 ·subst f;cases(show u=Qo b from j);obtain⟨z,hd,xs,c,dd⟩:=nG I.hok e;refine TX RK dd.typeIs Tn (Wc _ _) (meetsH_dict_get (UQ<|aY X.prog X.w) a b hd) ⟨Sl m,k,xs,dv I.hok p,dd,h _ _ (I.tok _) ?_⟩;rw[l];exact(c.val k).getD rfl
theorem DI{Q:P0->P5->Prop}(p:A.units+1<R0)(I:ay X pins σ H s)(g:iF H a y o)(j:aN y u)(m:aN d r)(h:∀i s',ay X pins σ H s'->aN (o.getD d) i->Q i s') :
  Qa (Qd X.prog X.w) A (call (.builtin "dict.get") [.ref a,u,r]) Q E s:=by
 rcases g with ⟨kvs,k,e,f,l⟩ | ⟨kvs,k,b,e,f,q,l⟩
 ·subst f;obtain⟨z,hd,vs,c,dd⟩:=nF I.hok e;refine TX RK dd.typeIs Tn (Wd _ _ _) (meets_dict_get_default (aY X.prog X.w) a (jo j) hd r) ⟨_,dd.mapOf,h _ _ (I.tok _) ?_⟩;rw[l];exact(c.val k).getD m
 ·subst f;cases(show u=Qo b from j);obtain⟨z,hd,xs,c,dd⟩:=nG I.hok e;refine TX RK dd.typeIs Tn (Wd _ _ _) (meetsH_dict_get_default (UQ<|aY X.prog X.w) a b hd r) ⟨Sl p,k,xs,dv I.hok q,dd,h _ _ (I.tok _) ?_⟩;rw[l];exact(c.val k).getD m
end
def Kk(d ty:TE):TE:=λσ H Q=>d σ H λx H1=>∃a,x=.ref a/\Oc H1 a/\ty σ H1 λy c=>∃o,iF c a y o/\Q (o.getD .non) c
def Kl(f ty d:TE):TE:=λσ H Q=>f σ H λx H1=>∃a,x=.ref a/\Oc H1 a/\ty σ H1 λy g=>d σ g λz c=>∃o,iF c a y o/\Q (o.getD z) c
section
variable{o e f:Qv}{apos cpos:Pos}{td ty tx:TE}
theorem DJ(z:X.A.units+1<R0)(ho:PE X o td)(he:PE X e ty)(m:M1 X o "get" apos e cpos):PE X (.Call (.Attribute o "get" apos) [e] [] cpos) (Kk td ty):=by
 intro pins s σ H Q I h;refine VZ m.base m.few m.line Ry RK UO (bv (ho pins s σ H _ I h) λu p i=>?_);obtain⟨x,H1,I1,r,a,ex,d,q1⟩:=i;subst ex;obtain rfl:u=Qo a:=r;obtain⟨l,j,_⟩:=yf I1 d;refine⟨l,j,?_⟩;rw[m.trees];refine Sc rfl (SW<|Sj<|bv (he pins p σ H1 _ I1 q1) λiv Y ⟨y,L,C,q,Z,g,q2⟩=>TL ?_);exact Kj z C g q λO U I3 c=>⟨_,L,I3,c,q2⟩
theorem DK(U:X.A.units+1<R0)(ho:PE X o td)(he:PE X e ty)(Y:PE X f tx)(m:M2 X o "get" apos e f cpos):PE X (.Call (.Attribute o "get" apos) [e,f] [] cpos) (Kl td ty tx):=by
 intro pins s σ H Q I h;refine VZ m.base m.few m.line Ry RK UO (bv (ho pins s σ H _ I h) λu q c=>?_);obtain⟨x,H1,I1,L,a,ex,d,q1⟩:=c;subst ex;obtain rfl:u=Qo a:=L;obtain⟨l,j,_⟩:=yf I1 d;refine⟨l,j,?_⟩;rw[m.trees];refine Sc rfl (SW (Sj (bv (he pins q σ H1 _ I1 q1) λiv p c=>de c λy H2 I2 C q2=>
  Sj (bv (Y pins p σ H2 _ I2 q2) λfv s3 ⟨z,H3,I3,r,ov,g,O⟩=>TL ?_))))
 exact DI U I3 g C r λw' s4 Z i=>⟨_,H3,Z,i,O⟩
end
section
variable{a:P3}{kvs:List (bj×V)}
end
section
variable{a:P3}{y:V}{u:P0}
end
end L2
namespace Att
open PySem PySem.W PySem.Calls PyProof.Rows
theorem oo{P:W3}{h:QO}:∀(ns:List Int) (vs:List P0),WellAll P h vs (ns.map ag0)->UC vs ns:=by
 intro ns
 induction ns with
 | nil=>
  intro vs w;rw[UD] at w;cases w;exact .nil
 | cons n ns c=>
  intro vs w;rw[Qx] at w;cases w with
  | cons a b=>
   cases a;exact .cons _ _ (c _ b)

theorem Bo{l:VR}{n:Nat}(hn:l.most=some n){P:W3}{h:QO}{args:List WData}{c:List P0}
  (f:l.row.toRowW.claim.pre args=true) (o:WellAll P h c args) :
  ∃a vs ns,c=[Qo a]/\args=[WData.list (ns.map ag0)]/\h.get? a=some {cls:=.type "list",data:=.seq vs.toArray}/\UC vs ns/\ns.length≤n:=by
 have p:WShape.hasAll [] args [.list .int]=true:=(pre_splitW f).1;have u:l.pre.holds [] {args:=args}=true:=(pre_splitW f).2;obtain⟨d,r,rfl,h1,L⟩:=hasAllW_cons p;obtain rfl:=hasAllW_nil L;obtain⟨xs,rfl,I⟩:=hasW_list h1;obtain⟨ns,rfl⟩:=items_int I;have g:ns.length≤n:=by
  unfold OpenLaw.pre at u;have m:(WTm.not<|.lt (.lit<|.int (n:Int))<|.len<|.arg 0).holds [] {args:=[.list (ns.map .int)]}=true:=by
   have m:=(holds_andW u).1;rw[hn] at m;exact m
  have j:=condW_of m (w_not<|w_lt w_lit<|w_len_list<|w_arg rfl);rw[QI] at j;refine Nat.le_of_not_lt λq=>?_;have C:(n:Int)<((ns.length:Nat):Int):=by omega
  first
   | (rw[decide_eq_true C] at j;exact absurd j (by decide))
   | (simp at j;omega)
 cases o with
 | cons z x=>
  cases x;cases z with
  | list ho i=>exact⟨_,_,ns,rfl,rfl,ho,oo ns _ i,g⟩

theorem Bp(l:VR)(args:List WData):l.row.toRowW.claim.post args (.bool true) args=true :=
 postW_of (r:=l.row.toRowW) (X:=(true==true))
  (show af1 [] (.bool true) .bool=true by first | rfl | decide | simp[af1,WShape.arms,WShape.armsAll])
  (show(WTm.eq .res<|.lit<|.bool true).value [] {args:=args,res:=some (.bool true),after:=args}=some (.bool<|true==true) from w_eq_bool (w_res rfl) w_lit) rfl

theorem attach_call{l:VR}{n:Nat}{q:QK}{loose:List Str}{XP:(Str->Option P0)->QO->Prop}{YP:Q4->QO->Prop}{d:DefRec}
  (hn:l.most=some n) (z:d.params.defaults=[])
  (call:∀(w:Q4) (s₀ s₁:P5) (mg p:Str->Option P0) (j:P3) (o:Obj) (m cd doc:P0) (a:P3) (vs:List P0) (ns:List Int),
   Ground q loose [] XP w s₀ mg p s₁.heap->YP w s₁.heap ->
   s₁.heap.get? j=some o->o.data=.func (docDef d.name d.params d.body d.scope m cd doc)->s₁.heap.CodeRec cd d.name->mg d.name=some (.ref j) ->
   s₁.heap.get? a=some {cls:=.type "list",data:=.seq vs.toArray}->UC vs ns->ns.length≤n->s₁.gens=#[] ->
   Tk (Qd l.prog w) Xp (.call (.ref j) ⟨[.ref a],[]⟩) (λr s'=>r=.ok (.ret<|.bool true)/\OldK s₁.heap s'.heap/\s'.os=s₁.os/\U1 s'.gens) s₁) :
  WalkO q loose XP YP l.row.toRowW d [] (λf vs=>PySem.call f vs):=by
 intro w s₀ s₁ mg p G Y j o m cd doc dV kV ho hd C O x hg args I as g L Q u hlo;obtain rfl:dV=.none:=Dflts.none O z;obtain rfl:kV=.none:=Dflts.noKw O;obtain⟨a,vs,ns,rfl,rfl,h,c,i⟩:=Bo hn g u;refine enter_call (Rx (call w s₀ s₁ mg p j o m cd doc a vs ns G Y ho (fd_plain hd) C x h c i hg) λr s' U=>?_);obtain⟨rfl,h2,h3,h4⟩:=U;exact⟨.inl ⟨.bool true,.bool true,[],rfl,λ_=>rfl,.bool true,Bp l _,λ_=>⟨af7,λ_ Z=>(nomatch Z)⟩⟩,h2,h3,h4⟩

section
variable{K:P7}
end
end Att
namespace L2
open PySem PySem.Spec PyProof.Rows
theorem sS:∀{vs:List P0} {ns:List Int},UC vs ns->aJ (ns.map V.int) vs
 | _,_,.nil=>.nil
 | _,_,.cons n t h=>.cons ⟨t,rfl⟩ (sS h)

end L2
namespace L2
open PySem PySem.Spec PyProof.Rows
def aq(s:SK)(j:Nat):SK:=match s with
 | .ClassDef _ _ _ body _ _ _ _ _ _ _=>body.getD j (.Pass ⟨0,0,0,0⟩)
 | _=>.Pass ⟨0,0,0,0⟩
def bL(s:SK):TD:=match s with
 | .FunctionDef _ a _ _ _ _ _ _ _ _=>a
 | _=>{posonlyargs:=[],args:=[],vararg:=none,kwonlyargs:=[],kw_defaults:=[],kwarg:=none,defaults:=[]}
def aW(s:SK):List SK:=match s with
 | .FunctionDef _ _ b _ _ _ _ _ _ _=>b
 | _=>[]
def ae(s:SK):Q8:=match s with
 | .FunctionDef _ _ _ _ _ _ c _ _ _=>c
 | _=>{kind:=.function,names:=[],isGenerator:=false,isCoroutine:=false}

abbrev eT:kP:=λ_ _ _ _ _ _=>False
abbrev E0:XK:=λ_ _ _=>False
theorem Ja:ck eT X E0:=λ_ _ _ _ _ _ _ h=>h.elim

structure Fun(K:P7)(x qual:Str)(st:SK)(f:P3)(fd:U6):Prop where
 ex:∃(oc:P0) (od:Option P3) (kV doc pm:P0) (an:Option P3) (cdv ct:P0) (osl:Array (Option P0)),
  fd=Q1 x qual (bL st) (aW st) (ae st) .none kV doc pm an cdv ct/\K.lookup f=some ⟨oc,od,.func fd,osl⟩/\RM K cdv qual=true
 kp:QX K (.ref f)=true
section
theorem Fun.ok{x qual:Str}{f:P3}{N ps:List Str}{k:Nat}{sp:Sp}(F:Fun K x qual st f fd)(S:aj N ps (ae st))(len:∀vs H Q E,sp vs H Q E->vs.length=ps.length)
  (hbody:∀(c:P0) (A:RN) (outer:List Env) (s:P5) (H:Hp) (vs:List V) (Q:VK) (E:XK),a9 k (A.deeper<|Su qual (ae st) s.heap.objs.size f c)->sp vs H Q E ->
   ∃t,gC (bT eT P w K mg base N qual (ae st) f c A outer s H E).nox (aW st) t/\t {nx:=λ_ j=>Q .non j,rt:=Q} (fw N vs) H):bS P w K mg base eT (k+1) f fd ps sp:=by
 obtain⟨o,m,kV,doc,l,p,c,ct,osl,rfl,lk,g⟩:=F.ex;refine zB lk g S len λA outer s H vs Q E i d=>?_;obtain⟨t,h,q⟩:=hbody c A outer s H vs Q E i d;exact⟨t,h.nox,q⟩
theorem Fun.binds{x qual:Str}{f:P3}{ps:List Str}(F:Fun K x qual st f fd)
  (h:∀(kV doc d:P0) (g:Option P3) (c ct:P0) (us:List P0),us.length=ps.length->Tu (Q1 x qual (bL st) (aW st) (ae st) .none kV doc d g c ct) ⟨us,[]⟩=pure (ps.zip us)):cC K fd ps []:=by
 obtain⟨l,j,kV,doc,d,g,c,ct,osl,rfl,lk,i⟩:=F.ex;exact .all (h kV doc d g c ct)
theorem uD{x qual:Str}{f:P3}{j:P0}{i h:Option P3}{kV doc g d ct:P0}(l:K.lookup f=some ⟨j,i,.func<|Q1 x qual (bL st) (aW st) (ae st) .none kV doc g h d ct,osl⟩)
  (c:RM K d qual=true) (k:QX K (.ref f)=true):Fun K x qual st f (Q1 x qual (bL st) (aW st) (ae st) .none kV doc g h d ct):=⟨⟨j,i,kV,doc,g,h,d,ct,osl,rfl,l,c⟩,k⟩
end
theorem dC{k:Nat}(c:a9 k A):A.units+1<R0:=VM (Xw (by decide:1≤64) _) c.units
theorem bX{n:Nat}(h:n≤1000):n<Qf:=VM h (by decide)

section
theorem pv(i:Nat){x:Str}(f:X.N[i]?=some x:=by nofun)(d:JO X.env.scope x:=by with_unfolding_all (first | exact UG rfl | exact W4 (UG rfl) | exact W4 (W4 rfl)))(hd:(x==("__debug__":Str))=false:=by decide)
  (c:(x==("__classdict__":Str))=false:=by decide):PE X (.Name x pos) (C9 i):=xO f d hd c
end
theorem rF{A B:Prop}(h:B):if false=true then A else B:=by
 rw[if_neg Qr];exact h
theorem rG{A B:Prop}(h:A):if true=true then A else B:=by
 rw[if_pos rfl];exact h
def Km(H c:Hp):Prop:=∀b o,H b=some o->c b=some o
section
variable{κ:Type}[DecidableEq κ]
theorem zP:∀{l:List κ} {k:κ},l.Nodup->¬k∈l->(l++[k]).Nodup
 | [],k,_,_=>by simp
 | a::r,k,h,c=>by
  obtain⟨h1,d⟩:=RQ.mp h;show(a::(r++[k])).Nodup;refine RQ.mpr ⟨λm=>?_,zP d λm=>c (Qm.mpr<|W4 m)⟩;rcases Rc.mp m with q | q
  ·exact h1 q
  ·exact c (Qm.mpr<|UG (Rj.mp q).symm)
end
end L2
set_option maxHeartbeats 4000000
namespace OH
open PySem PySem.W PySem.Calls PyProof.Rows
noncomputable abbrev p0:Pos:=⟨0,0,0,0⟩
noncomputable abbrev LW:Option P0:=some (.ref 6)
noncomputable def o4:List Obj:=[{cls:=.type "tuple",data:=.seq #[]},{cls:=.none,data:=.fields #[]},
 {cls:=.type "code",data:=.fields #[.str "<module>" 182,.str "<module>" 183,.str "/claim/cut.py" 184,.int 1 0,.int 0 0,.int 0 0,.int 0 0,.int 0 0,.ref 11,.bool false,.int 181 0,.ref 12,.none,.none,.none,.none,.int 185 0,.int 1 0,.str "/claim/cut.py" 186]},
 {cls:=.type "frame",slots:=#[some (.ref 13),some (.ref 3),some (.ref 3),none,some (.str "__main__" 164),none,some (.ref 0)]}]
noncomputable def bt:List Obj->Nat->BT->BT
 | [],_,t=>t
 | o::l,i,t=>bt l (i+1) (t.ins i o)
noncomputable def Tb(P:W3):BT:=bt ((Tg P).objs.toList++o4) 0 .nil
noncomputable abbrev St(w:Q4)(os:OsState):SharedT:=⟨Tb w.params,15,{},#[],ZI,187,os⟩
noncomputable abbrev S0(w:Q4)(os:OsState):P5:=⟨Tg w.params,ae4 [],ZI,boot_toks,os⟩
noncomputable abbrev env(p:QK):Env:={scope:=p.main.scope,locals:=mainNs,globals:=mainNs,cells:=[],code:=.ref 13,frame:=some 14}
noncomputable abbrev cd(p:QK):Code:=.body (UU p) (env p)
noncomputable abbrev B:List Frame:=[topFrame p0]
section
variable{p q:QK}{loose:List Str}{Xt:P5->Bool}{N M:Nat}{K:W3->P7}{as ts:List P3}{ek:∀P,as=(K P).map (·.1)}
theorem MH(P:W3):((Tg P).isNs QF&&(ae4 []:Array GenState).size==0,(Tg P).objs.size,(Tg P).nsMap QF "__annotations__")=(true,11,LW):=by kernel_rfl
theorem Kn(w:Q4)(pos:Pos)(s:P5):topRun UV p w 11 LW 2 s ⟨doneF .next,cd p,pos,B⟩=some s:=by cases s;rfl
noncomputable abbrev gt(t:BT)(a:P3):Option Obj:=(t.get a).bind alive
theorem Ko{t:BT}{n:Nat}{life:Life}{a:P3}{o:Obj}(h:RZ a n=true)(g:gt t a=some o):(absHeap t n life).get? a=some o:=by
 obtain⟨f,d,c⟩:=Option.bind_eq_some_iff.mp g;rw[abs_get (Rw h) d,c]
theorem uE{t:BT}{n:Nat}{life:Life}:∀{as:List P3} {os:List (Option Obj)},as.all (λa=>RZ a n)=true->os.all (·.isSome)=true->as.map (gt t)=os->as.map (absHeap t n life).get?=os
 | [],_,_,_,e=>e
 | a::as,os,h,k,e=>by
  subst e;rw[So,Qq] at h;rw[Qx,So,Qq] at k;rw[Qx,Qx,uE h.2 k.2 rfl];obtain⟨o,ho⟩:=V4.mp k.1;rw[ho,Ko h.1 ho]
theorem Gr(e:opening p=plainProg p.main.scope.names)(x:QV 600 N=true)(f:∀s,fenceModules? p s=some s)
  (pre:∀w os,topGo UV p w 11 LW 12 (S0 w os) (topStub p)=some ((St w os).abs,⟨denote UV<|cd p,cd p,p0,B⟩))
  (i:∀w os,segRun UV p w 11 LW 1 1 (St w os).abs (blockOf (UU p) (env p) (cd p) p0 B)=some (.next,(St w os).abs,cd p,p0))
  (main:∀w,(λos=>(segRunT UV p w 11 LW 1 M (St w os)<|piecesOf (UU p) (env p) (cd p) p0 B).map λr=>(r.1,r.2.2.1,
    (ac4 (Tv p.main.body) (Tg w.params) r.2.1.abs.heap&&ZJ p r.2.1.abs.heap&&gensDone r.2.1.abs&&laidKept (Tg w.params) r.2.1.abs.heap),
    openSeen q loose (Tv p.main.body) Xt true r.2.1.abs,as.all (λa=>RZ a r.2.1.n),ts.all (λa=>RZ a r.2.1.n),as.map (gt r.2.1.tree),ts.map (gt r.2.1.tree))) =
   λ_=>some (.next,cd p,true,openGood q loose,true,true,(K w.params).map (λp=>some p.2),ts.map λ_=>some (SZ #[])))
  (le:QV (12+(1+(M+2))) N=true):LeftO p q loose Xt (kmHook K as ek ts).obs (kmHook K as ek ts).val N:=λw=>by
 obtain⟨⟨h,z,d,k,os⟩,C,I⟩:=Tl.mp (boot_open e x f w);obtain⟨rfl,rfl,rfl,rfl⟩:h=Tg w.params/\z=ae4 []/\d=ZI/\k=boot_toks:=by simpa using I
 obtain⟨⟨fl,c,c',pos'⟩,m1,m2⟩:=Tl.mp (congrFun (main w) os);obtain⟨rfl,m2⟩:=Th m2;obtain⟨rfl,m2⟩:=Th m2;obtain⟨l1,m2⟩:=Th m2;obtain⟨u,m2⟩:=Th m2;obtain⟨U,m2⟩:=Th m2;obtain⟨Q,m2⟩:=Th m2;obtain⟨O,L⟩:=Th m2;have k1:=piece_app (rest:=[]) (segRun_of m1) (piece_nil<|Kn w pos' c.abs);rw[Sz] at k1;have r0:=go_top (pre w os) (piece_block (i w os) k1);have r:=topRun_mono (N - (12+(1+(M+2)))) _ _ _ _ r0;rw[show 12+(1+(M+2))+(N - (12+(1+(M+2))))=N by have:=Rw le;omega] at r;obtain⟨l,g⟩:=Th (MH w.params);obtain⟨g,j⟩:=Th g;have t:topFrom UV p w N (S0 w os)=some c.abs:=by
  unfold topFrom;dsimp only;rw[l,g,j,r];show(match ac4 (Tv p.main.body) (Tg w.params) c.abs.heap&&ZJ p c.abs.heap&&gensDone c.abs&&laidKept (Tg w.params) c.abs.heap with | true=>some c.abs | false=>none)=_;rw[l1]
 have o:as.map c.abs.heap.get?=(K w.params).map λp=>some p.2:=uE U (by rw[Wz];exact TY.mpr λ_ _=>rfl) O;have m:ts.map c.abs.heap.get?=ts.map λ_=>some (SZ #[]):=uE Q (by rw[Wz];exact TY.mpr λ_ _=>rfl) L;unfold openEnds;rw[C];show(topFrom UV p w N<|S0 w os).map _=_;rw[t];show some (openSeen q loose (Tv p.main.body) Xt true c.abs,as.map c.abs.heap.get?,ts.map c.abs.heap.get?)=some (openGood q loose,(K w.params).map (λp=>some p.2),ts.map λ_=>some (SZ #[]));rw[u,o,m]
end
end OH
variable{σ:L2.St}
namespace RB
open PySem PySem.Spec L2
def aH(i:Nat):SK:=SN.main.body.getD i (.Pass ⟨0,0,0,0⟩)
end RB
namespace OH
open PySem PySem.W PySem.Calls PyProof.Rows L2
noncomputable abbrev kE(P:W3)(x:Str)(t:Nat)(v:P0):SS:=⟨PyData.keyHash P x,.str x t,v⟩
noncomputable abbrev kD(es:List SS)(n:Nat):Obj:={cls:=.type "dict",data:=.dict ⟨es⟩ n}
noncomputable abbrev kL(x:Str)(a n t t':Nat):Obj:={cls:=.type "type",data:=.cls {name:=x,bases:=[.type "object"],mro:=[.ref a,.type "object"],ns:=n,qualname:=x},slots:=#[none,none,some (.str x t),some (.str x t'),some (.builtin "object.__new__"),some (.bool true)]}
noncomputable abbrev kC(x y:Str)(t l d po c fl a t':Nat):Obj:={cls:=.type "code",data:=.fields #[.str x t,.str y (t+1),.str "/claim/cut.py" (t+2),.int l 0,.int d 0,.int po 0,.int c 0,.int fl 0,.ref a,.bool true,.int 181 0,.ref (a+1),.none,.ref (a+2),.ref (a+3),.ref (a+4),.int t' 0,.int l 0,.str "/claim/cut.py" (t'+1)]}
noncomputable abbrev kQ(x y:Str)(t l d po c fl a t':Nat):Obj:={cls:=.type "code",data:=.fields #[.str x t,.str y (t+1),.str "/claim/cut.py" (t+2),.int l 0,.int d 0,.int po 0,.int c 0,.int fl 0,.ref a,.bool true,.int 181 0,.ref (a+1),.none,.none,.none,.ref (a+2),.int t' 0,.int l 0,.str "/claim/cut.py" (t'+1)]}
noncomputable abbrev kF(x y:Str)(st:SK)(kV:P0)(m:Str)(t c:Nat):Obj:={cls:=.type "function",data:=.func (Q1 x y (bL st) (aW st) (ae st) .none kV .none (.str m t) none (.ref c) .none)}
noncomputable abbrev kX(x:Str)(bs d:List P0)(n:Nat)(c:List P0)(z t t':Nat):Obj:={cls:=.type "type",data:=.cls {name:=x,bases:=bs,mro:=d,ns:=n,qualname:=x,subclasses:=c},slots:=#[some (.ref z),none,some (.str x t),some (.str x t'),some (.builtin "ValueError.__new__"),some (.bool true)]}
noncomputable abbrev kY(x:Str)(a n z t t':Nat):Obj:=kX x [.ref 31] [.ref a,.ref 31,.type "ValueError",.type "Exception",.type "BaseException",.type "object"] n [] z t t'
noncomputable abbrev kf(x:Str)(i:Nat)(m:Str)(t c:Nat):Obj:=kF x x (RB.aH i) .none m t c
noncomputable abbrev kc(x:Str)(t l d c fl a t':Nat):Obj:=kC x x t l d 0 c fl a t'
open RB
noncomputable abbrev pw:=SN
noncomputable abbrev qv:QK:=view pw [111]
noncomputable abbrev ls:List Str:=(pw.main.scope.names.map (·.1)).dropLast
noncomputable abbrev m0:Str:="lockstretch.lots"
noncomputable abbrev m1:Str:="lockstretch.checks"
noncomputable abbrev m2:Str:="lockstretch.claims"
noncomputable abbrev m3:Str:="lockstretch.waits"
noncomputable abbrev m4:Str:="lockstretch.deeds"
noncomputable abbrev m5:Str:="lockstretch.tables"
noncomputable abbrev m6:Str:="lockstretch.desks"
noncomputable abbrev m7:Str:="law_lockstretch_k24_stuck_by_hand"
noncomputable def KK:W3->P7:=λP=>
 (nat_lit 3,kD (kE P "__name__" 165 (.str "law_lockstretch_k24_stuck_by_hand" 1574)::kE P "__doc__" 166 .none::kE P "__package__" 167 .none::kE P "__loader__" 168 (.builtin "__main__.__loader__#opaque")::kE P "__spec__" 169 .none::kE P "__annotations__" 170 (.ref 6)::kE P "__builtins__" 171 (.ref 4)::kE P "__file__" 173 (.str "/claim/cut.py" 172)::kE P "__cached__" 174 .none::kE P "_wall" 193 (.ref 21)::kE P "LockError" 213 (.ref 31)::kE P "NoTask" 229 (.ref 44)::kE P "Asleep" 245 (.ref 56)::kE P "Awake" 261 (.ref 68)::kE P "NoHandle" 277 (.ref 80)::kE P "NoMark" 293 (.ref 92)::kE P "NoFile" 309 (.ref 104)::kE P "BadMode" 325 (.ref 116)::kE P "BadKind" 341 (.ref 128)::kE P "BadStretch" 357 (.ref 140)::kE P "Held" 382 (.ref 159)::kE P "Stuck" 398 (.ref 171)::kE P "NoAsk" 414 (.ref 183)::kE P "NoBack" 430 (.ref 195)::kE P "is_whole" 439 (.ref 204)::kE P "is_stretch" 448 (.ref 211)::kE P "lot_of" 458 (.ref 218)::kE P "joined" 466 (.ref 225)::kE P "without" 474 (.ref 232)::kE P "both" 488 (.ref 239)::kE P "meets" 497 (.ref 246)::kE P "gaps_of" 508 (.ref 253)::kE P "reaches" 516 (.ref 260)::kE P "earlier_end" 524 (.ref 267)::kE P "later_end" 532 (.ref 274)::kE P "KINDS" 537 (.ref 275)::kE P "HOLDERS" 540 (.ref 276)::kE P "MODES" 544 (.ref 277)::kE P "WORDS" 547 (.ref 278)::kE P "is_key" 555 (.ref 285)::kE P "check_task" 563 (.ref 292)::kE P "check_awake" 571 (.ref 299)::kE P "check_file" 579 (.ref 306)::kE P "check_mode" 586 (.ref 313)::kE P "check_kind" 593 (.ref 320)::kE P "check_by" 600 (.ref 327)::kE P "check_word" 607 (.ref 334)::kE P "check_stretch" 614 (.ref 341)::kE P "mark_at" 625 (.ref 348)::kE P "mark_of" 635 (.ref 355)::kE P "awake_mark" 644 (.ref 362)::kE P "opened_mark" 652 (.ref 369)::kE P "ask_entry" 660 (.ref 376)::kE P "lock_order" 674 (.ref 383)::kE P "lock_rows" 680 (.ref 388)::kE P "told_locks" 688 (.ref 395)::kE P "told_whole" 696 (.ref 402)::kE P "told_asks" 702 (.ref 407)::kE P "ask_of" 715 (.ref 414)::kE P "clash" 723 (.ref 421)::kE P "blocking_stretches" 729 (.ref 426)::kE P "blocking_wholes" 735 (.ref 431)::kE P "blocking_locks" 743 (.ref 438)::kE P "asks_are_against" 751 (.ref 445)::kE P "blocking_asks" 757 (.ref 450)::kE P "is_blocked" 765 (.ref 457)::kE P "first_blocker" 775 (.ref 464)::kE P "keep_lots" 786 (.ref 471)::kE P "free_cells" 798 (.ref 478)::kE P "take" 815 (.ref 485)::kE P "fall_asleep" 826 (.ref 492)::kE P "wake" 836 (.ref 499)::kE P "tasks_behind" 849 (.ref 506)::kE P "needs_of" 855 (.ref 511)::kE P "can_go" 861 (.ref 516)::kE P "stuck_asks" 867 (.ref 521)::kE P "give_up_stuck" 875 (.ref 528)::kE P "first_unblocked" 883 (.ref 535)::kE P "grant" 891 (.ref 542)::kE P "settle" 898 (.ref 549)::kE P "WRONG_MODES" 907 (.ref 550)::kE P "new_handle" 918 (.ref 557)::kE P "add_user" 930 (.ref 564)::kE P "lead" 941 (.ref 571)::kE P "lose_user" 947 (.ref 576)::kE P "shut" 953 (.ref 581)::kE P "end_task" 964 (.ref 588)::kE P "take_or_wait" 974 (.ref 595)::kE P "do_begin" 983 (.ref 602)::kE P "do_attach" 996 (.ref 609)::kE P "do_dup" 1008 (.ref 616)::kE P "do_close" 1018 (.ref 623)::kE P "do_fork" 1031 (.ref 630)::kE P "do_end" 1040 (.ref 637)::kE P "do_lock" 1056 (.ref 644)::kE P "do_unlock" 1070 (.ref 651)::kE P "do_cancel" 1079 (.ref 658)::kE P "do_lock_whole" 1092 (.ref 665)::kE P "do_unlock_whole" 1103 (.ref 672)::kE P "DEEDS" 1126 (.ref 673)::kE P "do_deed" 1137 (.ref 680)::kE P "ending_order" 1143 (.ref 685)::kE P "Tables" 1221 (.ref 728)::kE P "Desk" 1573 (.ref 990)::kE P "_law_draw" 1587 (.ref 1001)::kE P "_law_begun" 1593 (.ref 1008)::kE P "_law_class" 1599 (.ref 1013)::kE P "_law_heard" 1610 (.ref 1020)::kE P "_law_tasks" 1620 (.ref 1027)::kE P "_law_upgrades" 1629 (.ref 1034)::kE P "_law_marks" 1635 (.ref 1039)::kE P "law" 1652 (.ref 1046)::[]) 112) ::
 (nat_lit 30,kD (kE P "__module__" 203 (.str "lockstretch.errors" 194)::kE P "__firstlineno__" 207 (.int 5 206)::kE P "__static_attributes__" 208 (.ref 29)::kE P "__weakref__" 210 (.ref 32)::kE P "__doc__" 211 .none::[]) 3) ::
 (nat_lit 31,kX "LockError" [.type "ValueError"] [.ref 31,.type "ValueError",.type "Exception",.type "BaseException",.type "object"] 30 [.ref 44,.ref 56,.ref 68,.ref 80,.ref 92,.ref 104,.ref 116,.ref 128,.ref 140,.ref 159,.ref 171,.ref 183,.ref 195] 22 196 204) ::
 (nat_lit 44,kY "NoTask" 44 43 35 214 222) ::
 (nat_lit 56,kY "Asleep" 56 55 47 230 238) ::
 (nat_lit 68,kY "Awake" 68 67 59 246 254) ::
 (nat_lit 80,kY "NoHandle" 80 79 71 262 270) ::
 (nat_lit 104,kY "NoFile" 104 103 95 294 302) ::
 (nat_lit 116,kY "BadMode" 116 115 107 310 318) ::
 (nat_lit 128,kY "BadKind" 128 127 119 326 334) ::
 (nat_lit 140,kY "BadStretch" 140 139 131 342 350) ::
 (nat_lit 159,kY "Held" 159 158 143 358 366) ::
 (nat_lit 170,kD (kE P "__module__" 390 (.str "lockstretch.errors" 194)::kE P "__firstlineno__" 394 (.int 29 393)::kE P "__static_attributes__" 395 (.ref 169)::kE P "__doc__" 396 .none::[]) 2) ::
 (nat_lit 171,kY "Stuck" 171 170 162 383 391) ::
 (nat_lit 203,kc "is_whole" 433 36 1 0 3 198 437) ::
 (nat_lit 204,kf "is_whole" 17 m0 431 203) ::
 (nat_lit 210,kc "is_stretch" 440 38 1 0 3 205 446) ::
 (nat_lit 211,kf "is_stretch" 18 m0 431 210) ::
 (nat_lit 217,kc "lot_of" 449 45 1 0 3 212 456) ::
 (nat_lit 218,kf "lot_of" 19 m0 431 217) ::
 (nat_lit 224,kc "joined" 459 53 2 0 3 219 464) ::
 (nat_lit 225,kf "joined" 20 m0 431 224) ::
 (nat_lit 231,kc "without" 467 55 2 0 3 226 472) ::
 (nat_lit 232,kf "without" 21 m0 431 231) ::
 (nat_lit 238,kc "both" 475 57 2 0 3 233 486) ::
 (nat_lit 239,kf "both" 22 m0 431 238) ::
 (nat_lit 245,kc "meets" 489 71 2 0 3 240 495) ::
 (nat_lit 246,kf "meets" 23 m0 431 245) ::
 (nat_lit 252,kc "gaps_of" 498 74 1 0 3 247 506) ::
 (nat_lit 253,kf "gaps_of" 24 m0 431 252) ::
 (nat_lit 259,kc "reaches" 509 85 2 0 3 254 514) ::
 (nat_lit 260,kf "reaches" 25 m0 431 259) ::
 (nat_lit 266,kc "earlier_end" 517 87 2 0 3 261 522) ::
 (nat_lit 267,kf "earlier_end" 26 m0 431 266) ::
 (nat_lit 273,kc "later_end" 525 93 2 0 3 268 530) ::
 (nat_lit 274,kf "later_end" 27 m0 431 273) ::
 (nat_lit 275,{cls:=.type "tuple",data:=.seq #[.str "shared" 535,.str "alone" 536]}) ::
 (nat_lit 276,{cls:=.type "tuple",data:=.seq #[.str "task" 538,.str "mark" 539]}) ::
 (nat_lit 277,{cls:=.type "tuple",data:=.seq #[.str "read" 541,.str "write" 542,.str "both" 543]}) ::
 (nat_lit 284,kc "is_key" 548 102 2 0 3 279 553) ::
 (nat_lit 285,kf "is_key" 33 m1 533 284) ::
 (nat_lit 291,kc "check_task" 556 104 2 0 3 286 561) ::
 (nat_lit 292,kf "check_task" 34 m1 533 291) ::
 (nat_lit 298,kc "check_awake" 564 107 2 0 3 293 569) ::
 (nat_lit 299,kf "check_awake" 35 m1 533 298) ::
 (nat_lit 305,kc "check_file" 572 111 2 0 3 300 577) ::
 (nat_lit 306,kf "check_file" 36 m1 533 305) ::
 (nat_lit 312,kc "check_mode" 580 114 1 0 3 307 584) ::
 (nat_lit 313,kf "check_mode" 37 m1 533 312) ::
 (nat_lit 319,kc "check_kind" 587 117 1 0 3 314 591) ::
 (nat_lit 320,kf "check_kind" 38 m1 533 319) ::
 (nat_lit 326,kc "check_by" 594 120 1 0 3 321 598) ::
 (nat_lit 327,kf "check_by" 39 m1 533 326) ::
 (nat_lit 340,kc "check_stretch" 608 126 1 0 3 335 612) ::
 (nat_lit 341,kf "check_stretch" 41 m1 533 340) ::
 (nat_lit 347,kc "mark_at" 615 129 3 0 3 342 623) ::
 (nat_lit 348,kf "mark_at" 42 m1 533 347) ::
 (nat_lit 354,kc "mark_of" 626 135 3 0 3 349 633) ::
 (nat_lit 355,kf "mark_of" 43 m1 533 354) ::
 (nat_lit 361,kc "awake_mark" 636 141 3 0 3 356 642) ::
 (nat_lit 362,kf "awake_mark" 44 m1 533 361) ::
 (nat_lit 375,kc "ask_entry" 653 148 2 0 3 370 658) ::
 (nat_lit 376,kf "ask_entry" 46 m1 533 375) ::
 (nat_lit 382,kc "lock_order" 663 153 1 0 3 377 672) ::
 (nat_lit 383,kf "lock_order" 48 m2 661 382) ::
 (nat_lit 387,kQ "lock_rows" "lock_rows" 675 156 2 0 0 3 384 678) ::
 (nat_lit 388,kf "lock_rows" 49 m2 661 387) ::
 (nat_lit 394,kc "told_locks" 681 162 2 0 3 389 686) ::
 (nat_lit 395,kf "told_locks" 50 m2 661 394) ::
 (nat_lit 406,kQ "told_asks" "told_asks" 697 166 1 0 0 3 403 700) ::
 (nat_lit 407,kf "told_asks" 52 m2 661 406) ::
 (nat_lit 413,kc "ask_of" 703 168 6 0 3 408 713) ::
 (nat_lit 414,kf "ask_of" 53 m2 661 413) ::
 (nat_lit 420,kc "clash" 716 171 2 0 3 415 721) ::
 (nat_lit 421,kf "clash" 54 m2 661 420) ::
 (nat_lit 425,kQ "blocking_stretches" "blocking_stretches" 724 173 2 0 0 3 422 727) ::
 (nat_lit 426,kf "blocking_stretches" 55 m2 661 425) ::
 (nat_lit 437,kc "blocking_locks" 736 185 2 0 3 432 741) ::
 (nat_lit 438,kf "blocking_locks" 57 m2 661 437) ::
 (nat_lit 444,kc "asks_are_against" 744 189 2 0 3 439 749) ::
 (nat_lit 445,kf "asks_are_against" 58 m2 661 444) ::
 (nat_lit 449,kQ "blocking_asks" "blocking_asks" 752 195 2 0 0 3 446 755) ::
 (nat_lit 450,kf "blocking_asks" 59 m2 661 449) ::
 (nat_lit 456,kc "is_blocked" 758 200 2 0 3 451 763) ::
 (nat_lit 457,kf "is_blocked" 60 m2 661 456) ::
 (nat_lit 463,kc "first_blocker" 766 202 2 0 3 458 773) ::
 (nat_lit 464,kf "first_blocker" 61 m2 661 463) ::
 (nat_lit 470,kc "keep_lots" 776 208 5 0 3 465 784) ::
 (nat_lit 471,kf "keep_lots" 62 m2 661 470) ::
 (nat_lit 477,kc "free_cells" 787 213 4 0 3 472 796) ::
 (nat_lit 478,kf "free_cells" 63 m2 661 477) ::
 (nat_lit 484,kc "take" 799 216 2 0 3 479 813) ::
 (nat_lit 485,kf "take" 64 m2 661 484) ::
 (nat_lit 491,kc "fall_asleep" 818 229 2 0 3 486 824) ::
 (nat_lit 492,kf "fall_asleep" 66 m3 816 491) ::
 (nat_lit 498,kc "wake" 827 237 3 0 3 493 834) ::
 (nat_lit 499,kf "wake" 67 m3 816 498) ::
 (nat_lit 505,kc "tasks_behind" 837 242 2 0 3 500 847) ::
 (nat_lit 506,kf "tasks_behind" 68 m3 816 505) ::
 (nat_lit 510,kQ "needs_of" "needs_of" 850 247 2 0 0 3 507 853) ::
 (nat_lit 511,kf "needs_of" 69 m3 816 510) ::
 (nat_lit 515,kQ "can_go" "can_go" 856 251 2 0 0 3 512 859) ::
 (nat_lit 516,kf "can_go" 70 m3 816 515) ::
 (nat_lit 520,kQ "stuck_asks" "stuck_asks" 862 253 1 0 0 3 517 865) ::
 (nat_lit 521,kf "stuck_asks" 71 m3 816 520) ::
 (nat_lit 527,kc "give_up_stuck" 868 265 1 0 3 522 873) ::
 (nat_lit 528,kf "give_up_stuck" 72 m3 816 527) ::
 (nat_lit 534,kc "first_unblocked" 876 270 1 0 3 529 881) ::
 (nat_lit 535,kf "first_unblocked" 73 m3 816 534) ::
 (nat_lit 541,kc "grant" 884 275 1 0 3 536 889) ::
 (nat_lit 542,kf "grant" 74 m3 816 541) ::
 (nat_lit 548,kc "settle" 892 281 1 0 3 543 896) ::
 (nat_lit 549,kf "settle" 75 m3 816 548) ::
 (nat_lit 550,kD (kE P "shared" 901 (.str "write" 902)::kE P "alone" 903 (.str "read" 904)::[]) 2) ::
 (nat_lit 556,kc "new_handle" 908 287 2 0 3 551 916) ::
 (nat_lit 557,kf "new_handle" 78 m4 899 556) ::
 (nat_lit 563,kc "add_user" 919 293 3 0 3 558 928) ::
 (nat_lit 564,kf "add_user" 79 m4 899 563) ::
 (nat_lit 570,kc "lead" 931 296 4 0 3 565 939) ::
 (nat_lit 571,kf "lead" 80 m4 899 570) ::
 (nat_lit 575,kQ "lose_user" "lose_user" 942 300 3 0 0 3 572 945) ::
 (nat_lit 576,kf "lose_user" 81 m4 899 575) ::
 (nat_lit 580,kQ "shut" "shut" 948 309 3 0 0 3 577 951) ::
 (nat_lit 581,kf "shut" 82 m4 899 580) ::
 (nat_lit 587,kc "end_task" 954 317 2 0 3 582 962) ::
 (nat_lit 588,kf "end_task" 83 m4 899 587) ::
 (nat_lit 594,kc "take_or_wait" 965 324 3 0 3 589 972) ::
 (nat_lit 595,kf "take_or_wait" 84 m4 899 594) ::
 (nat_lit 601,kc "do_begin" 975 334 2 0 3 596 981) ::
 (nat_lit 602,kf "do_begin" 85 m4 899 601) ::
 (nat_lit 608,kc "do_attach" 984 338 2 0 3 603 994) ::
 (nat_lit 609,kf "do_attach" 86 m4 899 608) ::
 (nat_lit 622,kc "do_close" 1009 359 2 0 3 617 1016) ::
 (nat_lit 623,kf "do_close" 88 m4 899 622) ::
 (nat_lit 629,kc "do_fork" 1019 363 2 0 3 624 1029) ::
 (nat_lit 630,kf "do_fork" 89 m4 899 629) ::
 (nat_lit 636,kc "do_end" 1032 372 2 0 3 631 1038) ::
 (nat_lit 637,kf "do_end" 90 m4 899 636) ::
 (nat_lit 643,kc "do_lock" 1041 376 2 0 3 638 1054) ::
 (nat_lit 644,kf "do_lock" 91 m4 899 643) ::
 (nat_lit 650,kc "do_unlock" 1057 386 2 0 3 645 1068) ::
 (nat_lit 651,kf "do_unlock" 92 m4 899 650) ::
 (nat_lit 673,kD (kE P "begin" 1104 (.ref 602)::kE P "attach" 1105 (.ref 609)::kE P "dup" 1106 (.ref 616)::kE P "close" 1107 (.ref 623)::kE P "fork" 1108 (.ref 630)::kE P "end" 1109 (.ref 637)::kE P "lock" 1110 (.ref 644)::kE P "unlock" 1111 (.ref 651)::kE P "cancel" 1112 (.ref 658)::kE P "lock_whole" 1113 (.ref 665)::kE P "unlock_whole" 1114 (.ref 672)::[]) 11) ::
 (nat_lit 679,kc "do_deed" 1127 409 3 0 3 674 1135) ::
 (nat_lit 680,kf "do_deed" 97 m4 899 679) ::
 (nat_lit 684,kQ "ending_order" "ending_order" 1138 414 1 0 0 3 681 1141) ::
 (nat_lit 685,kf "ending_order" 98 m4 899 684) ::
 (nat_lit 696,kQ "__init__" "Tables.__init__" 1158 426 3 0 0 3 693 1161) ::
 (nat_lit 697,kF "__init__" "Tables.__init__" (aq (aH 100) 0) .none m5 1144 696) ::
 (nat_lit 703,kC "put" "Tables.put" 1164 439 4 0 0 3 698 1171) ::
 (nat_lit 704,kF "put" "Tables.put" (aq (aH 100) 1) .none m5 1144 703) ::
 (nat_lit 710,kC "drop" "Tables.drop" 1174 443 3 0 0 3 705 1180) ::
 (nat_lit 711,kF "drop" "Tables.drop" (aq (aH 100) 2) .none m5 1144 710) ::
 (nat_lit 717,kC "undo_to" "Tables.undo_to" 1183 448 2 0 0 3 712 1191) ::
 (nat_lit 718,kF "undo_to" "Tables.undo_to" (aq (aH 100) 3) .none m5 1144 717) ::
 (nat_lit 724,kC "fresh" "Tables.fresh" 1194 456 2 0 0 3 719 1200) ::
 (nat_lit 725,kF "fresh" "Tables.fresh" (aq (aH 100) 4) .none m5 1144 724) ::
 (nat_lit 727,kD (kE P "__module__" 1153 (.str "lockstretch.tables" 1144)::kE P "__firstlineno__" 1157 (.int 424 1156)::kE P "__init__" 1163 (.ref 697)::kE P "put" 1173 (.ref 704)::kE P "drop" 1182 (.ref 711)::kE P "undo_to" 1193 (.ref 718)::kE P "fresh" 1202 (.ref 725)::kE P "__static_attributes__" 1214 (.ref 726)::kE P "__dict__" 1216 (.ref 729)::kE P "__weakref__" 1218 (.ref 730)::kE P "__doc__" 1219 .none::[]) 4) ::
 (nat_lit 728,kL "Tables" 728 727 1146 1154) ::
 (nat_lit 740,kD (kE P "fair" 1236 (.bool false)::[]) 1) ::
 (nat_lit 746,kC "__init__" "Desk.__init__" 1237 463 2 0 1 3 741 1243) ::
 (nat_lit 747,kF "__init__" "Desk.__init__" (aq (aH 102) 0) (.ref 740) m6 1222 746) ::
 (nat_lit 753,kC "perform" "Desk.perform" 1246 470 3 0 0 3 748 1254) ::
 (nat_lit 754,kF "perform" "Desk.perform" (aq (aH 102) 1) .none m6 1222 753) ::
 (nat_lit 760,kC "do" "Desk.do" 1257 480 3 0 0 3 755 1264) ::
 (nat_lit 761,kF "do" "Desk.do" (aq (aH 102) 2) .none m6 1222 760) ::
 (nat_lit 767,kC "begin" "Desk.begin" 1267 485 1 0 0 3 762 1271) ::
 (nat_lit 768,kF "begin" "Desk.begin" (aq (aH 102) 3) .none m6 1222 767) ::
 (nat_lit 769,kD (kE P "mode" 1275 (.str "both" 1274)::[]) 1) ::
 (nat_lit 775,kC "attach" "Desk.attach" 1276 488 3 0 1 3 770 1283) ::
 (nat_lit 776,kF "attach" "Desk.attach" (aq (aH 102) 4) (.ref 769) m6 1222 775) ::
 (nat_lit 790,kC "close" "Desk.close" 1297 494 3 0 0 3 785 1303) ::
 (nat_lit 791,kF "close" "Desk.close" (aq (aH 102) 6) .none m6 1222 790) ::
 (nat_lit 797,kC "fork" "Desk.fork" 1306 497 2 0 0 3 792 1311) ::
 (nat_lit 798,kF "fork" "Desk.fork" (aq (aH 102) 7) .none m6 1222 797) ::
 (nat_lit 804,kC "end" "Desk.end" 1314 500 2 0 0 3 799 1319) ::
 (nat_lit 805,kF "end" "Desk.end" (aq (aH 102) 8) .none m6 1222 804) ::
 (nat_lit 806,kD (kE P "by" 1323 (.str "task" 1322)::kE P "wait" 1324 (.bool false)::[]) 2) ::
 (nat_lit 812,kC "lock" "Desk.lock" 1325 503 5 0 2 3 807 1335) ::
 (nat_lit 813,kF "lock" "Desk.lock" (aq (aH 102) 9) (.ref 806) m6 1222 812) ::
 (nat_lit 814,kD (kE P "by" 1339 (.str "task" 1338)::[]) 1) ::
 (nat_lit 820,kC "unlock" "Desk.unlock" 1340 506 4 0 1 3 815 1348) ::
 (nat_lit 821,kF "unlock" "Desk.unlock" (aq (aH 102) 10) (.ref 814) m6 1222 820) ::
 (nat_lit 870,kC "is_asleep" "Desk.is_asleep" 1403 528 2 0 0 3 865 1408) ::
 (nat_lit 871,kF "is_asleep" "Desk.is_asleep" (aq (aH 102) 17) .none m6 1222 870) ::
 (nat_lit 885,kC "locks" "Desk.locks" 1425 535 2 0 0 3 880 1430) ::
 (nat_lit 886,kF "locks" "Desk.locks" (aq (aH 102) 19) .none m6 1222 885) ::
 (nat_lit 906,kC "asks" "Desk.asks" 1462 556 1 0 0 3 901 1466) ::
 (nat_lit 907,kF "asks" "Desk.asks" (aq (aH 102) 22) .none m6 1222 906) ::
 (nat_lit 913,kC "outcome" "Desk.outcome" 1469 559 2 0 0 3 908 1474) ::
 (nat_lit 914,kF "outcome" "Desk.outcome" (aq (aH 102) 23) .none m6 1222 913) ::
 (nat_lit 920,kC "why" "Desk.why" 1477 562 2 0 0 3 915 1483) ::
 (nat_lit 921,kF "why" "Desk.why" (aq (aH 102) 24) .none m6 1222 920) ::
 (nat_lit 927,kC "ending" "Desk.ending" 1486 566 1 0 0 3 922 1490) ::
 (nat_lit 928,kF "ending" "Desk.ending" (aq (aH 102) 25) .none m6 1222 927) ::
 (nat_lit 989,kD (kE P "__module__" 1231 (.str "lockstretch.desks" 1222)::kE P "__firstlineno__" 1235 (.int 461 1234)::kE P "__init__" 1245 (.ref 747)::kE P "perform" 1256 (.ref 754)::kE P "do" 1266 (.ref 761)::kE P "begin" 1273 (.ref 768)::kE P "attach" 1285 (.ref 776)::kE P "dup" 1296 (.ref 784)::kE P "close" 1305 (.ref 791)::kE P "fork" 1313 (.ref 798)::kE P "end" 1321 (.ref 805)::kE P "lock" 1337 (.ref 813)::kE P "unlock" 1350 (.ref 821)::kE P "cancel" 1358 (.ref 828)::kE P "lock_whole" 1370 (.ref 836)::kE P "unlock_whole" 1379 (.ref 843)::kE P "tasks" 1386 (.ref 850)::kE P "handles" 1394 (.ref 857)::kE P "mark" 1402 (.ref 864)::kE P "is_asleep" 1410 (.ref 871)::kE P "probe" 1424 (.ref 879)::kE P "locks" 1432 (.ref 886)::kE P "whole_locks" 1440 (.ref 893)::kE P "may" 1461 (.ref 900)::kE P "asks" 1468 (.ref 907)::kE P "outcome" 1476 (.ref 914)::kE P "why" 1485 (.ref 921)::kE P "ending" 1492 (.ref 928)::kE P "deeds" 1498 (.ref 933)::kE P "undone" 1505 (.ref 940)::kE P "back" 1515 (.ref 947)::kE P "again" 1524 (.ref 954)::kE P "counts" 1531 (.ref 961)::kE P "many_locks" 1537 (.ref 966)::kE P "__eq__" 1545 (.ref 973)::kE P "__len__" 1552 (.ref 980)::kE P "__str__" 1559 (.ref 987)::kE P "__static_attributes__" 1565 (.ref 988)::kE P "__dict__" 1567 (.ref 991)::kE P "__weakref__" 1569 (.ref 992)::kE P "__doc__" 1570 .none::kE P "__hash__" 1571 .none::[]) 5) ::
 (nat_lit 990,kL "Desk" 990 989 1224 1232) ::
 (nat_lit 1000,kc "_law_draw" 1576 609 3 0 3 995 1585) ::
 (nat_lit 1001,kf "_law_draw" 104 m7 1574 1000) ::
 (nat_lit 1007,kc "_law_begun" 1588 619 0 0 3 1002 1591) ::
 (nat_lit 1008,kf "_law_begun" 105 m7 1574 1007) ::
 (nat_lit 1012,kQ "_law_class" "_law_class" 1594 621 1 0 0 3 1009 1597) ::
 (nat_lit 1013,kf "_law_class" 106 m7 1574 1012) ::
 (nat_lit 1019,kc "_law_heard" 1600 629 1 0 3 1014 1608) ::
 (nat_lit 1020,kf "_law_heard" 107 m7 1574 1019) ::
 (nat_lit 1026,kc "_law_tasks" 1611 637 2 0 3 1021 1618) ::
 (nat_lit 1027,kf "_law_tasks" 108 m7 1574 1026) ::
 (nat_lit 1033,kc "_law_upgrades" 1621 643 1 0 3 1028 1627) ::
 (nat_lit 1034,kf "_law_upgrades" 109 m7 1574 1033) ::
 (nat_lit 1038,kQ "_law_marks" "_law_marks" 1630 654 1 0 0 3 1035 1633) ::
 (nat_lit 1039,kf "_law_marks" 110 m7 1574 1038) ::
 (nat_lit 1045,kc "law" 1636 674 1 0 3 1040 1650) ::
 (nat_lit 1046,kf "law" 111 m7 1574 1045)::[]
noncomputable def ks:List P3:=3::30::31::44::56::68::80::104::116::128::140::159::170::171::203::204::210::211::217::218::224::225::231::232::238::239::245::246::252::253::259::260::266::267::273::274::275::276::277::284::285::291::292::298::299::305::306::312::313::319::320::326::327::340::341::347::348::354::355::361::362::375::376::382::383::387::388::394::395::406::407::413::414::420::421::425::426::437::438::444::445::449::450::456::457::463::464::470::471::477::478::484::485::491::492::498::499::505::506::510::511::515::516::520::521::527::528::534::535::541::542::548::549::550::556::557::563::564::570::571::575::576::580::581::587::588::594::595::601::602::608::609::622::623::629::630::636::637::643::644::650::651::673::679::680::684::685::696::697::703::704::710::711::717::718::724::725::727::728::740::746::747::753::754::760::761::767::768::769::775::776::790::791::797::798::804::805::806::812::813::814::820::821::870::871::885::886::906::907::913::914::920::921::927::928::989::990::1000::1001::1007::1008::1012::1013::1019::1020::1026::1027::1033::1034::1038::1039::1045::1046::[]
theorem MI(P:W3):ks=(KK P).map (·.1):=rfl
noncomputable abbrev Hk:Hook:=kmHook KK ks MI [213,1041,1029,1036]
noncomputable abbrev Xt(s:P5):Bool:=xlAt qv [] s&&recOk (RowW.records QW.row.toRowW) s
abbrev Mn(w:Q4):Prop:=(λos=>(segRunT UV pw w 11 LW 1 7598 (St w os)<|piecesOf (UU pw) (env pw) (cd pw) p0 B).map λr=>(r.1,r.2.2.1,
  (ac4 (Tv pw.main.body) (Tg w.params) r.2.1.abs.heap&&ZJ pw r.2.1.abs.heap&&gensDone r.2.1.abs&&laidKept (Tg w.params) r.2.1.abs.heap),
  openSeen qv ls (Tv pw.main.body) Xt true r.2.1.abs,ks.all (λa=>RZ a r.2.1.n),[213,1041,1029,1036].all (λa=>RZ a r.2.1.n),ks.map (gt r.2.1.tree),[213,1041,1029,1036].map (gt r.2.1.tree))) =
 λ_=>some (.next,cd pw,true,openGood qv ls,true,true,(KK w.params).map (λp=>some p.2),[213,1041,1029,1036].map λ_=>some (SZ #[]))
theorem OI(w:Q4):Mn (w.withFollow "special-get-raises" false):=by
 show(λos=>_)=_;rw[Uk,Ul,Ub,Uc]
 kernel_rfl
theorem OJ(w:Q4):Mn (w.withFollow "special-get-raises" true):=by
 show(λos=>_)=_;rw[Uk,Ul,Ub,Uc]
 kernel_rfl
theorem left:LeftO pw qv ls Xt Hk.obs Hk.val 20000:=Gr (K:=KK) (M:=7598) (by kernel_rfl) (by decide) (λs=>by kernel_rfl) (λw os=>by kernel_rfl) (λw os=>by kernel_rfl) (byRow2 "special-get-raises" OI OJ) (by decide)
noncomputable abbrev rl:VR:=QW
noncomputable abbrev dL:DefRec:=⟨"law",bL<|RB.aH 111,aW<|RB.aH 111,ae<|RB.aH 111,⟨674,0,695,67⟩⟩
theorem hd1:defOf qv rl.row.name=some (dL,[]):=by kernel_rfl
theorem hd2:rl.row.prog.theDef rl.row.name=some (dL.params,dL.body,dL.scope):=by kernel_rfl
theorem hd3:kwWritten? dL.params.kwonlyargs dL.params.kw_defaults=some []:=by kernel_rfl
theorem hd4:(!rl.row.writes||rl.row.records.isEmpty)=true:=by kernel_rfl
theorem hd5:(chainsOk qv&&opensWell rl.row.prog&&(frees rl.row.toRowW&&rl.row.within.isEmpty))=true:=by kernel_rfl
theorem hd6:rl.row.prog.bare:=⟨rfl,rfl,rfl,rfl,rfl,by decide +kernel⟩
theorem said:rl.wellSaid=true:=by
 unfold OpenLaw.wellSaid OpenRow.wellSaid
 repeat' with_reducible refine look_both ?_ ?_
 all_goals decide +kernel
end OH
namespace L2
open PySem PySem.Spec PyProof.Rows
def jp(cells:List (Str×P3)):List (Str×SG)->List (Str×P3)->List (Str×P3)
 | [],acc=>acc
 | (n,k)::r,acc=>if k==.free then jp cells r ((n,(cells.lookup n).getD 0)::acc) else jp cells r acc
theorem Gs{env:Env}{names:List (Str×SG)}(h:∀y∈names,y.2=.free->∃c,env.cells.lookup y.1=some c)(acc:List (Str×P3)) :
  (forIn (m:=Sem) names acc λx l=>do
   let (name,kind):=x
   if kind==.free then
    let c <-cellOf env name
    pure (Vn ((name,c)::l))
   else pure (Vn l))=pure (jp env.cells names acc):=by
 induction names generalizing acc with
 | nil=>rfl
 | cons y r g=>
  obtain⟨n,k⟩:=y;have i:∀y∈r,y.2=.free->∃c,env.cells.lookup y.1=some c:=λy o=>h y (Ql _ o);rw[Zj];cases d:(k==RE) with
  | true=>
   have e:k=.free:=by simpa using d
   obtain⟨c,j⟩:=h (n,k) Qj e;have f:cellOf env n=pure c:=by unfold cellOf;rw[show env.cells.lookup n=some c from j]
   simp only[d,if_true,f,jp];have:=g i ((n,c)::acc);rw[show(env.cells.lookup n).getD 0=c by rw[show env.cells.lookup n=some c from j];rfl];exact this
  | false=>
   simp only[d,Qt,if_false,jp];exact g i acc
theorem kj{d:Q8}{env:Env}(h:∀y∈d.names,y.2=.free->∃c,env.cells.lookup y.1=some c):WA d env=pure (jp env.cells d.names []):=by
 have:=Gs h [];unfold WA;refine(congrArg (λ(m:Sem (List<|Str×P3))=>m >>= λf=>pure f) this).trans ?_;rfl
theorem jq{cells:List (Str×P3)}{x:Str}{c:P3}:∀{names:List (Str×SG)} {acc:List (Str×P3)},(∀y∈names,y.2=.free->∃c,cells.lookup y.1=some c)->(∀x c,acc.lookup x=some c->cells.lookup x=some c) ->
  (jp cells names acc).lookup x=some c->cells.lookup x=some c
 | [],acc,_,f,h=>f x c h
 | (n,k)::r,acc,j,f,h=>by
  have i:∀y∈r,y.2=.free->∃c,cells.lookup y.1=some c:=λy l=>j y (Ql _ l);unfold jp at h;split at h
  ·rename_i m;refine jq i (λz d hz=>?_) h;rw[Rb] at hz;split at hz
   ·rename_i e;have e:z=n:=by simpa using e
    subst e;obtain⟨c',g⟩:=j (z,k) Qj (by simpa using m);rw[show cells.lookup z=some c' from g] at hz ⊢;exact hz
   ·exact f z d hz
  ·exact jq i f h
theorem lI{cells:List (Str×P3)}{x:Str}:∀{names:List (Str×SG)} {acc:List (Str×P3)},((x,RE)∈names∨∃c,acc.lookup x=some c)->∃c,(jp cells names acc).lookup x=some c
 | [],acc,h=>by
  rcases h with h | h
  ·simp at h
  ·exact h
 | (n,k)::r,acc,h=>by
  unfold jp;by_cases d:(k==RE)=true
  ·rw[if_pos d];refine lI ?_;rcases h with h | ⟨c,h⟩
   ·rcases Qm.mp h with e | h
    ·cases e;exact .inr ⟨_,by rw[Rb,beq_self_eq_true]⟩
    ·exact .inl h
   ·right;rw[Rb];cases e:(x==n)
    ·exact⟨c,h⟩
    ·exact⟨_,rfl⟩
  ·rw[if_neg d];refine lI ?_;rcases h with h | h
   ·rcases Qm.mp h with e | h
    ·cases e;simp at d
    ·exact .inl h
   ·exact .inr h

@[reducible] def ee(X:Cx)(c:Q8)(d:List Str)(C:P3)(s:P5)(H:Hp)(ex:List P3)(pn:List (P3×Obj)):Cx where
 prog:=X.prog
 w:=X.w
 K:=X.K
 mg:=X.mg
 base:=X.base
 A:=X.A
 N:=d
 s₀:=s
 H₀:=H
 env:=compEnvC c (jp X.env.cells c.names []) C X.env
 outer:=X.stack
 stack:=X.stack
 ex:=ex
 fn:=λ_=>false
 calm:=X.calm
 pn:=pn
 xe:=λ_ _=>False

structure aR(up:Q8)(N:List Str)(sc:Q8)(Nc:List Str)(ix:List (Option Nat)):Prop where
 kind:sc.kind=.function
 nocell:∀y∈sc.names,y.2≠.cell
 loc:∀y∈sc.names,y.2=.local->sc.names.lookup y.1=some .local
 free:∀y∈sc.names,y.2=.free->up.names.lookup y.1=some .cell∨up.names.lookup y.1=some .free
 nd:Nc.Nodup
 len:ix.length=Nc.length
 map:∀p∈Nc.zip ix,(match p.2 with
  | none=>true
  | some j=>decide (N[j]?=some p.1)&&decide (up.names.lookup p.1=some .cell∨up.names.lookup p.1=some .free)&&decide ((p.1,RE)∈sc.names)&&decide (sc.names.lookup p.1=some .free))=true
def jW(ix:List (Option Nat))(σ:St):St:=ix.map λo=>o.bind λj=>σ[j]?.join
def yg(σ c:St):Prop:=σ.length=c.length/\∀(i:Nat) v,σ[i]?=some (some v)->c[i]?=some (some v)
theorem pP{c:Q8}{env:Env}{x:Str}(h:(WB c env).names.lookup x=some .cell∨(WB c env).names.lookup x=some .free)(hn:∀y∈c.names,y.2≠.cell):(x,RE)∈c.names:=by
 have key:∀names:List (Str×SG),(∀y∈names,y.2≠.cell)->∀k,(names.map λ(n,k)=>if (k==RE&&env.scope.kind==.function&&env.kindOf n==some .cell) then(n,U3) else(n,k)).lookup x=some k->(k=.cell∨k=.free)->(x,RE)∈names:=by
  intro names
  induction names with
  | nil=>intro _ k h;simp at h
  | cons y r g=>
   intro hn k h hk;obtain⟨n,f⟩:=y;have i:∀y∈r,y.2≠.cell:=λy j=>hn y (Ql _ j);rw[Qx] at h;dsimp only at h;by_cases d:(f==RE&&env.scope.kind==.function&&env.kindOf n==some .cell)=true
   ·rw[if_pos d,Rb] at h;cases e:(x==n)
    ·rw[e] at h;exact Ql _ (g i k h hk)
    ·have e:x=n:=by simpa using e
     subst e;have:f=.free:=by
      simp only[Qq,beq_iff_eq] at d;exact d.1.1
     subst this;exact Qj
   ·rw[if_neg d,Rb] at h;cases e:(x==n)
    ·rw[e] at h;exact Ql _ (g i k h hk)
    ·rw[e] at h;have e:x=n:=by simpa using e
     subst e;have h:f=k:=by simpa using h
     subst h;rcases hk with hk | hk
     ·exact absurd hk (hn _ Qj)
     ·subst hk;exact Qj
 rcases h with h | h
 ·exact key c.names hn _ h (.inl rfl)
 ·exact key c.names hn _ h (.inr rfl)
theorem uF{c:Q8}{env:Env}{x:Str}:c.names.lookup x=some .free->(WB c env).names.lookup x=some .cell∨(WB c env).names.lookup x=some .free:=by
 have key:∀names:List (Str×SG),names.lookup x=some .free->(names.map λ(n,k)=>if (k==RE&&env.scope.kind==.function&&env.kindOf n==some .cell) then(n,U3) else(n,k)).lookup x=some .cell ∨
   (names.map λ(n,k)=>if (k==RE&&env.scope.kind==.function&&env.kindOf n==some .cell) then(n,U3) else(n,k)).lookup x=some .free:=by
  intro names
  induction names with
  | nil=>intro h;simp at h
  | cons y r d=>
   intro h;obtain⟨n,g⟩:=y;rw[Qx];dsimp only;rw[Rb] at h;by_cases f:(g==RE&&env.scope.kind==.function&&env.kindOf n==some .cell)=true
   ·rw[if_pos f];cases e:(x==n)
    ·rw[e] at h;simp only[Rb,e];exact d h
    ·simp only[Rb,e];exact .inl trivial
   ·rw[if_neg f];cases e:(x==n)
    ·rw[e] at h;simp only[Rb,e];exact d h
    ·rw[e] at h;simp only[Rb,e];exact .inr (by simpa using h)
 exact key c.names

section
variable{sc:Q8}{Nc:List Str}
theorem ay.lcCl(I:ay X pins σ H s)(S:aR X.env.scope X.N sc Nc ix):∀y∈sc.names,y.2=.free->∃c,X.env.cells.lookup y.1=some c:=λy d e=>I.ok.has y.1 (S.free y d e)

theorem ay.lcOk{C:P3}{i:List P3}{pn:List (P3×Obj)}(I:ay X pins σ H s)(S:aR X.env.scope X.N sc Nc ix)(j:s.heap.objs.size≤C)(d:∀b∈i,jd X pins H b)(f:∀b∈i,b<s.heap.objs.size) :
  (ee X sc Nc C s H i pn).Ok:=by
 have g:=I.lcCl S;have sub:∀x c,(jp X.env.cells sc.names []).lookup x=some c->X.env.cells.lookup x=some c:=λx c h=>jq g (λ_ _ z=>by simp at z) h;refine⟨I.ok.mod,S.kind,I.ok.glob,I.ok.blt,j,λx y c h1 p=>I.ok.inj x y c (sub _ _ h1) (sub _ _ p),λx l=>?_,λx c h=>(by cases h),I.ok.hd,I.ok.frames,.inl rfl,λb hb=>⟨?_,λx c e=>(d b hb).2.2.2.2.1 x c (sub x c e)⟩,
  I.bs,Rg I.ok.bsz I.sz,λb o e hb=>?_,λb hb m=>?_,I.stack,I.stkFree⟩
 ·exact lI (.inl<|pP l S.nocell)
 ·exact Qp (Qw (f b hb) j)
 ·rcases(d b hb).2.2.2.1 with z | z
  ·exact I.ok.noex b o e z
  ·exact absurd (Qw (Qc e)<|Rg I.ok.bsz z) (RL _)
 ·rcases Qm.mp (I.stkSub b m) with z | z
  ·exact(d b hb).2.1 z
  ·exact(d b hb).2.2.1 z

theorem Gu{N:List Str}{up:Q8}(S:aR up N sc Nc ix){i:Nat}{x:Str}{v:V}(h1:Nc[i]?=some x)(c:(jW ix σ)[i]?=some (some v)) :
  ∃j:Nat,N[j]?=some x/\σ[j]?=some (some v)/\(up.names.lookup x=some .cell∨up.names.lookup x=some .free)/\(x,RE)∈sc.names/\sc.names.lookup x=some .free:=by
 unfold jW at c;rw[QZ] at c;cases e:ix[i]? with
 | none=>rw[e] at c;cases c
 | some o=>
  rw[e] at c;cases o with
  | none=>simp at c
  | some j=>
   have g:(x,some j)∈Nc.zip ix:=by
    refine QB (i:=i) ?_;rw[VS];exact⟨h1,e⟩
   have q:=S.map _ g;simp only[Qq,decide_eq_true_eq] at q;obtain⟨⟨⟨q1,q2⟩,f⟩,d⟩:=q;refine⟨j,q1,?_,q2,f,d⟩;have c:(σ[j]?).join=some v:=by simpa using c
   cases z:σ[j]? with
   | none=>rw[z] at c;cases c
   | some u=>
    rw[z] at c;have c:u=some v:=c;rw[c]

theorem ay.lcStart{Z:List P3}{h₁:QO}{tk:Nat}(I:ay X pins σ H s)(S:aR X.env.scope X.N sc Nc ix)(hf:∀b∈Z,jd X pins H b)(U:∀b∈Z,b<s.heap.objs.size)
  (Q:∃m,h₁.Ns s.heap.objs.size m) (O:∀b o,s.heap.get? b=some o->h₁.get? b=some o) :
  ay (ee X sc Nc s.heap.objs.size s H Z<|X.pn++pins) [] (jW ix σ) H {s with heap:=h₁,toks:=tk}:=by
 have Y:=I.lcCl S;have sub:∀x c,(jp X.env.cells sc.names []).lookup x=some c->X.env.cells.lookup x=some c:=λx c h=>jq Y (λ_ _ z=>by simp at z) h;have f:∀c v,s.heap.IsCell c v->h₁.IsCell c v:=λc v ⟨o,ho,hd⟩=>⟨o,O c o ho,hd⟩
 obtain⟨m,hn⟩:=Q;refine⟨I.lcOk S (Qi _) hf U,rfl,I.bare,Un.kept O,⟨m,hn,λi x v h1 h2 _=>?_⟩,λx c h=>?_,I.hok.fresh<|Qi _,λx c h=>I.freeC x c (sub x c h),λp q=>?_,I.hok.kept O,?_⟩
 ·obtain⟨j,e1,e2,e3,e4,e5⟩:=Gu S h1 h2;obtain⟨m',hn',hl⟩:=I.loc;obtain⟨u,r,l⟩:=hl j x v e1 e2 (.inr e3);refine⟨u,r,.inr ⟨uF e5,?_⟩⟩;have L:X.env.kindOf x=some .cell∨X.env.kindOf x=some .free:=e3;rcases l with ⟨k,_⟩ | ⟨k,c,hc,g⟩
  ·rw[k] at L;rcases L with z | z<;>cases z
  ·obtain⟨c',C⟩:=lI (cells:=X.env.cells) (names:=sc.names) (acc:=[]) (.inl e4);have:=sub x c' C;rw[hc] at this;cases this;exact⟨c,C,f _ _ g⟩
 ·obtain⟨v,hv⟩:=I.cell x c (sub x c h);exact⟨v,f _ _ hv⟩
 ·have q:p∈X.pn++pins:=by
   have q:p∈(X.pn++pins)++[]:=q
   rwa [Sz] at q
  obtain⟨e,n,ne,nf,d⟩:=I.pin p q;refine⟨O _ _ e,n,Qp<|Qc e,λhm=>?_,d⟩;rcases Qm.mp (I.stkSub p.1 hm) with z | z
  ·exact ne z
  ·exact nf z
 ·unfold jW;rw[QI];exact S.len

theorem ay.lcEnd{C D:P3}{j:List P3}{pn:List (P3×Obj)}{m:St}{f:Hp}{g:P5}{o:HO}(I:ay X pins σ H s)(l:ay (ee X sc Nc C s H (D::j) pn) [] m f g)
  (i:∀b∈D::j,jd X pins H b) (x:f D=none) (ho:bD X.prog X.w (upd f D o) g.heap D o):ay X pins σ (upd f D o) g:=by
 have hb:Un (g8 X.stack) (D::j) H f s.heap g.heap:=l.base;have p:H D=none:=(i D Qj).1;have un:Un (g8 X.stack) (D::j) H (upd f D o) s.heap g.heap:=by
  have ne:∀b,b∉D::j->b≠D:=λb h z=>h (z▸Qj);have d:∀b u,H b=some u->b≠D:=λb u e z=>by subst z;rw[p] at e;cases e
  exact⟨hb.keep,hb.slot,λb o q n r=>by rw[al (ne b r)];exact hb.free b o q n r,hb.there,λb xs q=>by rw[al (d b _ q)];exact hb.tups b xs q,λb o u q=>by rw[al (d b _ q)];exact hb.frzs b o u q,
   λb ps q=>by rw[al (d b _ q)];exact hb.tbls b ps q⟩
 have hok:jc X.prog X.w (upd f D o) g.heap:=λb u e=>by
  by_cases h:b=D
  ·subst h;rw[aA] at e;cases e;exact ho
  ·rw[al h] at e;refine(l.hok b u e).stay (λ_ _ _ q=>q) (λc q=>?_) λc xs q=>?_
   ·rw[al (by intro z;subst z;rw[x] at q;cases q)];exact q
   ·rw[al (by intro z;subst z;rw[x] at q;cases q)];exact q
 exact I.call' l.os un hok l.bare λb hb=>⟨(i b hb).2.2.2.1,(i b hb).2.1,(i b hb).2.2.2.2.1,(i b hb).2.2.2.2.2⟩
end
def oq(X:Cx)(d:List Qv)(f:TT):Prop :=
 ∀(pins:List (P3×Obj)) (s:P5) (σ:St) (H:Hp) (Q:Bool->Hp->Prop),ay X pins σ H s->f σ H Q ->
  Qa (Qd X.prog X.w) X.A (forIn d true λc r=>if r=true then do let ok <-X0 c X.env (Q0 c X.env);pure (Vn ok) else pure (Vn r)) (TP X pins σ Q) X.xe s
def OK:TT:=λ_ H Q=>Q true H
theorem DL:oq X [] OK:=λ_ _ _ H _ I h=>P2 ⟨H,I,h⟩
theorem DM{c:Qv}{t:TT}(h:PT X c t):oq X [c] t:=by
 intro pins s σ H Q I d;rw[Zj];simp only[if_true];refine PZ (PZ<|bv (h pins s σ H Q I d) λb f q=>?_);exact P2 (P2 q)

def F6(ix:List (Option Nat))(j:TI)(g:TG)(l:TT)(o:TE):TE:=λσ H Q=>j σ H λJ H1=>∃W:Nat->Nat->List V->Hp->Prop,(∃m,W 0 m [] H1)/\∀i m ys H,W i m ys H->ys.length<Qf /\
 ((J.stop i H/\∀p,H p=none->Q (.ref p) (upd H p<|.lst ys))∨(J.go i H/\∀x h,J.yld i H x h->g x (jW ix σ) h λc r=>yg (jW ix σ) c/\l c r λb f=>
  if b=true then o c f λy q=>∃d,d < m/\W (i+1) d (ys++[y]) q else ∃d,d < m/\W (i+1) d ys f))

structure Gt(P:QK)(w:Q4)(ε:Type)(sc:Q8)(tg iter:Qv)(ifs:List Qv) where
 ty:String
 dt:Data
 dk:sizeOk dt
 fr:({cls:=.type ty,data:=dt}:Obj).isFreed=false
 mo:List ε->HO
 CE:Qv
 fin:P3->Env->Sem Unit
 tf:List ε->St->Hp->(List ε->Hp->Prop)->Prop
 r0:∀{H h D},h.get? D=some {cls:=.type ty,dict:=none,data:=dt}->D≠R6->bD P w H h D (mo [])
 rO:∀{H h D ys},bD P w H h D (mo ys)->∃o,h.get? D=some o/\(∀v,o.data≠.cell v)/\∀{H' h'},h'.get? D=some o->bD P w H' h' D (mo ys)
 ht:∀it D env,(Qd P w).den (.compLoop CE 0 it (.ref D) env)=(do
   SI iter.pos
   match <-Vj it with
   | none=>pure (.done .next)
   | some v=>
    Vk tg it v
    Wo tg env v
    let mut ok:=true
    for c in ifs do
     if ok then ok <-X0 c env (Q0 c env)
    if ok then fin D env
    again (.compLoop CE 0 it (.ref D) env):Sem Fin).onRaise λx=>do TF x env;theTreesLotGoes x
 un:∀A it D env,Wt A (.compLoop CE 0 it D env)=A
 hs:∀{A R s it acc env},Tk (Qd P w) A (.compLoop CE 0 it acc env) R s->Qa (Qd P w) A (W0 it) (λit' s'=>Tk (Qd P w) A (.compLoop CE 0 it' acc env) R s') (notedBy (Qd P w) A env λx s'=>R (.error x) s') s->Tk (Qd P w) A (.compStart CE 0 it acc env) R s
 ev:∀env,∃p,Q0 CE env=comprehension CE sc env p (newObj (.type ty) dt none) false (Q0 iter env)
 eu:∀env f,∃p,evalThenUse CE env f=(do let _ <-comprehension CE sc env p (newObj (.type ty) dt none) false (Q0 iter env) (some f))
 cl:clausesOf CE=[⟨tg,iter,ifs,0⟩]
def PF{f:Type}{j:Q8}{i iter:Qv}{h:List Qv}(X:Cx)(G:Gt P w f j i iter h):Prop :=
 ∀(pins:List (P3×Obj)) (D:P3) (ys:List f) (s:P5) (σ:St) (H:Hp) (Q:List f->Hp->Prop),ay X pins σ H s->(∀{d s'},ay X pins σ d s'->bD X.prog X.w (λ_=>none) s'.heap D (G.mo ys))->ys.length<Qf->G.tf ys σ H Q ->
  Qa (Qd X.prog X.w) X.A (G.fin D X.env) (λ_ s'=>∃c d g h' t',s'={g with heap:=h',toks:=t'}/\ay X pins σ d g/\RP D g.heap h'/\bD X.prog X.w (λ_=>none) h' D (G.mo c)/\Q c d) X.xe s
def Pr{h:Type}{z:Q8}{u iter:Qv}{f:List Qv}(ix:List (Option Nat))(q:TI)(g:TG)(r:TT)(G:Gt P w h z u iter f):TE:=λσ H Q=>q σ H λJ H1=>∃W:Nat->Nat->List h->Hp->Prop,(∃m,W 0 m [] H1)/\∀i m ys H,W i m ys H->ys.length<Qf /\
 ((J.stop i H/\∀p,H p=none->Q (.ref p) (upd H p<|G.mo ys))∨(J.go i H/\∀x l,J.yld i H x l->g x (jW ix σ) l λc I=>yg (jW ix σ) c/\r c I λb j=>
  if b=true then G.tf ys c j λo C=>∃d,d < m/\W (i+1) d o C else ∃d,d < m/\W (i+1) d ys j))
section
variable{sc:Q8}{Nc:List Str}{kx elt tg iter:Qv}{ifs:List Qv}{wi:TI}{g:TG}{tt:TT}{tk te:TE}{ε:Type}{G:Gt X.prog X.w ε sc tg iter ifs}
theorem wc{f:P5}{it:P3}{Y:List P3}{tn:Nat->QO->Prop}{J:It}{Z:Hp}{RR:P0->P3->Result->P5->Prop} 
  (hc:X.calm=true) (S:aR X.env.scope X.N sc Nc ix) (hg:∀C s H ex pn,PG (ee X sc Nc C s H ex pn) tg g) (hif:∀C s H ex pn,oq (ee X sc Nc C s H ex pn) ifs tt) (he:∀C s H ex pn,PF (ee X sc Nc C s H ex pn) G)
  (I:ay X pins σ Z f) (T:vX X.prog X.w X.K tg J Y it tn) (st:tn 0 f.heap) (hf:∀b∈Y,jd X pins Z b)
  (W:Nat->Nat->List ε->Hp->Prop) (h0:∃m,W 0 m [] Z) (Qe:List ε->Hp->Prop)
  (turn:∀i m ys H,W i m ys H->ys.length<Qf/\((J.stop i H/\Qe ys H)∨(J.go i H/\∀x j,J.yld i H x j->g x (jW ix σ) j λσ2 Z=>yg (jW ix σ) σ2/\tt σ2 Z λb H3=>
   if b=true then G.tf ys σ2 H3 λzs H4=>∃m',m' < m/\W (i+1) m' zs H4 else ∃m',m' < m/\W (i+1) m' ys H3)))
  (hRR:∀(D C:P3) (ys:List ε) (He:Hp) (se:P5),ay X pins σ (upd He D<|G.mo ys) se->He D=none->jd X pins (upd He D<|G.mo ys) C->(∃m,se.heap.Ns C m)->C≠D->Qe ys He->RR (.ref D) C (.ok .next) se) :
  Qa (Qd X.prog X.w) X.A (newObj (.type G.ty) G.dt none) (λacc U=>Qa (Qd X.prog X.w) X.A (newFunctionEnv sc X.env.globals (jp X.env.cells sc.names []) [] X.env.qual none .none<|some X.env) (λcenv s₄=>
   Tk (Qd X.prog X.w) X.A (.compStart G.CE 0 (.ref it) acc {cenv with scope:=WB sc X.env}) (RR acc cenv.locals) s₄) E U) E f:=by
 refine QT (Va S.nocell (by intro y hy;simp at hy) (λh₁ O L=>?_) S.kind) G.dk;dsimp only at O L ⊢;generalize hH2:f.heap.push {cls:=.type G.ty,dict:=none,data:=G.dt}=Q at O L ⊢;have hC:Q.objs.size=f.heap.objs.size+1:=by rw[<-hH2,Ss]
 have k3:∀b o,f.heap.get? b=some o->Q.get? b=some o:=λb o e=>hH2▸P1 _ e;have gD:bD X.prog X.w (λ_=>none) Q f.heap.objs.size (G.mo []):=G.r0 (hH2▸P8 _ G.fr) (RO<|Qp I.big);have I3:ay X pins σ Z {f with heap:=Q}:=I.kept (t':=f.toks) k3;have nD:Z f.heap.objs.size=none:=I.hok.fresh (Qi _);have fD:jd X pins Z f.heap.objs.size:=I.fpOk (Qi _) nD;have fpsz:∀b∈Y,b<f.heap.objs.size:=λb hb=>by
  obtain⟨o,e,_⟩:=T.obj 0 _ st b hb;exact Qc e
 have rT:∀b∈f.heap.objs.size::Y,jd X pins Z b:=λb hb=>by
  rcases Qm.mp hb with e | hb
  ·subst e;exact fD
  ·exact hf b hb
 have k1:∀b o,Q.get? b=some o->h₁.get? b=some o:=λb o e=>L.extBut b o (Qp<|Qc e) (P1 _ e);have I4:ay (ee X sc Nc Q.objs.size {f with heap:=Q} Z (f.heap.objs.size::Y)<|X.pn++pins) [] (jW ix σ) Z {f with heap:=h₁,toks:=f.toks+([]:List (Str×P0)).length} :=
  I3.lcStart S rT (λb hb=>by
   show b<Q.objs.size;rw[hC];rcases Qm.mp hb with e | hb
   ·rw[e];exact Rn _
   ·exact Sw (fpsz b hb)) ⟨_,O⟩ k1
 generalize hXc:ee X sc Nc Q.objs.size {f with heap:=Q} Z (f.heap.objs.size::Y) (X.pn++pins)=l at I4;have eE:l.env=compEnvC sc (jp X.env.cells sc.names []) Q.objs.size X.env:=by rw[<-hXc]
 have eP:l.prog=X.prog:=by rw[<-hXc]
 have eW:l.w=X.w:=by rw[<-hXc]
 have eK:l.K=X.K:=by rw[<-hXc]
 have eA:l.A=X.A:=by rw[<-hXc]
 have eC:l.calm=true:=by rw[<-hXc];exact hc
 have eX:l.xe=λ_ _=>False:=by rw[<-hXc]
 have hg':PG l tg g:=by rw[<-hXc];exact hg _ _ _ _ _
 have hif':oq l ifs tt:=by rw[<-hXc];exact hif _ _ _ _ _
 have he':PF l G:=by rw[<-hXc];exact he _ _ _ _ _
 have eF:l.fs=g8 X.stack:=by rw[<-hXc]
 have eEx:l.ex=f.heap.objs.size::Y:=by rw[<-hXc]
 have ePn:l.pn=X.pn++pins:=by rw[<-hXc]
 have hcl:=I.lcCl S;have sub:∀x c,(jp X.env.cells sc.names []).lookup x=some c->X.env.cells.lookup x=some c:=λx c h=>jq hcl (λ_ _ z=>by simp at z) h;have szAll:∀b∈f.heap.objs.size::Y,b≠Q.objs.size:=λb hb=>by
  rw[hC];rcases Qm.mp hb with e | hb
  ·rw[e];exact Qp (Rn _)
  ·exact Qp (Sw<|fpsz b hb)
 have fpD:∀b∈Y,f.heap.objs.size≠b:=λb hb=>Tj (fpsz b hb);have stat:∀{j:Hp} {pp:List (P3×Obj)},∀b∈f.heap.objs.size::Y,j b=none->(∀p∈pp,p.1≠b)->jd l pp j b:=λ{j pp} b hb hn hpp=>by
  refine⟨hn,?_,?_,.inl<|by rw[eEx];exact hb,?_,?_⟩
  ·rw[eE];exact szAll b hb
  ·rw[eF];intro hm;rcases Qm.mp (I.stkSub b hm) with z | z
   ·exact(rT b hb).2.1 z
   ·exact(rT b hb).2.2.1 z
  ·rw[eE];intro x c e;exact(rT b hb).2.2.2.2.1 x c (sub x c e)
  ·rw[ePn];intro p hp;rcases Rc.mp hp with hp | hp
   ·exact(rT b hb).2.2.2.2.2 p hp
   ·exact hpp p hp
 obtain⟨m0,w0⟩:=h0;have loop:∀U:P5,U={f with heap:=h₁,toks:=f.toks+([]:List (Str×P0)).length} ->
   Tk (Qd X.prog X.w) X.A (.compLoop G.CE 0 (.ref it) (.ref f.heap.objs.size)<|compEnvC sc (jp X.env.cells sc.names []) Q.objs.size X.env) (RR (.ref f.heap.objs.size) Q.objs.size) U:=by
  rintro U rfl;refine codeAny_loop rfl (λn s'=>∃i j vs,ay l [] (jW ix σ) j s'/\tn i s'.heap/\(∀b∈f.heap.objs.size::Y,j b=none)/\bD X.prog X.w (λ_=>none) s'.heap f.heap.objs.size (G.mo vs)/\W i n vs j) ?_ m0
   ⟨0,Z,[],I4,T.keep _ _ _ st λb hb o e=>k1 b o (k3 b o e),λb hb=>(rT b hb).1,gD.stay (λb o _ e=>k1 b o e) (λ_ q=>q) λ_ _ q=>q,w0⟩
  rintro n s5 ⟨i,H5,vs,I5,st5,fr5,rv5,w5⟩;obtain⟨o5,hd5,hc5,hr5⟩:=G.rO rv5;rw[G.un,G.ht];refine wpAny_noted ?_;refine PZ (R1<|PZ ?_);obtain⟨hsz,hturn⟩:=turn i n vs H5 w5;have pD:∀{j:Hp} {sx:P5} {σx:St} {o:Obj},ay l [] σx j sx->j f.heap.objs.size=none->sx.heap.get? f.heap.objs.size=some o->(∀v,o.data≠.cell v)->ay l [(f.heap.objs.size,o)] σx j sx:=λ{j sx σx o} Ix hn ho hd=>
   Ix.pins_of λp hp=>by
    have e:p=(f.heap.objs.size,o):=by simpa using hp
    subst e;have q:jd l [] j f.heap.objs.size:=stat _ Qj hn (λp hp=>by simp at hp);exact⟨ho,hn,q.2.1,q.2.2.1,hd⟩
  have f5:∀{j:Hp} {o:Obj},(∀b∈Y,j b=none)->∀b∈Y,jd l [(f.heap.objs.size,o)] j b:=λ{j o} fr b hb=>stat b (Ql _ hb) (fr b hb) (λp hp=>by
   have e:p=(f.heap.objs.size,o):=by simpa using hp
   subst e;exact fpD b hb)
  have I5p:=pD I5 (fr5 _ Qj) hd5 hc5;have fr5':∀b∈Y,H5 b=none:=λb hb=>fr5 b (Ql _ hb);rcases hturn with ⟨stop,qe⟩ | ⟨go,step⟩
  ·have q:=T.done l eP eW eK eC i _ s5 (jW ix σ) H5 (λ_ _=>False) I5p (f5 fr5') st5 stop;rw[eA] at q;refine QS q (λr s6 ⟨hr,I6⟩=>?_) λ_ _ z=>z.elim;subst hr;refine P2 ?_;have hD6:=I6.pin (f.heap.objs.size,_) (Qk _ Qj);have I6':ay (ee X sc Nc Q.objs.size {f with heap:=Q} Z (f.heap.objs.size::Y)<|X.pn++pins) [] (jW ix σ) H5 s6:=by rw[hXc];exact I6.pins_of (λp hp=>by simp at hp)
   have Ie:=I3.lcEnd (o:=G.mo vs) I6' rT hD6.2.1 (hr5 hD6.1);have fr6:H5 Q.objs.size=none:=I6'.free;have neC:Q.objs.size≠f.heap.objs.size:=RO (szAll _ Qj);obtain⟨m6,hn6,_⟩:=I6'.loc;refine hRR _ _ vs H5 s6 Ie hD6.2.1 (I3.fpOk (Qi _) ?_) ⟨m6,hn6⟩ neC qe;rw[al neC];exact fr6
  ·have q:=T.item l eP eW eK eC i _ s5 (jW ix σ) H5 (λ_ _=>False) I5p (f5 fr5') st5 go;rw[eA] at q;refine QS q (λr s6 ⟨u,hr,h6⟩=>?_) λ_ _ z=>z.elim;subst hr;refine PZ (QS h6 (λ_ s7 z9=>?_) λ_ _ z=>z.elim);obtain⟨x,H7,I7,r7,y7,st7,fr7⟩:=z9;have I7':=I7.pinned (f5 fr7) (T.obj _ _ st7);have q8:=hg' _ s7 (jW ix σ) H7 x u _ I7' r7 (step x H7 y7);rw[eP,eW,eA,eE,eX] at q8;refine PZ (QS q8 (λ_ s8 z9=>?_) λ_ _ z=>z.elim);obtain⟨σ8,H8,I8,q8⟩:=z9;obtain⟨kp,q8⟩:=q8;have q9:=hif' _ s8 σ8 H8 _ I8 q8;rw[eP,eW,eA,eE,eX] at q9;refine PZ (QS q9 (λb s9 ⟨H9,I9,q9⟩=>?_) λ_ _ z=>z.elim)
   -- what the pins say behind a step
   have back:∀{j:Hp} {sx:P5},ay l ([(f.heap.objs.size,o5)]++pE Y s7.heap) σ8 j sx ->
     ay l [] (jW ix σ) j sx/\tn (i+1) sx.heap/\(∀b∈f.heap.objs.size::Y,j b=none)/\bD X.prog X.w (λ_=>none) sx.heap f.heap.objs.size (G.mo vs):=λ{j sx} Ix=>by
    have pd:=Ix.pin (f.heap.objs.size,_) (Qk _ Qj);refine⟨(Ix.pins_of (pins':=[])<|λp hp=>by simp at hp).weak kp.1 kp.2,T.keep _ _ _ st7 λb hb o e=>(Ix.pin (b,o)<|Qk _<|Qk _<|iC hb e).1,λb hb=>?_,hr5 pd.1⟩;rcases Qm.mp hb with e | hb
    ·rw[e];exact pd.2.1
    ·obtain⟨o,e,d⟩:=T.obj _ _ st7 b hb;exact(Ix.pin (b,o)<|Qk _<|Qk _<|iC hb e).2.1
   cases b with
   | false=>
    obtain⟨m',hm,w9⟩:=(by simpa using q9:∃m',m' < n/\W (i+1) m' vs H9)
    obtain⟨a1,a2,a3,a4⟩:=back I9;exact P2 ⟨rfl,m',hm,i+1,H9,vs,a1,a2,a3,a4,w9⟩
   | true=>
    have q10:=he' _ f.heap.objs.size vs s9 σ8 H9 _ I9 (λIx=>by rw[eP,eW];exact(back Ix).2.2.2) hsz (by simpa using q9);rw[eP,eW,eA,eE,eX] at q10;refine PZ (QS q10 (λ_ s10 z9=>?_) λ_ _ z=>z.elim);obtain⟨ys,H10,s11,h',t',e10,I10,hsb,hp,m',hm,w10⟩:=z9;subst e10;obtain⟨a1,a2,a3,_⟩:=back I10;have fd:jd l [] H10 f.heap.objs.size:=stat _ Qj (a3 _ Qj) (λp hp=>by simp at hp);exact P2 ⟨rfl,m',hm,i+1,H10,ys,a1.turned (it:=f.heap.objs.size) (λb o hb e=>(hsb.2 b hb).trans e) fd.1 fd.2.1 fd.2.2.2.1 fd.2.2.2.2.1 fd.2.2.2.2.2,T.keep _ _ _ a2 λb hb o e=>(hsb.2 b<|RO<|fpD b hb).trans e,a3,hp,w10⟩
 exact G.hs (loop _ rfl) (T.self _ 0 _ _ _ (T.keep _ _ _ st λb hb o e=>k1 b o (k3 b o e))<|loop _ rfl)

theorem ay.letGo{C:P3}{h':QO}(I:ay X pins σ H s)(f:jd X pins H C)(hs:RP C s.heap h'):ay X pins σ H {s with heap:=h'} :=
 I.turned (t':=s.toks) (λb o hb e=>(hs.2 b hb).trans e) f.1 f.2.1 f.2.2.2.1 f.2.2.2.2.1 f.2.2.2.2.2

theorem Jb(r:X.calm=true)(S:aR X.env.scope X.N sc Nc ix)(l:PI X tg iter wi)(o:∀C s H ex pn,PG (ee X sc Nc C s H ex pn) tg g)(f:∀C s H ex pn,oq (ee X sc Nc C s H ex pn) ifs tt)(he:∀C s H ex pn,PF (ee X sc Nc C s H ex pn) G)(hs:∀x,RH iter X.env x=pure x):PE X G.CE (Pr ix wi g tt G):=by
 intro pins s σ H Q I h;obtain⟨_,e⟩:=G.ev X.env;rw[e];refine V5 (use:=none) G.cl hs (kj<|I.lcCl S) S.kind S.loc (bv (l pins s σ H _ I h) λv s1 h1=>bv h1 λj s2 L=>?_);obtain⟨it,fp,tn,J,H2,e,Z,T,c,U,W,i,turn⟩:=L;subst e;refine wc r S o f he Z T c U W i (λys H=>∀p,H p=none->Q (.ref p) (upd H p<|G.mo ys)) turn (RR:=λacc C=>compPost (Qd X.prog X.w) X.A X.xe none (EP X pins σ Q) acc C) ?_;intro D C ys He se Y u O hn z q;obtain⟨m,hn⟩:=hn;exact⟨m,hn,λh' d=>⟨.ref D,_,Y.letGo O d,rfl,q D u⟩⟩
theorem wd{i:Nat}{x:Str}{pos' c:Pos}(hc:X.calm=true)(hN:X.N.Nodup)(Y:X.N[i]?=some x)(u:X.env.scope.names.lookup x=some .local)(S:aR X.env.scope X.N sc Nc ix)(hi:PI X tg iter wi)(hg:∀C s H ex pn,PG (ee X sc Nc C s H ex pn) tg g)
  (o:∀C s H ex pn,oq (ee X sc Nc C s H ex pn) ifs tt) (he:∀C s H ex pn,PF (ee X sc Nc C s H ex pn) G)
  (f:RX G.CE (some<|.Name x pos') c.line X.env=pure true) (hs:∀x,RH iter X.env x=pure x):PS X (.Assign [.Name x pos'] G.CE c) (jj (Pr ix wi g tt G)<|fY i):=by
 intro pins s σ H D I h;rw[exec_Assign_Name_used _ _ _ _ f];refine PZ (R1<|PZ ?_);obtain⟨_,e⟩:=G.eu X.env (Wo (.Name x pos') X.env);rw[e];refine PZ (QS (V5 (use:=some (Wo (.Name x pos') X.env)) (Q:=λ_ s'=>SP X pins D .next s') G.cl hs (kj<|I.lcCl S) S.kind S.loc
  (bv (hi pins s σ H _ I h) λv s1 h1=>bv h1 λU s2 h2=>?_)) (λ_ s' Z=>P2 (P2 Z)) λ_ _ e=>e)
 obtain⟨it,fp,tn,J,H2,e,I2,T,d,f2,W,z,turn⟩:=h2;subst e;refine wc hc S hg o he I2 T d f2 W z (λys H=>∀p,H p=none->D.nx (σ.set i<|some<|.ref p) (upd H p<|G.mo ys)) turn (RR:=λacc C=>compPost (Qd X.prog X.w) X.A X.xe (some<|Wo (.Name x pos') X.env) (λ_ s'=>SP X pins D .next s') acc C) ?_;intro L C ys He O Ie hD r hn hCD q;obtain⟨m,hn⟩:=hn;show Qa _ X.A (Wo (.Name x pos') X.env<|.ref L) _ _ O;refine Yn (sI (v:=.ref L) Ie hN Y (.inl u) rfl (λs' I' ⟨a,j,ha⟩=>?_)<|.inr u);have ne:C≠a:=by
  rcases ha with e | e
  ·rw[e];exact r.2.1
  ·exact RO (r.2.2.2.2.1 x a e)
 exact⟨m,hn.sameBut j ne,λh' l=>⟨_,_,I'.letGo r l,q L hD⟩⟩
def gL(P:QK)(w:Q4)(elt:Qv)(te:TE)(sc:Q8)(tg iter:Qv)(ifs:List Qv)(pos:Pos):Gt P w V sc tg iter ifs where
 ty:="list"
 dt:=.seq ([]:List P0).toArray
 dk:=by size_fits
 fr:=rfl
 mo:=.lst
 CE:=.ListComp elt [⟨tg,iter,ifs,0⟩] sc pos
 fin:=λD env=>do let _ <-call (.builtin "list.append") [.ref D,<-Q0 elt env]
 tf:=λys σ H Q=>te σ H λy c=>Q (ys++[y]) c
 r0:=λe _=>⟨Ra _,[],_,.nil,e⟩
 rO:=λ⟨z,its,n,v,e⟩=>⟨_,e,(λ_ z=>by cases z),λe=>⟨z,its,n,v,e⟩⟩
 ht:=λ_ _ _=>rfl
 un:=λ_ _ _ _=>rfl
 hs:=codeAny_compStart_list
 ev:=λ_=>⟨_,rfl⟩
 eu:=λ_ _=>⟨_,rfl⟩
 cl:=rfl
theorem MJ{P w}(he:PE X elt te):PF X (gL P w elt te sc tg iter ifs pos):=λpins D ys s σ H Q I m hz h=>PZ (bv (he pins s σ H _ I h) λy i f=>de f λv H1 I1 r q=>by
 obtain⟨_,its,k,rv,e⟩:=m I1;refine PZ (wpAny_list_append_plain (l:=D) (items:=its.toArray) ⟨k,e⟩ (λh' ⟨j,d⟩ c=>P2 ⟨_,_,i,_,_,rfl,I1,c,⟨by rw[Ri];exact hz,its++[y],j,rv.append<|.cons r .nil,?_⟩,q⟩)<|by rw[P6,<-rv.length];exact R9 hz);rw[List.push_toArray] at d;exact d)
theorem gJ(h:X.calm=true)(S:aR X.env.scope X.N sc Nc ix)(d:PI X tg iter wi)(f:∀C s H ex pn,PG (ee X sc Nc C s H ex pn) tg g)(c:∀C s H ex pn,oq (ee X sc Nc C s H ex pn) ifs tt)(he:∀C s H ex pn,PE (ee X sc Nc C s H ex pn) elt te)
  (hs:∀x,RH iter X.env x=pure x:=by with_unfolding_all (intro _;rfl)):PE X (.ListComp elt [⟨tg,iter,ifs,0⟩] sc pos) (F6 ix wi g tt te):=Jb (G:=gL X.prog X.w elt te sc tg iter ifs pos) h S d f c (λC s H ex pn=>MJ (he C s H ex pn)) hs
theorem pQ{i:Nat}{x:Str}{pos' c:Pos}(o:X.calm=true)(p:X.N.Nodup)(h:X.N[i]?=some x)(j:X.env.scope.names.lookup x=some .local)(S:aR X.env.scope X.N sc Nc ix)(l:PI X tg iter wi)(m:∀C s H ex pn,PG (ee X sc Nc C s H ex pn) tg g)
  (f:∀C s H ex pn,oq (ee X sc Nc C s H ex pn) ifs tt) (he:∀C s H ex pn,PE (ee X sc Nc C s H ex pn) elt te)
  (d:RX (.ListComp elt [⟨tg,iter,ifs,0⟩] sc pos) (some<|.Name x pos') c.line X.env=pure true:=by nofun)
  (hs:∀x,RH iter X.env x=pure x:=by with_unfolding_all (intro _;rfl)):PS X (.Assign [.Name x pos'] (.ListComp elt [⟨tg,iter,ifs,0⟩] sc pos) c) (jj (F6 ix wi g tt te)<|fY i):=wd (G:=gL X.prog X.w elt te sc tg iter ifs pos) o p h j S l m f (λC s H ex pn=>MJ (he C s H ex pn)) d hs
end
inductive D where
 | non | bl (b:Bool) | int (i:Int) | str (x:Str) | tup (ds:List D) | lst (ds:List D)
mutual
def bU(H:Hp):D->V->Prop
 | .non,v=>v=.non
 | .bl b,v=>v=.bl b
 | .int i,v=>v=.int i
 | .str x,v=>v=.str x
 | .tup c,v=>∃a vs,v=.ref a/\H a=some (.tup vs)/\cn H c vs
 | .lst c,v=>∃a vs,v=.ref a/\H a=some (.lst vs)/\cn H c vs
def cn(H:Hp):List D->List V->Prop
 | [],vs=>vs=[]
 | d::c,vs=>∃v r,vs=v::r/\bU H d v/\cn H c r
end
mutual
theorem bU.mono{H f:Hp}(k:Km H f):∀{d:D} {v:V},bU H d v->bU f d v
 | .non,_,h=>by simpa[bU] using h
 | .bl _,_,h=>by simpa[bU] using h
 | .int _,_,h=>by simpa[bU] using h
 | .str _,_,h=>by simpa[bU] using h
 | .tup g,v,h=>by
  rw[bU] at h ⊢;obtain⟨a,vs,e,c,r⟩:=h;exact⟨a,vs,e,k _ _ c,cn.mono k r⟩
 | .lst g,v,h=>by
  rw[bU] at h ⊢;obtain⟨a,vs,e,c,r⟩:=h;exact⟨a,vs,e,k _ _ c,cn.mono k r⟩
theorem cn.mono{H f:Hp}(k:Km H f):∀{c:List D} {vs:List V},cn H c vs->cn f c vs
 | [],vs,h=>by rw[cn] at h ⊢;exact h
 | d::c,vs,h=>by
  rw[cn] at h ⊢;obtain⟨v,r,e,h1,g⟩:=h;exact⟨v,r,e,bU.mono k h1,cn.mono k g⟩
end
theorem cn.cons{H:Hp}{d:D}{c:List D}{v:V}{vs:List V}(h:bU H d v)(r:cn H c vs):cn H (d::c) (v::vs):=by
 rw[cn];exact⟨v,vs,rfl,h,r⟩
theorem cn.nil:cn H [] []:=by rw[cn]
theorem cn.uncons{d:D}{c:List D}(h:cn H (d::c) vs):∃v r,vs=v::r/\bU H d v/\cn H c r:=by
 rw[cn] at h;exact h
theorem cn.unnil(h:cn H [] vs):vs=[]:=by
 rw[cn] at h;exact h
theorem cn.length:∀{c:List D} {vs:List V},cn H c vs->vs.length=c.length
 | [],vs,h=>by rw[h.unnil];rfl
 | d::c,vs,h=>by
  obtain⟨v,r,rfl,_,f⟩:=h.uncons;simp[cn.length f]
theorem cn.get:∀{c:List D} {vs:List V} {i:Nat} {d:D},cn H c vs->c[i]?=some d->∃v,vs[i]?=some v/\bU H d v
 | [],_,_,_,_,e=>by simp at e
 | d::c,vs,0,d',h,e=>by
  obtain⟨v,r,rfl,h1,_⟩:=h.uncons;simp at e;subst e;exact⟨v,rfl,h1⟩
 | d::c,vs,i+1,d',h,e=>by
  obtain⟨v,r,rfl,_,f⟩:=h.uncons;obtain⟨w,j,g⟩:=cn.get (i:=i) f (by simpa using e);exact⟨w,by simpa using j,g⟩
mutual
theorem bU.inj{H:Hp}:∀{d e:D} {v:V},bU H d v->bU H e v->d=e
 | .non,e,v,h,h'=>by
  rw[bU] at h;subst h;cases e<;>simp[bU] at h'<;>rfl
 | .bl b,e,v,h,h'=>by
  rw[bU] at h;subst h;cases e<;>simp[bU] at h';rw[h']
 | .int b,e,v,h,h'=>by
  rw[bU] at h;subst h;cases e<;>simp[bU] at h';rw[h']
 | .str b,e,v,h,h'=>by
  rw[bU] at h;subst h;cases e<;>simp[bU] at h';rw[h']
 | .tup m,e,v,h,h'=>by
  rw[bU] at h;obtain⟨a,vs,rfl,j,r⟩:=h;cases e with
  | tup es=>
   rw[bU] at h';obtain⟨l,f,g,c,i⟩:=h';cases g;rw[j] at c;cases c;rw[cn.inj r i]
  | lst es=>
   rw[bU] at h';obtain⟨l,f,g,c,i⟩:=h';cases g;rw[j] at c;cases c
  | _=>simp[bU] at h'
 | .lst m,e,v,h,h'=>by
  rw[bU] at h;obtain⟨a,vs,rfl,j,r⟩:=h;cases e with
  | lst es=>
   rw[bU] at h';obtain⟨l,f,g,c,i⟩:=h';cases g;rw[j] at c;cases c;rw[cn.inj r i]
  | tup es=>
   rw[bU] at h';obtain⟨l,f,g,c,i⟩:=h';cases g;rw[j] at c;cases c
  | _=>simp[bU] at h'
theorem cn.inj{H:Hp}:∀{c es:List D} {vs:List V},cn H c vs->cn H es vs->c=es
 | [],[],_,_,_=>rfl
 | [],e::es,vs,h,h'=>by
  rw[h.unnil] at h';obtain⟨_,_,e,_⟩:=h'.uncons;cases e
 | d::c,[],vs,h,h'=>by
  rw[h'.unnil] at h;obtain⟨_,_,e,_⟩:=h.uncons;cases e
 | d::c,e::es,vs,h,h'=>by
  obtain⟨v,r,l,h1,i⟩:=h.uncons;obtain⟨m,o,j,g,f⟩:=h'.uncons;subst l;cases j;rw[bU.inj h1 g,cn.inj i f]
end
theorem bU.tup_of{c:List D}{v:V}(h:bU H (.tup c) v):∃a vs,v=.ref a/\H a=some (.tup vs)/\cn H c vs:=by rw[bU] at h;exact h
theorem bU.lst_of{c:List D}{v:V}(h:bU H (.lst c) v):∃a vs,v=.ref a/\H a=some (.lst vs)/\cn H c vs:=by rw[bU] at h;exact h
theorem bU.tup{H:Hp}{c:List D}{a:P3}{vs:List V}(h:H a=some (.tup vs))(r:cn H c vs):bU H (.tup c) (.ref a):=by rw[bU];exact⟨a,vs,rfl,h,r⟩
theorem bU.lst{H:Hp}{c:List D}{a:P3}{vs:List V}(h:H a=some (.lst vs))(r:cn H c vs):bU H (.lst c) (.ref a):=by rw[bU];exact⟨a,vs,rfl,h,r⟩
theorem bU.int{i:Int}:bU H (.int i) (.int i):=by rw[bU]
theorem bU.non:bU H .non .non:=by rw[bU]
theorem bU.bl{b:Bool}:bU H (.bl b) (.bl b):=by rw[bU]
theorem bU.str{x:Str}:bU H (.str x) (.str x):=by rw[bU]
theorem bU.int_of{i:Int}{v:V}(h:bU H (.int i) v):v=.int i:=by rw[bU] at h;exact h
theorem bU.non_of{v:V}(h:bU H .non v):v=.non:=by rw[bU] at h;exact h
theorem bU.bl_of{b:Bool}{v:V}(h:bU H (.bl b) v):v=.bl b:=by rw[bU] at h;exact h
theorem bU.str_of{b:Str}{v:V}(h:bU H (.str b) v):v=.str b:=by rw[bU] at h;exact h
mutual
def dD:D->D->Bool
 | .non,.non=>true
 | .bl a,.bl b=>a==b
 | .bl a,.int b=>(if a then 1 else 0)==b
 | .int a,.bl b=>a==(if b then 1 else 0)
 | .int a,.int b=>a==b
 | .str a,.str b=>a==b
 | .tup xs,.tup ys=>jr xs ys
 | .lst xs,.lst ys=>jr xs ys
 | _,_=>false
def jr:List D->List D->Bool
 | [],[]=>true
 | x::xs,y::ys=>dD x y&&jr xs ys
 | _,_=>false
end
mutual
theorem we:∀d:D,dD d d=true
 | .non=>by simp[dD]
 | .bl _=>by simp[dD]
 | .int _=>by simp[dD]
 | .str _=>by simp[dD]
 | .tup xs=>by rw[dD];exact mH xs
 | .lst xs=>by rw[dD];exact mH xs
theorem mH:∀xs:List D,jr xs xs=true
 | []=>by simp[jr]
 | x::xs=>by rw[jr,we x,mH xs];rfl
end
mutual
def vS:D->Nat
 | .tup xs=>ou xs+1
 | .lst xs=>ou xs+1
 | _=>0
def ou:List D->Nat
 | []=>0
 | x::xs=>max (vS x) (ou xs)
end
theorem wf:∀{xs:List D} {i:Nat} {d:D},xs[i]?=some d->vS d≤ou xs
 | [],_,_,e=>by simp at e
 | x::xs,0,d,e=>by simp at e;subst e;rw[ou];exact Nat.le_max_left _ _
 | x::xs,i+1,d,e=>by
  have:=wf (i:=i) (xs:=xs) (d:=d) (by simpa using e);rw[ou];exact Rg this (Nat.le_max_right _ _)
theorem pR:∀{xs ys:List D},xs.length≠ys.length->jr xs ys=false
 | [],[],h=>absurd rfl h
 | [],y::ys,_=>by simp[jr]
 | x::xs,[],_=>by simp[jr]
 | x::xs,y::ys,h=>by
  rw[jr,pR (xs:=xs) (ys:=ys) (λe=>h (by simp[e]))];simp
theorem pS:∀{xs ys:List D},xs.length=ys.length->jr xs ys=(Ui xs.length).all λi=>dD (xs.getD i .non) (ys.getD i .non)
 | [],[],_=>by simp[jr]
 | [],y::ys,h=>by simp at h
 | x::xs,[],h=>by simp at h
 | x::xs,y::ys,h=>by
  rw[jr,pS (xs:=xs) (ys:=ys) (by simpa using h),Rm,List.range_succ_eq_map,So,Wz];rfl

section
theorem Bq{d e:D}{x y:V}{u v:P0}(hd:bU H d x)(he:bU H e y)(h:aN x u)(g:aN y v)(f:eR x=true)(c:eR y=true):UT A s u v (dD d e):=by
 have q:=DA (A:=A) (s:=s) h g f c;have e1:xM x y=dD d e:=by
  cases d<;>simp only[bU] at hd
  all_goals first | (subst hd) | (obtain⟨_,_,hd,_⟩:=hd;rw[hd] at f;cases f)
  all_goals (cases e<;>simp only[bU] at he)
  all_goals first | (subst he;simp[xM,dD]) | (obtain⟨_,_,he,_⟩:=he;rw[he] at c;cases c)
 rw[<-e1];exact q

def dS:D->Bool
 | .tup _=>true
 | .lst _=>true
 | _=>false
theorem DN{xs ys:List D}{n m:Nat}(l1:n=xs.length)(d:m=ys.length) :
  (((Ui<|min n m).all λi=>dD (xs.getD i .non) (ys.getD i .non))&&(n==m))=jr xs ys:=by
 subst l1 d;by_cases c:xs.length=ys.length
 ·rw[pS c,c];simp
 ·rw[pR c];simp[c]
theorem OL(I:ay X pins σ H s){n:Nat}(ih:∀{d e:D} {x y:V} {u v:P0},vS d≤n->bU H d x->bU H e y->aN x u->aN y v->UT A.in1 s u v (dD d e))(hA:A.units+2<R0){d e:D}{x y:V}{u v:P0}(fd:dS d=true)(fe:dS e=true)(o:vS d≤n+1)(hd:bU H d x)(he:bU H e y)(C:aN x u)(q:aN y v) :
  SeqAt.RcAt A s u v (dD d e)/\SeqAt.RcNeAt A s u v (!dD d e):=by
 have it:∀{xs ys:List D} {vs g:List V} {its its':List P0},ou xs≤n->cn H xs vs->cn H ys g->aJ vs its->aJ g its'->its.toArray.size=xs.length->its'.toArray.size=ys.length->∀j (h1:j<its.toArray.size) (O:j<its'.toArray.size),UT A.in1 s its.toArray[j] its'.toArray[j] (dD (xs.getD j .non)<|ys.getD j .non):=by
  intro xs ys vs g its its' hx l c rl rl' l1 l2 j h1 O;have j1:j<xs.length:=by rw[<-l1];exact h1
  have Z:j<ys.length:=by rw[<-l2];exact O
  have Q:xs[j]?=some (xs.getD j .non):=by simp[UW,j1]
  have g2:ys[j]?=some (ys.getD j .non):=by simp[UW,Z]
  obtain⟨w1,a1,b1⟩:=l.get Q;obtain⟨w2,a2,b2⟩:=c.get g2;obtain⟨Y,c1,d1⟩:=rl.get a1;obtain⟨U,c2,d2⟩:=rl'.get a2;have k1:its.toArray[j]=Y:=by simpa using (P9.mp c1).2
  have k2:its'.toArray[j]=U:=by simpa using (P9.mp c2).2
  rw[k1,k2];exact ih (by have:=wf Q;omega) b1 b2 d1 d2
 cases d with
 | tup xs=>
  obtain⟨a,vs,rfl,r,l⟩:=hd.tup_of;cases C;obtain⟨its,rl,p,hz⟩:=I.tuple (ic.of r);have l1:its.toArray.size=xs.length:=by rw[P6,<-rl.length,l.length]
  cases e with
  | tup ys=>
   obtain⟨b,g,rfl,hb,c⟩:=he.tup_of;cases q;obtain⟨its',rl',f,h⟩:=I.tuple (ic.of hb);have l2:its'.toArray.size=ys.length:=by rw[P6,<-rl'.length,c.length]
   have z:=it (by simp[vS] at o;omega) l c rl rl' l1 l2;rw[dD,<-DN l1 l2];exact⟨SeqAt.RcAt.tuples p f (by omega) z,ae6 p f (by omega) z⟩
  | lst ys=>
   obtain⟨b,g,rfl,hb,c⟩:=he.lst_of;cases q;obtain⟨its',rl',f,h⟩:=I.list (ie.of hb);simp only[dD];exact⟨SeqAt.RcAt.tuple_list p f.isList<|by omega,ac5 p f.isList<|by omega⟩
  | _=>cases fe
 | lst xs=>
  obtain⟨a,vs,rfl,r,l⟩:=hd.lst_of;cases C;obtain⟨its,rl,p,hz⟩:=I.list (ie.of r);have l1:its.toArray.size=xs.length:=by rw[P6,<-rl.length,l.length]
  cases e with
  | lst ys=>
   obtain⟨b,g,rfl,hb,c⟩:=he.lst_of;cases q;obtain⟨its',rl',f,h⟩:=I.list (ie.of hb);have l2:its'.toArray.size=ys.length:=by rw[P6,<-rl'.length,c.length]
   by_cases m:xs.length=ys.length
   ·have z:=it (by simp[vS] at o;omega) l c rl rl' l1 l2;have e1:((Ui its.toArray.size).all λi=>dD (xs.getD i .non) (ys.getD i .non))=dD (.lst xs) (.lst ys):=by rw[l1,dD,pS m]
    rw[<-e1];exact⟨SeqAt.RcAt.lists p.isList f.isList (by rw[l1,l2,m]) (by omega) z,af2 p.isList f.isList (by rw[l1,l2,m]) (by omega) z⟩
   ·have L:its.toArray.size≠its'.toArray.size:=by rw[l1,l2];exact m
    rw[dD,pR m];exact⟨SeqAt.RcAt.lists_lengths p.isList f.isList (by simpa using L)<|by omega,ZK p.isList f.isList (by simpa using L)<|by omega⟩
  | tup ys=>
   obtain⟨b,g,rfl,hb,c⟩:=he.tup_of;cases q;obtain⟨its',rl',f,h⟩:=I.tuple (ic.of hb);simp only[dD];exact⟨SeqAt.RcAt.list_tuple p.isList f<|by omega,ac6 p.isList f<|by omega⟩
  | _=>cases fe
 | _=>cases fd

theorem zQ:∀{d:D} {x:V},bU H d x->dS d=false->eR x=true
 | .non,_,h,_=>by rw[h.non_of];rfl
 | .bl _,_,h,_=>by rw[h.bl_of];rfl
 | .int _,_,h,_=>by rw[h.int_of];rfl
 | .str _,_,h,_=>by rw[h.str_of];rfl
theorem DO:∀{d:D} {x:V},bU H d x->dS d=true->∃a,x=.ref a
 | .tup _,_,h,_=>by obtain⟨a,_,e,_⟩:=h.tup_of;exact⟨a,e⟩
 | .lst _,_,h,_=>by obtain⟨a,_,e,_⟩:=h.lst_of;exact⟨a,e⟩
theorem wg(I:ay X pins σ H s){d e:D}{x y:V}{u v:P0}(i:A.units<R0)(hd:bU H d x)(he:bU H e y)(f:aN x u)(c:aN y v)(h:(dS d&&dS e)=false):UT A s u v (dD d e):=by
 cases fd:dS d with
 | false=>
  cases fe:dS e with
  | false=>exact Bq hd he f c (zQ hd fd) (zQ he fe)
  | true=>
   cases e with
   | tup ys=>
    obtain⟨b,g,rfl,hb,_⟩:=he.tup_of;cases c;obtain⟨_,_,p,_⟩:=I.tuple (ic.of hb);cases d with
    | non=>rw[hd.non_of] at f;cases f;simp only[dD];exact SeqAt.EqAt.none_tuple p (by omega)
    | bl a=>rw[hd.bl_of] at f;cases f;simp only[dD];exact SeqAt.EqAt.bool_tuple a p (by omega)
    | int a=>rw[hd.int_of] at f;obtain⟨t,rfl⟩:=f;simp only[dD];exact SeqAt.EqAt.int_tuple a t p (by omega)
    | str a=>rw[hd.str_of] at f;obtain⟨t,rfl⟩:=f;simp only[dD];exact SeqAt.EqAt.str_tuple a t p (by omega)
    | _=>cases fd
   | lst ys=>
    obtain⟨b,g,rfl,hb,_⟩:=he.lst_of;cases c;obtain⟨_,_,p,_⟩:=I.list (ie.of hb);cases d with
    | non=>rw[hd.non_of] at f;cases f;simp only[dD];exact SeqAt.EqAt.none_list p.isList (by omega)
    | bl a=>rw[hd.bl_of] at f;cases f;simp only[dD];exact SeqAt.EqAt.bool_list a p.isList (by omega)
    | int a=>rw[hd.int_of] at f;obtain⟨t,rfl⟩:=f;simp only[dD];exact SeqAt.EqAt.int_list a t p.isList (by omega)
    | str a=>rw[hd.str_of] at f;obtain⟨t,rfl⟩:=f;simp only[dD];exact SeqAt.EqAt.str_list a t p.isList (by omega)
    | _=>cases fd
   | _=>cases fe
 | true=>
  have fe:dS e=false:=by rw[fd] at h;exact h
  cases d with
  | tup ys=>
   obtain⟨b,g,rfl,hb,_⟩:=hd.tup_of;cases f;obtain⟨_,_,p,_⟩:=I.tuple (ic.of hb);cases e with
   | non=>rw[he.non_of] at c;cases c;simp only[dD];exact SeqAt.EqAt.tuple_none p (by omega)
   | bl b=>rw[he.bl_of] at c;cases c;simp only[dD];exact SeqAt.EqAt.tuple_bool b p (by omega)
   | int b=>rw[he.int_of] at c;obtain⟨t,rfl⟩:=c;simp only[dD];exact SeqAt.EqAt.tuple_int b t p (by omega)
   | str b=>rw[he.str_of] at c;obtain⟨t,rfl⟩:=c;simp only[dD];exact SeqAt.EqAt.tuple_str b t p (by omega)
   | _=>cases fe
  | lst ys=>
   obtain⟨b,g,rfl,hb,_⟩:=hd.lst_of;cases f;obtain⟨_,_,p,_⟩:=I.list (ie.of hb);cases e with
   | non=>rw[he.non_of] at c;cases c;simp only[dD];exact SeqAt.EqAt.list_none p.isList (by omega)
   | bl b=>rw[he.bl_of] at c;cases c;simp only[dD];exact SeqAt.EqAt.list_bool b p.isList (by omega)
   | int b=>rw[he.int_of] at c;obtain⟨t,rfl⟩:=c;simp only[dD];exact SeqAt.EqAt.list_int b t p.isList (by omega)
   | str b=>rw[he.str_of] at c;obtain⟨t,rfl⟩:=c;simp only[dD];exact SeqAt.EqAt.list_str b t p.isList (by omega)
   | _=>cases fe
  | _=>cases fd
theorem DP(I:ay X pins σ H s):∀(n:Nat) {A:RN} {d e:D} {x y:V} {u v:P0},vS d≤n->A.units+n+1<R0->bU H d x->bU H e y->aN x u->aN y v->UT A s u v (dD d e):=by
 intro n
 induction n with
 | zero=>
  intro A d e x y u v f l hd he h g;refine wg I (by omega) hd he h g ?_;cases d<;>first | rfl | (simp[vS] at f)
 | succ n j=>
  intro A d e x y u v f l hd he h g;cases c:dS d&&dS e with
  | false=>exact wg I (by omega) hd he h g c
  | true=>
   have c:=Vb.mp c;obtain⟨a,rfl⟩:=DO hd c.1;obtain⟨b,rfl⟩:=DO he c.2;have R:=(OL I (λh1 q p o m=>j h1 (by show A.units+1+n+1<R0;omega) q p o m) (by omega) c.1 c.2 f hd he h g).1;cases h;cases g;by_cases i:a=b
   ·subst i;rw[bU.inj hd he,we];exact Zi _
   ·exact SeqAt.EqAt.of_refs i R
end
def Kq(neg:Bool):R2:=λx y H Q=>∃d e,bU H d x/\bU H e y/\dS d=true/\dS e=true/\vS d≤50/\Q (.bl<|if neg then !dD d e else dD d e) H
section
theorem yh(m:X.A.units+52<R0):kN X (RW .Eq) (Kq false):=by
 rintro pins s σ H x y v u Q I f c ⟨d,e,hd,he,fd,fe,g,q⟩;exact(OL I (n:=50) (λh1 l j i h=>DP I 50 h1 (by show X.A.units+1+50+1<R0;omega) l j i h) (by omega) fd fe (by omega) hd he f c).1 _ _ _ _ ⟨.bl _,H,I,rfl,q⟩
theorem kR(m:X.A.units+52<R0):kN X (RW .NotEq) (Kq true):=by
 rintro pins s σ H x y v u Q I f c ⟨d,e,hd,he,fd,fe,g,q⟩;exact(OL I (n:=50) (λh1 l j i h=>DP I 50 h1 (by show X.A.units+1+50+1<R0;omega) l j i h) (by omega) fd fe (by omega) hd he f c).2 _ _ _ _ ⟨.bl _,H,I,rfl,q⟩

def Gv(H:Hp):V->Option String
 | .non=>some "NoneType"
 | .bl _=>some "bool"
 | .int _=>some "int"
 | .str _=>some "str"
 | .ref a=>match H a with
  | some (.lst _)=>some "list"
  | some (.tup _)=>some "tuple"
  | some (.dK _)=>some "dict"
  | some (.dT _)=>some "dict"
  | _=>none
 | _=>none
theorem Kr{x:V}{n:String}(h:Gv H x=some n):mE K H x (.type n):=by
 cases x with
 | non=>cases h;exact .non
 | bl b=>cases h;exact .bl b
 | int i=>cases h;exact .int i
 | str z=>cases h;exact .str z
 | ref a=>
  unfold Gv at h;cases e:H a with
  | none=>simp[e] at h
  | some o=>
   cases o<;>simp[e] at h
   ·subst h;exact .lst e
   ·subst h;exact .tup e
   ·subst h;exact .dK e
   ·subst h;exact .dT e
 | _=>cases h
def DQ:String->String->Option Bool
 | "int","bool"=>some false | "int","int"=>some true | "int","tuple"=>some false | "int","str"=>some false
 | "bool","bool"=>some true | "bool","int"=>some true | "bool","tuple"=>some false | "bool","str"=>some false
 | "str","bool"=>some false | "str","int"=>some false | "str","tuple"=>some false | "str","str"=>some true
 | "tuple","bool"=>some false | "tuple","int"=>some false | "tuple","tuple"=>some true | "tuple","str"=>some false
 | "list","bool"=>some false | "list","int"=>some false | "list","tuple"=>some false | "list","str"=>some false
 | "NoneType","bool"=>some false | "NoneType","int"=>some false | "NoneType","tuple"=>some false | "NoneType","str"=>some false
 | _,_=>none
theorem DR{n c:String}{b:Bool}(h:DQ n c=some b):ZD K (.type n) (.type c)=some b:=by
 unfold DQ at h;split at h<;>first | (cases h;rfl) | cases h
def DS:List V->Hp->VK->Prop:=λxs H Q=>match xs with
 | [x,.ty c]=>(match Gv H x with
  | some n=>(match DQ n c with
   | some b=>Q (.bl b) H
   | none=>False)
  | none=>False)
 | _=>False
theorem Gw{Q:VK}(h:DS xs H Q):∃x n c b,xs=[x,.ty c]/\Gv H x=some n/\DQ n c=some b/\Q (.bl b) H:=by
 unfold DS at h;split at h
 ·split at h
  ·split at h
   ·exact⟨_,_,_,_,rfl,‹_›,‹_›,h⟩
   ·exact h.elim
  ·exact h.elim
 ·exact h.elim
theorem DT:cZ X (.builtin "isinstance") DS:=by
 intro pins s σ H xs us Q I r h;obtain⟨x,n,c,b,rfl,ht,g,q⟩:=Gw h;obtain⟨u,i,rfl,f,d⟩:=v4 r;cases d;exact Bj I f (Kr ht) (DR g) λtk=>⟨.bl b,H,I.tok tk,rfl,q⟩

def MK(K:P7):V->Option Int->Option Int->Hp->VK->Prop:=λx lo c H Q=>∃a xs,x=.ref a/\ic K H a xs/\HT.sIx xs.length 0 lo=0/\HT.sIx xs.length xs.length c=xs.length/\Q (.ref a) H
theorem jX{t sl:P3}{items:Array P0}{i g:P0}{lo j:Option Int}{Q:P0->P5->Prop}(ht:WF s.heap t items)(hs:s.heap.IsSliceOf sl i g .none)(pl:Wv i lo)(l:Wv g j)
  (h1:HT.sIx items.size 0 lo=0) (o:HT.sIx items.size items.size j=items.size) (h:Q (.ref t) s):Qa (Qd prog w) A (Vt (.ref t)<|.ref sl) Q E s:=by
 obtain⟨os,c,d,m⟩:=id hs;have f:s.TypeIs (.ref sl) "slice":=⟨os,c,d⟩
 unfold Vt;refine QG (PZ<|Yx ht.typeIs (by decide) ?_);refine PZ (RY (name:=P4 "__getitem__") ht.typeIs Q7<|Ro Q7 ht.typeIs Xu ?_<|X6 _ _);show Qa _ _ (VJ (.ref t) >>= _) _ _ s;refine PZ (tupleItemsOf_ ht<|PZ<|Ww f ?_);rw[if_pos (by decide)];refine PZ (HT.sliceApplied_gen hs pl l ?_);rw[h1,o];show Qa _ _ (if ((((0:Nat):Int)==0&&(1:Int)==1&&(items.size - 0)==items.size)=true) then _ else _) _ _ s;rw[if_pos (by simp)];refine PZ (PZ<|Ww ht.typeIs<|P2 ?_);rw[if_pos (by decide)];exact PZ (Uj<|P2 ⟨_,rfl,P2 h⟩)
theorem Gz:Mz X (MK X.K):=by
 intro pins s σ H x v l j lo m sl Q I d hs pl f h;obtain⟨a,xs,rfl,g,h1,i,q⟩:=h;cases d;obtain⟨its,r,ht,hz⟩:=I.tuple g;have c:its.toArray.size=xs.length:=by rw[P6];exact r.length.symm
 exact⟨"tuple",_,Q7.lookup,ht.typeIs,jX ht hs pl f (by rw[c];exact h1) (by rw[c];exact i) ⟨.ref a,H,I,rfl,q⟩⟩
def OM:V->Option Int->Option Int->Hp->VK->Prop:=λx lo c H Q=>∃a xs,x=.ref a/\H a=some (.tup xs)/\(∀p,H p=none->Q (.ref p) (upd H p<|.tup<|mG xs lo c))/\(mG xs lo c=xs->Q (.ref a) H)
theorem GA:Mz X OM:=by
 intro pins s σ H x v g f lo d sl Q I i hs pl j h;obtain⟨a,xs,rfl,l,q1,q2⟩:=h;by_cases c:HT.sIx xs.length 0 lo=0/\HT.sIx xs.length xs.length d=xs.length
 ·refine Gz pins s σ H _ v g f lo d sl Q I i hs pl j ⟨a,xs,rfl,ic.of l,c.1,c.2,q2 ?_⟩;unfold mG;rw[c.1,c.2];simp
 ·exact Kb pins s σ H _ v g f lo d sl Q I i hs pl j ⟨a,xs,rfl,ic.of l,c,q1⟩

def ML:R2:=λx y H Q=>∃a b xs ys,x=.ref a/\y=.ref b/\H a=some (.tup xs)/\H b=some (.tup ys)/\xs.length+ys.length≤Qf/\(xs=[]->Q (.ref b) H)/\(ys=[]->Q (.ref a) H)/\(∀p,H p=none->Q (.ref p) (upd H p<|.tup<|xs++ys))
theorem GB:kN X (Td .Add) ML:=by
 intro pins s σ H x y v u Q I m l h;obtain⟨a,b,xs,ys,rfl,rfl,p,hb,hz,q0,q1,q2⟩:=h;by_cases g:xs=[]
 ·cases m;cases l;obtain⟨its,r,ht,_⟩:=I.tuple (ic.of p);obtain⟨its',L,i,_⟩:=I.tuple (ic.of hb);obtain⟨⟨cls,dd,data,sl⟩,ho,o,n,hd⟩:=id ht;obtain⟨⟨q,j,data2,f⟩,c,d,z,hd2⟩:=id i;simp only at o hd d hd2;subst o hd d hd2;have C:its=[]:=r.nil_iff.mpr g;exact Yw ⟨_,ho,rfl⟩ ⟨_,c,rfl⟩ V9 XN UB Uq (T8 _ _)
   (tuple_addW0 a b its.toArray its'.toArray n z dd j sl f<|by rw[C];rfl) ⟨ho,c,⟨.ref b,H,I,rfl,q0 g⟩⟩
 ·exact Gm pins s σ H _ _ v u Q I m l ⟨a,b,xs,ys,rfl,rfl,ic.of p,ic.of hb,g,hz,q1,λ_=>q2⟩
end
namespace Zp
section
end
end Zp
end L2
namespace L2
open PySem PySem.Spec PyProof.Rows
section
end
theorem bE:Q9 "tuple" = some (.type "tuple"):=by decide +kernel
theorem pU:Q9 "list" = some (.type "list"):=by decide +kernel
theorem Br:Q9 "int" = some (.type "int"):=by decide +kernel
theorem pV:Q9 "bool" = some (.type "bool"):=by decide +kernel
theorem eU:Q9 "isinstance" = some (.builtin "isinstance"):=by decide +kernel
theorem sU:Q9 "min" = some (.builtin "min"):=by decide +kernel
theorem mI:Q9 "max" = some (.builtin "max"):=by decide +kernel
theorem cy:Q9 "sorted" = some (.builtin "sorted"):=by decide +kernel
theorem Bs:Q9 "set" = some (.type "set"):=by decide +kernel
structure Mods(mg:Str->Option P0):Prop where
 len:mg "len" = none
 isinstance:mg "isinstance" = none
 int:mg "int" = none
 bool:mg "bool" = none
 tuple:mg "tuple" = none
 list:mg "list" = none
 range:mg "range" = none
 zip:mg "zip" = none
 min:mg "min" = none
 max:mg "max" = none
 sorted:mg "sorted" = none
 set:mg "set" = none
def cO(K:P7)(mg:Str->Option P0)(x:Str)(st:SK):Prop:=∃f fd,Fun K x x st f fd/\mg x=some (.ref f)
def Jc(P:QK)(w:Q4)(K:P7)(mg:Str->Option P0)(base:QO)(x:Str)(k:Nat)(ps:List Str)(sp:Sp):Prop :=
 ∃f fd,bS P w K mg base eT k f fd ps sp/\mg x=some (.ref f)/\QX K (.ref f)=true/\cC K fd ps []
section
variable{x:Str}{k:Nat}{ps:List Str}{sp:Sp}{p pos:Pos}{e:Qv}{t:TA}
theorem DU(c:Jc X.prog X.w X.K X.mg X.base x k ps sp)(h:a9 k X.A)(m:PA X (e::es) t)(l:Gl X x:=by nofun)(g:(x==("__debug__":Str))=false:=by decide)
  (he:hE9 X e es:=by nofun) (d:hP9 X pos es:=by nofun):PE X (.Call (.Name x p) (e::es) [] pos) (kh sp [] E0 t):=by
 obtain⟨f,fd,F,i,j,hb⟩:=c;exact uA F h l i j hb .nil Ja m g he d
theorem GC(c:Jc X.prog X.w X.K X.mg X.base x k ps sp)(g:a9 k X.A)(j:Gl X x:=by nofun)(d:(x==("__debug__":Str))=false:=by decide):PE X (.Call (.Name x p) [] [] pos) (kh sp [] E0 mF):=by
 obtain⟨f,fd,F,h,i,hb⟩:=c;exact Dt F g j h i hb .nil Ja d
end
section
theorem cO.ok{x:Str}{N ps:List Str}{k:Nat}{sp:Sp}(d:cO K mg x st)(S:aj N ps (ae st))(len:∀vs H Q E,sp vs H Q E->vs.length=ps.length)
  (hb:∀(kV doc g:P0) (i:Option P3) (c ct:P0) (us:List P0),us.length=ps.length->Tu (Q1 x x (bL st) (aW st) (ae st) .none kV doc g i c ct) ⟨us,[]⟩=pure (ps.zip us))
  (hbody:∀(f:P3) (c:P0) (A:RN) (outer:List Env) (s:P5) (H:Hp) (vs:List V) (Q:VK) (E:XK),a9 k (A.deeper<|Su x (ae st) s.heap.objs.size f c)->sp vs H Q E ->
   ∃t,gC (bT eT P w K mg base N x (ae st) f c A outer s H E).nox (aW st) t/\t {nx:=λ_ j=>Q .non j,rt:=Q} (fw N vs) H):Jc P w K mg base x (k+1) ps sp:=by
 obtain⟨f,fd,F,h⟩:=d;exact⟨f,fd,F.ok S len<|hbody f,h,F.kp,F.binds hb⟩
end
theorem rH{k:Nat}(c:a9 k A):A.units+52<R0:=VM (Xw (by decide:52≤64) _) c.units
def gK(H:Hp):V->Option (List V)
 | .ref a=>match H a with
  | some (.lst xs)=>some xs
  | some (.tup xs)=>some xs
  | some (.frz _ (.lst xs))=>some xs
  | _=>none
 | _=>none
def ik(H:Hp):V->Option (List V)
 | .ref a=>match H a with
  | some (.tup xs)=>some xs
  | _=>none
 | _=>none
def on{c:Type}(o:Option c)(P:c->Prop):Prop:=match o with
 | some x=>P x
 | none=>False
theorem dE{c:Type}{o:Option c}{P:c->Prop}(h:on o P):∃x,o=some x/\P x:=by
 cases o with
 | none=>exact h.elim
 | some x=>exact⟨x,rfl,h⟩
theorem bP{c:Type}{x:c}{P:c->Prop}:on (some x) P=P x:=rfl
theorem jt{v:V}(h:ik H v=some xs):∃a,v=.ref a/\H a=some (.tup xs)/\ic K H a xs:=by
 cases v with
 | ref a=>
  simp only[ik] at h;split at h
  ·cases h;exact⟨a,rfl,‹_›,ic.of ‹_›⟩
  ·cases h
 | _=>cases h
theorem lJ{v:V}(h:gK H v=some xs):∃a,v=.ref a/\(ie K H a xs∨ic K H a xs):=by
 cases v with
 | ref a=>
  simp only[gK] at h;split at h
  ·cases h;exact⟨a,rfl,.inl<|.inl<|.inl ‹_›⟩
  ·cases h;exact⟨a,rfl,.inr<|ic.of ‹_›⟩
  ·cases h;exact⟨a,rfl,.inl<|.inl<|.inr ⟨_,‹_›⟩⟩
  ·cases h
 | _=>cases h
theorem Bt{a:P3}(h:H a=some (.lst xs)):gK H (.ref a)=some xs:=by simp[gK,h]
theorem Bu{a:P3}(h:H a=some (.tup xs)):gK H (.ref a)=some xs:=by simp[gK,h]
theorem il{a:P3}(h:H a=some (.tup xs)):ik H (.ref a)=some xs:=by simp[ik,h]
section
def zR:List V->Hp->VK->Prop:=λxs H Q=>match xs with
 | [x]=>on (gK H x) λys=>Q (.int ys.length) H
 | _=>False
theorem dh:cZ X (.builtin "len") zR:=by
 intro pins s σ H xs us Q I r h;unfold zR at h;split at h
 ·obtain⟨ys,e,q⟩:=dE h;obtain⟨a,rfl,hs⟩:=lJ (K:=X.K) e;exact lG pins s σ H _ us Q I r ⟨a,ys,rfl,hs,q⟩
 ·exact h.elim
def Ks:R2:=λx y H Q=>match y with
 | .int i=>on (gK H x) λxs=>on (F4 xs i) λv=>Q v H
 | _=>False
theorem ON:N9 X Ks:=by
 intro f g pins s σ H x y v u Q I j i h c;unfold Ks at h;split at h
 ·obtain⟨xs,e,h⟩:=dE h;obtain⟨d,l,q⟩:=dE h;obtain⟨a,rfl,hs⟩:=lJ (K:=X.K) e;rcases hs with hs | hs
  ·exact zK f g pins s σ H _ _ v u Q I j i ⟨a,xs,_,d,rfl,rfl,hs,l,q⟩ c
  ·exact Kc f g pins s σ H _ _ v u Q I j i ⟨a,xs,_,d,rfl,rfl,hs,l,q⟩ c
 ·exact h.elim
def Jd(t:CY)(n:Nat):TG:=λv σ H Q=>on (ik H v) λxs=>xs.length=n/\t xs σ H Q
theorem GD{k:Nat}{t:CY}{n:Nat}(g:X.calm=true)(h:xL X es t)
  (hn:(RT es X.env).length=n:=by nofun) (c:(RT es X.env).findIdx? (·.1)=none:=by nofun):PG X (.Tuple es k pos) (Jd t n):=by
 intro pins s σ H v u Q I r d;obtain⟨xs,e,f,q⟩:=dE d;obtain⟨a,rfl,_,hs⟩:=jt (K:=X.K) e;exact Dg g h hn c pins s σ H _ u Q I r ⟨a,xs,rfl,hs,f,q⟩
def GE(neg:Bool):R2:=λx y H Q=>on (gK H y) λxs=>eR x=true/\xs.all eR=true/\Q (.bl<|if neg then !F5 x xs else F5 x xs) H
theorem yi:kN X (RW .In) (GE false):=by
 intro pins s σ H x y v u Q I d c h;obtain⟨xs,e,h1,f,q⟩:=dE h;obtain⟨a,rfl,hs⟩:=lJ (K:=X.K) e;exact Bk pins s σ H _ _ v u Q I d c ⟨a,xs,rfl,hs,h1,f,q⟩
theorem sV:kN X (RW .NotIn) (GE true):=by
 intro pins s σ H x y v u Q I d c h;obtain⟨xs,e,h1,f,q⟩:=dE h;obtain⟨a,rfl,hs⟩:=lJ (K:=X.K) e;exact lF pins s σ H _ _ v u Q I d c ⟨a,xs,rfl,hs,h1,f,q⟩
def oQ:List V->Hp->VK->Prop:=λxs H Q=>match xs with
 | [x]=>on (gK H x) λys=>(∀l,H l=none->Q (.ref l) (upd H l<|.tup ys))/\(ik H x=some ys->Q x H)
 | _=>False
theorem bK:cZ X (.type "tuple") oQ:=by
 intro pins s σ H xs us Q I r h;unfold oQ at h;split at h
 ·rename_i x;obtain⟨ys,e,h1,c⟩:=dE h;cases x with
  | ref a=>
   simp only[gK] at e;split at e
   ·cases e;exact hJ pins s σ H _ us Q I r ⟨a,_,rfl,.inl ⟨.inl<|.inl ‹_›,h1⟩⟩
   ·cases e;exact hJ pins s σ H _ us Q I r ⟨a,_,rfl,.inr ⟨ic.of ‹_›,c<|il ‹_›⟩⟩
   ·cases e;exact hJ pins s σ H _ us Q I r ⟨a,_,rfl,.inl ⟨.inl<|.inr ⟨_,‹_›⟩,h1⟩⟩
   ·cases e
  | _=>cases e
 ·exact h.elim
def Je:V->Option Int->Option Int->Hp->VK->Prop:=λx lo c H Q=>on (ik H x) λxs=>(∀p,H p=none->Q (.ref p) (upd H p<|.tup<|mG xs lo c))/\(mG xs lo c=xs->Q x H)
theorem zS:Mz X Je:=by
 intro pins s σ H x v d c lo i sl Q I f hs pl g h;obtain⟨xs,e,q1,q2⟩:=dE h;obtain⟨a,rfl,j,_⟩:=jt (K:=X.K) e;exact GA pins s σ H _ v d c lo i sl Q I f hs pl g ⟨a,xs,rfl,j,q1,q2⟩
def pW:V->List V->Hp->VK->Prop:=λx vs H Q=>match x,vs with
 | .ref l,[y]=>(match H l with
  | some (.lst xs)=>xs.length<Qf/\Q .non (upd H l<|.lst<|xs++[y])
  | _=>False)
 | _,_=>False
theorem c8:Ob X "list.append" pW:=by
 intro pins s σ H x vs v us Q I c d h;unfold pW at h;split at h
 ·split at h
  ·exact Bl pins s σ H _ _ v us Q I c d ⟨_,_,_,rfl,rfl,‹_›,h.1,h.2⟩
  ·exact h.elim
 ·exact h.elim
def DV:R2:=λx y H Q=>match x,y with
 | .ref l,.ref b=>(match H l,H b with
  | some (.lst xs),some (.lst zs)=>xs.length+zs.length≤Qf/\∀p,H p=none->Q (.ref p) (upd H p<|.lst<|xs++zs)
  | _,_=>False)
 | _,_=>False
theorem GF:kN X (Td .Add) DV:=by
 intro pins s σ H x y v u Q I d c h;unfold DV at h;split at h
 ·split at h
  ·exact Kg pins s σ H _ _ v u Q I d c ⟨_,_,_,_,rfl,rfl,‹_›,‹_›,h.1,h.2⟩
  ·exact h.elim
 ·exact h.elim
def yj:R2:=λx y H Q=>on (ik H x) λxs=>on (ik H y) λys=>xs.length+ys.length≤Qf/\(xs=[]->Q y H)/\(ys=[]->Q x H)/\∀p,H p=none->Q (.ref p) (upd H p<|.tup<|xs++ys)
theorem ef:kN X (Td .Add) yj:=by
 intro pins s σ H x y v u Q I d c h;obtain⟨xs,e,h⟩:=dE h;obtain⟨ys,l,h1,j,i,g⟩:=dE h;obtain⟨a,rfl,f,_⟩:=jt (K:=X.K) e;obtain⟨b,rfl,hb,_⟩:=jt (K:=X.K) l;exact GB pins s σ H _ _ v u Q I d c ⟨a,b,xs,ys,rfl,rfl,f,hb,h1,j,i,g⟩
def rJ:V->Option bj
 | .int i=>some (.inl i)
 | .str x=>some (.inr x)
 | _=>none
theorem uG{y:V}{k:bj}(h:rJ y=some k):y=kV k:=by
 cases y<;>cases h<;>rfl
def im(H:Hp):V->Option (List<|bj×V)
 | .ref a=>match H a with
  | some (.dK kvs)=>some kvs
  | _=>none
 | _=>none
theorem lK{v:V}{kvs:List (bj×V)}(h:im H v=some kvs):∃a,v=.ref a/\H a=some (.dK kvs):=by
 cases v with
 | ref a=>
  simp only[im] at h;split at h
  ·cases h;exact⟨a,rfl,‹_›⟩
  ·cases h
 | _=>cases h
theorem cJ{a:P3}{kvs:List (bj×V)}(h:H a=some (.dK kvs)):im H (.ref a)=some kvs:=by simp[im,h]
def DW(d ty:TE):TE:=λσ H Q=>d σ H λx H1=>ty σ H1 λy c=>on (im c x) λkvs=>on (rJ y) λk=>on (c7 kvs k) λv=>Q v c
theorem ju{o i:Qv}{f ty:TE}(L:X.A.units+1<R0)(ho:PE X o f)(O:PE X i ty)(hs:DE i):PE X (.Subscript o i pos) (DW f ty):=by
 intro pins s σ H Q I h;refine uC T7.lookup hs (bv (ho pins s σ H _ I h) λu m c=>de c λx H1 I1 q q1=>bv (O pins m σ H1 _ I1 q1) λiv s2 c=>de c λy l j p q2=>?_);obtain⟨kvs,e,C⟩:=dE q2;obtain⟨k,Z,z⟩:=dE C;obtain⟨v,ev,r⟩:=dE z;obtain⟨a,rfl,U⟩:=lK e;have Y:=uG Z;subst Y;obtain rfl:u=Qo a:=q;have g:iF l a (kV k) (some v):=by rw[<-ev];exact iF.k U
 exact⟨nH j g,sQ L j g p λw' s3 I3 d=>⟨v,l,I3,d,r⟩⟩
def DX(f ty d:TE):TS:=λh σ H=>d σ H λv H1=>f σ H1 λx g=>ty σ g λy c=>match x with
 | .ref a=>on (im c x) λkvs=>on (rJ y) λk=>kvs.length<Qf/\h.nx σ (upd c a<|.dK<|df kvs k v)
 | _=>False
theorem wj{o i value:Qv}{f ty d:TE}{pos pos':Pos}(O:X.A.units+1<R0)(ho:PE X o f)(U:PE X i ty)(L:PE X value d)(hs:RX value (some<|.Subscript o i pos') pos.line X.env=pure false) :
  PS X (.Assign [.Subscript o i pos'] value pos) (DX f ty d):=by
 intro pins s σ H Dd I h;refine Wy (bv (L pins s σ H _ I h) λr l c=>de c λv H1 I1 q q1=>bv (ho pins l σ H1 _ I1 q1) λu j c=>de c λx H2 I2 p q2=>bv (U pins j σ H2 _ I2 q2) λiv s3 c=>de c λy H3 I3 m g=>?_) hs;cases x with
 | ref a=>
  obtain⟨kvs,e,C⟩:=dE g;obtain⟨k,ek,Q,z⟩:=dE C;obtain⟨a',ea,Y⟩:=lK e;cases ea;have Z:=uG ek;subst Z;obtain rfl:u=Qo a:=p;exact sR O I3 (rE.k Y Q) m q λs4 I4=>⟨σ,_,I4,z⟩
 | _=>exact g.elim
def zT(f ty d:TE):TE:=λσ H Q=>f σ H λx H1=>on (im H1 x) λ_=>ty σ H1 λy g=>d σ g λz c=>on (im c x) λkvs=>on (rJ y) λk=>Q ((c7 kvs k).getD z) c
theorem Bv{o e f:Qv}{p ty l:TE}{d c:Pos}(hu:X.A.units+1<R0)(ho:PE X o p)(he:PE X e ty)(hf:PE X f l)(m:M2 X o "get" d e f c):PE X (.Call (.Attribute o "get" d) [e,f] [] c) (zT p ty l):=by
 intro pins s σ H Q I h;refine VZ m.base m.few m.line Ry RK UO (bv (ho pins s σ H _ I h) λu O g=>de g λx H1 I1 Z q1=>?_);obtain⟨kvs,e1,q1⟩:=dE q1;obtain⟨a,rfl,ha⟩:=lK e1;obtain rfl:u=Qo a:=Z;obtain⟨C,r,_⟩:=yf I1 (.inl ⟨kvs,.inl ha⟩);refine⟨C,r,?_⟩;rw[m.trees];refine Sc rfl (SW<|Sj<|bv (he pins O σ H1 _ I1 q1) λiv L g=>de g λy H2 I2 Y q2=>Sj (bv (hf pins L σ H2 _ I2 q2) λfv s3 g=>de g λz H3 I3 U q3=>TL ?_));obtain⟨q,e2,q4⟩:=dE q3;obtain⟨k,ek,q5⟩:=dE q4;obtain⟨a',ea,j⟩:=lK e2;cases ea;have ey:=uG ek;subst ey;exact DI hu I3 (iF.k j) Y U λw' s4 I4 i=>⟨_,H3,I4,i,q5⟩
def rK(H:Hp):V->Option Bool
 | .non=>some false
 | .bl b=>some b
 | .int i=>some (i !=0)
 | .ref a=>match H a with
  | some (.lst xs)=>some !xs.isEmpty
  | some (.tup xs)=>some !xs.isEmpty
  | some (.frz _ (.lst xs))=>some !xs.isEmpty
  | some (.dK kvs)=>some !kvs.isEmpty
  | _=>none
 | _=>none
def DY(c:TE):TT:=λσ H Q=>c σ H λx H1=>on (rK H1 x) λb=>Q b H1
theorem dN{a:Qv}{c:TE}(j:PE X a c)(he:∀whole,X0 a X.env whole=(do let v <-whole;SI a.pos;SJ [v] (ac7 v)):=by with_unfolding_all (intro _;rfl)):PT X a (DY c):=by
 intro pins s σ H Q I h;refine Ym (bv (j pins s σ H _ I h) λv f d=>de d λx H1 I1 g q1=>xY pins f σ H1 x v Q I1 g ?_) (he _);obtain⟨b,e,q⟩:=dE q1;refine⟨b,?_,q⟩;cases x with
 | non=>cases e;rfl
 | bl b=>cases e;rfl
 | int i=>cases e;rfl
 | ref a=>
  simp only[rK] at e;split at e
  ·cases e;exact .inl ⟨_,.inl<|.inl ‹_›,rfl⟩
  ·cases e;exact .inr (.inl ⟨_,ic.of ‹_›,rfl⟩)
  ·cases e;exact .inl ⟨_,.inl<|.inr ⟨_,‹_›⟩,rfl⟩
  ·cases e;exact .inr (.inr ⟨_,‹_›,rfl⟩)
  ·cases e
 | _=>cases e
end
section
variable{Q:VK}{Qb:Bool->Hp->Prop}{Qs:List V->Hp->Prop}{Dd:rD}{ta tb tc:TE}{tt tu:TT}{ts tr:TS}{te:TA}{g:TG}{sp:Sp}{r:R2}
theorem zU:Dc ts tr Dd σ H=ts {Dd with nx:=tr Dd} σ H:=rfl
theorem DZ:IR Dd σ H=Dd.nx σ H:=rfl
theorem oR:Mf ta Dd σ H=ta σ H Dd.rt:=rfl
theorem GG:Mh tt ts tr Dd σ H=tt σ H λb H1=>if b=true then ts Dd σ H1 else tr Dd σ H1:=rfl
theorem zV:jj ta g Dd σ H=ta σ H λx H1=>g x σ H1 Dd.nx:=rfl
theorem wl{i:Nat}{v:V}{c:St->Hp->Prop}:fY i v σ H c=c (σ.set i<|some v) H:=rfl
theorem uH{i:Nat}:C9 i σ H Q=on (σ[i]?.join) λv=>Q v H:=by
 unfold C9;cases e:σ[i]? with
 | none=>simp[on]
 | some o=>
  cases o with
  | none=>simp[on]
  | some v=>simp[on]
theorem Jf{v:V}:tC v σ H Q=Q v H:=rfl
theorem yk:J0 r ta tb σ H Q=ta σ H λx H1=>tb σ H1 λy c=>r x y c Q:=rfl
theorem Kt:Pj tt ta tb σ H Q=tt σ H λc H1=>if c=true then ta σ H1 Q else tb σ H1 Q:=rfl
def OO(x:V)(P:Bool->Prop):Prop:=match x with
 | .bl b=>P b
 | _=>False
theorem D0{b:Bool}{P:Bool->Prop}:OO (.bl b) P=P b:=rfl
theorem Ku{x:V}{P:Bool->Prop}:(∃c,x=.bl c/\P c)=OO x P:=by
 refine propext ⟨λh=>?_,λh=>?_⟩
 ·obtain⟨c,rfl,h⟩:=h;exact h
 ·cases x with
  | bl b=>exact⟨b,rfl,h⟩
  | _=>exact h.elim
theorem D1:vZ ta σ H Qb=ta σ H λx H1=>OO x λc=>Qb c H1:=by
 unfold vZ;congr 1;funext x H1;exact Ku
theorem Kv{u:List V->Hp->VK->Prop}:J9 u te σ H Q=te σ H λvs H1=>u vs H1 Q:=rfl
theorem D2{dvs:List V}{E:XK}:kh sp dvs E te σ H Q=te σ H λvs H1=>sp (vs++dvs) H1 Q E:=rfl
theorem D3:j9 ta te σ H Qs=ta σ H λx H1=>te σ H1 λxs c=>Qs (x::xs) c:=rfl
theorem zW:mF σ H Qs=Qs [] H:=rfl
theorem pX{f:Int->Int->V}{i j:Int}:xW f (.int i) (.int j) H Q=Q (f i j) H:=by
 unfold xW;refine propext ⟨λh=>?_,λh=>⟨i,j,rfl,rfl,h⟩⟩;obtain⟨m,l,d,c,h⟩:=h;cases d;cases c;exact h
theorem nI{C:Int->Int->Prop}{f:Int->Int->V}{i j:Int}:rI C f (.int i) (.int j) H Q=(C i j/\Q (f i j) H):=by
 unfold rI;refine propext ⟨λh=>?_,λh=>⟨i,j,rfl,rfl,h⟩⟩;obtain⟨m,l,d,c,h⟩:=h;cases d;cases c;exact h
theorem Bw:DW ta tb σ H Q=ta σ H λx H1=>tb σ H1 λy c=>on (im c x) λkvs=>on (rJ y) λk=>on (c7 kvs k) λv=>Q v c:=rfl
theorem ym:zT ta tb tc σ H Q=ta σ H λx H1=>on (im H1 x) λ_=>tb σ H1 λy d=>tc σ d λz c=>on (im c x) λkvs=>on (rJ y) λk=>Q ((c7 kvs k).getD z) c:=rfl
def Jg(Dd:rD)(σ:St)(x y v:V)(H:Hp):Prop:=match x with
 | .ref a=>on (im H x) λkvs=>on (rJ y) λk=>kvs.length<Qf/\Dd.nx σ (upd H a<|.dK<|df kvs k v)
 | _=>False
theorem Bx:DX ta tb tc Dd σ H=tc σ H λv H1=>ta σ H1 λx d=>tb σ d λy c=>Jg Dd σ x y v c:=rfl
theorem pY{a:P3}{y v:V}:Jg Dd σ (.ref a) y v H=on (im H<|.ref a) λkvs=>on (rJ y) λk=>kvs.length<Qf/\Dd.nx σ (upd H a<|.dK<|df kvs k v):=rfl
theorem lM{i:Int}:rJ (.int i)=some (.inl i):=rfl
theorem D4{x:Str}:rJ (.str x)=some (.inr x):=rfl
end
def Kp(h h':QO):Prop:=∀b o,h.get? b=some o->h'.get? b=some o
theorem Kp.trans{h h1 c:QO}(x:Kp h h1)(y:Kp h1 c):Kp h c:=λb o e=>y b o (x b o e)
theorem Kp.push(h:QO)(o:Obj):Kp h (h.push o):=λ_ _ e=>P1 _ e
def oS(a:P3)(h h':QO):Prop:=∀b o,b≠a->h.get? b=some o->h'.get? b=some o
theorem oS.upd(h:QO)(a:P3)(g:Obj->Obj):oS a h (h.update a g):=λb o n e=>(Rv _ _ _ _ n).trans e
theorem oS.kp{a:P3}{h h1 c:QO}(x:oS a h h1)(y:Kp h1 c):oS a h c:=λb o n e=>y b o (x b o n e)
theorem oS.trans{a:P3}{h h1 c:QO}(x:oS a h h1)(y:oS a h1 c):oS a h c:=λb o n e=>y b o n (x b o n e)

section
variable{a kS:P3}{vs:List P0}{kz:List Int}{keys:Array P0}{e e1:Nat}{P:YU->P5->Prop}
theorem wm{st:SortSt}(u:s.heap.get? kS=some (Qz "list" keys e))(x:s.heap.get? a=some (Qz "list" #[] e1))(f:kS≠a)
  (l:kz.length=vs.length) (m:UC keys.toList kz) (H:vs.length<64) (j:(We st).Perm (keys.zip vs.toArray)) (hs:SortedTo (We st) (We st).size) (g:Wf st=none)
  (h:∀h' out c,(∀b o,b≠a->b≠kS->s.heap.get? b=some o->h'.get? b=some o)->h'.get? a=some (Qz "list" out c)->ad0 false kz vs out.toList->P (.done<|.ret .none) {s with heap:=h'}) :
  Qa (Qd prog w) A (ZL a false e1 (.ref kS) st) P E s:=by
 have i:keys.size=vs.length:=by have:=m.length;rw[QL] at this;omega
 have r:(We st).size=vs.length:=by rw[j.size_eq,ZM,i,P6,ad1]
 have p:((We st).map (·.2)).size=vs.length:=by rw[Array.size_map];exact r
 have d:(s.heap.update kS<|QU λ_=>(#[]:Array P0)).get? a=some (Qz "list" #[] e1):=(Rv _ _ _ _ f.symm).trans x;unfold ZL;dsimp only;refine PZ (R5 u rfl ?_ (by rw[i,Q6];omega)<|Ra _);refine PZ (W5<|PZ<|Us d rfl ?_);refine PZ (R5 d rfl ?_ (Ra _)<|by simp only[Qt,if_false];rw[p,Q6];omega);rw[g];simp only[bne_self_eq_false,Qt,if_false];refine P2 (h _ ((We st).map (·.2)) _ (λb o C z q=>?_) (SU d λ_=>(We st).map (·.2))<|by simpa using ksk_out (b:=false) m j hs);exact(Rv _ _ _ _ C).trans ((Rv _ _ _ _ z).trans q)

theorem GH(p:s.heap.get? kS=some (Qz "list" keys e))(u:s.heap.get? a=some (Qz "list" #[] e1))(g:kS≠a)
  (d:kz.length=vs.length) (l:UC keys.toList kz) (m:vs.length<64)
  (h:∀h' out c,(∀b o,b≠a->b≠kS->s.heap.get? b=some o->h'.get? b=some o)->h'.get? a=some (Qz "list" out c)->ad0 false kz vs out.toList->P (.done<|.ret .none) {s with heap:=h'}) :
  Qa (Qd prog w) A (Zw a false vs.toArray e1 (.ref kS) keys) P E s:=by
 have C:keys.size=vs.length:=by have:=l.length;rw[QL] at this;omega
 have z:(keys.zip vs.toArray).size=vs.length:=by rw[ZM,C,P6,ad1]
 unfold Zw;simp only[Qt,if_false];by_cases f:vs.toArray.size<2
 ·rw[if_pos f,if_pos f];refine PZ (P2 ?_);rw[WK];refine PZ (P2 ?_);refine wm (st:=UX ZN (keys.zip vs.toArray) #[] 7 none) p u g d l m (Zk _) (λi j l1 I=>?_) rfl h;have l3:j<(keys.zip vs.toArray).size:=I;rw[z] at l3;rw[P6] at f;obtain rfl:i=j:=by omega
  exact Rr _
 ·rw[if_neg f,if_neg f];rw[P6] at f;rw[ksk_kind l (by omega)];refine PZ (P2 ?_);refine PZ (QS (wpS_sortRuns (a₀:=keys.zip vs.toArray) (st:=UX oneType' (keys.zip vs.toArray) #[] 7 none)
   (Q:=λ_ r=>(We r).Perm (keys.zip vs.toArray)/\Wf r=none/\SortedTo (We r) (keys.zip vs.toArray).size)
   (ksk_intKeys l) ⟨Zk _,rfl,rfl,rfl⟩ (by omega) (by omega) λr q1 q2 H=>⟨q1,q2,H⟩) ?_ λ_ _ q=>q)
  rintro ⟨⟨⟩,r⟩ s' ⟨rfl,x,L,hs⟩;exact wm p u g d l m x (by rw[x.size_eq];exact hs) L h

theorem D5{f:P0}(Z:s.heap.get? kS=some (Qz "list" #[] 0))(na:s.heap.get? a=some (Qz "list" #[] e1))(z:kS≠a)(p:kz.length=vs.length)(L:vs.length<64)
  (turn:∀(i:Nat) (v:P0) (k:Int),vs[i]?=some v->kz[i]?=some k->∀(h:QO) (tk:Nat),oS kS s.heap h ->
   Qa (Qd prog w) A (call f [v]) (λu s'=>∃h' I t,s'={s with heap:=h',toks:=I}/\Kp h h'/\u=.int k t) (λ_ _=>False) {s with heap:=h,toks:=tk})
  (h:∀h' tk out c,(∀b o,b≠a->b≠kS->s.heap.get? b=some o->h'.get? b=some o)->h'.get? a=some (Qz "list" out c)->ad0 false kz vs out.toList->P (.done<|.ret .none) {s with heap:=h',toks:=tk}) :
  Qa (Qd prog w) A (ZO a f false vs.toArray e1<|.ref kS) P E s:=by
 unfold ZO;refine PZ (Uj ?_)
 first
  | rw[Yc]
  | (rw[<-Yd];simp only[Xx])
 refine PZ (ksk_fold (λi s'=>∃h' tk d e,s'={s with heap:=h',toks:=tk}/\oS kS s.heap h'/\h'.get? kS=some (Qz "list" d e)/\UC d.toList (kz.take i)) vs 0 s
  ⟨s.heap,s.toks,#[],0,rfl,λ_ _ _ q=>q,Z,by simpa using IntsAre.nil⟩ ?step ?done)
 case step=>
  rintro j x s' Q ⟨g,tk,d,e,rfl,kp,C,m⟩;simp only[Yy] at m ⊢;have hj:j<vs.length:=(P9.mp Q).1;have r:kz[j]?=some kz[j]:=QA (by omega);have hz:d.size≤vs.length:=by have:=m.length;rw[QL,US] at this;omega
  refine PZ (S8<|QS (turn j x _ Q r g tk kp) (λv Y he=>?_) λ_ _ q=>q.elim);obtain⟨g2,U,H,rfl,l,rfl⟩:=he;dsimp only;refine PZ (R5 (l _ _ C) rfl ?_ (by rw[Q6];omega)<|by rw[Zl,Q6];omega);refine P2 ⟨rfl,_,_,d.push<|.int kz[j] H,_,rfl,(kp.kp l).trans (oS.upd _ _ _),SU (l _ _ C) (·.push (.int kz[j] H)),?_⟩;have q1:kz.take (j+1)=kz.take j++[kz[j]]:=by rw[List.take_add_one,r];rfl
  have q2:(d.push<|Tc kz[j] H).toList=d.toList++[Tc kz[j] H]:=by simp
  rw[q1,q2];exact ksk_snoc m
 case done=>
  rintro s' ⟨g,tk,d,e,rfl,kp,C,m⟩;rw[UH (by omega)] at m;refine PZ (Vv C rfl ?_);exact GH (s:={s with heap:=g,toks:=tk}) C (kp a _ z.symm na) z p m L λh' out c kk ha ho=>h h' tk out c (λb o n1 O q=>kk b o n1 O (kp b o O q)) ha ho

theorem D6{f:P0}{n:Nat}(ho:s.heap.get? a=some (Qz "list" vs.toArray n))(l:kz.length=vs.length)(r:vs.length<64)
  (turn:∀(i:Nat) (v:P0) (k:Int),vs[i]?=some v->kz[i]?=some k->∀(h:QO) (tk:Nat),oS a s.heap h ->
   Qa (Qd prog w) A (call f [v]) (λu s'=>∃h' p t,s'={s with heap:=h',toks:=p}/\Kp h h'/\u=.int k t) (λ_ _=>False) {s with heap:=h,toks:=tk})
  (h:∀h' tk out c,oS a s.heap h'->h'.get? a=some (Qz "list" out c)->ad0 false kz vs out.toList->P (.done<|.ret .none) {s with heap:=h',toks:=tk}) :
  Qa (Qd prog w) A (ksk_tree a f false) P E s:=by
 have I:a<s.heap.objs.size:=Qc ho;have x:((s.heap.update a<|QU λ_=>(#[]:Array P0)).push (Qz "tuple" vs.toArray 0)).objs.size=s.heap.objs.size+1:=by rw[size_push',Wg]
 have j:=SU ho λ_=>(#[]:Array P0)
 unfold ksk_tree;have few:vs.length≤Qf:=by rw[Q6];omega
 refine PZ (Vv ho rfl<|PZ<|R5 ho rfl (PZ<|Us j rfl<|PZ<|VN (PZ<|Ud (QG ?_)<|Ra _) few) (by rw[P6];exact few)<|Ra _);have d:oS a s.heap (((s.heap.update a<|QU λ_=>(#[]:Array P0)).push (Qz "tuple" vs.toArray 0)).push (Qz "list" #[] 0)):=((oS.upd _ _ _).kp (Kp.push _ _)).kp (Kp.push _ _);have lk:∀b o,s.heap.get? b=some o->b≠((s.heap.update a<|QU λ_=>(#[]:Array P0)).push (Qz "tuple" vs.toArray 0)).objs.size:=λb o q=>by
  rw[x];exact Qp (Sw<|Qc q)
 refine D5 (s:={s with heap:=((s.heap.update a<|QU λ_=>(#[]:Array P0)).push (Qz "tuple" vs.toArray 0)).push (Qz "list" #[] 0)}) (kS:=((s.heap.update a<|QU λ_=>(#[]:Array P0)).push (Qz "tuple" vs.toArray 0)).objs.size)
  (P8 _ rfl) (P1 _<|P1 _ j) (lk a _ ho).symm l r (λi v k q1 q2 g tk kp=>?_) λh' tk out c z H C=>?_
 ·exact turn i v k q1 q2 g tk λb o m q=>kp b o (lk b o q) (d b o m q)
 ·exact h h' tk out c (λb o m q=>z b o m (lk b o q) (d b o m q)) H C
end
section
variable{vs:List P0}{kz:List Int}{Q:P0->P5->Prop}
theorem yn{t q:P3}(ht:WF s.heap t vs.toArray)(j:kz.length=vs.length)(p:vs.length<64)
  (turn:∀(i:Nat) (v:P0) (k:Int),vs[i]?=some v->kz[i]?=some k->∀(h:QO) (tk:Nat),Kp s.heap h ->
   Qa (Qd prog w) A.in1.in1 (call (.ref q) [v]) (λu s'=>∃h' l t,s'={s with heap:=h',toks:=l}/\Kp h h'/\u=.int k t) (λ_ _=>False) {s with heap:=h,toks:=tk})
  (h:∀D h' tk out c,Kp s.heap h'->s.heap.get? D=none->h'.get? D=some (Qz "list" out c)->ad0 false kz vs out.toList->Q (.ref D) {s with heap:=h',toks:=tk}) :
  Qa (Qd prog w) A (call (.builtin "sorted") [.ref t] [(P4 "key",.ref q)]) Q E s:=by
 have few:vs.length≤Qf:=by rw[Q6];omega
 obtain⟨o,ho,C,n,hd⟩:=ht;refine WC Zd Yz YA (ksk_s1 _ _) ?_;unfold Sd.«sorted»;refine PZ (m:=ZP "sorted" 1 1 _) (P2<|PZ<|V0 t (.inr rfl) ho C hd (λg kg=>?_)<|by rw[P6];exact few);refine PZ (Ud ?_ few);have f:(g.push<|Qz "list" vs.toArray 0).get? g.objs.size=some (Qz "list" vs.toArray 0):=P8 _ rfl;have d:Kp s.heap (g.push<|Qz "list" vs.toArray 0):=Kp.trans kg (Kp.push _ _);have fr:s.heap.get? g.objs.size=none:=by
  cases e:s.heap.get? g.objs.size with
  | none=>rfl
  | some ob=>exact absurd (Qc<|kg _ _ e) (RL _)
 have r:∀b ob,s.heap.get? b=some ob->b≠g.objs.size:=λb ob e z=>by rw[z,fr] at e;cases e
 show Qa _ _ _ _ _ {s with heap:=g.push (Qz "list" vs.toArray 0)};refine PZ (QG<|Xy W6 ⟨_,f,rfl⟩ WL ?_<|ksk_l1 _ _);rw[ksk_t1];refine D6 (s:={s with heap:=g.push (Qz "list" vs.toArray 0)}) f j p (λi v k q1 q2 I tk kp=>?_) λh' tk out c kp H x=>⟨_,rfl,?_⟩
 ·exact turn i v k q1 q2 I tk λb ob e=>kp b ob (r b ob e) (d b ob e)
 ·exact P2 ⟨_,rfl,h _ h' tk out c (λb ob e=>kp b ob (r b ob e) (d b ob e)) fr H x⟩

theorem GI{f c' t:P3}{qual x:Str}{params:TD}{scope:Q8}{I i:P0}{U O L:Pos}{Y:Nat}{items:Array P0}{k:Int}{u:Tok}
  (ho:s.heap.get? f=some (Tw "<lambda>" qual params (.Subscript (.Name x U) (.Constant (.int 0) Y O) L) scope [] I c' i)) (H:s.heap.CodeRec (.ref c') qual)
  (c:A.depth<Te) (m:s.heap.NoLimit)
  (hb:∀v,Tu (TU "<lambda>" qual params (.Subscript (.Name x U) (.Constant (.int 0) Y O) L) scope [] I (.ref c') i) ⟨[v],[]⟩=pure [(x,v)])
  (Z:scope.names.lookup x=some .local) (d:∀y∈scope.names,y.2≠.cell) (hk:scope.kind=.function) (C:scope.isCoroutine=false) (h:scope.isGenerator=false) (q:(x==("__debug__":Str))=false)
  (ht:WF s.heap t items) (h0:items[0]?=some (.int k u)) (hsz:items.size<64) :
  Qa (Qd prog w) A (call (.ref f) [.ref t]) (λr s'=>∃h' l t',s'={s with heap:=h',toks:=l}/\Kp s.heap h'/\r=.int k t') E s:=by
 refine SA (W7 c ho rfl C h rfl H ?_);rw[hb];refine P2 (Va d (λy hy=>?_) (λh₁ p o=>?_) hk)
 ·rw[Rj.mp hy];exact Z
 ·have kp:Kp s.heap h₁:=λb ob e=>o.extBut b ob (Qp<|Qc e) (P1 _ e);refine⟨m.keeps kp,W8 ?_⟩;refine X7 (X1 (U7 hk Z p (v:=.ref t) (by simp) ?_) q);refine X2 ?_;have g:WF h₁ t items:=ht.keeps kp;have h1:0<items.size:=by
   rcases Nat.eq_zero_or_pos items.size with z | z
   ·rw[WD (by omega)] at h0;cases h0
   ·exact z
  refine UE (x:=.int k u) (T:="tuple") g.typeIs Q7.lookup ?_;exact getItem_tuple (j:=0) g (by decide) (by decide) (by simp[ac3,h1]) h0 ⟨rfl,h₁,_,u,rfl,kp,rfl⟩
end
structure D7(K:P7)(mg:Str->Option P0)(c P:P3):Prop where
 hd:∀h,K.In h->PySem.W.CodeHd h c P
 ng:QF≠P
def fZ(c':P3)(qual:Str):HO:=.ext λh=>h.CodeRec (.ref c') qual
def lN(H:Hp)(P:P3)(pos:Pos)(qual:Str):Prop :=
 ∃ps,H P=some (.tbl ps)/\TriplesOk ps.toList/\(Ut pos ps.toList=none∨∃c',Ut pos ps.toList=some (.ref c')/\H c'=some (fZ c' qual))
def Jh:P0->V
 | .ref a=>.ref a
 | _=>.non
def GJ(kz:List Int)(xs ys:List V):Prop:=∃ps:List (Int×V),ps.Perm (kz.zip xs)/\ys=ps.map Prod.snd/\ps.Pairwise λp q=>p.1≤q.1
def uI(K:P7)(P:P3)(d:Pos)(qual:Str)(f:TE):TE:=λσ H Q=>f σ H λv H1=>∃t xs kz,v=.ref t/\H1 t=some (.tup xs)/\xs.length<64/\kz.length=xs.length /\
 (∀(i:Nat) (x:V) (k:Int),xs[i]?=some x->kz[i]?=some k->∃b ys,x=.ref b/\H1 b=some (.tup (.int k::ys))/\ys.length<60)/\lN H1 P d qual /\
 ∀D c ys,H1 D=none->c D=some (.lst ys)->(∀b o,b≠P->H1 b=some o->c b=some o)->lN c P d qual->GJ kz xs ys->Q (.ref D) c
theorem bD.some{h:QO}{a:P3}{o:HO}(x:bD P w H h a o):∃u,h.get? a=some u:=by
 cases o with
 | lst xs=>obtain⟨_,_,_,_,e⟩:=x;exact⟨_,e⟩
 | tup xs=>obtain⟨_,_,_,u,e,_⟩:=x;exact⟨u,e⟩
 | dK kvs=>obtain⟨_,_,_,_,u,_,_,e,_⟩:=x;exact⟨u,e⟩
 | dT kvs=>obtain⟨_,_,_,_,u,_,_,e,_⟩:=x;exact⟨u,e⟩
 | set S n=>obtain⟨u,_,_,_,e,_⟩:=x;exact⟨u,e⟩
 | ins C g fs=>obtain⟨_,_,_,e,_⟩:=x;exact⟨_,e⟩
 | own y=>exact x
 | xd fs=>obtain⟨_,⟨u,_,_,e,_⟩,_⟩:=x;exact⟨u,e⟩
 | rng lo d=>obtain⟨_,_,_,e⟩:=x;exact⟨_,e⟩
 | frz ob u=>exact⟨_,x.1⟩
 | tbl ps=>exact⟨_,x⟩
 | met f y=>exact⟨_,x⟩
 | ext c=>exact x.2.1
theorem wn:∀{l:List P0},(∀u∈l,aN (Jh u) u)->aJ (l.map Jh) l
 | [],_=>.nil
 | u::l,h=>.cons (h u Qj) (wn λv c=>h v (Ql _ c))
theorem TriplesOk.snoc{a b:Int}{t u:Tok}{c:P0}:∀{l:List P0},TriplesOk l->TriplesOk (l++[.int a t,.int b u,c])
 | [],_=>trivial
 | .int _ _::.int _ _::_::rest,h=>TriplesOk.snoc (l:=rest) h
section
variable{c P:P3}
theorem wo{Q:VK}{qual x:Str}{h:TD}{d:Q8}{p1 p2 p3 lp:Pos}{kd:Nat}{pm ctv:P0}{F c' t:P3}{g:QO}{tk:Nat}{ps l:Array P0}{kz:List Int}
  (I:ay X pins σ H s) (hroom:X.A.depth<Te)
  (hb:∀v,Tu (TU "<lambda>" qual h (.Subscript (.Name x p1) (.Constant (.int 0) kd p2) p3) d [] pm (.ref c') ctv) ⟨[v],[]⟩=pure [(x,v)])
  (hx:d.names.lookup x=some .local) (hcell:∀y∈d.names,y.2≠.cell) (hk:d.kind=.function) (hco:d.isCoroutine=false) (hgen:d.isGenerator=false) (hdb:(x==("__debug__":Str))=false)
  (kB:oS P s.heap g) (f:H P=some (.tbl ps)) (hP:g.get? P=some (SZ l)) (hmore:∃more,l=ps++more) (h3:TriplesOk l.toList) (hca:Ut lp l.toList=some (.ref c'))
  (hF:g.get? F=some (Tw "<lambda>" qual h (.Subscript (.Name x p1) (.Constant (.int 0) kd p2) p3) d [] pm c' ctv)) (hcd:g.CodeRec (.ref c') qual)
  (hc:(s.heap.get? c'=none/\H c'=none)∨H c'=some (fZ c' qual))
  (ht:H t=some (.tup xs)) (h64:xs.length<64) (hlen:kz.length=xs.length)
  (hxs:∀(i:Nat) (x:V) (k:Int),xs[i]?=some x->kz[i]?=some k->∃b ys,x=.ref b/\H b=some (.tup (.int k::ys))/\ys.length<60)
  (q:∀D H2 ys,H D=none->H2 D=some (.lst ys)->(∀b o,b≠P->H b=some o->H2 b=some o)->lN H2 P lp qual->GJ kz xs ys->Q (.ref D) H2) :
  Qa (Qd X.prog X.w) X.A (call (.builtin "sorted") [.ref t] [(P4 "key",.ref F)]) (EP X pins σ Q) X.xe {s with heap:=g,toks:=tk}:=by
 obtain⟨z,us,rv,tp⟩:=I.hok t _ ht;have nP:∀b o,H b=some o->(∀ps,o≠.tbl ps)->b≠P:=λb o e n z=>by rw[z,f] at e;cases e;exact n _ rfl
 have tpg:WF g t us.toArray:=by
  obtain⟨o,ho,r⟩:=tp;exact⟨o,kB _ _ (nP t _ ht λ_ z=>by cases z) ho,r⟩
 have hul:=rv.length
 -- all items are references
 have C:∀(i:Nat) (u:P0) (k:Int),us[i]?=some u->kz[i]?=some k->∃b items tt,u=.ref b/\WF g b items/\items[0]?=some (.int k tt)/\items.size<64/\xs[i]?=some (.ref b):=λi u k e1 e2=>by
  have hi:i<us.length:=(P9.mp e1).1;obtain⟨x,ex⟩:∃x,xs[i]?=some x:=⟨_,QA<|by omega⟩
  obtain⟨b,ys,rfl,hbt,hy⟩:=hxs i x k ex e2;obtain⟨u',eu,ru⟩:=rv.get ex;rw[e1] at eu;cases eu;cases ru;obtain⟨zb,its,rb,ob,hob,r⟩:=I.hok b _ hbt;obtain⟨v0,rest,rfl,r0,rr⟩:∃v0 rest,its=v0::rest/\aN (.int k) v0/\aJ ys rest:=by
   cases rb with
   | cons ra rt=>exact⟨_,_,rfl,ra,rt⟩
  obtain⟨tt,rfl⟩:=r0;refine⟨b,_,tt,rfl,⟨ob,kB _ _ (nP b _ hbt λ_ z=>by cases z) hob,r⟩,by simp,?_,ex⟩;have:=rr.length;simp;omega
 refine yn (s:={s with heap:=g,toks:=tk}) (kz:=kz) tpg (by omega) (by omega) (λi u k e1 e2 h2 tk2 kp=>?_) λD h2 tk2 out cc kp fr hD hq=>?_
 ·obtain⟨b,items,tt,rfl,hbt,h0,hz,_⟩:=C i u k e1 e2;exact GI (s:={s with heap:=h2,toks:=tk2}) (kp _ _ hF) (hcd.keeps kp) hroom (I.ok.mod.nolimit.keeps λb o e=>kp _ _ (kB b o (λz=>by have:=(I.bs b o e).2;rw[z,f] at this;cases this)<|I.bk b o e)) hb hx hcell hk hco hgen hdb (hbt.keeps kp) h0 hz
 ·obtain⟨prs,pm,eo,pw⟩:=hq;have nDc:D≠c':=λz=>by
   obtain⟨c2,oc,_,_,e2,L,_⟩:=hcd;cases e2;rw[<-z] at L;rw[show g.get? D=none from fr] at L;cases L
  have nDP:D≠P:=λz=>by have f':g.get? D=none:=fr;rw[z,hP] at f';cases f'
  have sD:s.heap.get? D=none:=by
   cases e:s.heap.get? D with
   | none=>rfl
   | some o=>exact absurd ((kB D o nDP e).symm.trans fr) (by simp)
  have HD:H D=none:=by
   cases e:H D with
   | none=>rfl
   | some o=>
    obtain⟨u,hu⟩:=(I.hok D o e).some;rw[sD] at hu;cases hu
  have ncP:c'≠P:=λz=>by
   rcases hc with ⟨_,n⟩ | n
   ·rw[z,f] at n;cases n
   ·rw[z,f] at n;cases n
  generalize hys:out.toList.map Jh=ys;generalize hH:upd (upd (upd H P<|.tbl l) c'<|fZ c' qual) D (.lst ys)=H3;have gD:H3 D=some (.lst ys):=by rw[<-hH];exact aA
  have gc:H3 c'=some (fZ c' qual):=by rw[<-hH,al nDc.symm];exact aA
  have gP:H3 P=some (.tbl l):=by rw[<-hH,al nDP.symm,al ncP.symm];exact aA
  have go:∀b,b≠P->b≠c'->b≠D->H3 b=H b:=λb n1 n2 n3=>by rw[<-hH,al n3,al n2,al n1]
  have same:∀b o,b≠P->H b=some o->H3 b=some o:=λb o n e=>by
   by_cases Y:b=D
   ·rw[Y,HD] at e;cases e
   ·by_cases U:b=c'
    ·rcases hc with ⟨_,n'⟩ | n'
     ·rw[U,n'] at e;cases e
     ·rw[U,n'] at e;rw[U,gc];exact e
    ·rw[go b n U Y];exact e
  have j:∀b o,b≠P->s.heap.get? b=some o->h2.get? b=some o:=λb o n e=>kp _ _ (kB b o n e);have Z:∀u∈out.toList,aN (Jh u) u:=λu hu=>by
   rw[eo] at hu;obtain⟨⟨k,u'⟩,hp,rfl⟩:=RS.mp hu;have hm:=pm.mem_iff.mp hp;obtain⟨i,hi⟩:=List.mem_iff_getElem?.mp hm;rw[VS] at hi;obtain⟨b,_,_,e,_⟩:=C i u' k hi.2 hi.1;show aN (Jh u') u';rw[e];rfl
  have sorted:GJ kz xs ys:=by
   have exs:xs=us.map Jh:=by
    apply List.ext_getElem?;intro i;rw[QZ];by_cases hi:i<us.length
    ·obtain⟨b,_,_,e,_,_,_,ex⟩:=C i us[i] kz[i] (QA hi) (QA<|by omega);rw[QA hi,ex,e];rfl
    ·rw[WR (by omega),WR (by omega)];rfl
   refine⟨prs.map λp=>(p.1,Jh p.2),?_,?_,?_⟩
   ·have:=pm.map λp:Int×P0=>(p.1,Jh p.2)
    rw[exs,List.zip_map_right];exact this
   ·rw[<-hys,eo,TZ,TZ];rfl
   ·rw[V1];simpa using pw
  refine⟨.ref D,H3,?_,rfl,q D H3 ys HD gD same ⟨l,gP,h3,.inr ⟨c',hca,gc⟩⟩ sorted⟩;show ay X pins σ H3 {s with heap:=h2,gens:=s.gens,drawn:=s.drawn,toks:=tk2};refine I.step (ch:=[]) (λ_ z=>nomatch z) (λb o _ _ _ e n=>j b o (λz=>by rw[z,f] at n;cases n) e) (λb o _ _ _ e n=>⟨o.slots,j b o (λz=>by rw[z,f] at n;cases n) e⟩)
   (λb o _ e n=>?_) (λb o _ e=>?_) (λb xs e=>same b _ (nP b _ e λ_ z=>by cases z) e) (λb o u e=>same b _ (nP b _ e λ_ z=>by cases z) e) (λb qs e=>?_) (λm hm=>?_) (λb o e=>?_) I.bare
  ·-- free
   by_cases Y:b=D
   ·rw[Y,sD] at e;cases e
   ·by_cases U:b=c'
    ·rcases hc with ⟨n',_⟩ | n'
     ·rw[U,n'] at e;cases e
     ·rw[U,n'] at n;cases n
    ·by_cases O:b=P
     ·rw[O,f] at n;cases n
     ·rw[go b O U Y];exact n
  ·by_cases O:b=P
   ·rw[O];exact⟨_,kp _ _ hP⟩
   ·exact⟨o,j b o O e⟩
  ·by_cases O:b=P
   ·rw[O,f] at e;cases e;obtain⟨more,em⟩:=hmore;exact⟨more,by rw[O,gP,em]⟩
   ·exact⟨#[],by rw[same b _ O e];simp⟩
  ·obtain⟨o,es,ep,ho,r⟩:=hm;exact⟨o,es,ep,j _ o (λz=>by have:=I.free;rw[z,f] at this;cases this) ho,r⟩
  ·by_cases Y:b=D
   ·rw[Y,gD] at e;cases e;rw[Y];have hl:ys.length=out.toList.length:=by rw[<-hys,QI]
    refine⟨?_,out.toList,cc,?_,by rw[hD]⟩
    ·rw[hl,eo,QI,pm.length_eq,List.length_zip];exact R9 (bX<|by omega)
    ·rw[<-hys];exact wn Z
   ·by_cases U:b=c'
    ·rw[U,gc] at e;cases e;rw[U];refine⟨hcd.keeps kp,?_,?_⟩
     ·obtain⟨c2,oc,_,_,e2,L,_⟩:=hcd.keeps kp;cases e2;exact⟨oc,L⟩
     ·rintro h4 h5 ⟨c2,oc,vs,tt,e2,L,r⟩ hk5;cases e2;exact⟨_,oc,vs,tt,rfl,hk5 oc L,r⟩
    ·by_cases O:b=P
     ·rw[O,gP] at e;cases e;rw[O];exact kp _ _ hP
     ·rw[go b O U Y] at e;refine(I.hok b o e).stay (λb' u hb' e'=>j b' u ?_ e') (λb' e'=>?_) λb' zs e'=>?_
      ·rcases hb' with rfl | e2
       ·exact O
       ·exact nP b' _ e2 λ_ z=>by cases z
      ·exact same b' _ (nP b' _ e' λ_ z=>by cases z) e'
      ·exact same b' _ (nP b' _ e' λ_ z=>by cases z) e'
theorem D8{e:Qv}{te:TE}{x:Str}{f:TD}{d:Q8}{p p1 p2 p3 lp kp pos:Pos}{kd:Nat}(L:D7 X.K X.mg c P)(hB:X.base.BuiltinsAt X.mg P)(m:X.env.code=.ref c)(j:X.A.depth<Te)(hm:X.mg "sorted" = none)(he:PE X e te)
  (hdef:ZQ f X.env=([],[]):=by nofun) (hcl:WA d X.env=pure []:=by nofun)
  (hb:∀qual pm c' ctv v,Tu (TU "<lambda>" qual f (.Subscript (.Name x p1) (.Constant (.int 0) kd p2) p3) d [] pm (.ref c') ctv) ⟨[v],[]⟩=pure [(x,v)]:=by with_unfolding_all (intros;rfl))
  (hx:d.names.lookup x=some .local:=by nofun) (r:∀y∈d.names,y.2≠.cell:=by with_unfolding_all decide) (hk:d.kind=.function:=by nofun) (hco:d.isCoroutine=false:=by nofun) (U:d.isGenerator=false:=by nofun) (hdb:(x==("__debug__":Str))=false:=by decide)
  (hg:Gl X "sorted":=by nofun) (Y:Qy [e] X.env=(false,Q0 e X.env)::Qy [] X.env:=by nofun) :
  PE X (.Call (.Name "sorted" p) [e] [⟨some "key",.Lambda f (.Subscript (.Name x p1) (.Constant (.int 0) kd p2) p3) d lp,kp⟩] pos) (uI X.K P lp (X.env.qual++"<lambda>") te):=by
 intro pins s σ H Q I h;refine Re (kK I hg hm cy ?_);refine W9 (by rw[Y];rfl) (by rfl) (evalArgs_kw2 (by rfl) ?_ Y);have ha:PA X [e] (j9 te mF):=cg he d9 Y;refine bv (ha pos pins s σ H (λvs H1=>match vs with
  | [v]=>∃t xs kz,v=.ref t/\H1 t=some (.tup xs)/\xs.length<64/\kz.length=xs.length /\
   (∀(i:Nat) (x:V) (k:Int),xs[i]?=some x->kz[i]?=some k->∃b ys,x=.ref b/\H1 b=some (.tup (.int k::ys))/\ys.length<60)/\lN H1 P lp (X.env.qual++"<lambda>") /\
   ∀D H2 ys,H1 D=none->H2 D=some (.lst ys)->(∀b o,b≠P->H1 b=some o->H2 b=some o)->lN H2 P lp (X.env.qual++"<lambda>")->GJ kz xs ys->Q (.ref D) H2
  | _=>False) I h) λus C z9=>de z9 λvs H1 I1 rv q1=>?_
 obtain⟨v,rfl⟩:∃v,vs=[v]:=by rcases vs with _ | ⟨v,_ | _⟩<;>first | exact⟨_,rfl⟩ | exact q1.elim
 obtain⟨t,xs,kz,ev,ht,h64,O,hxs,⟨ps,hP,h3,hps⟩,q⟩:=q1;subst ev;obtain⟨u,rfl,ru⟩:=iW rv;cases ru;have Z:C.heap.get? P=some (SZ ps):=I1.hok P _ hP;have ne:∀b o,X.base.get? b=some o->b≠P:=λb o e z=>by have:=(I1.bs b o e).2;rw[z,hP] at this;cases this
 have hbA:C.heap.BuiltinsAt X.mg P:=by
  obtain⟨bm,ob,b1,b2,b3,b4,b5,b6⟩:=hB;exact⟨bm,ob,b1,b2,b3,b4,I1.bk _ _ b5,b6⟩
 have hgl:X.env.globals=QF:=I1.ok.glob;have hns:C.heap.Ns QF X.mg:=I1.mod.glob.keeps I1.bk;show Qa _ _ (ac9 [do let v <-Q0 (.Lambda f (.Subscript (.Name x p1) (.Constant (.int 0) kd p2) p3) d lp) X.env;SI pos;pure v]) _ _ C;refine VF (PZ<|YV hdef ?_);rcases hps with hn | ⟨c',hc,hx'⟩
 ·refine V6 (mg:=X.mg) hcl hgl hns m (L.hd _ I1.kIn) Z h3 hn L.ng hbA λc' ctv g tk hx1 hge hlt l htb=>?_;refine PZ (R1<|P2<|Uz ?_);have fr:C.heap.get? c'=none:=Sq hge;refine wo (s:=C) (ps:=ps) I1 j (λv=>hb _ _ _ _ v) hx r hk hco U hdb (λb o n e=>P1 _ (hx1 b o n e)) hP (P1 _ htb) ⟨_,rfl⟩ ?_ ?_ (P8 _ rfl) (l.push _) (.inl ⟨fr,I1.hok.fresh hge⟩) ht h64 O hxs q
  ·simpa[SF] using TriplesOk.snoc h3
  ·simpa using codeAmong_snoc _ h3 hn
 ·refine Vw (mg:=X.mg) hcl hgl hns m (L.hd _ I1.kIn) Z h3 hc hbA λctv g tk hk1 hsz=>?_;refine PZ (R1<|P2<|Uz ?_);have l:C.heap.CodeRec (.ref c') (X.env.qual++"<lambda>"):=(I1.hok c' _ hx').1;exact wo (s:=C) (ps:=ps) I1 j (λv=>hb _ _ _ _ v) hx r hk hco U hdb (λb o n e=>P1 _ (hk1 b o e)) hP (P1 _<|hk1 _ _ Z) ⟨#[],by simp⟩ h3 hc (P8 _ rfl) ((l.keeps hk1).push _) (.inr hx') ht h64 O hxs q
end
section
end
section
def D9(K:P7)(mg:Str->Option P0)(x:Str)(st:SK)(c:P3):Prop :=
 ∃(f:P3) (h:P0) (g:Option P3) (kV doc d:P0) (i:Option P3) (ct:P0) (osl:Array (Option P0)),
  K.lookup f=some ⟨h,g,.func<|Q1 x x (bL st) (aW st) (ae st) .none kV doc d i (.ref c) ct,osl⟩/\RM K (.ref c) x=true/\QX K (.ref f)=true/\mg x=some (.ref f)
end
section
end
section
end
section
def yo:List V->Hp->VK->Prop:=λxs H Q=>match xs with
 | [.int i,.int j]=>Q (.int<|if j > i then j else i) H
 | _=>False
def yp:List V->Hp->VK->Prop:=λxs H Q=>match xs with
 | [.int i,.int j]=>Q (.int<|if j<i then j else i) H
 | _=>False
theorem kT(c:X.calm=true):cZ X (.builtin "max") yo:=by
 intro pins s σ H xs us Q I r h;unfold yo at h;split at h
 ·exact Bf c pins s σ H _ us Q I r ⟨_,_,rfl,h⟩
 ·exact h.elim
theorem yq(c:X.calm=true):cZ X (.builtin "min") yp:=by
 intro pins s σ H xs us Q I r h;unfold yp at h;split at h
 ·exact Bg c pins s σ H _ us Q I r ⟨_,_,rfl,h⟩
 ·exact h.elim
end
theorem uJ{g:Str×SG->SG}(c:∀p,p.2=.cell∨p.2=.free->g p=.cell∨g p=.free):∀{names:List (Str×SG)} {x:Str},(names.lookup x=some .cell∨names.lookup x=some .free) ->
  ((names.map λp=>(p.1,g p)).lookup x=some .cell∨(names.map λp=>(p.1,g p)).lookup x=some .free)
 | [],x,h=>by simp at h
 | (n,k)::r,x,h=>by
  rw[Qx,Rb];rw[Rb] at h;cases e:(x==n) with
  | true=>
   rw[e] at h;simp only at h ⊢;have:=c (n,k) (by simpa using h);simpa using this
  | false=>
   rw[e] at h;simp only at h ⊢;exact uJ c h
theorem rL(c:Q8)(env:Env):∃g:Str×SG->SG,(∀p,p.2=.cell∨p.2=.free->g p=.cell∨g p=.free)/\(WB c env).names=c.names.map λp=>(p.1,g p):=by
 refine⟨λp=>if (p.2==RE&&env.scope.kind==.function&&env.kindOf p.1==some .cell) then .cell else p.2,λp h=>?_,?_⟩
 ·dsimp only;split
  ·exact .inl rfl
  ·exact h
 ·unfold WB;dsimp only;apply Vs;intro p _;obtain⟨n,k⟩:=p;dsimp only;split<;>rfl
theorem aR.re{up:Q8}{N:List Str}{c:Q8}{f:List Str}{env:Env}(S:aR up N c f ix):aR (WB up env) N c f ix:=by
 obtain⟨g,d,e⟩:=rL up env;refine⟨S.kind,S.nocell,S.loc,λy i h=>?_,S.nd,S.len,λp l=>?_⟩
 ·rw[e];exact uJ d (S.free y i h)
 ·have:=S.map p l
  revert this
  cases p.2 with
  | none=>intro _;rfl
  | some j=>
   intro this;simp only[Qq,decide_eq_true_eq] at this ⊢;obtain⟨⟨⟨h1,q⟩,o⟩,m⟩:=this;exact⟨⟨⟨h1,by rw[e];exact uJ d q⟩,o⟩,m⟩
end L2
namespace LT
open PySem PySem.Spec PyProof.Rows L2
theorem By{mg mb:Str->Option P0}{k:Nat}{fa a:P3}{ts:List P3}{x:Str}{sp:Sp}{s₁:P5}{vs:List P0}{ns:List Int}
  (KX:K.In s₁.heap) (U:s₁.heap.Ns QF mg) (hb:s₁.heap.Ns Zy mb) (hbb:∀x:Str,x≠"__name__" -> mb x=Q9 x) (Y:s₁.heap.NoLimit) (hg:s₁.gens=#[])
  (hB:∀T∈ts,s₁.heap.BuiltinsAt mg T) (I:∀T∈ts,s₁.heap.get? T=some (SZ #[])) (hKT:∀T∈ts,K.lookup T=none) (hct:∀T∈ts,isCodeTable s₁.heap T)
  (C:s₁.heap.get? a=some {cls:=.type "list",data:=.seq vs.toArray}) (hi:UC vs ns) (hl:ns.length≤Qf) (hr:a9 k Xp)
  (F:∀base:QO,K.In base->base.Ns QF mg->(∀T∈ts,base.BuiltinsAt mg T)->bS P w K mg base eT k fa fd [x] sp) (p:∀(s:P5) (u:P0),Xn s fd ⟨[u],[]⟩ [(x,u)])
  (hsp:∀H:Hp,ie K H a (ns.map V.int)->(∀T∈ts,H T=some (.tbl #[]))->sp [.ref a] H (λv _=>v=.bl true) λ_ _ _=>False) :
  Tk (Qd P w) Xp (.call (.ref fa) ⟨[.ref a],[]⟩) (λr s'=>r=.ok (.ret<|.bool true)/\OldK s₁.heap s'.heap/\s'.os=s₁.os/\U1 s'.gens) s₁:=by
 have rv:=sS hi;have Q:=hi.length;have L:a∉ts:=λz=>by rw[I a z] at C;cases C
 have i:∀H:Hp,ie K H a (ns.map V.int)->(∀T∈ts,H T=some (.tbl #[]))->jc P w H s₁.heap->(∀b u,H b=some u->b∈ts∨(b=a/\∃o xs,u=.frz o (.lst xs)))->(H a≠none->K.lookup a=none) ->
   Tk (Qd P w) Xp (.call (.ref fa) ⟨[.ref a],[]⟩) (λr s'=>r=.ok (.ret<|.bool true)/\OldK s₁.heap s'.heap/\s'.os=s₁.os/\U1 s'.gens) s₁:=by
  intro H hS hHT hok hA hK;have noA:∀{b:P3} {o:Obj} {es:Array SS} {ep:Nat},s₁.heap.get? b=some o->o.data=.dict es ep->H b=none:=λ{b o es ep} e d=>by
   cases q:H b with
   | none=>rfl
   | some u=>
    rcases hA b u q with z | ⟨z,_⟩
    ·rw[I b z] at e;cases e;cases d
    ·rw[z,C] at e;cases e;cases d
  have f:∀{b:P3} {m:Str->Option P0},s₁.heap.Ns b m->(ur s₁.heap H).Ns b m:=λ{b m} ⟨o,es,ep,e,d,r⟩=>⟨o,es,ep,pk e<|noA e d,d,r⟩
  have Z:K.In (ur s₁.heap H):=λb o e=>pk (KX b o e) (by
   cases q:H b with
   | none=>rfl
   | some u=>
    rcases hA b u q with z | ⟨z,_⟩
    ·rw[hKT b z] at e;cases e
    ·have:H a≠none:=by rw[<-z,q];simp
     rw[z,hK this] at e;cases e)
  have hM:Mod K mg (ur s₁.heap H):=⟨Z,f U,⟨mb,f hb,hbb⟩,let ⟨mc,h1,h2⟩:=Y;⟨mc,f h1,h2⟩⟩
  have e0:jl P w K mg (ur s₁.heap H) Xp [] s₁ H:=⟨rfl,hM,λb o e=>F8 e,Yr<|Bb _ _,trivial,λb z=>absurd (show b∈([]:List P3) from z) (by simp),hok,.of_eq hg⟩
  have hBb:∀T∈ts,(ur s₁.heap H).BuiltinsAt mg T:=λT O=>by
   obtain⟨bm,ob,b1,b2,b3,b4,b5,b6,b7,b8⟩:=hB T O;refine⟨bm,ob,b1,b2,b3,b4,pk b5 ?_,b6,b7,b8⟩;cases q:H bm with
   | none=>rfl
   | some u=>
    rcases hA bm u q with z | ⟨z,_⟩
    ·rw[I bm z] at b5;cases b5;cases b6
    ·rw[z,C] at b5;cases b5;simp at b6
  refine Rx ((F _ Z (f U) hBb).run Xp [] s₁ H ⟨[.ref a],[]⟩ [.ref a] [.ref a] _ _ hr e0 (p s₁<|.ref a) (.cons rfl .nil) (hsp H hS hHT)) λr s' h=>?_;cases r with
  | error e=>exact(show False from h).elim
  | ok fl=>
   cases fl with
   | next=>exact QE h
   | brk=>exact QE h
   | cont=>exact QE h
   | ret u=>
    obtain⟨v,H',os,bare,un,g,r',q⟩:=h;have q':v=.bl true:=q;subst q';obtain rfl:u=Si true:=r';refine⟨rfl,⟨λb o e=>?_,λb o e=>un.there b o e (by simp)⟩,os,bare⟩;cases q:H b with
    | none=>exact .inl (un.keep b o e q (by intro z;exact absurd (show b∈([]:List P3) from z) (by simp))<|by simp)
    | some u=>
     rcases hA b u q with z | ⟨z,ob,xs,j⟩
     ·obtain⟨more,e2⟩:=un.tbls b #[] (hHT b z);have e3:=g b _ e2;rw[I b z] at e;cases e;exact .inr (.inl ⟨hct b z,rfl,#[],more,rfl,e3⟩)
     ·rw[j] at q;have z2:=un.frzs b ob _ q;obtain⟨e1,_⟩:=hok b _ q;obtain⟨e2,_⟩:=g b _ z2;rw[e] at e1;cases e1;exact .inl e2
 cases hk:K.lookup a with
 | some o=>
  have e:=KX a o hk;rw[C] at e;cases e;refine i (λb=>if b∈ts then some (.tbl #[]) else none) (.inr ⟨_,vs.toArray,_,hk,rfl,rfl,rfl,by rw[P6,Q];exact hl,by simpa using rv⟩) (λT O=>if_pos O) (λb u z=>?_) (λb u z=>?_) λz=>absurd (if_neg L) z
  ·by_cases hb:b∈ts
   ·have l:=(if_pos hb).symm.trans z;cases l;exact I b hb
   ·cases(if_neg hb).symm.trans z
  ·by_cases hb:b∈ts
   ·exact .inl hb
   ·cases(if_neg hb).symm.trans z
 | none=>
  refine i (λb=>if b∈ts then some (.tbl #[]) else if b=a then some (.frz {cls:=.type "list",data:=.seq vs.toArray}<|.lst<|ns.map V.int) else none)
   (.inl<|.inr ⟨{cls:=.type "list",data:=.seq vs.toArray},(if_neg L).trans (if_pos rfl)⟩) (λT O=>if_pos O) (λb u z=>?_) (λb u z=>?_) λ_=>hk
  ·by_cases hb:b∈ts
   ·have l:=(if_pos hb).symm.trans z;cases l;exact I b hb
   ·have j:=(if_neg hb).symm.trans z;by_cases c:b=a
    ·have l:=(if_pos c).symm.trans j;cases l;subst c;exact⟨C,by rw[QI];exact hl,vs,_,rv,C⟩
    ·cases(if_neg c).symm.trans j
  ·by_cases hb:b∈ts
   ·exact .inl hb
   ·have j:=(if_neg hb).symm.trans z;by_cases c:b=a
    ·have l:=(if_pos c).symm.trans j;cases l;exact .inr ⟨c,_,_,rfl⟩
    ·cases(if_neg c).symm.trans j
theorem walk_ofT{l:VR}{n k:Nat}{q:QK}{loose:List Str}{XP:(Str->Option P0)->QO->Prop}{YP:Q4->QO->Prop}{d:DefRec}{K:W3->P7}{sp:Q4->Sp}{x:Str}{ts:List P3}
  (hn:l.most=some n) (L:n≤Qf) (Q:d.params.defaults=[]) (hr:a9 k Xp)
  (hY:∀(w:Q4) (h:QO),YP w h->(K w.params).In h/\∀T∈ts,h.get? T=some (SZ #[]))
  (F:∀(w:Q4) (mg:Str->Option P0) (r:P3) (h:QO),(K w.params).In h->h.Ns QF mg->mg d.name=some (.ref r) ->
   (∀T∈ts,(K w.params).lookup T=none/\∃c,Sm (K w.params) c T=true)/\∃fd:U6,(∀(s:P5) (u:P0),Xn s fd ⟨[u],[]⟩ [(x,u)]) /\
    ∀base:QO,(K w.params).In base->base.Ns QF mg->(∀T∈ts,base.BuiltinsAt mg T)->bS l.prog w (K w.params) mg base eT k r fd [x] (sp w))
  (I:∀(w:Q4) (H:Hp) (a:P3) (ns:List Int),ns.length≤n->ie (K w.params) H a (ns.map V.int)->(∀T∈ts,H T=some (.tbl #[]))->sp w [.ref a] H (λv _=>v=.bl true) λ_ _ _=>False) :
  PySem.W.WalkO q loose XP YP l.row.toRowW d [] (λf vs=>PySem.call f vs):=by
 refine Att.attach_call hn Q λw s₀ s₁ mg mb r o pm cd doc a vs ns G Y ho hd hcd O p j i hg=>?_;obtain⟨KX,hT⟩:=hY w _ Y;obtain⟨hK,fd,hb,hF⟩:=F w mg r _ KX G.T.g O;refine By (ts:=ts) KX G.T.g G.T.b G.T.builtins G.T.nolimit hg (λT m=>?_) hT (λT m=>(hK T m).1) (λT m=>?_) p j (Rg i L) hr hF hb λH hS Z=>I w H a ns i hS Z
 ·obtain⟨bm,ob,b1,b2,b3,b4,b5,b6⟩:=G.T.bmain;refine⟨bm,ob,b1,b2,λz=>?_,λz=>?_,b3,b4,b5,b6⟩
  ·obtain⟨o,es,ep,e,U,_⟩:=G.T.g;rw[z,e] at b3;cases b3;rw[U] at b6;cases b6
  ·rw[z,hT T m] at b3;cases b3;cases b4
 ·obtain⟨c,hc⟩:=(hK T m).2;obtain⟨oc,C,_,_,_,_,_,_,_,g1,g2,g3,g4,_⟩:=Xz KX hc;exact⟨c,oc,C,g1,g2,g3,g4⟩
end LT
namespace RB
open PySem L2
inductive AV where
 | non | bl (b:Bool) | int (s:Bool) (lo hi:Int) | str (i:Nat) | ref (n:Nat) | ext (i:Nat) | tn | tc (h t:AV)
inductive AO where
 | lst (xs:List AV)
 | dk (kvs:List (AV×AV))
 | dt (kvs:List (AV×AV))
 | ins (c:Nat) (fs:List (Nat×AV))
 /-- a dict that a loop walks: read,not written -/
 | fz (o:AO)
inductive Tr where
 | lf | nd (l:Tr) (o:AO) (r:Tr)
def Tr.get0:Tr->Nat->Option AO
 | .lf,_=>none
 | .nd l o r,n=>match Qn n 0 with
  | true=>some o
  | false=>match Qn (n%2) 1 with
   | true=>l.get0 (n / 2)
   | false=>r.get0 (n / 2 - 1)
def Tr.put0:Tr->Nat->AO->Tr
 | .lf,_,x=>.nd .lf x .lf
 | .nd l o r,n,x=>match Qn n 0 with
  | true=>.nd l x r
  | false=>match Qn (n%2) 1 with
   | true=>.nd (l.put0 (n / 2) x) o r
   | false=>.nd l o (r.put0 (n / 2 - 1) x)
structure aM where
 n:Nat
 sym:Bool
 t:Tr
def Tr.has:Tr->Nat->Prop
 | .lf,_=>False
 | .nd l _ r,n=>if n=0 then True else if n%2=1 then l.has (n / 2) else r.has (n / 2 - 1)
theorem gE(n m:Nat):Qn n m=decide (n=m):=by
 cases e:Qn n m with
 | true=>rw[Qh e];simp
 | false=>rw[decide_eq_false (Nat.ne_of_beq_eq_false e)]
theorem Tr.put0_same:∀(t:Tr) (n:Nat) (x:AO),(t.has n∨∀i,i<n->t.has i)->(t.put0 n x).get0 n=some x
 | .lf,n,x,h=>by
  have:n=0:=by
   rcases h with h | h
   ·exact h.elim
   ·cases n with
    | zero=>rfl
    | succ n=>exact(h 0<|YB _).elim
  subst this;rfl
 | .nd l o r,n,x,h=>by
  by_cases h0:n=0
  ·subst h0;rfl
  ·have d:Qn n 0=false:=by rw[gE];simp[h0]
   by_cases h1:n%2=1
   ·have c:Qn (n%2) 1=true:=by rw[gE];simp[h1]
    have g:l.has (n / 2)∨∀i,i<n / 2->l.has i:=by
     rcases h with h | h
     ·left;unfold Tr.has at h;simpa[h0,h1] using h
     ·right;intro i j;have:=h (2*i+1) (by omega);unfold Tr.has at this;have z:(2*i+1) / 2=i:=by omega
      have f:(2*i+1)%2=1:=by omega
      simpa[z,f] using this
    have:=Tr.put0_same l (n / 2) x g;unfold Tr.put0;rw[d,c];dsimp only;unfold Tr.get0;rw[d,c];exact this
   ·have c:Qn (n%2) 1=false:=by rw[gE];simp[h1]
    have g:r.has (n / 2 - 1)∨∀i,i<n / 2 - 1->r.has i:=by
     rcases h with h | h
     ·left;unfold Tr.has at h;simpa[h0,h1] using h
     ·right;intro i j;have:=h (2*i+2) (by omega);unfold Tr.has at this;have z:(2*i+2) / 2 - 1=i:=by omega
      have f:¬(2*i+2)%2=1:=by omega
      simpa[z,f] using this
    have:=Tr.put0_same r (n / 2 - 1) x g;unfold Tr.put0;rw[d,c];dsimp only;unfold Tr.get0;rw[d,c];exact this
theorem Tr.put0_ne:∀(t:Tr) (n m:Nat) (x:AO),(t.has n∨∀i,i<n->t.has i)->m≠n->(t.put0 n x).get0 m=t.get0 m
 | .lf,n,m,x,h,g=>by
  have:n=0:=by
   rcases h with h | h
   ·exact h.elim
   ·cases n with
    | zero=>rfl
    | succ n=>exact(h 0<|YB _).elim
  subst this;show(Tr.nd .lf x .lf).get0 m=none;unfold Tr.get0;have d:Qn m 0=false:=by rw[gE];simp[g]
  rw[d];dsimp only;split<;>rfl
 | .nd l o r,n,m,x,h,g=>by
  by_cases h0:n=0
  ·subst h0;have d:Qn m 0=false:=by rw[gE];simp[g]
   show(Tr.nd l x r).get0 m=_;unfold Tr.get0;rw[d]
  ·have d:Qn n 0=false:=by rw[gE];simp[h0]
   by_cases h1:n%2=1
   ·have q:Qn (n%2) 1=true:=by rw[gE];simp[h1]
    have j:l.has (n / 2)∨∀i,i<n / 2->l.has i:=by
     rcases h with h | h
     ·left;unfold Tr.has at h;simpa[h0,h1] using h
     ·right;intro i u;have:=h (2*i+1) (by omega);unfold Tr.has at this;have z:(2*i+1) / 2=i:=by omega
      have f:(2*i+1)%2=1:=by omega
      simpa[z,f] using this
    conv=>lhs;unfold Tr.put0
    rw[d,q];dsimp only;by_cases m0:m=0
    ·subst m0;rfl
    ·have p:Qn m 0=false:=by rw[gE];simp[m0]
     unfold Tr.get0;rw[p];dsimp only;by_cases m1:m%2=1
     ·have c:Qn (m%2) 1=true:=by rw[gE];simp[m1]
      rw[c];exact Tr.put0_ne l (n / 2) (m / 2) x j (by omega)
     ·have c:Qn (m%2) 1=false:=by rw[gE];simp[m1]
      rw[c]
   ·have q:Qn (n%2) 1=false:=by rw[gE];simp[h1]
    have j:r.has (n / 2 - 1)∨∀i,i<n / 2 - 1->r.has i:=by
     rcases h with h | h
     ·left;unfold Tr.has at h;simpa[h0,h1] using h
     ·right;intro i u;have:=h (2*i+2) (by omega);unfold Tr.has at this;have z:(2*i+2) / 2 - 1=i:=by omega
      have f:¬(2*i+2)%2=1:=by omega
      simpa[z,f] using this
    conv=>lhs;unfold Tr.put0
    rw[d,q];dsimp only;by_cases m0:m=0
    ·subst m0;rfl
    ·have p:Qn m 0=false:=by rw[gE];simp[m0]
     unfold Tr.get0;rw[p];dsimp only;by_cases m1:m%2=1
     ·have c:Qn (m%2) 1=true:=by rw[gE];simp[m1]
      rw[c]
     ·have c:Qn (m%2) 1=false:=by rw[gE];simp[m1]
      rw[c];exact Tr.put0_ne r (n / 2 - 1) (m / 2 - 1) x j (by omega)
theorem Tr.has_of_get0:∀(t:Tr) (n:Nat) (o:AO),t.get0 n=some o->t.has n
 | .lf,_,_,h=>by cases h
 | .nd l o r,n,x,h=>by
  unfold Tr.get0 at h;rw[gE,gE] at h;unfold Tr.has;by_cases h0:n=0
  ·simp[h0]
  ·by_cases h1:n%2=1
   ·simp only[h0,h1,if_false,if_true,decide_true,decide_false] at h ⊢;exact Tr.has_of_get0 l _ _ h
   ·simp only[h0,h1,if_false,decide_false] at h ⊢;exact Tr.has_of_get0 r _ _ h
def Tr.get(t:Tr):Nat->Option AO:=Tr.rec (motive:=λ_=>Nat->Option AO) (λ_=>none) (λ_ o _ d c n=>VO (motive:=λ_=>Option AO) (VO (motive:=λ_=>Option AO) (c<|Nat.sub (ad2 n 2) 1) (d<|ad2 n 2)<|Qn (Nat.mod n 2) 1) (some o) (Qn n 0)) t
def Tr.put(t:Tr):Nat->AO->Tr:=Tr.rec (motive:=λ_=>Nat->AO->Tr) (λ_ x=>.nd .lf x .lf) (λl o r pl pr n x=>VO (motive:=λ_=>Tr) (VO (motive:=λ_=>Tr) (.nd l o<|pr (Nat.sub (ad2 n 2) 1) x) (.nd (pl (ad2 n 2) x) o r)<|Qn (Nat.mod n 2) 1) (.nd l x r) (Qn n 0)) t
theorem Tr.get_eq:∀(t:Tr) (n:Nat),t.get n=t.get0 n
 | .lf,_=>rfl
 | .nd l o r,n=>by
  have hl:=Tr.get_eq l (n / 2);have hr:=Tr.get_eq r (n / 2 - 1);unfold Tr.get0;rw[<-hl,<-hr];show VO (motive:=λ_=>Option AO) (VO (motive:=λ_=>Option AO) (r.get<|n / 2 - 1) (l.get<|n / 2)<|Qn (n%2) 1) (some o) (Qn n 0)=_;cases Qn n 0<;>cases Qn (n%2) 1<;>rfl
theorem Tr.put_eq:∀(t:Tr) (n:Nat) (x:AO),t.put n x=t.put0 n x
 | .lf,_,_=>rfl
 | .nd l o r,n,x=>by
  have hl:=Tr.put_eq l (n / 2) x;have hr:=Tr.put_eq r (n / 2 - 1) x;unfold Tr.put0;rw[<-hl,<-hr];show VO (motive:=λ_=>Tr) (VO (motive:=λ_=>Tr) (.nd l o<|r.put (n / 2 - 1) x) (.nd (l.put (n / 2) x) o r)<|Qn (n%2) 1) (.nd l x r) (Qn n 0)=_;cases Qn n 0<;>cases Qn (n%2) 1<;>rfl
theorem Tr.put_same(t:Tr)(n:Nat)(x:AO)(h:t.has n∨∀i,i<n->t.has i):(t.put n x).get n=some x:=by rw[Tr.get_eq,Tr.put_eq];exact Tr.put0_same t n x h
theorem Tr.put_ne(t:Tr)(n m:Nat)(x:AO)(h:t.has n∨∀i,i<n->t.has i)(c:m≠n):(t.put n x).get m=t.get m:=by rw[Tr.get_eq,Tr.get_eq,Tr.put_eq];exact Tr.put0_ne t n m x h c
theorem Tr.has_of_get(t:Tr)(n:Nat)(o:AO)(h:t.get n=some o):t.has n:=by rw[Tr.get_eq] at h;exact Tr.has_of_get0 t n o h
end RB
namespace L2
open PySem PySem.Spec PyProof.Rows
def iX(H:Hp)(P:P3)(qual:Str):Prop :=
 ∃ps,H P=some (.tbl ps)/\TriplesOk ps.toList/\∀pos c,Ut pos ps.toList=some c->∃c',c=.ref c'/\H c'=some (fZ c' qual)
end L2
namespace RB
open PySem L2
def bd:List Str:=[P4 "a",P4 "again",P4 "alone",P4 "ask",P4 "asks",P4 "asleep",P4 "attach",P4 "awake",P4 "b",P4 "back",P4 "bad kind",P4 "bad mode",P4 "bad stretch",P4 "begin",P4 "blocker",P4 "both",P4 "c",P4 "cancel",P4 "cancelled",P4 "changes",P4 "close",P4 "count",P4 "deeds",P4 "do",P4 "drop",P4 "dup",P4 "end",P4 "ended",P4 "ending",P4 "fair",P4 "file",P4 "files",P4 "fork",P4 "fresh",P4 "future",P4 "given",P4 "granted",P4 "handles",P4 "held",P4 "is wrong",P4 "is_asleep",P4 "leads",P4 "lock",P4 "lock_whole",P4 "locks",P4 "mark",P4 "no ask",P4 "no back",P4 "no file",P4 "no handle",P4 "no mark",P4 "no task",P4 "no text",P4 "odd",P4 "opened",P4 "outcome",P4 "outcomes",P4 "past",P4 "perform",P4 "probe",P4 "put",P4 "read",P4 "rests",P4 "shared",P4 "stuck",P4 "tables",P4 "task",P4 "tasks",P4 "told",P4 "undo_to",P4 "undone",P4 "unlock",P4 "unlock_whole",P4 "waiting",P4 "waits",P4 "whole",P4 "whole_locks",P4 "why",P4 "write",P4 "zz"]
theorem uK:bd.Nodup:=by decide +kernel
theorem jQ{c:Type}{xs:List c}(h:xs.Nodup){i j:Nat}{x:c}(h1:xs[i]?=some x)(g:xs[j]?=some x):i=j:=by
 obtain⟨a,f⟩:=P9.mp h1;obtain⟨b,d⟩:=P9.mp g;have p:=List.pairwise_iff_getElem.mp h;rcases Nat.lt_trichotomy i j with q | q | q
 ·exact absurd (f.trans d.symm) (p i j a b q)
 ·exact q
 ·exact absurd (d.trans f.symm) (p j i b a q)
theorem dU{i j:Nat}{x:Str}(h1:bd[i]?=some x)(c:bd[j]?=some x):i=j:=by
 exact jQ uK h1 c
def kU:List Nat:=[31,29,35,41,54,38,75,73,5,56,19,65,57,34]
structure Fx where
 ext:Nat->V
 own:P3->Prop
 J:Hp->Prop
 st:∀H H',J H->(∀b o,(own b∨∃φ,o=.ext φ)->H b=some o->H' b=some o)->J H'
structure Gy where
 cl:Nat->P3
 /-- the own errors' classes;the defs that are met as values -/
 xc:Nat->P3
 fe:Nat->P3
 /-- the code ac2 that a lambda's code comes into,where the lambda stands,its name -/
 tT:P3
 tP:Pos
 tQ:Str
 /-- .. and of the defs whose lambdas keep names -/
 tl:Nat->P3
 tq:Nat->Str
 /-- what a law knows of what is fixed from its fw on -/
 dr:Fx->Prop
structure Gx extends Gy where
 E:XK
section
variable(F:Fx)(y:Option Int)(ρ:List P3)(H:Hp)
def jY:AV->(V->Prop)×(List V->Prop)
 | .non=>(λv=>v=.non,λ_=>False)
 | .bl b=>(λv=>v=.bl b,λ_=>False)
 | .int false lo hi=>(λv=>∃z,v=.int z/\lo≤z/\z≤hi,λ_=>False)
 | .int true lo hi=>(λv=>∃x z,y=some x/\v=.int z/\x+lo≤z/\z≤x+hi,λ_=>False)
 | .str i=>(λv=>∃x,bd[i]?=some x/\v=.str x,λ_=>False)
 | .ref n=>(λv=>∃a,ρ[n]?=some a/\v=.ref a,λ_=>False)
 | .ext i=>(λv=>v=F.ext i,λ_=>False)
 | .tn=>(λv=>∃a,v=.ref a/\H a=some (.tup []),λc=>c=[])
 | .tc h t=>(λv=>∃a w c,v=.ref a/\H a=some (.tup (w::c))/\(jY h).1 w/\(jY t).2 c,λc=>∃w r,c=w::r/\(jY h).1 w/\(jY t).2 r)
abbrev aT(av:AV)(v:V):Prop:=(jY F y ρ H av).1 v
abbrev rM(av:AV)(vs:List V):Prop:=(jY F y ρ H av).2 vs
abbrev aQ:List AV->List V->Prop:=Paired (aT F y ρ H)
def fQ:Option AV->Option V->Prop
 | none,_=>True
 | some a,some v=>aT F y ρ H a v
 | _,_=>False
abbrev gp:List (Option AV)->St->Prop:=Paired (fQ F y ρ H)
def gF:AV->bj->Prop
 | .int false lo c,k=>lo=c/\k=.inl lo
 | .str i,k=>∃x,bd[i]?=some x/\k=.inr x
 | _,_=>False
def gM:AV->List bj->Prop
 | .tn,ks=>ks=[]
 | .tc h t,ks=>∃k r,ks=k::r/\gF h k/\gM t r
 | _,_=>False
def d8(g:Gx):AO->HO->Prop
 | .lst xs,o=>∃vs,o=.lst vs/\aQ F y ρ H xs vs
 | .dk kvs,o=>∃ks,o=.dK ks/\Paired (λp q=>gF p.1 q.1/\aT F y ρ H p.2 q.2) kvs ks
 | .dt kvs,o=>∃ks,o=.dT ks/\Paired (λp q=>gM p.1 q.1/\aT F y ρ H p.2 q.2) kvs ks
 | .ins c fs,o=>∃f d,(c<2/\o=.ins (g.cl c) f d/\∀p∈fs,p.1∈kU)/\Paired (λp q=>bd[p.1]?=some q.1/\aT F y ρ H p.2 q.2) fs d
 | .fz a,o=>∃ob u,o=.frz ob u/\d8 g a u
end
structure GK(g:Gx)(F:Fx):Prop where
 dr:g.dr F
 own:F.own g.tT
 lam:∀H,F.J H->lN H g.tT g.tP g.tQ
 re:∀H H',F.J H->lN H' g.tT g.tP g.tQ->(∀b o,b≠g.tT->H b=some o->H' b=some o)->F.J H'
 ownL:∀i,i<3->F.own (g.tl i)
 lamL:∀i,i<3->∀H,F.J H->iX H (g.tl i) (g.tq i)
 reL:∀i,i<3->∀H H',F.J H->iX H' (g.tl i) (g.tq i)->(∀b o,b≠g.tl i->H b=some o->H' b=some o)->F.J H'
structure aI(g:Gx)(F:Fx)(y:Option Int)(ρ:List P3)(S:aM)(H:Hp):Prop where
 n:S.n=ρ.length
 sym:S.sym=y.isSome
 pos:∀x,y=some x->1≤x
 nd:ρ.Nodup
 at_:∀i a,ρ[i]?=some a->∃o ho,S.t.get i=some o/\H a=some ho/\d8 F y ρ H g o ho
 own:∀a∈ρ,¬F.own a
 fe:∀i,i<11->F.ext i=.ref (g.fe i)
 ol:∀b,F.own b->H b≠none
 J:F.J H
 fl:GK g F
structure aB(F:Fx)(y:Option Int)(ρ:List P3)(H:Hp)(y':Option Int)(ρ':List P3)(H':Hp):Prop where
 y:∀x,y=some x->y'=some x
 pre:∃r,ρ'=ρ++r
 new:∀a∈ρ',a∈ρ∨H a=none
 keep:∀b o,H b=some o->b∉ρ->¬F.own b->H' b=some o
 tup:∀b vs,H b=some (.tup vs)->H' b=some (.tup vs)
 live:∀b,H' b=none->H b=none
 frz:∀b o u,H b=some (.frz o u)->H' b=some (.frz o u)
section
variable{g:Gx}{F:Fx}{y y1 y2:Option Int}{ρ ρ1 ρ2:List P3}{H H1 H2:Hp}{S S1:aM}
theorem aB.refl:aB F y ρ H y ρ H:=⟨λ_ h=>h,⟨[],by simp⟩,λ_ h=>.inl h,λ_ _ h _ _=>h,λ_ _ h=>h,λ_ h=>h,λ_ _ _ h=>h⟩
theorem aB.trans(a:aB F y ρ H y1 ρ1 H1)(b:aB F y1 ρ1 H1 y2 ρ2 H2):aB F y ρ H y2 ρ2 H2:=by
 refine⟨λx h=>b.y x (a.y x h),?_,λc d=>?_,λc o h n w=>?_,λc vs h=>b.tup c vs (a.tup c vs h),λc h=>a.live c (b.live c h),λc o u h=>b.frz c o u (a.frz c o u h)⟩
 ·obtain⟨r,rfl⟩:=a.pre;obtain⟨r',rfl⟩:=b.pre;exact⟨r++r',by simp⟩
 ·rcases b.new c d with h | h
  ·exact a.new c h
  ·exact .inr (a.live c h)
 ·refine b.keep c o (a.keep c o h n w) (λm=>?_) w;rcases a.new c m with h' | h'
  ·exact n h'
  ·rw[h'] at h;cases h
structure gN(F:Fx)(y:Option Int)(ρ:List P3)(H:Hp)(y':Option Int)(ρ':List P3)(H':Hp):Prop where
 y:∀x,y=some x->y'=some x
 pre:∃r,ρ'=ρ++r
 new:∀a∈ρ',a∈ρ∨H a=none
 keep:∀b o,H b=some o->b∉ρ->¬F.own b->H' b=some o
 tup:∀b vs,H b=some (.tup vs)->H' b=some (.tup vs)
 live:∀b,H' b=none->H b=none
theorem aB.to0(a:aB F y ρ H y1 ρ1 H1):gN F y ρ H y1 ρ1 H1:=⟨a.y,a.pre,a.new,a.keep,a.tup,a.live⟩
theorem gN.trans(a:gN F y ρ H y1 ρ1 H1)(b:gN F y1 ρ1 H1 y2 ρ2 H2):gN F y ρ H y2 ρ2 H2:=by
 refine⟨λx h=>b.y x (a.y x h),?_,λc d=>?_,λc o h n w=>?_,λc vs h=>b.tup c vs (a.tup c vs h),λc h=>a.live c (b.live c h)⟩
 ·obtain⟨r,rfl⟩:=a.pre;obtain⟨r',rfl⟩:=b.pre;exact⟨r++r',by simp⟩
 ·rcases b.new c d with h | h
  ·exact a.new c h
  ·exact .inr (a.live c h)
 ·refine b.keep c o (a.keep c o h n w) (λm=>?_) w;rcases a.new c m with h' | h'
  ·exact n h'
  ·rw[h'] at h;cases h
theorem aB.mem(a:aB F y ρ H y1 ρ1 H1){i:Nat}{c:P3}(h:ρ[i]?=some c):ρ1[i]?=some c:=by
 obtain⟨r,rfl⟩:=a.pre;obtain⟨d,e⟩:=P9.mp h;rw[RG d];exact h
structure Mo(y:Option Int)(ρ:List P3)(H:Hp)(y':Option Int)(ρ':List P3)(H':Hp):Prop where
 y:∀x,y=some x->y'=some x
 mem:∀{i:Nat} {c:P3},ρ[i]?=some c->ρ'[i]?=some c
 tup:∀b vs,H b=some (.tup vs)->H' b=some (.tup vs)
theorem aB.mo(a:aB F y ρ H y1 ρ1 H1):Mo y ρ H y1 ρ1 H1:=⟨a.y,λh=>a.mem h,a.tup⟩
theorem jY.mono(a:Mo y ρ H y1 ρ1 H1):∀av:AV,(∀v,(jY F y ρ H av).1 v->(jY F y1 ρ1 H1 av).1 v)/\∀vs,(jY F y ρ H av).2 vs->(jY F y1 ρ1 H1 av).2 vs
 | .non=>⟨λ_ h=>h,λ_ h=>h⟩
 | .bl _=>⟨λ_ h=>h,λ_ h=>h⟩
 | .int false _ _=>⟨λ_ h=>h,λ_ h=>h⟩
 | .int true _ _=>⟨λ_ ⟨x,z,h1,d⟩=>⟨x,z,a.y x h1,d⟩,λ_ h=>h⟩
 | .str _=>⟨λ_ h=>h,λ_ h=>h⟩
 | .ref n=>⟨λ_ ⟨c,h1,d⟩=>⟨c,a.mem h1,d⟩,λ_ h=>h⟩
 | .ext _=>⟨λ_ h=>h,λ_ h=>h⟩
 | .tn=>⟨λ_ ⟨c,h1,d⟩=>⟨c,h1,a.tup _ _ d⟩,λ_ h=>h⟩
 | .tc h t=>⟨λ_ ⟨c,w,i,h1,d,f,j⟩=>⟨c,w,i,h1,a.tup _ _ d,(jY.mono a h).1 _ f,(jY.mono a t).2 _ j⟩,λ_ ⟨w,r,h1,d,f⟩=>⟨w,r,h1,(jY.mono a h).1 _ d,(jY.mono a t).2 _ f⟩⟩
theorem aT.monoM(a:Mo y ρ H y1 ρ1 H1){av:AV}{v:V}(h:aT F y ρ H av v):aT F y1 ρ1 H1 av v:=(jY.mono a av).1 v h
theorem aT.mono(a:aB F y ρ H y1 ρ1 H1){av:AV}{v:V}(h:aT F y ρ H av v):aT F y1 ρ1 H1 av v:=aT.monoM a.mo h
theorem aV{d c:Type}{R f:d->c->Prop}(h:∀a b,R a b->f a b){xs:List d}{ys:List c}(p:Paired R xs ys):Paired f xs ys:=Paired.mapP p h
theorem aQ.mono(a:aB F y ρ H y1 ρ1 H1){xs:List AV}(h:aQ F y ρ H xs vs):aQ F y1 ρ1 H1 xs vs:=aV (λ_ _=>aT.mono a) h
theorem fQ.mono(a:aB F y ρ H y1 ρ1 H1){x:Option AV}{v:Option V}(h:fQ F y ρ H x v):fQ F y1 ρ1 H1 x v:=by
 cases x with
 | none=>trivial
 | some x=>cases v with
  | none=>exact h
  | some v=>exact aT.mono a (av:=x) h
theorem gp.mono(a:aB F y ρ H y1 ρ1 H1){xs:List (Option AV)}{vs:St}(h:gp F y ρ H xs vs):gp F y1 ρ1 H1 xs vs:=aV (λ_ _=>fQ.mono a) h
def OP(F:Fx)(y:Option Int)(ρ:List P3)(H:Hp)(av:AV):Option P3->Prop
 | none=>av=.non
 | some c=>∃v,H c=some (.xd [("blocker",v)])/\aT F y ρ H av v
abbrev KE:=Nat->AV->aM->Bool
def lO(g:Gx)(F:Fx)(y:Option Int)(ρ:List P3)(H:Hp)(ke:KE):Prop :=
 ∀i f j h c av d,gN F y ρ H i f h->aI g F i f j h->OP F i f h av d->ke c av j=true->g.E (.ref<|g.xc c) d h
theorem lO.mono0{ke:KE}(p:lO g F y ρ H ke)(a:gN F y ρ H y1 ρ1 H1):lO g F y1 ρ1 H1 ke:=λh f i j c av d b=>p h f i j c av d (a.trans b)
theorem lO.mono{ke:KE}(p:lO g F y ρ H ke)(a:aB F y ρ H y1 ρ1 H1):lO g F y1 ρ1 H1 ke:=p.mono0 a.to0
structure dJ where
 v:List (Option AV)
 ke:KE
structure bF(g:Gx)(F:Fx)(y:Option Int)(ρ:List P3)(H:Hp)(σa:dJ)(σ:St):Prop where
 v:gp F y ρ H σa.v σ
 e:lO g F y ρ H σa.ke
theorem bF.mono(a:aB F y ρ H y1 ρ1 H1){xs:dJ}{vs:St}(h:bF g F y ρ H xs vs):bF g F y1 ρ1 H1 xs vs:=⟨gp.mono a h.v,h.e.mono a⟩
theorem d8.monoM(a:Mo y ρ H y1 ρ1 H1):∀{o:AO} {ho:HO},d8 F y ρ H g o ho->d8 F y1 ρ1 H1 g o ho:=by
 intro o ho h;cases o with
 | lst xs=>obtain⟨vs,e,h⟩:=h;exact⟨vs,e,aV (λ_ _=>aT.monoM a) h⟩
 | dk kvs=>obtain⟨vs,e,h⟩:=h;exact⟨vs,e,aV (λ_ _ q=>⟨q.1,aT.monoM a q.2⟩) h⟩
 | dt kvs=>obtain⟨vs,e,h⟩:=h;exact⟨vs,e,aV (λ_ _ q=>⟨q.1,aT.monoM a q.2⟩) h⟩
 | ins c fs=>obtain⟨d,vs,e,h⟩:=h;exact⟨d,vs,e,aV (λ_ _ q=>⟨q.1,aT.monoM a q.2⟩) h⟩
 | fz o=>obtain⟨ob,u,e,h⟩:=h;exact⟨ob,u,e,d8.monoM a h⟩
theorem d8.mono(a:aB F y ρ H y1 ρ1 H1){o:AO}{ho:HO}(h:d8 F y ρ H g o ho):d8 F y1 ρ1 H1 g o ho:=d8.monoM a.mo h
def chain:List AV->AV
 | []=>.tn
 | x::r=>.tc x (chain r)
def wp:AV->Option (List AV)
 | .tn=>some []
 | .tc h t=>match wp t with
  | some r=>some (h::r)
  | none=>none
 | _=>none
theorem gq:∀{t:AV} {xs:List AV},wp t=some xs->t=chain xs
 | .tn,xs,h=>by cases h;rfl
 | .tc a t,xs,h=>by
  unfold wp at h;cases e:wp t with
  | none=>rw[e] at h;cases h
  | some r=>rw[e] at h;cases h;rw[gq e];rfl
 | .non,_,h=>by cases h
 | .bl _,_,h=>by cases h
 | .int _ _ _,_,h=>by cases h
 | .str _,_,h=>by cases h
 | .ref _,_,h=>by cases h
 | .ext _,_,h=>by cases h
theorem oU:∀{xs:List AV} {vs:List V},aQ F y ρ H xs vs->rM F y ρ H (chain xs) vs
 | _,_,.nil=>rfl
 | _,_,.cons r t=>⟨_,_,rfl,r,oU t⟩
theorem mJ:∀{xs:List AV} {vs:List V},rM F y ρ H (chain xs) vs->aQ F y ρ H xs vs
 | [],_,h=>by cases h;exact .nil
 | x::r,_,⟨w,d,e,h1,c⟩=>by subst e;exact .cons h1 (mJ c)
theorem aT.chain_of{xs:List AV}{v:V}(h:aT F y ρ H (chain xs) v):∃a vs,v=.ref a/\H a=some (.tup vs)/\aQ F y ρ H xs vs:=by
 cases xs with
 | nil=>obtain⟨a,e,h⟩:=h;exact⟨a,[],e,h,.nil⟩
 | cons x r=>obtain⟨a,w,c,e,h,h1,d⟩:=h;exact⟨a,w::c,e,h,.cons h1<|mJ d⟩
theorem aT.chain{xs:List AV}{a:P3}(h:H a=some (.tup vs))(r:aQ F y ρ H xs vs):aT F y ρ H (RB.chain xs) (.ref a):=by
 cases r with
 | nil=>exact⟨a,rfl,h⟩
 | cons r t=>exact⟨a,_,_,rfl,h,r,oU t⟩
theorem aI.live(C:aI g F y ρ S H){a:P3}(h:a∈ρ):∃ho,H a=some ho/\∀vs,ho≠.tup vs:=by
 obtain⟨i,e⟩:=Vc h;obtain⟨o,ho,_,d,c⟩:=C.at_ i a e;refine⟨ho,d,λvs z=>?_⟩;subst z;cases o with
 | lst _=>obtain⟨_,e,_⟩:=c;cases e
 | dk _=>obtain⟨_,e,_⟩:=c;cases e
 | dt _=>obtain⟨_,e,_⟩:=c;cases e
 | ins _ _=>obtain⟨_,_,⟨_,e,_⟩,_⟩:=c;cases e
 | fz _=>obtain⟨_,_,e,_⟩:=c;cases e
theorem aI.notExt(C:aI g F y ρ S H){a:P3}{u:HO}(h:a∈ρ)(e:H a=some u)(w:F.own a∨∃d,u=.ext d):False:=by
 rcases w with w | ⟨d,w⟩
 ·exact C.own a h w
 ·subst w;obtain⟨i,j⟩:=Vc h;obtain⟨o,ho,_,f,c⟩:=C.at_ i a j;rw[e] at f;cases f;cases o with
  | lst _=>obtain⟨_,e,_⟩:=c;cases e
  | dk _=>obtain⟨_,e,_⟩:=c;cases e
  | dt _=>obtain⟨_,e,_⟩:=c;cases e
  | ins _ _=>obtain⟨_,_,⟨_,e,_⟩,_⟩:=c;cases e
  | fz _=>obtain⟨_,_,e,_⟩:=c;cases e
theorem aI.fresh(C:aI g F y ρ S H){p:P3}(h:H p=none):p∉ρ:=λm=>by
 obtain⟨ho,e,_⟩:=C.live m;rw[h] at e;cases e
theorem aI.has(C:aI g F y ρ S H){i:Nat}(c:i<S.n):S.t.has i:=by
 rw[C.n] at c;obtain⟨o,_,e,_⟩:=C.at_ i ρ[i] (by simp[c]);exact Tr.has_of_get _ _ _ e
theorem aB.lay{p:P3}{o:HO}(h:H p=none):aB F y ρ H y ρ (upd H p o):=by
 have ne:∀b u,H b=some u->b≠p:=λb u e z=>by subst z;rw[h] at e;cases e
 refine⟨λ_ h=>h,⟨[],by simp⟩,λ_ h=>.inl h,λb u e _ _=>?_,λb vs e=>?_,λb e=>?_,λb o u e=>?_⟩
 ·rw[al (ne b u e)];exact e
 ·rw[al (ne b _ e)];exact e
 ·by_cases z:b=p
  ·rw[z];exact h
  ·rw[al z] at e;exact e
 ·rw[al (ne b _ e)];exact e
theorem aI.step(C:aI g F y ρ S H)(a:aB F y ρ H y ρ H1)(k:∀b∈ρ,H1 b=H b)(j:F.J H1):aI g F y ρ S H1:=by
 refine⟨C.n,C.sym,C.pos,C.nd,λi c e=>?_,C.own,C.fe,λb w e=>C.ol b w (a.live b e),j,C.fl⟩;obtain⟨o,ho,h1,f,d⟩:=C.at_ i c e;exact⟨o,ho,h1,by rw[k c (QB e)];exact f,d8.mono a d⟩
theorem aI.lay(C:aI g F y ρ S H){p:P3}{o:HO}(h:H p=none):aI g F y ρ S (upd H p o):=by
 refine C.step (aB.lay h) (λb hb=>al λz=>C.fresh h (z▸hb)) (F.st _ _ C.J λb u _ e=>?_);have:b≠p:=λz=>by subst z;rw[h] at e;cases e
 rw[al this];exact e
def aM.add(S:aM)(o:AO):aM:=⟨S.n+1,S.sym,S.t.put S.n o⟩
theorem aB.add{p:P3}{o:HO}(h:H p=none):aB F y ρ H y (ρ++[p]) (upd H p o):=by
 have a:aB F y ρ H y ρ (upd H p o):=aB.lay h;refine⟨a.y,⟨[p],rfl⟩,λc d=>?_,a.keep,a.tup,a.live,a.frz⟩;rcases Rc.mp d with h' | h'
 ·exact .inl h'
 ·rw[Rj.mp h'];exact .inr h
theorem aI.add(C:aI g F y ρ S H){p:P3}{o:AO}{ho:HO}(h:H p=none)(ob:d8 F y (ρ++[p]) (upd H p ho) g o ho):aI g F y (ρ++[p]) (S.add o) (upd H p ho):=by
 have m:=C.fresh h;have st:aB F y ρ H y (ρ++[p]) (upd H p ho):=aB.add h;have d:S.t.has S.n∨∀i,i<S.n->S.t.has i:=.inr λi l=>C.has l;refine⟨by simp[aM.add,C.n],C.sym,C.pos,?_,λi c e=>?_,λc x=>?_,C.fe,λb w e=>C.ol b w (st.live b e),F.st _ _ C.J λb u _ e=>?_,C.fl⟩
 ·rw[YC];exact⟨C.nd,by simp,λa I b hb e=>by rw[Rj.mp hb] at e;exact m (e▸I)⟩
 ·by_cases l:i<ρ.length
  ·have q:ρ[i]?=some c:=by rw[RG l] at e;exact e
   obtain⟨r,f,h1,O,L⟩:=C.at_ i c q;refine⟨r,f,?_,?_,d8.mono st L⟩
   ·show(S.t.put S.n o).get i=_;rw[Tr.put_ne _ _ _ _ d (by rw[C.n];omega)];exact h1
   ·rw[al λz=>m (by rw[<-z];exact QB q)];exact O
  ·have j:i=ρ.length:=by
    have:=(P9.mp e).1;simp at this;omega
   subst j;have:c=p:=by simpa using e.symm
   subst this;refine⟨o,ho,?_,aA,ob⟩;show(S.t.put S.n o).get ρ.length=_;rw[<-C.n];exact Tr.put_same _ _ _ d
 ·rcases Rc.mp x with h' | h'
  ·exact C.own c h'
  ·rw[Rj.mp h'];exact λw=>C.ol p w h
 ·have:b≠p:=λz=>by subst z;rw[h] at e;cases e
  rw[al this];exact e
def aM.set(S:aM)(i:Nat)(o:AO):aM:=⟨S.n,S.sym,S.t.put i o⟩
theorem aB.set(C:aI g F y ρ S H){i:Nat}{a:P3}{o ho:HO}(h:ρ[i]?=some a)(d:H a=some ho)(j:∀o u,ho≠.frz o u:=by intro _ _ z;cases z):aB F y ρ H y ρ (upd H a o):=by
 have m:=QB h;obtain⟨l,c,f⟩:=C.live m;rw[d] at c;cases c;refine⟨λ_ h=>h,⟨[],by simp⟩,λ_ h=>.inl h,λb u e n _=>?_,λb vs e=>?_,λb e=>?_,λb o u e=>?_⟩
 ·rw[al λz=>n (by rw[z];exact m)];exact e
 ·have:b≠a:=λz=>by
   subst z;rw[d] at e;cases e;exact f vs rfl
  rw[al this];exact e
 ·by_cases z:b=a
  ·subst z;rw[aA] at e;cases e
  ·rw[al z] at e;exact e
 ·have:b≠a:=λz=>by
   subst z;rw[d] at e;cases e;exact j _ _ rfl
  rw[al this];exact e
theorem aI.set(C:aI g F y ρ S H){i:Nat}{a:P3}{o:AO}{ho f:HO}(h:ρ[i]?=some a)(L:H a=some f)(q:∀o u,f≠.frz o u:=by intro _ _ z;cases z)(ob:d8 F y ρ (upd H a ho) g o ho):aI g F y ρ (S.set i o) (upd H a ho):=by
 have m:=QB h;have st:aB F y ρ H y ρ (upd H a ho):=aB.set C h L q;have r:i<S.n:=by rw[C.n];exact(P9.mp h).1
 have d:S.t.has i∨∀j,j<i->S.t.has j:=.inl (C.has r);refine⟨C.n,C.sym,C.pos,C.nd,λj c e=>?_,C.own,C.fe,λb w e=>C.ol b w (st.live b e),F.st _ _ C.J λb u w e=>?_,C.fl⟩
 ·by_cases z:j=i
  ·subst z;rw[h] at e;cases e;exact⟨o,ho,Tr.put_same _ _ _ d,aA,ob⟩
  ·obtain⟨p,l,h1,I,x⟩:=C.at_ j c e;refine⟨p,l,?_,?_,d8.mono st x⟩
   ·show(S.t.put i o).get j=_;rw[Tr.put_ne _ _ _ _ d z];exact h1
   ·rw[al]
    ·exact I
    ·intro w;subst w;exact z (jQ C.nd e h)
 ·rw[al λz=>by subst z;exact C.notExt m e w];exact e
theorem aB.thaw(st:aB F y ρ H y1 ρ1 H1){a:P3}{u:HO}(h:a∈ρ)(c:H a=some u)(d:∀vs,u≠.tup vs)(f:∀o w,u≠.frz o w):aB F y ρ H y1 ρ1 (upd H1 a u):=by
 refine⟨st.y,st.pre,st.new,λb o e n w=>?_,λb vs e=>?_,λb e=>?_,λb o w e=>?_⟩
 ·rw[al λz=>n (by rw[z];exact h)];exact st.keep b o e n w
 ·rw[al λz=>by rw[z,c] at e;exact d vs (Qu e)];exact st.tup b vs e
 ·by_cases z:b=a
  ·subst z;rw[aA] at e;cases e
  ·rw[al z] at e;exact st.live b e
 ·rw[al λz=>by rw[z,c] at e;exact f o w (Qu e)];exact st.frz b o w e
theorem aI.thaw(C:aI g F y ρ S H){n:Nat}{a:P3}{ob:Obj}{u:HO}{o:AO}(h:ρ[n]?=some a)(e:H a=some (.frz ob u))(q:S.t.get n=some (.fz o)):aI g F y ρ (S.set n o) (upd H a u):=by
 have m:=QB h;have mo:Mo y ρ H y ρ (upd H a u):=⟨λ_ h=>h,λh=>h,λb vs q=>by rw[al λz=>by rw[z,e] at q;cases q];exact q⟩
 have I:n<S.n:=by rw[C.n];exact(P9.mp h).1
 have f:S.t.has n∨∀j,j<n->S.t.has j:=.inl (C.has I);refine⟨C.n,C.sym,C.pos,C.nd,λj c d=>?_,C.own,C.fe,λb w d=>?_,F.st _ _ C.J λb u w d=>?_,C.fl⟩
 ·by_cases z:j=n
  ·subst z;rw[h] at d;cases d;obtain⟨r,i,h1,l,p⟩:=C.at_ j a h;rw[q] at h1;cases h1;rw[e] at l;cases l;obtain⟨x,Q,O,L⟩:=p;cases O;exact⟨o,u,Tr.put_same _ _ _ f,aA,d8.monoM mo L⟩
  ·obtain⟨r,i,h1,l,p⟩:=C.at_ j c d;refine⟨r,i,?_,?_,d8.monoM mo p⟩
   ·show(S.t.put n o).get j=_;rw[Tr.put_ne _ _ _ _ f z];exact h1
   ·rw[al]
    ·exact l
    ·intro w;subst w;exact z (jQ C.nd d h)
 ·by_cases z:b=a
  ·subst z;rw[aA] at d;cases d
  ·rw[al z] at d;exact C.ol b w d
 ·rw[al λz=>by subst z;exact C.notExt m d w];exact d
def gG(g:Gx)(F:Fx)(y:Option Int)(ρ:List P3)(H:Hp)(k:AV->aM->Bool)(Q:VK):Prop :=
 ∀f c h d av v,aB F y ρ H f c d->aI g F f c h d->aT F f c d av v->k av h=true->Q v d
def sW(g:Gx)(F:Fx)(y:Option Int)(ρ:List P3)(H:Hp)(k:Bool->aM->Bool)(Q:Bool->Hp->Prop):Prop :=
 ∀f c h d b,aB F y ρ H f c d->aI g F f c h d->k b h=true->Q b d
def MM(g:Gx)(F:Fx)(y:Option Int)(ρ:List P3)(H:Hp)(k:List AV->aM->Bool)(Q:List V->Hp->Prop):Prop :=
 ∀f c h d av v,aB F y ρ H f c d->aI g F f c h d->aQ F f c d av v->k av h=true->Q v d
def lP(g:Gx)(F:Fx)(y:Option Int)(ρ:List P3)(H:Hp)(k:dJ->aM->Bool)(Q:St->Hp->Prop):Prop :=
 ∀h c i f d σ,aB F y ρ H h c f->aI g F h c i f->bF g F h c f d σ->k d i=true->Q σ f
theorem gG.mono{k:AV->aM->Bool}{Q:VK}(p:gG g F y ρ H k Q)(a:aB F y ρ H y1 ρ1 H1):gG g F y1 ρ1 H1 k Q:=λd c f h av v b=>p d c f h av v (a.trans b)
theorem sW.mono{k:Bool->aM->Bool}{Q:Bool->Hp->Prop}(p:sW g F y ρ H k Q)(a:aB F y ρ H y1 ρ1 H1):sW g F y1 ρ1 H1 k Q:=λd c f h av b=>p d c f h av (a.trans b)
theorem lP.mono{k:dJ->aM->Bool}{Q:St->Hp->Prop}(p:lP g F y ρ H k Q)(a:aB F y ρ H y1 ρ1 H1):lP g F y1 ρ1 H1 k Q:=λd c f h av v b=>p d c f h av v (a.trans b)
end
abbrev BE:=dJ->aM->(AV->aM->Bool)->Bool
abbrev BT:=dJ->aM->(Bool->aM->Bool)->Bool
abbrev BA:=dJ->aM->(List AV->aM->Bool)->Bool
structure Ds where
 nx:dJ->aM->Bool
 rt:AV->aM->Bool
 bk:dJ->aM->Bool
 ct:dJ->aM->Bool
abbrev BS:=Ds->dJ->aM->Bool
abbrev BG:=AV->dJ->aM->(dJ->aM->Bool)->Bool
theorem eO{o m l j i g:Type}{P:Prop}{A B C D:o->m->l->j->i->g->Prop}(h:∃a b c d e f,A a b c d e f/\B a b c d e f/\C a b c d e f/\D a b c d e f)(k:∀a b c d e f,A a b c d e f->B a b c d e f->C a b c d e f->D a b c d e f->P):P:=by
 obtain⟨a,b,c,d,e,f,p,q,r,s⟩:=h;exact k a b c d e f p q r s
theorem yr{o m l j i g:Type}{P:Prop}{A B C D E:o->m->l->j->i->g->Prop}(h:∃a b c d e f,A a b c d e f/\B a b c d e f/\C a b c d e f/\D a b c d e f/\E a b c d e f)(k:∀a b c d e f,A a b c d e f->B a b c d e f->C a b c d e f->D a b c d e f->E a b c d e f->P):P :=
 eO h λa b c d e f p q r s=>k a b c d e f p q r s.1 s.2
theorem MN{o m l j i g:Type}{P:Prop}{A B C D E F G:o->m->l->j->i->g->Prop}(h:∃a b c d e f,A a b c d e f/\B a b c d e f/\C a b c d e f/\D a b c d e f/\E a b c d e f/\F a b c d e f/\G a b c d e f)(k:∀a b c d e f,A a b c d e f->B a b c d e f->C a b c d e f->D a b c d e f->E a b c d e f->F a b c d e f->G a b c d e f->P):P :=
 eO h λa b c d e f p q r s=>k a b c d e f p q r s.1 s.2.1 s.2.2.1 s.2.2.2
section
variable(g:Gx)
def up(b:BE):TE:=λσ H Q=>∃F y ρ S c k,aI g F y ρ S H/\bF g F y ρ H c σ/\b c S k=true/\gG g F y ρ H k Q
def fP(b:BT):TT:=λσ H Q=>∃F y ρ S c k,aI g F y ρ S H/\bF g F y ρ H c σ/\b c S k=true/\sW g F y ρ H k Q
def iY(b:BA):TA:=λσ H Q=>∃F y ρ S c k,aI g F y ρ S H/\bF g F y ρ H c σ/\b c S k=true/\MM g F y ρ H k Q
def dw(b:BS):TS:=λD σ H=>∃F y ρ S c d,aI g F y ρ S H/\bF g F y ρ H c σ/\b d c S=true/\lP g F y ρ H d.nx D.nx/\gG g F y ρ H d.rt D.rt/\lP g F y ρ H d.bk D.bk/\lP g F y ρ H d.ct D.ct
def MO(sl:List Nat)(σ c:St):Prop:=c.length=σ.length/\∀j,j∉sl->c[j]?=σ[j]?
def Ji(g:Gx)(sl:List Nat)(σ:St)(F:Fx)(y:Option Int)(ρ:List P3)(H:Hp)(k:dJ->aM->Bool)(Q:St->Hp->Prop):Prop :=
 ∀i d j h f c,aB F y ρ H i d h->aI g F i d j h->bF g F i d h f c->MO sl σ c->k f j=true->Q c h
def mz(sl:List Nat)(b:BG):TG:=λv σ H Q=>∃F y ρ S av c k,aI g F y ρ S H/\aT F y ρ H av v/\bF g F y ρ H c σ/\b av c S k=true/\Ji g sl σ F y ρ H k Q
end
abbrev BF:=List AV->aM->(AV->aM->Bool)->KE->Bool
def kW(gy:Gy)(n:Nat)(b:BF):Sp:=λvs H Q E=>∃F y ρ S c k ke,aI ⟨gy,E⟩ F y ρ S H/\aQ F y ρ H c vs/\vs.length=n/\b c S k ke=true/\gG ⟨gy,E⟩ F y ρ H k Q/\lO ⟨gy,E⟩ F y ρ H ke
theorem PE.imp{e:Qv}{t t':TE}(h:∀σ H Q,t' σ H Q->t σ H Q)(p:PE X e t):PE X e t':=λpins s σ H Q I q=>p pins s σ H Q I (h _ _ _ q)
theorem PT.imp{e:Qv}{t t':TT}(h:∀σ H Q,t' σ H Q->t σ H Q)(p:PT X e t):PT X e t':=λpins s σ H Q I q=>p pins s σ H Q I (h _ _ _ q)
theorem PW.imp{e:Qv}{t t':TT}(h:∀σ H Q,t' σ H Q->t σ H Q)(p:PW X e t):PW X e t':=λc pins s σ H Q I q=>p c pins s σ H Q I (h _ _ _ q)
theorem PA.imp{e:List Qv}{t t':TA}(h:∀σ H Q,t' σ H Q->t σ H Q)(p:PA X e t):PA X e t':=λpos pins s σ H Q I q=>p pos pins s σ H Q I (h _ _ _ q)
theorem PS.imp{e:SK}{t t':TS}(h:∀D σ H,t' D σ H->t D σ H)(p:PS X e t):PS X e t':=λpins s σ H D I q=>p pins s σ H D I (h _ _ _ q)
theorem gC.imp{e:List SK}{t t':TS}(h:∀D σ H,t' D σ H->t D σ H)(p:gC X e t):gC X e t':=λpins s σ H D I q=>p pins s σ H D I (h _ _ _ q)
theorem PG.imp{e:Qv}{t t':TG}(h:∀v σ H Q,t' v σ H Q->t v σ H Q)(p:PG X e t):PG X e t':=λpins s σ H v u Q I r q=>p pins s σ H v u Q I r (h _ _ _ _ q)
theorem CZ{c d:Type}{R:c->d->Prop}{a:c}{f:List c}{vs:List d}(h:Paired R (a::f) vs):∃x xs,vs=x::xs/\R a x/\Paired R f xs:=by
 cases h;exact⟨_,_,rfl,by assumption,by assumption⟩
def GL(l:List (Option AV)):Nat->Option AV:=List.rec (motive:=λ_=>Nat->Option AV) (λ_=>none) (λx _ c n=>Xq (motive:=λ_=>Option AV) x (λm _=>c m) n) l
def MP(l:List (Option AV)):Nat->AV->List (Option AV):=List.rec (motive:=λ_=>Nat->AV->List (Option AV)) (λ_ _=>[]) (λx r c n v=>Xq (motive:=λ_=>List (Option AV)) (some v::r) (λm _=>x::c m v) n) l
def LX(σ:dJ)(i:Nat):Option AV:=GL σ.v i
def Bz(σ:dJ)(i:Nat)(v:AV):dJ:=⟨MP σ.v i v,σ.ke⟩
def aE(i:Nat):BE:=λσ S k=>match LX σ i with
 | some v=>k v S
 | none=>false
def bC(v:AV):BE:=λ_ S k=>k v S
def eQ(f:AV->AV->aM->(AV->aM->Bool)->Bool)(a b:BE):BE:=λσ S k=>a σ S λx S1=>b σ S1 λy c=>f x y c k
def PH(f:AV->aM->(AV->aM->Bool)->Bool)(a:BE):BE:=λσ S k=>a σ S λx S1=>f x S1 k
def bB(a:BE):BT:=λσ S k=>a σ S λx S1=>match x with
 | .bl c=>k c S1
 | _=>false
def GM(a b:BT):BT:=λσ S k=>a σ S λc S1=>match c with
 | true=>b σ S1 k
 | false=>k false S1
def Ea(a b:BT):BT:=λσ S k=>a σ S λc S1=>match c with
 | true=>k true S1
 | false=>b σ S1 k
def GN(a:BT):BT:=λσ S k=>a σ S λc S1=>k (!c) S1
def Eb(a b:BE):BE:=λσ S k=>a σ S λx S1=>match x with
 | .bl true=>b σ S1 k
 | .bl false=>k (.bl false) S1
 | _=>false
def OQ(a b:BE):BE:=λσ S k=>a σ S λx S1=>match x with
 | .bl true=>k (.bl true) S1
 | .bl false=>b σ S1 k
 | _=>false
def MQ(a:BE):BE:=λσ S k=>a σ S λx S1=>match x with
 | .bl c=>k (.bl<|!c) S1
 | _=>false
def Od(t:BT)(a b:BE):BE:=λσ S k=>t σ S λc S1=>match c with
 | true=>a σ S1 k
 | false=>b σ S1 k
def aK:BA:=λ_ S k=>k [] S
def ah(a:BE)(r:BA):BA:=λσ S k=>a σ S λx S1=>r σ S1 λxs c=>k (x::xs) c
def dF(a:BA):BE:=λσ S k=>a σ S λxs S1=>match QV xs.length 1000 with
 | true=>k (chain xs) S1
 | false=>false
def yt(a:BA):BE:=λσ S k=>a σ S λxs S1=>match QV xs.length 1000 with
 | true=>k (.ref S1.n) (S1.add<|.lst xs)
 | false=>false
def lQ(f:BF)(a:BA):BE:=λσ S k=>a σ S λxs S1=>f xs S1 k σ.ke
section
variable{g:Gx}{F:Fx}{S:aM}
theorem pZ:∀{c:List (Option AV)} {σ:St} {i:Nat} {av:AV},gp F y ρ H c σ->GL c i=some av->∃v,σ[i]?=some (some v)/\aT F y ρ H av v
 | _,_,_,_,.nil,e=>by cases e
 | _,_,0,av,.cons (a:=x) (b:=v) r _,e=>by
  change x=some av at e;subst e;cases v with
  | none=>exact r.elim
  | some v=>exact⟨v,rfl,r⟩
 | _,_,i+1,av,.cons _ t,e=>by
  obtain⟨v,h1,d⟩:=pZ (i:=i) (av:=av) t e;exact⟨v,by simpa using h1,d⟩
theorem wq:∀{c:List (Option AV)} {σ:St} {i:Nat} {av:AV} {v:V},gp F y ρ H c σ->aT F y ρ H av v->gp F y ρ H (MP c i av) (σ.set i<|some v)
 | _,_,_,_,_,.nil,_=>.nil
 | _,_,0,_,_,.cons _ t,r=>.cons r t
 | _,_,i+1,_,_,.cons q t,r=>.cons q (wq (i:=i) t r)
theorem wr{c:dJ}{i:Nat}{av:AV}(h:bF g F y ρ H c σ)(e:LX c i=some av):∃v,σ[i]?=some (some v)/\aT F y ρ H av v:=pZ h.v e
theorem c9{c:dJ}{i:Nat}{av:AV}{v:V}(h:bF g F y ρ H c σ)(r:aT F y ρ H av v):bF g F y ρ H (Bz c i av) (σ.set i<|some v):=⟨wq h.v r,h.e⟩
theorem bA{a b:Nat}(h:QV a b=true):a≤b:=Rw h
def io(g:Gx)(r:R2)(f:AV->AV->aM->(AV->aM->Bool)->Bool):Prop :=
 ∀F y ρ S H x z ax c k Q,aI g F y ρ S H->aT F y ρ H ax x->aT F y ρ H c z->f ax c S k=true->gG g F y ρ H k Q->r x z H Q
def OR(g:Gx)(r:V->Hp->VK->Prop)(f:AV->aM->(AV->aM->Bool)->Bool):Prop :=
 ∀F y ρ S H x ax k Q,aI g F y ρ S H->aT F y ρ H ax x->f ax S k=true->gG g F y ρ H k Q->r x H Q
def mK(g:Gx)(r:List V->Hp->VK->Prop)(f:List AV->aM->(AV->aM->Bool)->Bool):Prop :=
 ∀F y ρ S H xs c k Q,aI g F y ρ S H->aQ F y ρ H c xs->f c S k=true->gG g F y ρ H k Q->r xs H Q
theorem ar{b:BE}{Q:VK}{d:dJ}{k:AV->aM->Bool}(C:aI g F y ρ S H)(r:bF g F y ρ H d σ)(h:b d S k=true)
  (n:∀f c S1 H1 av v,aB F y ρ H f c H1->aI g F f c S1 H1->bF g F f c H1 d σ->aT F f c H1 av v->k av S1=true->Q v H1):up g b σ H Q :=
 ⟨F,y,ρ,S,d,k,C,r,h,λf c S1 H1 av v st C1 i q=>n f c S1 H1 av v st C1 (bF.mono st r) i q⟩
theorem fA{b:BT}{Q:Bool->Hp->Prop}{f:dJ}{k:Bool->aM->Bool}(C:aI g F y ρ S H)(r:bF g F y ρ H f σ)(h:b f S k=true)
  (n:∀i d S1 H1 c,aB F y ρ H i d H1->aI g F i d S1 H1->bF g F i d H1 f σ->k c S1=true->Q c H1):fP g b σ H Q :=
 ⟨F,y,ρ,S,f,k,C,r,h,λi d S1 H1 c st C1 q=>n i d S1 H1 c st C1 (bF.mono st r) q⟩
theorem bn{b:BA}{Q:List V->Hp->Prop}{d:dJ}{k:List AV->aM->Bool}(C:aI g F y ρ S H)(r:bF g F y ρ H d σ)(h:b d S k=true)
  (n:∀f c S1 H1 av v,aB F y ρ H f c H1->aI g F f c S1 H1->bF g F f c H1 d σ->aQ F f c H1 av v->k av S1=true->Q v H1):iY g b σ H Q :=
 ⟨F,y,ρ,S,d,k,C,r,h,λf c S1 H1 av v st C1 i q=>n f c S1 H1 av v st C1 (bF.mono st r) i q⟩
theorem gG.here{k:AV->aM->Bool}{Q:VK}(p:gG g F y ρ H k Q)(C:aI g F y ρ S H){av:AV}{v:V}(r:aT F y ρ H av v)(h:k av S=true):Q v H:=p y ρ S H av v .refl C r h
theorem sW.here{k:Bool->aM->Bool}{Q:Bool->Hp->Prop}(p:sW g F y ρ H k Q)(C:aI g F y ρ S H){b:Bool}(h:k b S=true):Q b H:=p y ρ S H b .refl C h
theorem lP.here{k:dJ->aM->Bool}{Q:St->Hp->Prop}(p:lP g F y ρ H k Q)(C:aI g F y ρ S H){c:dJ}(r:bF g F y ρ H c σ)(h:k c S=true):Q σ H:=p y ρ S H c σ .refl C r h
end
section
variable{g:Gx}{a b c e:Qv}{ba bb:BE}{bt bu:BT}{br:BA}{es rest:List Qv}
theorem Kw(i:Nat){x:Str}(h:PE X (.Name x pos) (C9 i)):PE X (.Name x pos) (up g<|aE i):=by
 refine PE.imp (λσ H Q f=>eO f λF y ρ S d k C r h p=>?_) h;unfold aE at h;cases q:LX d i with
 | none=>rw[q] at h;cases h
 | some av=>
  rw[q] at h;obtain⟨v,h1,j⟩:=wr r q;exact⟨v,h1,p.here C j h⟩
theorem GO{v:V}{av:AV}(h:PE X e (tC v))(i:∀F y ρ H,aT F y ρ H av v):PE X e (up g<|bC av) :=
 PE.imp (λσ H Q f=>eO f λF y ρ S d k C r h p=>p.here C (i F y ρ H) h) h
theorem ai{i:Int}{j}:PE X (.Constant (.int i) j pos) (up g<|bC<|.int false i i):=GO cW λ_ _ _ _=>⟨i,rfl,Rr _,Rr _⟩
theorem cK{d:Bool}{j}:PE X (.Constant (.bool d) j pos) (up g<|bC<|.bl d):=GO L8 λ_ _ _ _=>rfl
theorem iG{j}:PE X (.Constant .none j pos) (up g<|bC .non):=GO xP λ_ _ _ _=>rfl
theorem aC(i:Nat){x:Str}{j}(h:bd[i]?=some x:=by decide +kernel):PE X (.Constant (.str x) j pos) (up g<|bC<|.str i):=GO g9 λ_ _ _ _=>⟨x,h,rfl⟩
theorem uL{r:R2}{f}(I:io g r f):∀σ H Q,up g (eQ f ba bb) σ H Q->J0 r (up g ba) (up g bb) σ H Q:=λσ H Q u=>eO u λF y ρ S i k C r h p=>
 ar C r h λy1 j S1 H1 ax x st C1 q o h1=>ar C1 q h1 λl ρ2 U Y O z d Z r2 m L=>I F l ρ2 U Y x z ax O k Q Z (aT.mono d o) m L (p.mono<|st.trans d)
theorem cE{d:ZA}{r:R2}{f}(ho:kN X (Td d) r)(h:io g r f)(i:PE X a (up g ba))(hb:PE X b (up g bb)):PE X (.BinOp a d b pos) (up g<|eQ f ba bb):=PE.imp (uL h) (fu ho i hb)
theorem iH{d:Y7}{r:R2}{f}(ho:kN X (RW d) r)(i:io g r f)(j:PE X a (up g ba))(hb:PE X b (up g bb))(h:Rt d b=false):PE X (.Compare a [d] [b] pos) (up g<|eQ f ba bb):=PE.imp (uL i) (Ge ho j hb h)
theorem fB{t:TE}{d:BE}(h:∀σ H Q,up g d σ H Q->t σ H Q):∀σ H Q,fP g (bB d) σ H Q->vZ t σ H Q:=λσ H Q ⟨F,y,ρ,S,i,k,C,r,q,p⟩=>
 h σ H _ (ar C r q λj f S1 H1 ax x st C1 m l h1=>by
  cases ax with
  | bl c=>
   have:x=.bl c:=l;subst this;exact⟨c,rfl,p j f S1 H1 c st C1 h1⟩
  | _=>cases h1)
theorem a7{d:Y7}{r:R2}{f}(ho:kN X (RW d) r)(i:io g r f)(j:PE X a (up g ba))(hb:PE X b (up g bb))(h:Rt d b=false):PT X (.Compare a [d] [b] pos) (fP g<|bB<|eQ f ba bb):=PT.imp (fB<|uL i) (uy ho j hb h)
theorem cA(h:PE X e (up g ba))(he:∀whole,X0 e X.env whole=(do let v <-whole;SI e.pos;SJ [v] (ac7 v)):=by with_unfolding_all (intro _;rfl)):PT X e (fP g<|bB ba) :=
 PT.imp (fB (t:=up g ba) λ_ _ _ h=>h) (show PT X e (vZ<|up g ba) from JP h he)
theorem GP:∀σ H Q,fP g (GM bt bu) σ H Q->L9 (fP g bt) (fP g bu) σ H Q:=λσ H Q l=>eO l λF y ρ S f k C r h p=>
 fA C r h λi d S1 H1 c st C1 j h1=>by
  cases c with
  | true=>exact rG ⟨F,i,d,S1,f,k,C1,j,h1,p.mono st⟩
  | false=>exact rF (p i d S1 H1 false st C1 h1)
theorem Kx:∀σ H Q,fP g (Ea bt bu) σ H Q->Pi (fP g bt) (fP g bu) σ H Q:=λσ H Q l=>eO l λF y ρ S f k C r h p=>
 fA C r h λi d S1 H1 c st C1 j h1=>by
  cases c with
  | false=>exact rF ⟨F,i,d,S1,f,k,C1,j,h1,p.mono st⟩
  | true=>exact rG (p i d S1 H1 true st C1 h1)
theorem uM(d:PT X a (fP g bt)):PW X (.BoolOp .And [a] pos) (fP g bt):=Gb d
theorem eV(d:PT X a (fP g bt)):PW X (.BoolOp .Or [a] pos) (fP g bt):=JQ d
theorem yu(d:PT X a (fP g bt))(hb:PW X (.BoolOp .And (b::rest) pos) (fP g bu)):PW X (.BoolOp .And (a::b::rest) pos) (fP g<|GM bt bu):=PW.imp GP (JR d hb)
theorem gu(d:PT X a (fP g bt))(hb:PW X (.BoolOp .Or (b::rest) pos) (fP g bu)):PW X (.BoolOp .Or (a::b::rest) pos) (fP g<|Ea bt bu):=PW.imp Kx (Ma d hb)
theorem gv(j:PT X a (fP g bt)):PT X (.UnaryOp .Not a pos) (fP g<|GN bt) :=
 PT.imp (λσ H Q ⟨F,y,ρ,S,f,k,C,r,h,p⟩=>fA C r h λi d S1 H1 c st C1 l h1=>p i d S1 H1 (!c) st C1 h1) (JS j)
theorem iI{d}(h:PE X a (up g ba)):PE X (.BoolOp d [a] pos) (up g ba):=JT h
theorem qa(o:PE X a (up g ba))(hb:PE X (.BoolOp .And (b::rest) pos) (up g bb)):PE X (.BoolOp .And (a::b::rest) pos) (up g<|Eb ba bb):=by
 refine PE.imp (λσ H Q m=>eO m λF y ρ S f k C r h p=>?_) (JU o hb);refine ar C r h λi d S1 H1 ax x st C1 l j h1=>?_;cases ax with
 | bl c=>
  have:x=.bl c:=j;subst this;refine⟨c,rfl,?_⟩;cases c with
  | true=>exact rG ⟨F,i,d,S1,f,k,C1,l,h1,p.mono st⟩
  | false=>exact rF (p i d S1 H1 (.bl false) _ st C1 rfl h1)
 | _=>cases h1
theorem Ec(o:PE X a (up g ba))(hb:PE X (.BoolOp .Or (b::rest) pos) (up g bb)):PE X (.BoolOp .Or (a::b::rest) pos) (up g<|OQ ba bb):=by
 refine PE.imp (λσ H Q m=>eO m λF y ρ S f k C r h p=>?_) (Md o hb);refine ar C r h λi d S1 H1 ax x st C1 l j h1=>?_;cases ax with
 | bl c=>
  have:x=.bl c:=j;subst this;refine⟨c,rfl,?_⟩;cases c with
  | false=>exact rF ⟨F,i,d,S1,f,k,C1,l,h1,p.mono st⟩
  | true=>exact rG (p i d S1 H1 (.bl true) _ st C1 rfl h1)
 | _=>cases h1
theorem Ky(m:PE X a (up g ba)):PE X (.UnaryOp .Not a pos) (up g<|MQ ba):=by
 refine PE.imp (λσ H Q l=>eO l λF y ρ S f k C r h p=>?_) (JV m);refine ar C r h λi d S1 H1 ax x st C1 o j h1=>?_;cases ax with
 | bl c=>
  have:x=.bl c:=j;subst this;exact⟨c,rfl,p i d S1 H1 (.bl<|!c) _ st C1 rfl h1⟩
 | _=>cases h1
theorem fE(o:PT X c (fP g bt))(q:PE X a (up g ba))(hb:PE X b (up g bb)):PE X (.IfExp c a b pos) (up g<|Od bt ba bb):=by
 refine PE.imp (λσ H Q m=>eO m λF y ρ S f k C r h p=>?_) (pB o q hb);refine fA C r h λj i S1 H1 d st C1 l h1=>?_;cases d with
 | true=>exact rG ⟨F,j,i,S1,f,k,C1,l,h1,p.mono st⟩
 | false=>exact rF ⟨F,j,i,S1,f,k,C1,l,h1,p.mono st⟩
theorem ad:PA X [] (iY g aK):=PA.imp (λσ H Q f=>eO f λF y ρ S d k C r h p=>p y ρ S H [] [] .refl C .nil h) d9
theorem aa(I:PE X e (up g ba))(u:PA X es (iY g br))(hs:hE9 X e es:=by nofun):PA X (e::es) (iY g<|ah ba br) :=
 PA.imp (λσ H Q q=>eO q λF y ρ S f k C r h p=>ar C r h λy1 i S1 H1 ax x st C1 o m h1=>bn C1 o h1 λj ρ2 U Y O z d Z r2 l L=>p j ρ2 U Y (ax::O) (x::z) (st.trans d) Z (.cons (aT.mono d m) l) L) (cg I u hs)
theorem aP{F:Fx}{xs:List AV}(h:aQ F y ρ H xs vs):xs.length=vs.length:=QP h
theorem zX{n:Nat}(h:QV n 1000=true):n≤Qf:=R9 (bX<|bA h)
theorem aD{u}(h:PA X es (iY g br)):PE X (.Tuple es u pos) (up g<|dF br):=by
 refine PE.imp (λσ H Q x=>eO x λF y ρ S o k C r h p=>?_) (Dr h);refine bn C r h λj d S1 H1 i xs st C1 z l h1=>?_;cases q:QV i.length 1000 with
 | false=>simp only[q] at h1;cases h1
 | true=>
  simp only[q] at h1;refine⟨by rw[<-aP l];exact zX q,λpl m=>?_⟩;have f:aB F j d H1 j d (upd H1 pl<|.tup xs):=aB.lay m;exact p j d S1 _ (chain i) _ (st.trans f) (C1.lay m) (aT.chain aA<|aQ.mono f l) h1
theorem dW(h:PA X es (iY g br)):PE X (.List es pos) (up g<|yt br):=by
 refine PE.imp (λσ H Q x=>eO x λF y ρ S u k C r h p=>?_) (J7 h);refine bn C r h λj d S1 H1 i xs st C1 z l h1=>?_;cases q:QV i.length 1000 with
 | false=>simp only[q] at h1;cases h1
 | true=>
  simp only[q] at h1;refine⟨by rw[<-aP l];exact zX q,λpl m=>?_⟩;have f:aB F j d H1 j (d++[pl]) (upd H1 pl<|.lst xs):=aB.add m;exact p j _ _ _ (.ref S1.n) _ (st.trans f) (C1.add (o:=.lst i) m ⟨xs,rfl,aQ.mono f l⟩) ⟨pl,by rw[C1.n];simp,rfl⟩ h1
def nJ(n:Nat)(f:BF):BF:=λxs S k ke=>match Qn xs.length n with
 | true=>f xs S k ke
 | false=>false
theorem Ed{n:Nat}{f:BF}:∀σ H Q,up g (lQ (nJ n f) br) σ H Q->kh (kW g.toGy n f) [] g.E (iY g br) σ H Q:=λσ H Q u=>eO u λF y ρ S i k C r h p=>
 bn C r h λm j S1 H1 d xs st C1 o l h1=>by
  unfold nJ at h1;cases q:Qn d.length n with
  | false=>simp only[q] at h1;cases h1
  | true=>
   simp only[q] at h1;rw[Sz];exact⟨F,m,j,S1,d,k,i.ke,C1,l,by rw[<-aP l];exact Qh q,h1,p.mono st,o.e⟩
end
def iZ:BS:=λd σ S=>d.nx σ S
def bJ(a b:BS):BS:=λd σ S=>a {d with nx:=b d} σ S
def fF(a:BE):BS:=λd σ S=>a σ S λ_ S1=>d.nx σ S1
def je(a:BE):BS:=λd σ S=>a σ S d.rt
def MR:BS:=λd _ S=>d.rt .non S
def lR(t:BT)(a b:BS):BS:=λd σ S=>t σ S λc S1=>match c with
 | true=>a d σ S1
 | false=>b d σ S1
def Kz:BS:=λ_ _ _=>false
def a8(i:Nat):BG:=λv σ S k=>k (Bz σ i v) S
def gH(a:BE)(t:BG):BS:=λd σ S=>a σ S λx S1=>t x σ S1 d.nx
section
variable{g:Gx}{rest:List SK}{a b:BS}{e c:Qv}{be:BE}{bt:BT}
theorem aO:gC X [] (dw g iZ):=gC.imp (λD σ H i=>yr i λF y ρ S f d C r h p _=>p.here C r h) zt
theorem af(h1:PS X st (dw g a))(L:gC X rest (dw g b)):gC X (st::rest) (dw g<|bJ a b) :=
 gC.imp (λD σ H I=>MN I λF y ρ S i d C r h p m q o=>⟨F,y,ρ,S,i,_,C,r,h,λx l S1 H1 j u f C1 z h1=>⟨F,x,l,S1,j,d,C1,z,h1,p.mono f,m.mono f,q.mono f,o.mono f⟩,m,q,o⟩) (cX h1 L)
theorem ag(h1:PS X st (dw g a)):gC X [st] (dw g a):=oM h1
theorem ao(he:PE X e (up g be))(hs:RX e none pos.line X.env=pure false:=by nofun):PS X (.Expr e pos) (dw g<|fF be) :=
 PS.imp (λD σ H m=>yr m λF y ρ S f d C r h p _=>ar C r h λj i S1 H1 ax x st C1 l o h1=>p j i S1 H1 f σ st C1 l h1) (zu he hs)
theorem au(he:PE X e (up g be)):PS X (.Return (some e) pos) (dw g<|je be) :=
 PS.imp (λD σ H i=>MN i λF y ρ S f d C r h _ p _ _=>⟨F,y,ρ,S,f,d.rt,C,r,h,p⟩) (ut he)
theorem GQ:PS X (.Return none pos) (dw g MR):=PS.imp (λD σ H i=>MN i λF y ρ S f d C r h _ p _ _=>p.here C (av:=.non) rfl h) Gc
theorem aX{m l:List SK}(I:PT X c (fP g bt))(L:gC X m (dw g a))(hb:gC X l (dw g b)):PS X (.If c m l pos) (dw g<|lR bt a b):=by
 refine PS.imp (λD σ H z=>MN z λF y ρ S f d C r h p q x u=>?_) (IS I L hb);refine fA C r h λj i S1 H1 c st C1 o h1=>?_;cases c with
 | true=>exact rG ⟨F,j,i,S1,f,d,C1,o,h1,p.mono st,q.mono st,x.mono st,u.mono st⟩
 | false=>exact rF ⟨F,j,i,S1,f,d,C1,o,h1,p.mono st,q.mono st,x.mono st,u.mono st⟩
theorem ce:PS X st (dw g Kz):=PS.imp (λD σ H i=>eO i λF y ρ S f d C r h _=>by cases h) De
theorem GR{x:Str}(i:Nat)(h:PG X (.Name x pos) (fY i)):PG X (.Name x pos) (mz g [i]<|a8 i) :=
 PG.imp (λv σ H Q f=>by obtain⟨F,y,ρ,S,av,d,k,C,l,r,h,p⟩:=f;exact p y ρ S H _ _ .refl C (c9 r l) ⟨Zh ..,λj m=>TQ λe=>m (by simp[e])⟩ h) h
theorem GS{t:BG}:∀D σ H,dw g (gH be t) D σ H->jj (up g be) (mz g sl t) D σ H:=λD σ H L=>yr L λF y ρ S f d C r h p _=>
 ar C r h λq l S1 H1 ax x st C1 I u h1=>⟨F,q,l,S1,ax,f,d.nx,C1,u,I,h1,λo ρ2 Q U j i m Y z _ O=>p o ρ2 Q U j i (st.trans m) Y z O⟩
theorem KA{x:Str}{p:Pos}(i:Nat)(h:PS X (.Assign [.Name x p] e pos) (jj (up g be)<|fY i)):PS X (.Assign [.Name x p] e pos) (dw g<|gH be<|a8 i) :=
 PS.imp (λD σ H q=>yr q λF y ρ S j d C r h p _=>ar C r h λl f S1 H1 ax x st C1 o m h1=>p l f S1 H1 _ _ st C1 (c9 o m) h1) h
end
def dq:Int->Int->Bool
 | .ofNat m,.ofNat n=>QV m n
 | .negSucc m,.negSucc n=>QV n m
 | .negSucc _,.ofNat _=>true
 | .ofNat _,.negSucc _=>false
theorem bi{a b:Int}:dq a b=true↔a≤b:=by
  cases a with
  | ofNat m=>cases b with
    | ofNat n=>
      show QV m n=true↔(m:Int)≤(n:Int);rw[Nat.ble_eq];omega
    | negSucc n=>
      constructor
      · intro h;cases h
      · intro h;exfalso;have:(m:Int)≤Ze n:=h;omega
  | negSucc m=>cases b with
    | ofNat n=>
      constructor
      · intro _;show Ze m≤(n:Int);omega
      · intro _;rfl
    | negSucc n=>
      show QV n m=true↔_;rw[Nat.ble_eq];omega
def Ee(a b:Int):Bool:=!dq b a
theorem uN{a b:Int}:Ee a b=true↔a<b:=by
 unfold Ee;have:=bi (a:=b) (b:=a);cases h:dq b a
 ·rw[h] at this;simp at this ⊢;omega
 ·rw[h] at this;simp at this ⊢;omega
def BB:Bool->Int->Int->Bool->Int->Int->Option Bool
 | false,lo,f,false,c,d=>match Ee f c with
  | true=>some true
  | false=>match dq d lo with
   | true=>some false
   | false=>none
 | true,lo,f,true,c,d=>match Ee f c with
  | true=>some true
  | false=>match dq d lo with
   | true=>some false
   | false=>none
 | true,lo,_,false,_,d=>match dq d (lo+1) with
  | true=>some false
  | false=>none
 | false,_,f,true,c,_=>match dq f c with
  | true=>some true
  | false=>none
def LY:Bool->Int->Int->Bool->Int->Int->Option Bool
 | s,lo,f,s',c,d=>match s,s' with
  | false,true=>match dq f c with
   | true=>some false
   | false=>none
  | true,false=>match dq d lo with
   | true=>some false
   | false=>none
  | _,_=>match Ee f c with
   | true=>some false
   | false=>match Ee d lo with
    | true=>some false
    | false=>match dq f c with
     | true=>match dq d lo with
      | true=>match dq f lo with
       | true=>match dq d c with
        | true=>some true
        | false=>none
       | false=>none
      | false=>none
     | false=>none
def Bd(y:Option Int)(s:Bool)(lo hi z:Int):Prop:=match s with
 | false=>lo≤z/\z≤hi
 | true=>∃x,y=some x/\x+lo≤z/\z≤x+hi
theorem aZ{F:Fx}{s:Bool}{lo f:Int}{v:V}:aT F y ρ H (.int s lo f) v↔∃z,v=.int z/\Bd y s lo f z:=by
 cases s with
 | false=>exact Iff.rfl
 | true=>exact⟨λ⟨x,z,h1,d,c⟩=>⟨z,d,x,h1,c⟩,λ⟨z,d,x,h1,c⟩=>⟨x,z,h1,d,c⟩⟩
theorem kZ(o:∀x,y=some x->1≤x){s s':Bool}{lo hi lo' hi' z f:Int}{b:Bool}(h1:Bd y s lo hi z)(m:Bd y s' lo' hi' f)(h:BB s lo hi s' lo' hi'=some b):decide (z<f)=b:=by
 have close:∀{p q:Bool} {c d:Int},(Ee hi lo'=p)->(dq hi' lo=q)->c+lo≤z->z≤c+hi->c+lo'≤f->f≤c+hi' ->
   (match p with | true=>some true | false=>match q with | true=>some false | false=>none)=some b->decide (z<f)=b:=by
  intro p q c _ C u l j i g e;cases p with
  | true=>
   cases e;rw[uN] at C;exact decide_eq_true (by omega)
  | false=>cases q with
   | true=>
    cases e;rw[bi] at u;exact decide_eq_false (by omega)
   | false=>cases e
 cases s<;>cases s'
 ·obtain⟨l,j⟩:=h1;obtain⟨i,g⟩:=m;exact close (c:=0) (d:=0) rfl rfl (by omega) (by omega) (by omega) (by omega) h
 ·obtain⟨l,j⟩:=h1;obtain⟨x,e,i,g⟩:=m;have:=o x e;cases q:dq hi lo' with
  | false=>simp only[BB,q] at h;cases h
  | true=>simp only[BB,q] at h;cases h;rw[bi] at q;exact decide_eq_true (by omega)
 ·obtain⟨x,e,l,j⟩:=h1;obtain⟨i,g⟩:=m;have:=o x e;cases q:dq hi' (lo+1) with
  | false=>simp only[BB,q] at h;cases h
  | true=>simp only[BB,q] at h;cases h;rw[bi] at q;exact decide_eq_false (by omega)
 ·obtain⟨x,e,l,j⟩:=h1;obtain⟨H,r,i,g⟩:=m;rw[e] at r;cases r;exact close (c:=x) (d:=0) rfl rfl l j i g h
theorem Ef(H:∀x,y=some x->1≤x){s s':Bool}{lo hi lo' hi' z d:Int}{b:Bool}(h1:Bd y s lo hi z)(l:Bd y s' lo' hi' d)(h:LY s lo hi s' lo' hi'=some b):decide (z=d)=b:=by
 have close:∀{c:Int},c+lo≤z->z≤c+hi->c+lo'≤d->d≤c+hi' ->
   (match Ee hi lo' with
   | true=>some false
   | false=>match Ee hi' lo with
    | true=>some false
    | false=>match dq hi lo' with
     | true=>match dq hi' lo with
      | true=>match dq hi lo with
       | true=>match dq hi' lo' with
        | true=>some true
        | false=>none
       | false=>none
      | false=>none
     | false=>none)=some b->decide (z=d)=b:=by
  intro c j i g f e;cases C:Ee hi lo' with
  | true=>simp only[C] at e;cases e;rw[uN] at C;exact decide_eq_false (by omega)
  | false=>
   simp only[C] at e;cases u:Ee hi' lo with
   | true=>simp only[u] at e;cases e;rw[uN] at u;exact decide_eq_false (by omega)
   | false=>
    simp only[u] at e;cases r:dq hi lo' with
    | false=>simp only[r] at e;cases e
    | true=>
     simp only[r] at e;cases p:dq hi' lo with
     | false=>simp only[p] at e;cases e
     | true=>
      simp only[p] at e;cases o:dq hi lo with
      | false=>simp only[o] at e;cases e
      | true=>
       simp only[o] at e;cases m:dq hi' lo' with
       | false=>simp only[m] at e;cases e
       | true=>
        simp only[m] at e;cases e;rw[bi] at r p o m;exact decide_eq_true (by omega)
 cases s<;>cases s'
 ·obtain⟨j,i⟩:=h1;obtain⟨g,f⟩:=l;exact close (c:=0) (by omega) (by omega) (by omega) (by omega) h
 ·obtain⟨j,i⟩:=h1;obtain⟨x,e,g,f⟩:=l;have:=H x e;cases q:dq hi lo' with
  | false=>simp only[LY,q] at h;cases h
  | true=>simp only[LY,q] at h;cases h;rw[bi] at q;exact decide_eq_false (by omega)
 ·obtain⟨x,e,j,i⟩:=h1;obtain⟨g,f⟩:=l;have:=H x e;cases q:dq hi' lo with
  | false=>simp only[LY,q] at h;cases h
  | true=>simp only[LY,q] at h;cases h;rw[bi] at q;exact decide_eq_false (by omega)
 ·obtain⟨x,e,j,i⟩:=h1;obtain⟨L,I,g,f⟩:=l;rw[e] at I;cases I;exact close (c:=x) j i g f h
def kb(o:Option Bool)(S:aM)(k:AV->aM->Bool):Bool:=match o with
 | some b=>k (.bl b) S
 | none=>false
def mL:AV->AV->aM->(AV->aM->Bool)->Bool:=λa b S k=>match a,b with
 | .int false lo hi,.int s lo' hi'=>k (.int s (lo+lo')<|hi+hi') S
 | .int true lo hi,.int false lo' hi'=>k (.int true (lo+lo')<|hi+hi') S
 | _,_=>false
def yv:AV->AV->aM->(AV->aM->Bool)->Bool:=λa b S k=>match a,b with
 | .int true lo hi,.int true c d=>k (.int false (lo - d)<|hi - c) S
 | .int s lo hi,.int false c d=>k (.int s (lo - d)<|hi - c) S
 | _,_=>false
def BC:AV->AV->aM->(AV->aM->Bool)->Bool:=λa b S k=>match a,b with
 | .int false lo f,.int false c d=>match dq f lo,dq d c,dq 0 lo,dq lo 1000000,dq lo f,dq c d with
  | true,true,true,true,true,true=>k (.int false (lo*c)<|lo*c) S
  | _,_,_,_,_,_=>false
 | _,_=>false
def PJ:AV->AV->aM->(AV->aM->Bool)->Bool:=λa b S k=>match a,b with
 | .int s lo f,.int s' c d=>kb (BB s lo f s' c d) S k
 | _,_=>false
def Ps:AV->AV->aM->(AV->aM->Bool)->Bool:=λa b S k=>match a,b with
 | .int s lo f,.int s' c d=>kb (BB s' c d s lo f) S k
 | _,_=>false
def GT:Option Bool->Option Bool
 | some b=>some (!b)
 | none=>none
def PL:AV->AV->aM->(AV->aM->Bool)->Bool:=λa b S k=>match a,b with
 | .int s lo f,.int s' c d=>kb (GT<|BB s lo f s' c d) S k
 | _,_=>false
def Jj:AV->AV->Option Bool
 | .non,.non=>some true
 | .non,.int _ _ _=>some false
 | .int _ _ _,.non=>some false
 | .non,.bl _=>some false
 | .bl _,.non=>some false
 | .non,.str _=>some false
 | .str _,.non=>some false
 | .int s lo f,.int s' c d=>LY s lo f s' c d
 | .bl a,.bl b=>some (a==b)
 | .str i,.str j=>some (Qn i j)
 | .int _ _ _,.str _=>some false
 | .str _,.int _ _ _=>some false
 | .bl _,.str _=>some false
 | .str _,.bl _=>some false
 | _,_=>none
def Oe:AV->AV->aM->(AV->aM->Bool)->Bool:=λa b S k=>kb (Jj a b) S k
def GU:AV->AV->aM->(AV->aM->Bool)->Bool:=λa b S k=>kb (GT<|Jj a b) S k
section
variable{g:Gx}{F:Fx}{S:aM}
theorem gO{o:Option Bool}{k:AV->aM->Bool}(h:kb o S k=true):∃b,o=some b/\k (.bl b) S=true:=by
 cases o with
 | none=>cases h
 | some b=>exact⟨b,rfl,h⟩
theorem mM{o:Option Bool}{b:Bool}(h:GT o=some b):o=some (!b):=by
 cases o with
 | none=>cases h
 | some c=>cases h;simp
theorem fm:io g (xW λi j=>.int (i+j)) mL:=by
 intro F y ρ S H x z ax u k Q C o m h p;cases ax with
 | int s lo I=>cases u with
  | int s' q r=>
   obtain⟨i,rfl,b1⟩:=aZ.mp o;obtain⟨j,rfl,b2⟩:=aZ.mp m;refine⟨i,j,rfl,rfl,?_⟩;cases s with
   | false=>cases s' with
    | false=>exact p.here C (aZ.mpr ⟨_,rfl,by obtain⟨l,f⟩:=b1;obtain⟨d,c⟩:=b2;exact⟨by omega,by omega⟩⟩) h
    | true=>exact p.here C (aZ.mpr ⟨_,rfl,by obtain⟨l,f⟩:=b1;obtain⟨x,e,d,c⟩:=b2;exact⟨x,e,by omega,by omega⟩⟩) h
   | true=>cases s' with
    | false=>exact p.here C (aZ.mpr ⟨_,rfl,by obtain⟨x,e,l,f⟩:=b1;obtain⟨d,c⟩:=b2;exact⟨x,e,by omega,by omega⟩⟩) h
    | true=>cases h
  | _=>cases s<;>cases h
 | _=>cases h
theorem oV:io g (xW λi j=>.int (i - j)) yv:=by
 intro F y ρ S H x z ax I k Q C q o h p;cases ax with
 | int s lo O=>cases I with
  | int s' r u=>
   obtain⟨i,rfl,b1⟩:=aZ.mp q;obtain⟨j,rfl,b2⟩:=aZ.mp o;refine⟨i,j,rfl,rfl,?_⟩;cases s with
   | false=>cases s' with
    | false=>exact p.here C (aZ.mpr ⟨_,rfl,by obtain⟨m,l⟩:=b1;obtain⟨f,d⟩:=b2;exact⟨by omega,by omega⟩⟩) h
    | true=>cases h
   | true=>cases s' with
    | false=>exact p.here C (aZ.mpr ⟨_,rfl,by obtain⟨x,e,m,l⟩:=b1;obtain⟨f,d⟩:=b2;exact⟨x,e,by omega,by omega⟩⟩) h
    | true=>exact p.here C (aZ.mpr ⟨_,rfl,by obtain⟨x,e,m,l⟩:=b1;obtain⟨L,c,f,d⟩:=b2;rw[e] at c;cases c;exact⟨by omega,by omega⟩⟩) h
  | _=>cases s<;>cases h
 | _=>cases h
theorem uO:io g (rI Gd λi j=>.int (i*j)) BC:=by
 intro F y ρ S H x z ax O k Q C f d h p;cases ax with
 | int s lo U=>cases O with
  | int s' c l=>
   cases s with
   | true=>cases s'<;>cases h
   | false=>cases s' with
    | true=>cases h
    | false=>
     obtain⟨i,rfl,b1,b2⟩:=f;obtain⟨j,rfl,b3,b4⟩:=d;unfold BC at h;dsimp only at h;split at h
     ·rename_i c1 L I u r q;rw[bi] at c1 L I u r q;have o:i=lo:=by omega
      have m:j=c:=by omega
      subst o m;exact⟨_,_,rfl,rfl,.inl ⟨by omega,by omega⟩,p.here C (av:=.int false _ _) ⟨_,rfl,Rr _,Rr _⟩ h⟩
     ·cases h
  | _=>cases s<;>cases h
 | _=>cases h
theorem mO:io g (xW λi j=>.bl (decide<|i<j)) PJ:=by
 intro F y ρ S H x z ax o k Q C d c h p;cases ax with
 | int s lo q=>cases o with
  | int s' f m=>
   obtain⟨i,rfl,b1⟩:=aZ.mp d;obtain⟨j,rfl,b2⟩:=aZ.mp c;obtain⟨b,e,l⟩:=gO h;refine⟨i,j,rfl,rfl,?_⟩;dsimp only;rw[kZ C.pos b1 b2 e];exact p.here C (av:=.bl b) rfl l
  | _=>cases h
 | _=>cases h
theorem KB:io g (xW λi j=>.bl (decide<|j<i)) Ps:=by
 intro F y ρ S H x z ax o k Q C d c h p;cases ax with
 | int s lo q=>cases o with
  | int s' f m=>
   obtain⟨i,rfl,b1⟩:=aZ.mp d;obtain⟨j,rfl,b2⟩:=aZ.mp c;obtain⟨b,e,l⟩:=gO h;refine⟨i,j,rfl,rfl,?_⟩;dsimp only;rw[kZ C.pos b2 b1 e];exact p.here C (av:=.bl b) rfl l
  | _=>cases h
 | _=>cases h
theorem KC{i j:Int}:decide (i≤j)=!decide (j<i):=by
 by_cases h:i≤j
 ·have:¬j<i:=by omega
  simp[h,this]
 ·have:j<i:=by omega
  simp[h,this]
theorem KG:io g (xW λi j=>.bl (decide<|j≤i)) PL:=by
 intro F y ρ S H x z ax o k Q C d c h p;cases ax with
 | int s lo q=>cases o with
  | int s' f m=>
   obtain⟨i,rfl,b1⟩:=aZ.mp d;obtain⟨j,rfl,b2⟩:=aZ.mp c;obtain⟨b,e,l⟩:=gO h;have e:=mM e;refine⟨i,j,rfl,rfl,?_⟩;dsimp only;rw[KC,kZ C.pos b1 b2 e,YD];exact p.here C (av:=.bl b) rfl l
  | _=>cases h
 | _=>cases h
theorem yw(I:∀x,y=some x->1≤x){ax l:AV}{x z:V}{b:Bool}(m:aT F y ρ H ax x)(f:aT F y ρ H l z)(h:Jj ax l=some b):Dn x z=true/\decide (x=z)=b:=by
 cases ax with
 | non=>
  cases(show x=.non from m);cases l with
  | non=>cases(show z=.non from f);cases h;exact⟨rfl,rfl⟩
  | int s lo p=>obtain⟨j,rfl,_⟩:=aZ.mp f;cases h;exact⟨rfl,rfl⟩
  | bl d=>cases(show z=.bl d from f);cases h;exact⟨rfl,rfl⟩
  | str i=>obtain⟨w,_,rfl⟩:=f;cases h;exact⟨rfl,rfl⟩
  | _=>cases h
 | int s lo p=>
  obtain⟨i,rfl,b1⟩:=aZ.mp m;cases l with
  | non=>cases(show z=.non from f);cases h;exact⟨rfl,rfl⟩
  | int s' C L=>
   obtain⟨j,rfl,b2⟩:=aZ.mp f;have:=Ef I b1 b2 h;refine⟨rfl,?_⟩;rw[<-this];by_cases q:i=j
   ·subst q;simp
   ·have:¬(V.int i=V.int j):=λe=>q (by injection e);simp[q]
  | str i=>obtain⟨w,_,rfl⟩:=f;cases h;exact⟨rfl,rfl⟩
  | _=>cases h
 | bl c=>
  cases(show x=.bl c from m);cases l with
  | non=>cases(show z=.non from f);cases h;exact⟨rfl,rfl⟩
  | bl d=>
   cases(show z=.bl d from f);cases h;refine⟨rfl,?_⟩;cases c<;>cases d<;>rfl
  | str i=>obtain⟨w,_,rfl⟩:=f;cases h;exact⟨rfl,rfl⟩
  | _=>cases h
 | str i=>
  obtain⟨w,r,rfl⟩:=m;cases l with
  | non=>cases(show z=.non from f);cases h;exact⟨rfl,rfl⟩
  | int s lo p=>obtain⟨j,rfl,_⟩:=aZ.mp f;cases h;exact⟨rfl,rfl⟩
  | bl d=>cases(show z=.bl d from f);cases h;exact⟨rfl,rfl⟩
  | str j=>
   obtain⟨u,o,rfl⟩:=f;cases h;refine⟨rfl,?_⟩;rw[gE];by_cases q:i=j
   ·subst q;rw[r] at o;cases o;simp
   ·have:¬(V.str w=V.str u):=λe=>q (by injection e with e;subst e;exact dU r o);simp[q,this]
  | _=>cases h
 | _=>cases l<;>cases h
theorem eY:io g Po Oe:=by
 intro F y ρ S H x z ax j k Q C d c h p;obtain⟨b,e,f⟩:=gO h;obtain⟨h1,i⟩:=yw C.pos d c e;refine⟨h1,?_⟩;rw[i];exact p.here C (av:=.bl b) rfl f
theorem gw:io g Pp GU:=by
 intro F y ρ S H x z ax j k Q C d c h p;obtain⟨b,e,f⟩:=gO h;obtain⟨h1,i⟩:=yw C.pos d c (mM e);refine⟨h1,?_⟩;rw[i,YD];exact p.here C (av:=.bl b) rfl f
end
section
variable{g:Gx}{F:Fx}{S:aM}{n:Nat}{v:V}
theorem aI.obj(C:aI g F y ρ S H)(r:aT F y ρ H (.ref n) v){o:AO}(e:S.t.get n=some o):∃a ho,v=.ref a/\ρ[n]?=some a/\H a=some ho/\d8 F y ρ H g o ho:=by
 obtain⟨a,c,rfl⟩:=r;obtain⟨h,ho,h1,f,d⟩:=C.at_ n a c;rw[e] at h1;cases h1;exact⟨a,ho,rfl,c,f,d⟩
theorem aI.lst(C:aI g F y ρ S H)(r:aT F y ρ H (.ref n) v){xs:List AV}(e:S.t.get n=some (.lst xs)):∃a vs,v=.ref a/\ρ[n]?=some a/\H a=some (.lst vs)/\aQ F y ρ H xs vs:=by
 obtain⟨a,ho,h1,f,d,vs,rfl,c⟩:=C.obj r e;exact⟨a,vs,h1,f,d,c⟩
theorem aI.dk(C:aI g F y ρ S H)(r:aT F y ρ H (.ref n) v){xs:List (AV×AV)}(e:S.t.get n=some (.dk xs)):∃a ks,v=.ref a/\ρ[n]?=some a/\H a=some (.dK ks)/\Paired (λp q=>gF p.1 q.1/\aT F y ρ H p.2 q.2) xs ks:=by
 obtain⟨a,ho,h1,f,d,vs,rfl,c⟩:=C.obj r e;exact⟨a,vs,h1,f,d,c⟩
theorem aI.dt(C:aI g F y ρ S H)(r:aT F y ρ H (.ref n) v){xs:List (AV×AV)}(e:S.t.get n=some (.dt xs)):∃a ks,v=.ref a/\ρ[n]?=some a/\H a=some (.dT ks)/\Paired (λp q=>gM p.1 q.1/\aT F y ρ H p.2 q.2) xs ks:=by
 obtain⟨a,ho,h1,f,d,vs,rfl,c⟩:=C.obj r e;exact⟨a,vs,h1,f,d,c⟩
theorem aI.ins(C:aI g F y ρ S H)(r:aT F y ρ H (.ref n) v){c:Nat}{fs:List (Nat×AV)}(e:S.t.get n=some (.ins c fs)):∃a f d,v=.ref a/\ρ[n]?=some a/\c<2/\H a=some (.ins (g.cl c) f d)/\Paired (λp q=>bd[p.1]?=some q.1/\aT F y ρ H p.2 q.2) fs d/\∀p∈fs,p.1∈kU:=by
 obtain⟨a,ho,h1,m,l,f,d,⟨i,rfl,h⟩,j⟩:=C.obj r e;exact⟨a,f,d,h1,m,i,l,j,h⟩
end
def OS:AV->Option Bool
 | .non=>some true
 | .ext _=>none
 | _=>some false
def GV(a:BE):BE:=λσ S k=>a σ S λx S1=>kb (OS x) S1 k
def Jk(a:BE):BE:=λσ S k=>a σ S λx S1=>kb (GT<|OS x) S1 k
theorem Eg{F:Fx}{ax:AV}{x:V}{b:Bool}(r:aT F y ρ H ax x)(h:OS ax=some b):decide (x=.non)=b:=by
 cases ax with
 | non=>cases h;cases(show x=.non from r);rfl
 | bl c=>cases h;cases(show x=.bl c from r);rfl
 | int s lo d=>cases h;obtain⟨z,rfl,_⟩:=aZ.mp r;rfl
 | str i=>cases h;obtain⟨w,_,rfl⟩:=r;rfl
 | ref n=>cases h;obtain⟨a,_,rfl⟩:=r;rfl
 | ext i=>cases h
 | tn=>cases h;obtain⟨a,rfl,_⟩:=r;rfl
 | tc p q=>cases h;obtain⟨a,_,_,rfl,_⟩:=r;rfl
section
variable{g:Gx}{a b e o:Qv}{ba bb bc:BE}{br:BA}
theorem zY:∀σ H Q,up g (GV ba) σ H Q->Da (up g ba) σ H Q:=λσ H Q j=>eO j λF y ρ S d k C r h p=>
 ar C r h λf c S1 H1 ax x st C1 m i h1=>by
  obtain⟨b,e,l⟩:=gO h1;rw[Eg i e];exact p f c S1 H1 (.bl b) _ st C1 rfl l
theorem Eh:∀σ H Q,up g (Jk ba) σ H Q->Db (up g ba) σ H Q:=λσ H Q j=>eO j λF y ρ S d k C r h p=>
 ar C r h λf c S1 H1 ax x st C1 m i h1=>by
  obtain⟨b,e,l⟩:=gO h1;rw[Eg i (mM e),YD];exact p f c S1 H1 (.bl b) _ st C1 rfl l
theorem uP{n:Qv}(h:PE X (.Compare a [.Is] [n] pos) (Da<|up g ba)):PE X (.Compare a [.Is] [n] pos) (up g<|GV ba):=PE.imp zY h
theorem eg{n:Qv}(h:PT X (.Compare a [.Is] [n] pos) (tB<|Da<|up g ba)):PT X (.Compare a [.Is] [n] pos) (fP g<|bB<|GV ba):=PT.imp (fB zY) h
theorem GW{n:Qv}(h:PT X (.Compare a [.IsNot] [n] pos) (tB<|Db<|up g ba)):PT X (.Compare a [.IsNot] [n] pos) (fP g<|bB<|Jk ba):=PT.imp (fB Eh) h
def wt(f:Nat):List (Nat×AV)->Option AV
 | []=>none
 | (i,v)::r=>match Qn i f with
  | true=>some v
  | false=>wt f r
def jZ(f:Nat)(a:BE):BE:=λσ S k=>a σ S λx S1=>match x with
 | .ref n=>match S1.t.get n with
  | some (.ins c fs)=>match wt f fs with
   | some v=>k v S1
   | none=>false
  | _=>false
 | _=>false
theorem wu{F:Fx}{y:Option Int}{ρ:List P3}{H:Hp}{f:Nat}{x:Str}(c:bd[f]?=some x):∀{fs:List (Nat×AV)} {j:List (Str×V)} {av:AV},Paired (λp q=>bd[p.1]?=some q.1/\aT F y ρ H p.2 q.2) fs j->wt f fs=some av->∃v,j.lookup x=some v/\aT F y ρ H av v
 | _,_,_,.nil,h=>by cases h
 | _,_,av,.cons (a:=(i,w)) (b:=(z,v)) hd tl,h=>by
  unfold wt at h;obtain⟨h1,d⟩:=hd;dsimp only at h1 d h;rw[gE] at h;by_cases q:i=f
  ·subst q;simp at h;subst h;rw[c] at h1;cases h1;exact⟨v,by simp[SV],d⟩
  ·simp[q] at h;obtain⟨l,r,m⟩:=wu c tl h;have:(x==z)=false:=by
    rw[beq_eq_false_iff_ne];intro e;subst e;exact q (dU h1 c)
   exact⟨l,by rw[SV,this];exact r,m⟩
theorem eZ{f:Str}(i:Nat)(L:bd[i]?=some f)(O:∀c,c<2->oP X.K (g.cl c))(hn:∀c,c<2->b9 X.K (g.cl c) f)(he:PE X e (up g ba))(hb:QR e f X.env (Q0 e X.env)=Q0 e X.env):PE X (.Attribute e f pos) (up g<|jZ i ba):=by
 refine PE.imp (λσ H Q I=>eO I λF y ρ S l k C r h p=>?_) (J5 he hb);refine ar C r h λm j S1 H1 ax x st C1 r1 u h1=>?_;cases ax with
 | ref n=>
  dsimp only at h1;cases q:S1.t.get n with
  | none=>rw[q] at h1;cases h1
  | some ob=>
   rw[q] at h1;cases ob with
   | ins c fs=>
    dsimp only at h1;cases q2:wt i fs with
    | none=>rw[q2] at h1;cases h1
    | some av=>
     rw[q2] at h1;obtain⟨a,dx,Y,rfl,_,d,U,z,_⟩:=C1.ins u q;obtain⟨v,e1,Z⟩:=wu L z q2;exact⟨a,_,dx,Y,v,rfl,U,O c d,hn c d,e1,p m j S1 H1 av v st C1 Z h1⟩
   | _=>cases h1
 | _=>cases h1
def nL(f:Nat)(v:AV):List (Nat×AV)->List (Nat×AV)
 | []=>[(f,v)]
 | (i,x)::r=>match Qn i f with
  | true=>(i,v)::r
  | false=>(i,x)::nL f v r
theorem wv{F:Fx}{y:Option Int}{ρ:List P3}{H:Hp}{f:Nat}{x:Str}{av:AV}{v:V}(c:bd[f]?=some x)(d:aT F y ρ H av v):∀{fs:List (Nat×AV)} {j:List (Str×V)},Paired (λp q=>bd[p.1]?=some q.1/\aT F y ρ H p.2 q.2) fs j->Paired (λp q=>bd[p.1]?=some q.1/\aT F y ρ H p.2 q.2) (nL f av fs) (iD x v j)
 | _,_,.nil=>.cons ⟨c,d⟩ .nil
 | _,_,.cons (a:=(i,w)) (b:=(z,u)) hd tl=>by
  unfold nL iD;obtain⟨h1,h⟩:=hd;dsimp only at h1 h ⊢;rw[gE];by_cases q:i=f
  ·subst q;rw[c] at h1;cases h1;simp;exact .cons ⟨c,d⟩ tl
  ·have:¬z=x:=λe=>by subst e;exact q (dU h1 c)
   simp[q,this];exact .cons ⟨h1,h⟩ (wv c d tl)
def MS(f:Nat)(a v:BE):BS:=λd σ S=>v σ S λw S1=>a σ S1 λx h=>match x with
 | .ref n=>match h.t.get n with
  | some (.ins c fs)=>match QV fs.length 100 with
   | true=>d.nx σ (h.set n<|.ins c<|nL f w fs)
   | false=>false
  | _=>false
 | _=>false
theorem sX{f:Nat}{v:AV}(d:f∈kU):∀{fs:List (Nat×AV)},(∀p∈fs,p.1∈kU)->∀p∈nL f v fs,p.1∈kU
 | [],_,p,c=>by
  simp[nL] at c;subst c;exact d
 | (i,x)::r,h,p,c=>by
  unfold nL at c;split at c
  ·rcases Qm.mp c with e | e
   ·subst e;exact h (i,x) Qj
   ·exact h p (Ql _ e)
  ·rcases Qm.mp c with e | e
   ·subst e;exact h (i,x) Qj
   ·exact sX d (λq j=>h q (Ql _ j)) p e
theorem da{f:Str}{pos':Pos}(i:Nat)(hi:bd[i]?=some f)(Y:i∈kU)(hc:∀c,c<2->oP X.K (g.cl c))(hn:∀c,c<2->b9 X.K (g.cl c) f)(L:PE X o (up g ba))(hv:PE X e (up g bb))(hs:RX e (some<|.Attribute o f pos') pos.line X.env=pure false) :
  PS X (.Assign [.Attribute o f pos'] e pos) (dw g<|MS i ba bb):=by
 refine PS.imp (λD σ H hx=>yr hx λF y ρ S O d C r h p _=>?_) (J6 L hv hs);refine ar C r h λy1 ρ1 S1 H1 aw w st C1 r1 U h1=>ar C1 r1 h1 λQ ρ2 S2 H2 ax x u C2 r2 rx j=>?_;cases ax with
 | ref n=>
  dsimp only at j;cases q:S2.t.get n with
  | none=>rw[q] at j;cases j
  | some ob=>
   rw[q] at j;cases ob with
   | ins c fs=>
    dsimp only at j;cases q2:QV fs.length 100 with
    | false=>rw[q2] at j;cases j
    | true=>
     rw[q2] at j;obtain⟨a,dx,gs,rfl,I,m,L,pr,Z⟩:=C2.ins rx q;have hl:=QP pr;have hl2:=bA q2;have l:aB F Q ρ2 H2 Q ρ2 (upd H2 a<|.ins (g.cl c) dx<|iD f w gs):=aB.set C2 I L;refine⟨a,_,dx,gs,rfl,L,hc c m,hn c m,by omega,?_⟩;refine p Q ρ2 _ _ O σ ((st.trans u).trans l) (C2.set I L (o:=.ins c (nL i aw fs)) (ob:=⟨dx,_,⟨m,rfl,sX Y Z⟩,wv hi (aT.mono (u.trans l) U)<|aV (λ_ _ z=>⟨z.1,aT.mono l z.2⟩) pr⟩)) (bF.mono l r2) j
   | _=>cases j
 | _=>cases j
end
def f6:AV->Bool
 | .int false lo c=>dq lo c&&dq c lo
 | .str _=>true
 | _=>false
def fS:AV->Bool
 | .tn=>true
 | .tc h t=>f6 h&&fS t
 | _=>false
def xN:AV->AV->Bool
 | .int _ lo _,.int _ f _=>dq lo f&&dq f lo
 | .str i,.str j=>Qn i j
 | .tn,.tn=>true
 | .tc a b,.tc c d=>xN a c&&xN b d
 | _,_=>false
section
variable{F:Fx}
theorem dv{ax:AV}{x:V}(h:f6 ax=true)(r:aT F y ρ H ax x):∃k,gF ax k/\x=kV k:=by
 cases ax with
 | int s lo c=>cases s with
  | true=>cases h
  | false=>
   simp only[f6,Qq,bi] at h;obtain⟨z,rfl,h1,d⟩:=r;have e:z=lo:=by omega
   subst e;exact⟨.inl z,⟨by omega,rfl⟩,rfl⟩
 | str i=>obtain⟨w,e,rfl⟩:=r;exact⟨.inr w,⟨w,e,rfl⟩,rfl⟩
 | _=>cases h
theorem ww:∀{ax:AV} {xs:List V},fS ax=true->rM F y ρ H ax xs->∃ks:List bj,gM ax ks/\xs=ks.map kV
 | .tn,_,_,r=>⟨[],rfl,r⟩
 | .tc a b,_,h,⟨w,g,e,h1,f⟩=>by
  simp only[fS,Qq] at h;obtain⟨k,d,rfl⟩:=dv h.1 h1;obtain⟨ks,c,rfl⟩:=ww h.2 f;exact⟨k::ks,⟨k,ks,rfl,d,c⟩,e⟩
 | .non,_,h,_=>by cases h
 | .bl _,_,h,_=>by cases h
 | .int _ _ _,_,h,_=>by cases h
 | .str _,_,h,_=>by cases h
 | .ref _,_,h,_=>by cases h
 | .ext _,_,h,_=>by cases h
theorem uQ{ax:AV}{x:V}(h:fS ax=true)(r:aT F y ρ H ax x):∃(ks:List bj) (b:P3),gM ax ks/\x=.ref b/\H b=some (.tup<|ks.map kV):=by
 cases ax with
 | tn=>obtain⟨a,rfl,d⟩:=r;exact⟨[],a,rfl,rfl,d⟩
 | tc p q=>
  obtain⟨a,w,f,rfl,d,h1,g⟩:=r;obtain⟨ks,c,e⟩:=ww (ax:=.tc p q) (xs:=w::f) h ⟨w,f,rfl,h1,g⟩;exact⟨ks,a,c,rfl,by rw[d,e]⟩
 | _=>cases h
theorem gQ{a b:AV}{k l:bj}(h1:gF a k)(d:gF b l):xN a b=decide (k=l):=by
 cases a with
 | int s lo o=>cases s with
  | true=>exact h1.elim
  | false=>
   obtain⟨_,rfl⟩:=h1;cases b with
   | int s' c f=>cases s' with
    | true=>exact d.elim
    | false=>
     obtain⟨_,rfl⟩:=d;unfold xN;by_cases q:lo=c
     ·subst q;simp[bi]
     ·have:¬(Ug lo:bj)=Ug c:=λe=>q (by injection e);rw[decide_eq_false this];cases e:(dq lo c&&dq c lo) with
      | false=>rfl
      | true=>simp only[Qq,bi] at e;exact absurd (by omega) q
   | str j=>
    obtain⟨x,_,rfl⟩:=d;simp[xN]
   | _=>exact d.elim
 | str i=>
  obtain⟨x,h,rfl⟩:=h1;cases b with
  | int s' c f=>cases s' with
   | true=>exact d.elim
   | false=>
    obtain⟨_,rfl⟩:=d;simp[xN]
  | str j=>
   obtain⟨m,g,rfl⟩:=d;unfold xN;rw[gE];by_cases q:i=j
   ·subst q;rw[h] at g;cases g;simp
   ·have:¬(TJ x:bj)=TJ m:=λe=>q (by injection e with e;subst e;exact dU h g);simp[q,this]
  | _=>exact d.elim
 | _=>exact h1.elim
theorem jv:∀{a b:AV} {k l:List bj},gM a k->gM b l->xN a b=decide (k=l)
 | .tn,.tn,_,_,h1,f=>by cases h1;cases f;simp[xN]
 | .tn,.tc c d,_,_,h1,⟨k,r,e,_⟩=>by cases h1;subst e;simp[xN]
 | .tc a b,.tn,_,_,⟨k,r,e,_⟩,f=>by cases f;subst e;simp[xN]
 | .tc a b,.tc c d,_,_,⟨k,r,e,h1,f⟩,⟨i,g,o,m,j⟩=>by
  subst e o;unfold xN;rw[gQ h1 m,jv f j];by_cases q:k=i<;>by_cases q2:r=g<;>simp[q,q2]
 | .non,_,_,_,h,_=>h.elim
 | .bl _,_,_,_,h,_=>h.elim
 | .int _ _ _,_,_,_,h,_=>h.elim
 | .str _,_,_,_,h,_=>h.elim
 | .ref _,_,_,_,h,_=>h.elim
 | .ext _,_,_,_,h,_=>h.elim
 | .tn,.non,_,_,_,h=>h.elim
 | .tn,.bl _,_,_,_,h=>h.elim
 | .tn,.int _ _ _,_,_,_,h=>h.elim
 | .tn,.str _,_,_,_,h=>h.elim
 | .tn,.ref _,_,_,_,h=>h.elim
 | .tn,.ext _,_,_,_,h=>h.elim
 | .tc _ _,.non,_,_,_,h=>h.elim
 | .tc _ _,.bl _,_,_,_,h=>h.elim
 | .tc _ _,.int _ _ _,_,_,_,h=>h.elim
 | .tc _ _,.str _,_,_,_,h=>h.elim
 | .tc _ _,.ref _,_,_,_,h=>h.elim
 | .tc _ _,.ext _,_,_,_,h=>h.elim
end
def er:List (AV×AV)->AV->Option AV
 | [],_=>none
 | (k,v)::r,x=>match xN k x with
  | true=>some v
  | false=>er r x
def wx:List (AV×AV)->AV->AV->List (AV×AV)
 | [],_,_=>[]
 | (k,v)::r,x,w=>match xN k x with
  | true=>(k,w)::wx r x w
  | false=>(k,v)::wx r x w
def nM:List (AV×AV)->AV->List (AV×AV)
 | [],_=>[]
 | (k,v)::r,x=>match xN k x with
  | true=>nM r x
  | false=>(k,v)::nM r x
def rN(kvs:List (AV×AV))(x w:AV):List (AV×AV):=match er kvs x with
 | some _=>wx kvs x w
 | none=>kvs++[(x,w)]
section
variable{κ:Type}[DecidableEq κ]{KR:AV->κ->Prop}{R:AV->V->Prop}(hK:∀a b k l,KR a k->KR b l->xN a b=decide (k=l)){ax:AV}{k:κ}(hx:KR ax k)
include hK hx
theorem ip:∀{kvs:List (AV×AV)} {ks:List (κ×V)},Paired (λp q=>KR p.1 q.1/\R p.2 q.2) kvs ks->(∀av,er kvs ax=some av->∃v,c7 ks k=some v/\R av v)/\(er kvs ax=none->c7 ks k=none)
 | _,_,.nil=>⟨λ_ h=>by(cases h),λ_=>rfl⟩
 | _,_,.cons (a:=(l,w)) (b:=(c,v)) hd tl=>by
  obtain⟨h1,d⟩:=hd;dsimp only at h1 d;unfold er;rw[hK l ax c k h1 hx];by_cases q:c=k
  ·subst q;simp[c7,SC];exact d
  ·have f:=ip tl;have e:∀r:List (κ×V),c7 ((c,v)::r) k=c7 r k:=λr=>lH q;simp only[q,decide_false];rw[e];exact f
theorem qb{w:AV}{v:V}(c:R w v):∀{kvs:List (AV×AV)} {ks:List (κ×V)},Paired (λp q=>KR p.1 q.1/\R p.2 q.2) kvs ks->Paired (λp q=>KR p.1 q.1/\R p.2 q.2) (wx kvs ax w) (ks.map λkv=>if kv.1=k then(kv.1,v) else kv)
 | _,_,.nil=>.nil
 | _,_,.cons (a:=(l,u)) (b:=(d,g)) hd tl=>by
  obtain⟨h1,f⟩:=hd;dsimp only at h1 f;unfold wx;rw[hK l ax d k h1 hx,Qx];by_cases q:d=k
  ·simp only[q,decide_true,if_true];exact .cons ⟨by rw[<-q];exact h1,c⟩ (qb c tl)
  ·simp only[q,decide_false,if_false];exact .cons ⟨h1,f⟩ (qb c tl)
theorem lS:∀{kvs:List (AV×AV)} {ks:List (κ×V)},Paired (λp q=>KR p.1 q.1/\R p.2 q.2) kvs ks->Paired (λp q=>KR p.1 q.1/\R p.2 q.2) (nM kvs ax) (ij ks k)
 | _,_,.nil=>.nil
 | _,_,.cons (a:=(l,u)) (b:=(c,f)) hd tl=>by
  obtain⟨h1,d⟩:=hd;dsimp only at h1 d;unfold nM ij;rw[hK l ax c k h1 hx,SE];by_cases q:c=k
  ·simp only[q,decide_true,ne_eq,not_true,decide_false];exact lS tl
  ·simp only[q,decide_false,ne_eq,not_false_eq_true,decide_true,if_true];exact .cons ⟨h1,d⟩ (lS tl)
theorem oW{w:AV}{v:V}(c:R w v){kvs:List (AV×AV)}{ks:List (κ×V)}(h:Paired (λp q=>KR p.1 q.1/\R p.2 q.2) kvs ks):Paired (λp q=>KR p.1 q.1/\R p.2 q.2) (rN kvs ax w) (df ks k v):=by
 have q:=ip hK hx h;have e:(ks.any λkv=>decide (kv.1=k))=(c7 ks k).isSome:=pK ..;unfold rN df;rw[e];cases z:er kvs ax with
 | none=>
  rw[q.2 z];simp only[Ye,Qt,if_false];exact Zc h ⟨hx,c⟩
 | some av=>
  obtain⟨f,d,_⟩:=q.1 av z;rw[d];simp only[X9,if_true];exact qb hK hx c h
end
def i0(S:aM)(x y:AV):Option (Option AV):=match x with
 | .ref n=>match S.t.get n with
  | some (.dk kvs)=>match f6 y with
   | true=>some (er kvs y)
   | false=>none
  | some (.dt kvs)=>match fS y with
   | true=>some (er kvs y)
   | false=>none
  | some (.fz (.dk kvs))=>match f6 y with
   | true=>some (er kvs y)
   | false=>none
  | some (.fz (.dt kvs))=>match fS y with
   | true=>some (er kvs y)
   | false=>none
  | _=>none
 | _=>none
def zZ(S:aM)(x y v:AV):Option aM:=match x with
 | .ref n=>match S.t.get n with
  | some (.dk kvs)=>match f6 y&&QV kvs.length 1000 with
   | true=>some (S.set n<|.dk<|rN kvs y v)
   | false=>none
  | some (.dt kvs)=>match fS y&&QV kvs.length 1000 with
   | true=>some (S.set n<|.dt<|rN kvs y v)
   | false=>none
  | _=>none
 | _=>none
section
variable{g:Gx}{F:Fx}{S:aM}
def OT(F:Fx)(y:Option Int)(ρ:List P3)(H:Hp):Option AV->Option V->Prop
 | some a,o=>∃v,o=some v/\aT F y ρ H a v
 | none,o=>o=none
theorem z4{kvs:List (AV×AV)}{ks:List (bj×V)}{a:P3}(j:Rd H a (.dK ks))(h:Paired (λp q=>gF p.1 q.1/\aT F y ρ H p.2 q.2) kvs ks){c:AV}{k:V}(q2:f6 c=true)(f:aT F y ρ H c k):∃o,iF H a k o/\OT F y ρ H (er kvs c) o:=by
 obtain⟨d,l,rfl⟩:=dv q2 f;obtain⟨l1,i⟩:=ip (KR:=gF) (R:=aT F y ρ H) (λ_ _ _ _ h1 m=>gQ h1 m) l h;refine⟨c7 ks d,.inl ⟨ks,d,j,rfl,rfl⟩,?_⟩;cases z:er kvs c with
 | none=>exact i z
 | some av=>exact l1 av z
theorem z5{kvs:List (AV×AV)}{ks:List (List bj×V)}{a:P3}(j:Rd H a (.dT ks))(h:Paired (λp q=>gM p.1 q.1/\aT F y ρ H p.2 q.2) kvs ks){c:AV}{k:V}(q2:fS c=true)(f:aT F y ρ H c k):∃o,iF H a k o/\OT F y ρ H (er kvs c) o:=by
 obtain⟨d,b,l,rfl,hb⟩:=uQ q2 f;obtain⟨l1,i⟩:=ip (KR:=gM) (R:=aT F y ρ H) (λ_ _ _ _ h1 m=>jv h1 m) l h;refine⟨c7 ks d,.inr ⟨ks,d,b,j,rfl,hb,rfl⟩,?_⟩;cases z:er kvs c with
 | none=>exact i z
 | some av=>exact l1 av z
theorem jw(C:aI g F y ρ S H){ax i:AV}{x k:V}(p:aT F y ρ H ax x)(j:aT F y ρ H i k){r:Option AV}(h:i0 S ax i=some r):∃a o,x=.ref a/\iF H a k o/\OT F y ρ H r o:=by
 cases ax with
 | ref n=>
  unfold i0 at h;dsimp only at h;cases q:S.t.get n with
  | none=>rw[q] at h;cases h
  | some ob=>
   rw[q] at h;obtain⟨a,ho,rfl,_,l,c⟩:=C.obj p q;cases ob with
   | dk kvs=>
    dsimp only at h;cases q2:f6 i with
    | false=>rw[q2] at h;cases h
    | true=>
     rw[q2] at h;cases h;obtain⟨ks,rfl,d⟩:=c;obtain⟨o,h1,f⟩:=z4 (.inl l) d q2 j;exact⟨a,o,rfl,h1,f⟩
   | dt kvs=>
    dsimp only at h;cases q2:fS i with
    | false=>rw[q2] at h;cases h
    | true=>
     rw[q2] at h;cases h;obtain⟨ks,rfl,d⟩:=c;obtain⟨o,h1,f⟩:=z5 (.inl l) d q2 j;exact⟨a,o,rfl,h1,f⟩
   | fz m=>
    obtain⟨z,u,rfl,c⟩:=c;cases m with
    | dk kvs=>
     dsimp only at h;cases q2:f6 i with
     | false=>rw[q2] at h;cases h
     | true=>
      rw[q2] at h;cases h;obtain⟨ks,rfl,d⟩:=c;obtain⟨o,h1,f⟩:=z4 (.inr ⟨_,l⟩) d q2 j;exact⟨a,o,rfl,h1,f⟩
    | dt kvs=>
     dsimp only at h;cases q2:fS i with
     | false=>rw[q2] at h;cases h
     | true=>
      rw[q2] at h;cases h;obtain⟨ks,rfl,d⟩:=c;obtain⟨o,h1,f⟩:=z5 (.inr ⟨_,l⟩) d q2 j;exact⟨a,o,rfl,h1,f⟩
    | _=>cases h
   | _=>cases h
 | _=>cases h
theorem Ei(C:aI g F y ρ S H){ax f l:AV}{x k w:V}(I:aT F y ρ H ax x)(L:aT F y ρ H f k)(i:aT F y ρ H l w){O:aM}(h:zZ S ax f l=some O) :
  ∃a u,x=.ref a/\rE H a k w u/\aB F y ρ H y ρ u/\aI g F y ρ O u:=by
 cases ax with
 | ref n=>
  unfold zZ at h;dsimp only at h;cases q:S.t.get n with
  | none=>rw[q] at h;cases h
  | some ob=>
   rw[q] at h;cases ob with
   | dk kvs=>
    dsimp only at h;cases q2:f6 f&&QV kvs.length 1000 with
    | false=>rw[q2] at h;cases h
    | true=>
     rw[q2] at h;cases h;rw[Qq] at q2;obtain⟨a,ks,rfl,c,d,j⟩:=C.dk I q;obtain⟨m,p,rfl⟩:=dv q2.1 L;have hl:=QP j;have st:aB F y ρ H y ρ (upd H a<|.dK<|df ks m w):=aB.set C c d;refine⟨a,_,rfl,rE.k d<|by rw[<-hl];exact bX (bA q2.2),st,C.set c d (o:=.dk (rN kvs f l)) (ob:=⟨_,rfl,?_⟩)⟩;exact oW (KR:=gF) (R:=aT F y ρ _) (λ_ _ _ _ h1 r=>gQ h1 r) p (aT.mono st i) (aV (λ_ _ z=>⟨z.1,aT.mono st z.2⟩) j)
   | dt kvs=>
    dsimp only at h;cases q2:fS f&&QV kvs.length 1000 with
    | false=>rw[q2] at h;cases h
    | true=>
     rw[q2] at h;cases h;rw[Qq] at q2;obtain⟨a,ks,rfl,c,d,j⟩:=C.dt I q;obtain⟨m,b,p,rfl,hb⟩:=uQ q2.1 L;have hl:=QP j;have st:aB F y ρ H y ρ (upd H a<|.dT<|df ks m w):=aB.set C c d;refine⟨a,_,rfl,rE.t d hb<|by rw[<-hl];exact bX (bA q2.2),st,C.set c d (o:=.dt (rN kvs f l)) (ob:=⟨_,rfl,?_⟩)⟩;exact oW (KR:=gM) (R:=aT F y ρ _) (λ_ _ _ _ h1 r=>jv h1 r) p (aT.mono st i) (aV (λ_ _ z=>⟨z.1,aT.mono st z.2⟩) j)
   | _=>cases h
 | _=>cases h
def mP(S:aM)(x:AV):Bool:=match x with
 | .ref n=>match S.t.get n with
  | some (.dk _)=>true
  | some (.dt _)=>true
  | _=>false
 | _=>false
theorem sY(C:aI g F y ρ S H){ax:AV}{x:V}(d:aT F y ρ H ax x)(h:mP S ax=true):∃a,x=.ref a/\Oc H a:=by
 cases ax with
 | ref n=>
  unfold mP at h;dsimp only at h;cases q:S.t.get n with
  | none=>rw[q] at h;cases h
  | some ob=>
   rw[q] at h;cases ob with
   | dk kvs=>
    obtain⟨a,ks,rfl,_,c,f⟩:=C.dk d q;exact⟨a,rfl,.inl ⟨ks,.inl c⟩⟩
   | dt kvs=>
    obtain⟨a,ks,rfl,_,c,f⟩:=C.dt d q;exact⟨a,rfl,.inr ⟨ks,.inl c⟩⟩
   | _=>cases h
 | _=>cases h
end
def Jl(a b:BE):BE:=λσ S k=>a σ S λx S1=>b σ S1 λz c=>match i0 c x z with
 | some (some v)=>k v c
 | _=>false
def KH(b a:BE):BE:=λσ S k=>b σ S λz S1=>a σ S1 λx c=>match i0 c x z with
 | some (some _)=>k (.bl true) c
 | some none=>k (.bl false) c
 | none=>false
def z6(b a:BE):BE:=λσ S k=>b σ S λz S1=>a σ S1 λx c=>match i0 c x z with
 | some (some _)=>k (.bl false) c
 | some none=>k (.bl true) c
 | none=>false
def MT(a b:BE):BE:=λσ S k=>a σ S λx S1=>match mP S1 x with
 | true=>b σ S1 λz c=>match i0 c x z with
  | some (some v)=>k v c
  | some none=>k .non c
  | none=>false
 | false=>false
def MU(a b c:BE):BE:=λσ S k=>a σ S λx S1=>match mP S1 x with
 | true=>b σ S1 λz f=>c σ f λw d=>match i0 d x z with
  | some (some v)=>k v d
  | some none=>k w d
  | none=>false
 | false=>false
def Ej(a b c:BE):BS:=λd σ S=>c σ S λv S1=>a σ S1 λx h=>b σ h λz g=>match zZ g x z v with
 | some f=>d.nx σ f
 | none=>false
section
variable{g:Gx}{a b c e o i f value:Qv}{ba bb bc:BE}{br:BA}{pos pos':Pos}
theorem aS(hu:X.A.units+1<R0)(ho:PE X o (up g ba))(hi:PE X i (up g bb))(hs:DE i):PE X (.Subscript o i pos) (up g<|Jl ba bb):=by
 refine PE.imp (λσ H Q hx=>eO hx λF y ρ S I k C r h p=>?_) (Gp hu ho hi hs);refine ar C r h λy1 L S1 H1 ax x st C1 Z Y h1=>ar C1 Z h1 λO ρ2 m H2 az z j u r2 U d=>?_;cases q:i0 m ax az with
 | none=>simp only[q] at d;cases d
 | some o=>cases o with
  | none=>simp only[q] at d;cases d
  | some v=>
   simp only[q] at d;obtain⟨a,o,rfl,dg,w,rfl,l⟩:=jw u (aT.mono j Y) U q;exact⟨a,w,rfl,dg,p O ρ2 m H2 v w (st.trans j) u l d⟩
theorem z7:∀σ H Q,up g (KH bb ba) σ H Q->MD (up g bb) (up g ba) σ H Q:=λσ H Q hx=>eO hx λF y ρ S O k C r h p=>
 ar C r h λy1 U S1 H1 az z st C1 r1 Y h1=>ar C1 r1 h1 λu ρ2 l L ax x d m r2 Z j=>by
  cases q:i0 l ax az with
  | none=>simp only[q] at j;cases j
  | some o=>
   obtain⟨a,I,rfl,dg,w⟩:=jw m Z (aT.mono d Y) q;refine⟨a,I,rfl,dg,?_⟩;cases o with
   | none=>
    simp only[q] at j;cases(show I=none from w);exact p u ρ2 l L (.bl false) _ (st.trans d) m rfl j
   | some v=>
    simp only[q] at j;obtain⟨w,rfl,_⟩:=w;exact p u ρ2 l L (.bl true) _ (st.trans d) m rfl j
theorem yy:∀σ H Q,up g (z6 bb ba) σ H Q->zM (up g bb) (up g ba) σ H Q:=λσ H Q hx=>eO hx λF y ρ S O k C r h p=>
 ar C r h λy1 U S1 H1 az z st C1 r1 Y h1=>ar C1 r1 h1 λu ρ2 l L ax x d m r2 Z j=>by
  cases q:i0 l ax az with
  | none=>simp only[q] at j;cases j
  | some o=>
   obtain⟨a,I,rfl,dg,w⟩:=jw m Z (aT.mono d Y) q;refine⟨a,I,rfl,dg,?_⟩;cases o with
   | none=>
    simp only[q] at j;cases(show I=none from w);exact p u ρ2 l L (.bl true) _ (st.trans d) m rfl j
   | some v=>
    simp only[q] at j;obtain⟨w,rfl,_⟩:=w;exact p u ρ2 l L (.bl false) _ (st.trans d) m rfl j
theorem yA(d:X.A.units+1<R0)(h:PE X i (up g bb))(ho:PE X o (up g ba))(h1:Rt .In o=false):PE X (.Compare i [.In] [o] pos) (up g<|KH bb ba):=PE.imp z7 (pA (DF d h ho) h1)
theorem yB(d:X.A.units+1<R0)(h:PE X i (up g bb))(ho:PE X o (up g ba))(h1:Rt .In o=false):PT X (.Compare i [.In] [o] pos) (fP g<|bB<|KH bb ba):=PT.imp (fB z7) (cR (DF d h ho) h1)
theorem sZ(d:X.A.units+1<R0)(h:PE X i (up g bb))(ho:PE X o (up g ba))(h1:Rt .NotIn o=false):PT X (.Compare i [.NotIn] [o] pos) (fP g<|bB<|z6 bb ba):=PT.imp (fB yy) (cR (Bn d h ho) h1)
theorem GY{j d:Pos}(hu:X.A.units+1<R0)(ho:PE X o (up g ba))(he:PE X e (up g bb))(m:M1 X o "get" j e d):PE X (.Call (.Attribute o "get" j) [e] [] d) (up g<|MT ba bb):=by
 refine PE.imp (λσ H Q hx=>eO hx λF y ρ S σa k C r h p=>?_) (DJ hu ho he m);refine ar C r h λy1 ρ1 S1 H1 ax x st C1 r1 Z h1=>?_;cases q0:mP S1 ax with
 | false=>simp only[q0] at h1;cases h1
 | true=>
  simp only[q0] at h1;obtain⟨a,rfl,L⟩:=sY C1 Z q0;refine⟨a,rfl,L,ar C1 r1 h1 λY ρ2 O H2 az z l U r2 rz u=>?_⟩;cases q:i0 O ax az with
  | none=>simp only[q] at u;cases u
  | some o=>
   obtain⟨a',ov,e,dg,w⟩:=jw U (aT.mono l Z) rz q;cases e;refine⟨ov,dg,?_⟩;cases o with
   | none=>
    simp only[q] at u;cases(show ov=none from w);exact p Y ρ2 O H2 .non _ (st.trans l) U rfl u
   | some v=>
    simp only[q] at u;obtain⟨w,rfl,I⟩:=w;exact p Y ρ2 O H2 v _ (st.trans l) U I u
theorem z8{l j:Pos}(hu:X.A.units+1<R0)(ho:PE X o (up g ba))(he:PE X e (up g bb))(hf:PE X f (up g bc))(m:M2 X o "get" l e f j):PE X (.Call (.Attribute o "get" l) [e,f] [] j) (up g<|MU ba bb bc):=by
 refine PE.imp (λσ H Q hx=>eO hx λF y ρ S σa k C r h p=>?_) (DK hu ho he hf m);refine ar C r h λy1 ρ1 S1 H1 ax x st C1 r1 rx h1=>?_;cases q0:mP S1 ax with
 | false=>simp only[q0] at h1;cases h1
 | true=>
  simp only[q0] at h1;obtain⟨a,rfl,Y⟩:=sY C1 rx q0;refine⟨a,rfl,Y,ar C1 r1 h1 λy2 ρ2 S2 H2 az z I C2 r2 rz h2=>ar C2 r2 h2 λy3 U Z H3 aw w d C3 r3 L O=>?_⟩;cases q:i0 Z ax az with
  | none=>simp only[q] at O;cases O
  | some o=>
   obtain⟨a',ov,e,dg,u⟩:=jw C3 (aT.mono (I.trans d) rx) (aT.mono d rz) q;cases e;refine⟨ov,dg,?_⟩;cases o with
   | none=>
    simp only[q] at O;cases(show ov=none from u);exact p y3 U Z H3 aw _ ((st.trans I).trans d) C3 L O
   | some v=>
    simp only[q] at O;obtain⟨w,rfl,L⟩:=u;exact p y3 U Z H3 v _ ((st.trans I).trans d) C3 L O
theorem oX(hu:X.A.units+1<R0)(ho:PE X o (up g ba))(hi:PE X i (up g bb))(hv:PE X value (up g bc))(hs:RX value (some<|.Subscript o i pos') pos.line X.env=pure false):PS X (.Assign [.Subscript o i pos'] value pos) (dw g<|Ej ba bb bc):=by
 refine PS.imp (λD σ H hx=>yr hx λF y ρ S I d C r h p _=>?_) (Gq hu ho hi hv hs);refine ar C r h λy1 Q S1 H1 av v st C1 r1 rv h1=>ar C1 r1 h1 λy2 ρ2 S2 H2 ax x m C2 r2 Z h2=>ar C2 r2 h2 λU L S3 H3 az z j C3 r3 Y u=>?_;cases q:zZ S3 ax az av with
 | none=>simp only[q] at u;cases u
 | some S4=>
  simp only[q] at u;obtain⟨a,O,rfl,dp,l,C4⟩:=Ei C3 (aT.mono j Z) Y (aT.mono (m.trans j) rv) q;exact⟨a,O,rfl,dp,p U L S4 O I σ (((st.trans m).trans j).trans l) C4 (bF.mono l r3) u⟩
def KI:BE:=λ_ S k=>k (.ref S.n) (S.add<|.dk [])
def KJ:BE:=λ_ S k=>k (.ref S.n) (S.add<|.dt [])
theorem iq:PE X (.Dict [] [] pos) (up g KI):=by
 refine PE.imp (λσ H Q l=>eO l λF y ρ S j k C r h p=>?_) wb;intro pl d;exact p y _ _ _ (.ref S.n) _ (aB.add d) (C.add (o:=.dk []) d ⟨[],rfl,.nil⟩) ⟨pl,by rw[C.n];simp,rfl⟩ h
theorem Ek:PE X (.Dict [] [] pos) (up g KJ):=by
 refine PE.imp (λσ H Q l=>eO l λF y ρ S j k C r h p=>?_) DH;intro pl d;exact p y _ _ _ (.ref S.n) _ (aB.add d) (C.add (o:=.dt []) d ⟨[],rfl,.nil⟩) ⟨pl,by rw[C.n];simp,rfl⟩ h
def uR(S:aM):AV->Option (List AV)
 | .ref n=>match S.t.get n with
  | some (.lst xs)=>some xs
  | _=>none
 | .tn=>some []
 | .tc h t=>wp (.tc h t)
 | _=>none
theorem oY{F:Fx}{S:aM}(C:aI g F y ρ S H){ax:AV}{x:V}(d:aT F y ρ H ax x){xs:List AV}(h:uR S ax=some xs):∃vs,gK H x=some vs/\aQ F y ρ H xs vs:=by
 have ch:∀{ax:AV},aT F y ρ H ax x->wp ax=some xs->∃vs,gK H x=some vs/\aQ F y ρ H xs vs:=λ{ax} d h=>by
  rw[gq h] at d;obtain⟨a,vs,rfl,l,j⟩:=d.chain_of;exact⟨vs,Bu l,j⟩
 cases ax with
 | ref n=>
  unfold uR at h;cases q:S.t.get n with
  | none=>simp only[q] at h;cases h
  | some ob=>
   simp only[q] at h;cases ob with
   | lst ys=>
    cases h;obtain⟨a,vs,rfl,_,l,j⟩:=C.lst d q;exact⟨vs,Bt l,j⟩
   | _=>cases h
 | tn=>exact ch d h
 | tc p q=>exact ch d h
 | _=>cases h
def lT:AV->Option (List AV)
 | .tn=>some []
 | .tc h t=>wp (.tc h t)
 | _=>none
theorem ir:∀{ax:AV} {xs:List AV},lT ax=some xs->ax=chain xs
 | .tn,_,h=>by cases h;rfl
 | .tc _ _,_,h=>gq h
 | .non,_,h=>by cases h
 | .bl _,_,h=>by cases h
 | .int _ _ _,_,h=>by cases h
 | .str _,_,h=>by cases h
 | .ref _,_,h=>by cases h
 | .ext _,_,h=>by cases h
theorem gR{F:Fx}{ax:AV}{x:V}(d:aT F y ρ H ax x){xs:List AV}(h:lT ax=some xs):∃a vs,x=.ref a/\H a=some (.tup vs)/\aQ F y ρ H xs vs:=by
 rw[ir h] at d;exact d.chain_of
def Of(xs:List AV)(i:Int):Option AV:=match i with
 | .ofNat j=>xs[j]?
 | .negSucc j=>match QV (j+1) xs.length with
  | true=>xs[xs.length - (j+1)]?
  | false=>none
theorem et{F:Fx}{y:Option Int}{ρ:List P3}{H:Hp}:∀{xs:List AV} {vs:List V} {i:Nat} {av:AV},aQ F y ρ H xs vs->xs[i]?=some av->∃v,vs[i]?=some v/\aT F y ρ H av v
 | _,_,_,_,.nil,e=>by simp at e
 | _,_,0,_,.cons r _,e=>by simp at e;subst e;exact⟨_,rfl,r⟩
 | _,_,i+1,av,.cons _ t,e=>by
  obtain⟨v,h1,d⟩:=et (i:=i) (av:=av) t (by simpa using e);exact⟨v,by simpa using h1,d⟩
theorem KL{F:Fx}{xs:List AV}{i:Int}{av:AV}(r:aQ F y ρ H xs vs)(h:Of xs i=some av):∃v,F4 vs i=some v/\aT F y ρ H av v:=by
 cases i with
 | ofNat j=>
  obtain⟨v,h1,d⟩:=et r h;exact⟨v,zI h1,d⟩
 | negSucc j=>
  unfold Of at h;dsimp only at h;cases q:QV (j+1) xs.length with
  | false=>rw[q] at h;cases h
  | true=>
   rw[q] at h;have l:=aP r;have m:=bA q;obtain⟨v,h1,d⟩:=et r h;refine⟨v,?_,d⟩;unfold F4 Dx;rw[if_neg (by omega),if_pos (by omega)];show vs[(Ze j+(vs.length:Int)).toNat]?=some v;rw[<-h1,l];congr 1;omega
def Aa:AV->AV->aM->(AV->aM->Bool)->Bool:=λa b S k=>match b with
 | .int false lo d=>match dq lo d&&dq d lo with
  | true=>match uR S a with
   | some xs=>match Of xs lo with
    | some v=>k v S
    | none=>false
   | none=>false
  | false=>false
 | _=>false
theorem KM:io g Ks Aa:=by
 intro F y ρ S H x z ax I k Q C l j h p;cases I with
 | int s lo d=>cases s with
  | true=>cases h
  | false=>
   unfold Aa at h;dsimp only at h;cases q0:dq lo d&&dq d lo with
   | false=>rw[q0] at h;cases h
   | true=>
    rw[q0] at h;simp only[Qq,bi] at q0;obtain⟨i,rfl,h1,L⟩:=j;have:i=lo:=by omega
    subst this;dsimp only at h;cases q:uR S ax with
    | none=>rw[q] at h;cases h
    | some xs=>
     rw[q] at h;dsimp only at h;cases q2:Of xs i with
     | none=>rw[q2] at h;cases h
     | some av=>
      rw[q2] at h;obtain⟨vs,e,r⟩:=oY C l q;obtain⟨v,u,m⟩:=KL r q2;show on (gK H x) λxs=>on (F4 xs i) λv=>Q v H;rw[e,bP,u,bP];exact p.here C m h
 | _=>cases h
theorem a6(d:PE X a (up g ba))(hb:PE X b (up g bb))(hs:zJ b):PE X (.Subscript a b pos) (up g<|eQ Aa ba bb):=PE.imp (uL KM) (IY ON d hb hs)
def KN(f:List AV->aM->(AV->aM->Bool)->Bool)(r:BA):BE:=λσ S k=>r σ S λxs S1=>f xs S1 k
theorem El{r:List V->Hp->VK->Prop}{f}(u:mK g r f):∀σ H Q,up g (KN f br) σ H Q->J9 r (iY g br) σ H Q:=λσ H Q q=>eO q λF y ρ S j k C r h p=>
 bn C r h λl d S1 H1 ax x st C1 z m h1=>u F l d S1 H1 x ax k Q C1 m h1 (p.mono st)
theorem bo{x:Str}{p:Pos}{id:String}{r:List V->Hp->VK->Prop}{f}(u:cZ X (.builtin id) r)(q:mK g r f)(m:Gl X x)(l:X.mg x=none)(j:Q9 x=some (.builtin id))(z:PA X (e::es) (iY g br))(hn:x≠"__name__":=by decide)(h:(x==("__debug__":Str))=false:=by decide)
  (he:hE9 X e es:=by nofun) (d:hP9 X pos es:=by nofun):PE X (.Call (.Name x p) (e::es) [] pos) (up g<|KN f br):=PE.imp (El q) (ii u m l j z hn h he d)
theorem bM{x:Str}{p:Pos}{T:String}{r:List V->Hp->VK->Prop}{f}(u:cZ X (.type T) r)(q:mK g r f)(m:Gl X x)(l:X.mg x=none)(j:Q9 x=some (.type T))(z:PA X (e::es) (iY g br))(hn:x≠"__name__":=by decide)(h:(x==("__debug__":Str))=false:=by decide)
  (he:hE9 X e es:=by nofun) (d:hP9 X pos es:=by nofun):PE X (.Call (.Name x p) (e::es) [] pos) (up g<|KN f br):=PE.imp (El q) (sO u m l j z hn h he d)
def Em:List AV->aM->(AV->aM->Bool)->Bool:=λxs S k=>match xs with
 | [x]=>match uR S x with
  | some ys=>k (.int false (.ofNat ys.length)<|.ofNat ys.length) S
  | none=>false
 | _=>false
theorem f9:mK g zR Em:=by
 intro F y ρ S H xs l k Q C d h p;cases d with
 | nil=>cases h
 | cons r t=>cases t with
  | cons _ _=>cases h
  | nil=>
   unfold Em at h;dsimp only at h;split at h
   ·rename_i ys q;obtain⟨vs,e,j⟩:=oY C r q;unfold zR;dsimp only;rw[e,bP];have:=aP j;exact p.here C (av:=.int false _ _) ⟨_,rfl,by rw[<-this];exact Rr _,by rw[<-this];exact Rr _⟩ h
   ·cases h
def yC:List AV->aM->(AV->aM->Bool)->Bool:=λxs S k=>match xs with
 | [x]=>match uR S x with
  | some ys=>k (chain ys) S
  | none=>false
 | _=>false
theorem yD{S:aM}{F:Fx}{x:V}(C:aI g F y ρ S H):∀{ax:AV} {xs:List AV} {vs:List V},aT F y ρ H ax x->uR S ax=some xs->ik H x=some vs->ax=chain xs
 | .ref n,xs,vs,r,h,t=>by
  unfold uR at h;cases q:S.t.get n with
  | none=>simp only[q] at h;cases h
  | some ob=>
   simp only[q] at h;cases ob with
   | lst ys=>
    obtain⟨a,j,rfl,_,d,l⟩:=C.lst r q;simp[ik,d] at t
   | _=>cases h
 | .tn,_,_,_,h,_=>by cases h;rfl
 | .tc _ _,_,_,_,h,_=>gq h
 | .non,_,_,_,h,_=>by cases h
 | .bl _,_,_,_,h,_=>by cases h
 | .int _ _ _,_,_,_,h,_=>by cases h
 | .str _,_,_,_,h,_=>by cases h
 | .ext _,_,_,_,h,_=>by cases h
theorem cq:mK g oQ yC:=by
 intro F y ρ S H xs u k Q C j h p;cases j with
 | nil=>cases h
 | cons r t=>cases t with
  | cons _ _=>cases h
  | nil=>
   unfold yC at h;dsimp only at h;split at h
   ·rename_i ys q;obtain⟨vs,e,m⟩:=oY C r q;unfold oQ;dsimp only;rw[e,bP];refine⟨λl d=>?_,λht=>?_⟩
    ·have st:aB F y ρ H y ρ (upd H l<|.tup vs):=aB.lay d;exact p y ρ S _ (chain ys) _ st (C.lay d) (aT.chain aA<|aQ.mono st m) h
    ·rw[yD C r q ht] at r;exact p.here C r h
   ·cases h
def Jm:AV->AV->aM->(AV->aM->Bool)->Bool:=λa b S k=>match lT a with
 | some xs=>match lT b with
  | some ys=>match QV (xs.length+ys.length) 1000 with
   | true=>k (chain<|xs++ys) S
   | false=>false
  | none=>false
 | none=>false
theorem dG{F:Fx}{y:Option Int}{ρ:List P3}{H:Hp}:∀{xs ys:List AV} {vs ws:List V},aQ F y ρ H xs vs->aQ F y ρ H ys ws->aQ F y ρ H (xs++ys) (vs++ws)
 | _,_,_,_,.nil,s=>s
 | _,_,_,_,.cons r t,s=>.cons r (dG t s)
theorem eB:io g yj Jm:=by
 intro F y ρ S H x z ax O k Q C m l h p;unfold Jm at h;split at h
 ·rename_i xs q;split at h
  ·rename_i ys q2;split at h
   ·rename_i u;obtain⟨a,vs,rfl,I,j⟩:=gR m q;obtain⟨b,ws,rfl,hb,d⟩:=gR l q2;have l1:=aP j;have L:=aP d;have l3:=bA u;unfold yj;rw[il I,bP,il hb,bP];refine⟨R9<|bX<|by omega,λe=>?_,λe=>?_,λpl r=>?_⟩
    ·subst e;cases j;have e:=ir q2;subst e;exact p.here C l h
    ·subst e;cases d;have e:=ir q;rw[Sz] at h;subst e;exact p.here C m h
    ·have st:aB F y ρ H y ρ (upd H pl<|.tup<|vs++ws):=aB.lay r;exact p y ρ S _ _ _ st (C.lay r) (aT.chain aA<|aQ.mono st<|dG j d) h
   ·cases h
  ·cases h
 ·cases h
def iJ(S:aM):AV->Option (List AV)
 | .ref n=>match S.t.get n with
  | some (.lst xs)=>some xs
  | _=>none
 | _=>none
theorem cG{F:Fx}{S:aM}(C:aI g F y ρ S H){ax:AV}{x:V}(d:aT F y ρ H ax x){xs:List AV}(h:iJ S ax=some xs):∃n a vs,ax=.ref n/\x=.ref a/\ρ[n]?=some a/\H a=some (.lst vs)/\aQ F y ρ H xs vs:=by
 cases ax with
 | ref n=>
  unfold iJ at h;cases q:S.t.get n with
  | none=>simp only[q] at h;cases h
  | some ob=>
   simp only[q] at h;cases ob with
   | lst ys=>
    cases h;obtain⟨a,vs,rfl,m,l,j⟩:=C.lst d q;exact⟨n,a,vs,rfl,rfl,m,l,j⟩
   | _=>cases h
 | _=>cases h
def Jn:AV->AV->aM->(AV->aM->Bool)->Bool:=λa b S k=>match iJ S a with
 | some xs=>match iJ S b with
  | some ys=>match QV (xs.length+ys.length) 1000 with
   | true=>k (.ref S.n) (S.add<|.lst<|xs++ys)
   | false=>false
  | none=>false
 | none=>false
theorem En:io g DV Jn:=by
 intro F y ρ S H x z ax Z k Q C u r h p;unfold Jn at h;split at h
 ·rename_i xs q;split at h
  ·rename_i ys q2;split at h
   ·rename_i I;obtain⟨n,a,vs,rfl,rfl,Y,L,j⟩:=cG C u q;obtain⟨m,b,ws,rfl,rfl,U,hb,d⟩:=cG C r q2;have l1:=aP j;have O:=aP d;have l3:=bA I;show(match H a,H b with
     | some (.lst xs),some (.lst zs)=>xs.length+zs.length≤Qf/\∀p,H p=none->Q (.ref p) (upd H p<|.lst<|xs++zs)
     | _,_=>False)
    rw[L,hb];refine⟨R9<|bX<|by omega,λpl l=>?_⟩;have st:aB F y ρ H y (ρ++[pl]) (upd H pl<|.lst<|vs++ws):=aB.add l;exact p y _ _ _ (.ref S.n) _ st (C.add (o:=.lst (xs++ys)) l ⟨_,rfl,aQ.mono st<|dG j d⟩) ⟨pl,by rw[C.n];simp,rfl⟩ h
   ·cases h
  ·cases h
 ·cases h
end
section
variable{g:Gx}{a b c e o:Qv}{ba bb bc:BE}{bt:BT}{br:BA}
def rP(a b:Int):Int:=match dq a b with
 | true=>b
 | false=>a
def BD(a b:Int):Int:=match dq a b with
 | true=>a
 | false=>b
theorem oZ(a b:Int):rP a b=max a b:=by
 unfold rP;cases h:dq a b with
 | true=>rw[bi] at h;show b=_;omega
 | false=>
  have:¬a≤b:=λq=>by rw[bi.mpr q] at h;cases h
  show a=_;omega
theorem o6(a b:Int):BD a b=min a b:=by
 unfold BD;cases h:dq a b with
 | true=>rw[bi] at h;show a=_;omega
 | false=>
  have:¬a≤b:=λq=>by rw[bi.mpr q] at h;cases h
  show b=_;omega
def PM:List AV->aM->(AV->aM->Bool)->Bool:=λxs S k=>match xs with
 | [.int false lo h,.int false d f]=>k (.int false (rP lo d)<|rP h f) S
 | [.int true lo h,.int true d f]=>k (.int true (rP lo d)<|rP h f) S
 | [.int false lo h,.int true d f]=>match dq h d with
  | true=>k (.int true d f) S
  | false=>false
 | [.int true lo h,.int false d f]=>match dq f lo with
  | true=>k (.int true lo h) S
  | false=>false
 | _=>false
def MV:List AV->aM->(AV->aM->Bool)->Bool:=λxs S k=>match xs with
 | [.int false lo h,.int false d f]=>k (.int false (BD lo d)<|BD h f) S
 | [.int true lo h,.int true d f]=>k (.int true (BD lo d)<|BD h f) S
 | [.int false lo h,.int true d f]=>match dq h d with
  | true=>k (.int false lo h) S
  | false=>false
 | [.int true lo h,.int false d f]=>match dq f lo with
  | true=>k (.int false d f) S
  | false=>false
 | _=>false
theorem GZ:mK g yp MV:=by
 intro F y ρ S H xs O k Q C l h p;unfold MV at h;split at h
 ·cases l with | cons r t=>cases t with | cons d t'=>cases t' with | nil=>
  obtain⟨i,rfl,I,z⟩:=r;obtain⟨j,rfl,u,m⟩:=d;show Q (.int<|if j<i then j else i) H;refine p.here C (av:=.int false _ _) ⟨_,rfl,?_⟩ h;rw[o6,o6];split<;>constructor<;>omega
 ·cases l with | cons r t=>cases t with | cons d t'=>cases t' with | nil=>
  obtain⟨x,i,e,rfl,I,z⟩:=r;obtain⟨L,j,f,rfl,u,m⟩:=d;rw[e] at f;cases f;show Q (.int<|if j<i then j else i) H;refine p.here C (av:=.int true _ _) ⟨x,_,e,rfl,?_⟩ h;rw[o6,o6];split<;>constructor<;>omega
 ·split at h
  ·rename_i q;rw[bi] at q;cases l with | cons r t=>cases t with | cons d t'=>cases t' with | nil=>
   obtain⟨i,rfl,I,z⟩:=r;obtain⟨L,j,f,rfl,u,m⟩:=d;have:=C.pos _ f;show Q (.int<|if j<i then j else i) H;refine p.here C (av:=.int false _ _) ⟨_,rfl,?_⟩ h;split<;>constructor<;>omega
  ·cases h
 ·split at h
  ·rename_i q;rw[bi] at q;cases l with | cons r t=>cases t with | cons d t'=>cases t' with | nil=>
   obtain⟨L,i,f,rfl,I,z⟩:=r;obtain⟨j,rfl,u,m⟩:=d;have:=C.pos _ f;show Q (.int<|if j<i then j else i) H;refine p.here C (av:=.int false _ _) ⟨_,rfl,?_⟩ h;split<;>constructor<;>omega
  ·cases h
 ·cases h
inductive LZ | int | bool | tuple
def LZ.name:LZ->String
 | .int=>"int"
 | .bool=>"bool"
 | .tuple=>"tuple"
def MW(t:LZ):AV->Option Bool
 | .non=>some false
 | .bl _=>match t with
  | .tuple=>some false
  | _=>some true
 | .int _ _ _=>match t with
  | .int=>some true
  | _=>some false
 | .str _=>some false
 | .tn=>match t with
  | .tuple=>some true
  | _=>some false
 | .tc _ _=>match t with
  | .tuple=>some true
  | _=>some false
 | _=>none
theorem G0{F:Fx}{t:LZ}{ax:AV}{x:V}{b:Bool}(r:aT F y ρ H ax x)(h:MW t ax=some b):∃n,Gv H x=some n/\DQ n t.name=some b:=by
 cases ax with
 | non=>cases(show x=.non from r);cases t<;>cases h<;>exact⟨_,rfl,rfl⟩
 | bl c=>cases(show x=.bl c from r);cases t<;>cases h<;>exact⟨_,rfl,rfl⟩
 | int s lo f=>obtain⟨z,rfl,_⟩:=aZ.mp r;cases t<;>cases h<;>exact⟨_,rfl,rfl⟩
 | str i=>obtain⟨w,_,rfl⟩:=r;cases t<;>cases h<;>exact⟨_,rfl,rfl⟩
 | tn=>
  obtain⟨a,rfl,d⟩:=r;have e:Gv H (.ref a)=some "tuple":=by simp[Gv,d]
  cases t<;>cases h<;>exact⟨_,e,rfl⟩
 | tc p q=>
  obtain⟨a,_,_,rfl,d,_⟩:=r;have e:Gv H (.ref a)=some "tuple":=by simp[Gv,d]
  cases t<;>cases h<;>exact⟨_,e,rfl⟩
 | _=>cases h
def OU(t:LZ)(a:BE):BE:=λσ S k=>a σ S λx S1=>kb (MW t x) S1 k
theorem yE(t:LZ){p:Pos}{T:Qv}(I:Gl X "isinstance")(u:X.mg "isinstance" = none)(L:PE X e (up g ba))(O:PE X T (tC<|.ty t.name))
  (he:Qy [e,T] X.env=(false,Q0 e X.env)::Qy [T] X.env:=by nofun) (i:Qy [T] X.env=(false,Q0 T X.env)::Qy [] X.env:=by nofun) (f:(Sr pos<|Qy [T] X.env).any (·.1)=false:=by nofun):PE X (.Call (.Name "isinstance" p) [e,T] [] pos) (up g<|OU t ba):=by
 refine PE.imp (λσ H Q q=>eO q λF y ρ S j k C r h p=>?_) (ii DT I u eU (cg L (cg O d9 i) he) (by decide) (by decide) he f);refine ar C r h λl d S1 H1 ax x st C1 Z m h1=>?_;obtain⟨b,e,z⟩:=gO h1;obtain⟨n,Y,U⟩:=G0 m e;show DS [x,.ty t.name] H1 Q;unfold DS;simp only[Y,U];exact p l d S1 H1 (.bl b) _ st C1 rfl z
def BH(S:aM):AV->Option Bool
 | .non=>some false
 | .bl b=>some b
 | .tn=>some false
 | .tc _ _=>some true
 | .ref n=>match S.t.get n with
  | some (.lst xs)=>some (!xs.isEmpty)
  | some (.dk xs)=>some (!xs.isEmpty)
  | _=>none
 | _=>none
theorem iK{f d:Type}{R:f->d->Prop}{xs:List f}{ys:List d}(p:Paired R xs ys):xs.isEmpty=ys.isEmpty:=by cases p<;>rfl
theorem Ab{F:Fx}{S:aM}(C:aI g F y ρ S H){ax:AV}{x:V}{b:Bool}(r:aT F y ρ H ax x)(h:BH S ax=some b):rK H x=some b:=by
 cases ax with
 | non=>cases(show x=.non from r);exact h
 | bl c=>cases(show x=.bl c from r);exact h
 | tn=>obtain⟨a,rfl,d⟩:=r;cases h;simp[rK,d]
 | tc p q=>obtain⟨a,_,_,rfl,d,_⟩:=r;cases h;simp[rK,d]
 | ref n=>
  unfold BH at h;cases q:S.t.get n with
  | none=>simp only[q] at h;cases h
  | some ob=>
   simp only[q] at h;cases ob with
   | lst ys=>
    cases h;obtain⟨a,vs,rfl,_,d,f⟩:=C.lst r q;simp only[rK,d,iK f]
   | dk ys=>
    cases h;obtain⟨a,vs,rfl,_,d,f⟩:=C.dk r q;simp only[rK,d,iK f]
   | _=>cases h
 | _=>cases h
def MX(a:BE):BT:=λσ S k=>a σ S λx S1=>match BH S1 x with
 | some b=>k b S1
 | none=>false
theorem fT(h:PT X a (DY<|up g ba)):PT X a (fP g<|MX ba):=by
 refine PT.imp (λσ H Q l=>eO l λF y ρ S f k C r h p=>?_) h;refine ar C r h λi d S1 H1 ax x st C1 m j h1=>?_;cases q:BH S1 ax with
 | none=>simp only[q] at h1;cases h1
 | some b=>
  simp only[q] at h1;rw[Ab C1 j q,bP];exact p i d S1 H1 b st C1 h1
def tj:AV->Bool
 | .non=>true
 | .bl _=>true
 | .int _ _ _=>true
 | .str _=>true
 | _=>false
def G1(x:AV):List AV->Option Bool
 | []=>some false
 | z::r=>match Jj z x with
  | some true=>match r.all tj with
   | true=>some true
   | false=>none
  | some false=>G1 x r
  | none=>none
theorem qc{F:Fx}{ax:AV}{x:V}(r:aT F y ρ H ax x)(h:tj ax=true):eR x=true:=by
 cases ax with
 | non=>cases(show x=.non from r);rfl
 | bl c=>cases(show x=.bl c from r);rfl
 | int s lo d=>obtain⟨z,rfl,_⟩:=aZ.mp r;rfl
 | str i=>obtain⟨w,_,rfl⟩:=r;rfl
 | _=>cases h
theorem G2{x z:V}(h:Dn x z=true)(d:eR x=true):xM x z=decide (x=z):=by
 cases x<;>cases z<;>simp_all[Dn,eR,xM]<;>rfl
theorem Eo{F:Fx}{y:Option Int}{ρ:List P3}{H:Hp}{ax d:AV}{b:Bool}(h:Jj ax d=some b):tj ax=true/\tj d=true:=by
 cases ax<;>cases d<;>first | (cases h;done) | exact⟨rfl,rfl⟩
theorem Ac{F:Fx}{y:Option Int}{ρ:List P3}{H:Hp}(l:∀x,y=some x->1≤x){ax:AV}{x:V}(r:aT F y ρ H ax x):∀{j:List AV} {vs:List V} {b:Bool},aQ F y ρ H j vs->G1 ax j=some b->F5 x vs=b/\vs.all eR=true
 | _,_,_,.nil,h=>by cases h;exact⟨rfl,rfl⟩
 | _,_,b,.cons (a:=C) (b:=z) (l₁:=l₁) (l₂:=l₂) f t,h=>by
  unfold G1 at h;cases q:Jj C ax with
  | none=>simp only[q] at h;cases h
  | some c=>
   obtain⟨h1,m⟩:=yw l f r q;have d:=qc f (Eo (F:=F) (y:=y) (ρ:=ρ) (H:=H) q).1;have i:xM z x=c:=by rw[G2 h1 d];exact m
   cases c with
   | true=>
    simp only[q] at h;cases q2:l₁.all tj with
    | false=>rw[q2] at h;cases h
    | true=>
     rw[q2] at h;cases h;refine⟨by simp[F5,i],?_⟩;rw[So,d,Bool.true_and];clear h1 m i d f q
     induction t with
     | nil=>rfl
     | cons p t' u=>
      rw[So,Qq] at q2;rw[So,qc p q2.1,u q2.2];rfl
   | false=>
    simp only[q] at h;obtain⟨k1,k2⟩:=Ac l r t h;refine⟨?_,by rw[So,d,k2];rfl⟩;have:F5 x (z::l₂)=(xM z x||F5 x l₂):=rfl;rw[this,i,k1];rfl
def OV(neg:Bool):AV->AV->aM->(AV->aM->Bool)->Bool:=λx s S k=>match tj x with
 | true=>match uR S s with
  | some d=>match G1 x d with
   | some b=>k (.bl<|match neg with | true=>!b | false=>b) S
   | none=>false
  | none=>false
 | false=>false
theorem qd{neg:Bool}:io g (GE neg) (OV neg):=by
 intro F y ρ S H x z ax l k Q C d f h p;unfold OV at h;split at h
 ·rename_i q0;split at h
  ·rename_i j q;split at h
   ·rename_i b q2;obtain⟨vs,e,i⟩:=oY C f q;obtain⟨k1,k2⟩:=Ac C.pos d i q2;unfold GE;rw[e,bP];refine⟨qc d q0,k2,?_⟩;rw[k1];refine p.here C (av:=.bl _) ?_ h;cases neg<;>rfl
   ·cases h
  ·cases h
 ·cases h
def rQ(y:Option Int):AV->D->Prop
 | .non,d=>d=.non
 | .bl b,d=>d=.bl b
 | .int s lo f,d=>∃z,d=.int z/\Bd y s lo f z
 | .str i,d=>∃x,bd[i]?=some x/\d=.str x
 | .tn,d=>d=.tup []
 | .tc h t,d=>∃x r,d=.tup (x::r)/\rQ y h x/\rQ y t (.tup r)
 | _,_=>False
def KO:AV->AV->Option Bool
 | .tn,.tn=>some true
 | .tn,.tc _ _=>some false
 | .tc _ _,.tn=>some false
 | .tc a b,.tc c d=>match KO a c with
  | some true=>KO b d
  | some false=>some false
  | none=>none
 | .tn,.non=>some false | .tn,.bl _=>some false | .tn,.int _ _ _=>some false | .tn,.str _=>some false
 | .tc _ _,.non=>some false | .tc _ _,.bl _=>some false | .tc _ _,.int _ _ _=>some false | .tc _ _,.str _=>some false
 | .non,.tn=>some false | .bl _,.tn=>some false | .int _ _ _,.tn=>some false | .str _,.tn=>some false
 | .non,.tc _ _=>some false | .bl _,.tc _ _=>some false | .int _ _ _,.tc _ _=>some false | .str _,.tc _ _=>some false
 | a,b=>Jj a b
def rR:AV->Option Nat
 | .tn=>some 1
 | .tc h t=>match rR h,rR t with
  | some m,some n=>some (max (m+1) n)
  | _,_=>none
 | .ref _=>none
 | .ext _=>none
 | _=>some 0
end
section
variable{F:Fx}
theorem BJ:∀(av:AV) {n:Nat},rR av=some n->(∀v,aT F y ρ H av v->∃d,bU H d v/\rQ y av d/\vS d≤n)/\(∀vs,rM F y ρ H av vs->∃c,cn H c vs/\rQ y av (.tup c)/\ou c+1≤n)
 | .non,n,h=>by
  cases h;exact⟨λv r=>⟨.non,by cases(show v=.non from r);exact bU.non,rfl,by simp[vS]⟩,λ_ r=>r.elim⟩
 | .bl b,n,h=>by
  cases h;exact⟨λv r=>⟨.bl b,by cases(show v=.bl b from r);exact bU.bl,rfl,by simp[vS]⟩,λ_ r=>r.elim⟩
 | .int s lo Y,n,h=>by
  cases h;refine⟨λv r=>?_,λ_ r=>by cases s<;>exact r.elim⟩;obtain⟨z,rfl,b⟩:=aZ.mp r;exact⟨.int z,bU.int,⟨z,rfl,b⟩,by simp[vS]⟩
 | .str i,n,h=>by
  cases h;refine⟨λv r=>?_,λ_ r=>r.elim⟩;obtain⟨x,e,rfl⟩:=r;exact⟨.str x,bU.str,⟨x,e,rfl⟩,by simp[vS]⟩
 | .ref _,_,h=>by cases h
 | .ext _,_,h=>by cases h
 | .tn,n,h=>by
  cases h;refine⟨λv r=>?_,λvs r=>?_⟩
  ·obtain⟨a,rfl,I⟩:=r;exact⟨.tup [],bU.tup I .nil,rfl,by simp[vS,ou]⟩
  ·cases(show vs=[] from r);exact⟨[],.nil,rfl,by simp[ou]⟩
 | .tc p q,n,h=>by
  unfold rR at h;cases g:rR p with
  | none=>simp only[g] at h;cases h
  | some m=>cases L:rR q with
   | none=>simp only[g,L] at h;cases h
   | some l=>
    simp only[g,L] at h;cases h;obtain⟨O,_⟩:=BJ p g;obtain⟨_,q2⟩:=BJ q L;have tl:∀w f,aT F y ρ H p w->rM F y ρ H q f->∃c,cn H c (w::f)/\rQ y (.tc p q) (.tup c)/\ou c+1≤max (m+1) l:=λw f o j=>by
     obtain⟨d,U,Q,Z⟩:=O w o;obtain⟨c,b1,b2,b3⟩:=q2 f j;refine⟨d::c,.cons U b1,⟨d,c,rfl,Q,b2⟩,?_⟩;rw[ou];omega
    refine⟨λv r=>?_,λvs r=>?_⟩
    ·obtain⟨a,w,f,rfl,I,C,u⟩:=r;obtain⟨c,b1,b2,b3⟩:=tl w f C u;exact⟨.tup c,bU.tup I b1,b2,by rw[vS];exact b3⟩
    ·obtain⟨w,f,rfl,C,u⟩:=r;exact tl w f C u
theorem MY(r:∀x,y=some x->1≤x){a b:AV}{d e:D}{c:Bool}(h1:rQ y a d)(f:rQ y b e)(h:Jj a b=some c):dD d e=c:=by
 cases a with
 | non=>
  cases(show d=.non from h1);cases b with
  | non=>cases(show e=.non from f);cases h;simp[dD]
  | int s lo l=>obtain⟨j,rfl,_⟩:=f;cases h;simp[dD]
  | bl x=>cases(show e=.bl x from f);cases h;simp[dD]
  | str i=>obtain⟨w,_,rfl⟩:=f;cases h;simp[dD]
  | _=>cases h
 | int s lo l=>
  obtain⟨i,rfl,b1⟩:=h1;cases b with
  | non=>cases(show e=.non from f);cases h;simp[dD]
  | int s' p u=>
   obtain⟨j,rfl,b2⟩:=f;have:=Ef r b1 b2 h;rw[dD,<-this];by_cases q:i=j<;>simp[q]
  | str i=>obtain⟨w,_,rfl⟩:=f;cases h;simp[dD]
  | _=>cases h
 | bl x=>
  cases(show d=.bl x from h1);cases b with
  | non=>cases(show e=.non from f);cases h;simp[dD]
  | bl z=>cases(show e=.bl z from f);cases h;simp[dD]
  | str i=>obtain⟨w,_,rfl⟩:=f;cases h;simp[dD]
  | _=>cases h
 | str i=>
  obtain⟨w,m,rfl⟩:=h1;cases b with
  | non=>cases(show e=.non from f);cases h;simp[dD]
  | int s lo l=>obtain⟨j,rfl,_⟩:=f;cases h;simp[dD]
  | bl x=>cases(show e=.bl x from f);cases h;simp[dD]
  | str j=>
   obtain⟨o,g,rfl⟩:=f;cases h;rw[dD,gE];by_cases q:i=j
   ·subst q;rw[m] at g;cases g;simp
   ·have:¬w=o:=λe=>q (by subst e;exact dU m g);simp[q,this]
  | _=>cases h
 | _=>cases b<;>cases h
theorem wy{a:AV}{d:D}(h:rQ y a d)(c:a=.tn∨∃p q,a=.tc p q):∃f,d=.tup f:=by
 rcases c with rfl | ⟨p,q,rfl⟩
 ·exact⟨[],h⟩
 ·obtain⟨x,r,e,_⟩:=h;exact⟨_,e⟩
theorem Jo(m:∀x,y=some x->1≤x)(a b:AV){d e:D}{c:Bool}:rQ y a d->rQ y b e->KO a b=some c->dD d e=c:=by
 induction a generalizing b d e c<;>cases b<;>intro h1 f h
 all_goals first | exact MY m h1 f h | exact h1.elim | exact f.elim | skip
 case tc.tc a b l j p q=>
  obtain⟨x,r,rfl,H,C⟩:=h1;obtain⟨I,L,rfl,u,o⟩:=f;unfold KO at h;cases z:KO a p with
  | none=>simp only[z] at h;cases h
  | some t=>
   have i:=l p H u z;cases t with
   | true=>
    simp only[z] at h;have g:=j q C o h;rw[dD] at g ⊢;rw[jr,i,g];rfl
   | false=>
    simp only[z] at h;cases h;rw[dD,jr,i];rfl
 all_goals cases h
 all_goals first | obtain rfl:=h1 | obtain⟨_,rfl,_⟩:=h1 | obtain⟨_,_,rfl⟩:=h1 | obtain⟨_,_,rfl,_⟩:=h1
 all_goals first | obtain rfl:=f | obtain⟨_,rfl,_⟩:=f | obtain⟨_,_,rfl⟩:=f | obtain⟨_,_,rfl,_⟩:=f
 all_goals simp[dD,jr]
end
section
variable{g:Gx}{a b c e o:Qv}{ba bb bc:BE}{bt:BT}{br:BA}
def OW(S:aM)(a b:AV):Option Bool:=match lT a with
 | some _=>match lT b with
  | some _=>match rR a,rR b with
   | some n,some _=>match QV n 50 with
    | true=>KO a b
    | false=>none
   | _,_=>none
  | none=>none
 | none=>match iJ S a with
  | some xs=>match iJ S b with
   | some ys=>match rR (chain xs),rR (chain ys) with
    | some n,some _=>match QV n 50 with
     | true=>KO (chain xs) (chain ys)
     | false=>none
    | _,_=>none
   | none=>none
  | none=>none
theorem KP{F:Fx}{S:aM}(C:aI g F y ρ S H){ax l:AV}{x z:V}{c:Bool}(Y:aT F y ρ H ax x)(U:aT F y ρ H l z)(h:OW S ax l=some c) :
  ∃d e,bU H d x/\bU H e z/\dS d=true/\dS e=true/\vS d≤50/\dD d e=c:=by
 unfold OW at h;split at h
 ·rename_i xs q1;split at h
  ·rename_i Q q2;split at h
   ·rename_i n m I u;split at h
    ·rename_i p;obtain⟨d,O,j,L⟩:=(BJ ax I).1 x Y;obtain⟨e,r,i,f3⟩:=(BJ l u).1 z U;have t1:∃f,d=.tup f:=wy j (by rw[ir q1];cases xs;exact .inl rfl;exact .inr ⟨_,_,rfl⟩);have t2:∃f,e=.tup f:=wy i (by rw[ir q2];cases Q;exact .inl rfl;exact .inr ⟨_,_,rfl⟩);obtain⟨f,rfl⟩:=t1;obtain⟨es,rfl⟩:=t2;exact⟨_,_,O,r,rfl,rfl,Rg L<|bA p,Jo C.pos ax l j i h⟩
    ·cases h
   ·cases h
  ·cases h
 ·split at h
  ·rename_i xs q1;split at h
   ·rename_i Q q2;split at h
    ·rename_i n m I u;split at h
     ·rename_i p;obtain⟨n1,a1,vs,rfl,rfl,_,ha,pr⟩:=cG C Y q1;obtain⟨n2,a2,Z,rfl,rfl,_,hb,q⟩:=cG C U q2;obtain⟨f,O,j,L⟩:=(BJ _ I).2 vs (oU pr);obtain⟨es,r,i,f3⟩:=(BJ _ u).2 Z (oU q);have k:=Jo C.pos _ _ j i h;refine⟨.lst f,.lst es,bU.lst ha O,bU.lst hb r,rfl,rfl,?_,?_⟩
      ·rw[vS];exact Rg L (bA p)
      ·simp only[dD] at k ⊢;exact k
     ·cases h
    ·cases h
   ·cases h
  ·cases h
def rS(neg:Bool):AV->AV->aM->(AV->aM->Bool)->Bool:=λa b S k=>match OW S a b with
 | some c=>k (.bl<|match neg with | true=>!c | false=>c) S
 | none=>false
theorem fq{neg:Bool}:io g (Kq neg) (rS neg):=by
 intro F y ρ S H x z ax I k Q C i f h p;unfold rS at h;split at h
 ·rename_i c q;obtain⟨d,e,h1,u,r,m,l,j⟩:=KP C i f q;refine⟨d,e,h1,u,r,m,l,?_⟩;rw[j];refine p.here C (av:=.bl _) ?_ h;cases neg<;>rfl
 ·cases h
def L3(f:AV->List AV->aM->(AV->aM->Bool)->Bool)(a:BE)(r:BA):BE:=λσ S k=>a σ S λx S1=>match iJ S1 x with
 | some _=>r σ S1 λxs d=>f x xs d k
 | none=>false
def yF(g:Gx)(r:V->List V->Hp->VK->Prop)(f:AV->List AV->aM->(AV->aM->Bool)->Bool):Prop :=
 ∀F y ρ S H x xs ax d k Q,aI g F y ρ S H->aT F y ρ H ax x->aQ F y ρ H d xs->f ax d S k=true->gG g F y ρ H k Q->r x xs H Q
theorem KQ{r:V->List V->Hp->VK->Prop}{f}(O:yF g r f):∀σ H Q,up g (L3 f ba br) σ H Q->Oa K "list" r (up g ba) (iY g br) σ H Q:=λσ H Q L=>eO L λF y ρ S m k C r h p=>
 ar C r h λy1 u S1 H1 ax x st C1 I l h1=>by
  cases q:iJ S1 ax with
  | none=>simp only[q] at h1;cases h1
  | some ys=>
   simp only[q] at h1;obtain⟨n,a,vs,rfl,rfl,_,U,pr⟩:=cG C1 l q;refine⟨.inl ⟨rfl,vs,ie.of U⟩,bn C1 I h1 λz ρ2 Z H2 j xs d C2 r2 i Y=>?_⟩;exact O F z ρ2 Z H2 _ xs _ j k Q C2 (aT.mono d l) i Y (p.mono<|st.trans d)
theorem G3{r:V->List V->Hp->VK->Prop}{f}(u:yF g r f):∀σ H Q,up g (L3 f ba aK) σ H Q->Kd K "list" r (up g ba) σ H Q:=λσ H Q m=>eO m λF y ρ S j k C r h p=>
 ar C r h λl d S1 H1 ax x st C1 I i h1=>by
  cases q:iJ S1 ax with
  | none=>simp only[q] at h1;cases h1
  | some ys=>
   simp only[q] at h1;obtain⟨n,a,vs,rfl,rfl,_,z,L⟩:=cG C1 i q;exact⟨.inl ⟨rfl,vs,ie.of z⟩,u F l d S1 H1 _ [] _ [] k Q C1 i .nil h1<|p.mono st⟩
theorem i5{r:V->List V->Hp->VK->Prop}{f}(d:yF g r f)(h:PE X e (Oa K "list" r (up g ba) (iY g br))):PE X e (up g<|L3 f ba br):=PE.imp (KQ d) h
theorem KS{r:V->List V->Hp->VK->Prop}{f}(d:yF g r f)(h:PE X e (Kd K "list" r (up g ba))):PE X e (up g<|L3 f ba aK):=PE.imp (G3 d) h
def uS:AV->List AV->aM->(AV->aM->Bool)->Bool:=λa xs S k=>match a,xs with
 | .ref n,[w]=>match iJ S (.ref n) with
  | some ys=>match QV ys.length 900 with
   | true=>k .non (S.set n<|.lst<|ys++[w])
   | false=>false
  | none=>false
 | _,_=>false
theorem db:yF g pW uS:=by
 intro F y ρ S H x xs ax r k Q C l f h p;unfold uS at h;split at h
 ·rename_i n w;split at h
  ·rename_i ys q;split at h
   ·rename_i q2;obtain⟨u,a,vs,e,rfl,d,i,j⟩:=cG C l q;cases e;cases f with | cons r0 t=>cases t with | nil=>
    rename_i z;have I:=aP j;have m:=bA q2;show(match H a with
     | some (.lst xs)=>xs.length<Qf/\Q .non (upd H a<|.lst<|xs++[_])
     | _=>False)
    rw[i];have st:aB F y ρ H y ρ (upd H a<|.lst<|vs++[z]):=aB.set C d i;refine⟨bX<|by omega,p y ρ _ _ .non _ st (C.set d i (o:=.lst (ys++[w])) (ob:=⟨_,rfl,dG (aQ.mono st j)<|.cons (aT.mono st r0) .nil⟩)) rfl h⟩
   ·cases h
  ·cases h
 ·cases h
def Ad:AV->List AV->aM->(AV->aM->Bool)->Bool:=λa xs S k=>match a,xs with
 | .ref n,[w]=>match iJ S (.ref n) with
  | some ys=>match iJ S w with
   | some zs=>match QV (ys.length+zs.length) 900 with
    | true=>k .non (S.set n<|.lst<|ys++zs)
    | false=>false
   | none=>false
  | none=>false
 | _,_=>false
theorem iL:yF g zL Ad:=by
 intro F y ρ S H x xs ax I k Q C r i h p;unfold Ad at h;split at h
 ·rename_i n w;split at h
  ·rename_i ys q;split at h
   ·rename_i zs q1;split at h
    ·rename_i q2;obtain⟨L,a,vs,e,rfl,f,j,l⟩:=cG C r q;cases e;cases i with | cons r0 t=>cases t with | nil=>
     obtain⟨m,b,ws,rfl,rfl,_,hb,d⟩:=cG C r0 q1;have O:=aP l;have u:=aP d;have z:=bA q2;have st:aB F y ρ H y ρ (upd H a<|.lst<|vs++ws):=aB.set C f j;exact⟨a,b,vs,ws,rfl,rfl,j,hb,R9<|bX<|by omega,p y ρ _ _ .non _ st (C.set f j (o:=.lst (ys++zs)) (ob:=⟨_,rfl,dG (aQ.mono st l)<|aQ.mono st d⟩)) rfl h⟩
    ·cases h
   ·cases h
  ·cases h
 ·cases h
def wz:List AV->Option (List AV×AV)
 | []=>none
 | x::r=>match r with
  | []=>some ([],x)
  | z::t=>match wz (z::t) with
   | some (i,l)=>some (x::i,l)
   | none=>none
def KU:AV->List AV->aM->(AV->aM->Bool)->Bool:=λa xs S k=>match a,xs with
 | .ref n,[]=>match iJ S (.ref n) with
  | some ys=>match wz ys with
   | some (i,l)=>k l (S.set n<|.lst i)
   | none=>false
  | none=>false
 | _,_=>false
theorem wA{F:Fx}{y:Option Int}{ρ:List P3}{H:Hp}:∀{ys:List AV} {vs:List V} {i:List AV} {l:AV},aQ F y ρ H ys vs->wz ys=some (i,l)->∃v,vs[vs.length - 1]?=some v/\aT F y ρ H l v/\aQ F y ρ H i vs.dropLast
 | _,_,_,_,.nil,h=>by cases h
 | _,_,i,l,.cons r .nil,h=>by cases h;exact⟨_,rfl,r,.nil⟩
 | _,_,i,l,.cons (a:=a) r (.cons (a:=m) (l₁:=l₁) d t),h=>by
  unfold wz at h;dsimp only at h;cases q:wz (m::l₁) with
  | none=>rw[q] at h;cases h
  | some p=>
   obtain⟨x,u⟩:=p;rw[q] at h;cases h;obtain⟨v,h1,j,f⟩:=wA (.cons d t) q;refine⟨v,?_,j,?_⟩
   ·simpa using h1
   ·rw[List.dropLast_cons₂];exact .cons r f
theorem G4:yF g MB KU:=by
 intro F y ρ S H x xs ax I k Q C m f h p;unfold KU at h;split at h
 ·rename_i n;split at h
  ·rename_i ys q;split at h
   ·rename_i i l q2;obtain⟨L,a,vs,e,rfl,d,j,r⟩:=cG C m q;cases e;cases f;obtain⟨v,h1,z,u⟩:=wA r q2;have st:aB F y ρ H y ρ (upd H a<|.lst vs.dropLast):=aB.set C d j;exact⟨a,vs,v,rfl,rfl,j,h1,p y ρ _ _ l _ st (C.set d j (o:=.lst i) (ob:=⟨_,rfl,aQ.mono st u⟩)) (aT.mono st z) h⟩
   ·cases h
  ·cases h
 ·cases h
end
section
variable{g:Gx}{a b c e o tg:Qv}{ba bb bc:BE}{bt:BT}{br:BA}{s1 s2:BS}{body:List SK}
abbrev G5:=List AV->dJ->aM->(dJ->aM->Bool)->Bool
def yG(g:Gx)(sl:List Nat)(b:G5):CY:=λvs σ H Q=>∃F y ρ S f d k,aI g F y ρ S H/\aQ F y ρ H f vs/\bF g F y ρ H d σ/\b f d S k=true/\Ji g sl σ F y ρ H k Q
def Ae:G5:=λxs σ S k=>match xs with
 | []=>k σ S
 | _=>false
def jx(t:BG)(u:G5):G5:=λxs σ S k=>match xs with
 | x::r=>t x σ S λd S1=>u r d S1 k
 | []=>false
def qf(n:Nat)(u:G5):BG:=λx σ S k=>match lT x with
 | some xs=>match Qn xs.length n with
  | true=>u xs σ S k
  | false=>false
 | none=>false
theorem xL.imp{ts:List Qv}{t t':CY}(h:∀v σ H Q,t' v σ H Q->t v σ H Q)(p:xL X ts t):xL X ts t':=λpins s σ H v u Q I r q=>p pins s σ H v u Q I r (h _ _ _ _ q)
theorem bf:xL X [] (yG g [] Ae):=xL.imp (λvs σ H Q f=>by
 obtain⟨F,y,ρ,S,j,d,k,C,i,r,h,p⟩:=f;cases i with
 | nil=>exact⟨rfl,p y ρ S H _ _ .refl C r ⟨rfl,λ_ _=>rfl⟩ h⟩
 | cons _ _=>cases h) zw
theorem am{t:BG}{u:G5}{sl sl':List Nat}(h1:PG X e (mz g sl t))(z:xL X es (yG g sl' u))(hs:(RT (e::es) X.env).map (·.2)=Wo e X.env::(RT es X.env).map (·.2):=by nofun):xL X (e::es) (yG g (sl++sl')<|jx t u) :=
 xL.imp (λvs σ H Q Y=>by
  obtain⟨F,y,ρ,S,avs,d,k,C,rv,r,h,p⟩:=Y;cases rv with
  | nil=>cases h
  | cons r0 t0=>exact⟨_,_,rfl,F,y,ρ,S,_,d,_,C,r0,r,h,λy1 q S1 H1 l U st C1 r1 L h1=>⟨F,y1,q,S1,_,l,k,C1,aQ.mono st t0,r1,h1,λZ ρ2 S2 H2 i f x C2 r2 I z=>p Z ρ2 S2 H2 i f (st.trans x) C2 r2 ⟨I.1.trans L.1,λj O=>(I.2 j λm=>O (Qk _ m)).trans (L.2 j λm=>O (Rq _ m))⟩ z⟩⟩) (pC h1 z hs)
theorem Af{u:G5}{k n:Nat}(h:PG X (.Tuple es k pos) (Jd (yG g sl u) n)):PG X (.Tuple es k pos) (mz g sl<|qf n u):=by
 refine PG.imp (λv σ H Q i=>?_) h;obtain⟨F,y,ρ,S,av,d,k,C,j,r,h,p⟩:=i;unfold qf at h;split at h
 ·rename_i xs q;split at h
  ·rename_i q2;obtain⟨a,vs,rfl,l,f⟩:=gR j q;show on (ik H<|.ref a) λxs=>xs.length=n/\yG g sl u xs σ H Q;rw[il l,bP];exact⟨by rw[<-aP f];exact Qh q2,F,y,ρ,S,xs,d,k,C,f,r,h,p⟩
  ·cases h
 ·cases h
theorem bN{u:G5}{k n:Nat}(f:X.calm=true)(h:xL X es (yG g sl u))(hn:(RT es X.env).length=n:=by nofun)(d:(RT es X.env).findIdx? (·.1)=none:=by nofun):PG X (.Tuple es k pos) (mz g sl<|qf n u):=Af (GD (n:=n) f h hn d)
theorem dX{t:BG}(h:PS X (.Assign [tg] e pos) (jj (up g ba)<|mz g sl t)):PS X (.Assign [tg] e pos) (dw g<|gH ba t):=PS.imp GS h
def KW(i j:Nat)(r:BA):BS:=λd σ S=>r σ S λxs S1=>match xs with
 | [v,w]=>d.nx (Bz (Bz σ i v) j w) S1
 | _=>false
theorem Ep{i j:Nat}(h:PS X st (Mp i j<|iY g br)):PS X st (dw g<|KW i j br):=by
 refine PS.imp (λD σ H L=>yr L λF y ρ S m d C r h p _=>?_) h;refine bn C r h λq l S1 H1 O xs st C1 I f h1=>?_;split at h1
 ·obtain⟨x,_,rfl,r0,f⟩:=CZ f;obtain⟨u,_,rfl,z,f⟩:=CZ f;cases f;exact⟨x,u,rfl,p q l S1 H1 _ _ st C1 (c9 (c9 I r0) z) h1⟩
 ·cases h1
def MZ(i:Nat)(f:AV->AV->aM->(AV->aM->Bool)->Bool)(a:BE):BS:=λd σ S=>match LX σ i with
 | some x=>a σ S λz S1=>f x z S1 λw h=>d.nx (Bz σ i w) h
 | none=>false
theorem yH{i:Nat}{u:Mj}{f}(hf:io g u f)(h:PS X st (Mq i (up g ba) u)):PS X st (dw g<|MZ i f ba):=by
 refine PS.imp (λD σ H Z=>yr Z λF y ρ S I d C r h p _=>?_) h;unfold MZ at h;split at h
 ·rename_i x q;obtain⟨v,e1,U⟩:=wr r q;refine⟨v,e1,ar C r h λO l S1 H1 az z st C1 Y Q h1=>?_⟩;refine hf F O l S1 H1 v z x az _ _ C1 (aT.mono st U) Q h1 λL ρ2 S2 H2 aw w j C2 m h2=>?_;exact p L ρ2 S2 H2 _ _ (st.trans j) C2 (c9 (bF.mono j Y) m) h2
 ·cases h
theorem mQ:io g (Pl λi j=>i+j) mL:=λF y ρ S H x z ax l k Q C f d h p=>fm F y ρ S H x z ax l k Q C f d h p
def Jp(a b c:BE):BS:=λd σ S=>c σ S λv S1=>a σ S1 λx i=>b σ i λz f=>match x,z with
 | .ref n,.int false lo h=>match dq lo h&&dq h lo with
  | true=>match iJ f (.ref n) with
   | some xs=>match lo with
    | .ofNat j=>match RZ j xs.length with
     | true=>d.nx σ (f.set n<|.lst<|xs.set j v)
     | false=>false
    | .negSucc j=>match QV (j+1) xs.length with
     | true=>d.nx σ (f.set n<|.lst<|xs.set (xs.length - (j+1)) v)
     | false=>false
   | none=>false
  | false=>false
 | _,_=>false
theorem wB{F:Fx}{y:Option Int}{ρ:List P3}{H:Hp}{av:AV}{v:V}(r:aT F y ρ H av v):∀{xs:List AV} {vs:List V} (i:Nat),aQ F y ρ H xs vs->aQ F y ρ H (xs.set i av) (vs.set i v)
 | _,_,_,.nil=>.nil
 | _,_,0,.cons _ t=>.cons r t
 | _,_,i+1,.cons q t=>.cons q (wB r i t)
theorem G6{value:Qv}(h:PS X st (jj (up g bc)<|Mm (up g ba) (up g bb) Dy)):PS X st (dw g<|Jp ba bb bc):=by
 refine PS.imp (λD σ H hx=>yr hx λF y ρ S I d C r h p _=>?_) h;refine ar C r h λy1 ρ1 S1 H1 av v st C1 r1 rv h1=>ar C1 r1 h1 λy2 ρ2 S2 H2 ax x L C2 r2 rx h2=>ar C2 r2 h2 λQ m S3 H3 az z u C3 r3 rz f=>?_;have U:=aT.mono u rx;have Y:=aT.mono (L.trans u) rv;split at f
 ·rename_i n lo hi;split at f
  ·rename_i q0;simp only[Qq,bi] at q0;obtain⟨i,rfl,b1,b2⟩:=rz;have:i=lo:=by omega
   subst this;split at f
   ·rename_i xs q;obtain⟨n',a,vs,e,rfl,O,Z,pr⟩:=cG C3 U q;cases e;have hl:=aP pr;have fin:∀j:Nat,Dx vs.length i=some j->d.nx I (S3.set n<|.lst<|xs.set j av)=true->Dy (.ref a) (.int i) v H3 λH'=>D.nx σ H':=λj hj hn=>by
     have l:aB F Q m H3 Q m (upd H3 a<|.lst<|vs.set j v):=aB.set C3 O Z;exact⟨a,vs,i,j,rfl,rfl,Z,hj,p Q m _ _ I σ (((st.trans L).trans u).trans l) (C3.set O Z (o:=.lst (xs.set j av)) (ob:=⟨_,rfl,wB (aT.mono l Y) j<|aQ.mono l pr⟩)) (bF.mono l r3) hn⟩
    split at f
    ·rename_i j;split at f
     ·rename_i q2;have q2:j+1≤xs.length:=bA q2;refine fin j ?_ f;unfold Dx;rw[if_pos (by show(0:Int)≤(j:Int);omega),if_pos (by show(j:Int)<_;omega)];simp
     ·cases f
    ·rename_i j;split at f
     ·rename_i q2;have q2:=bA q2;refine fin _ ?_ f;unfold Dx;rw[if_neg (by omega),if_pos (by omega)];congr 1;omega
     ·cases f
   ·cases f
  ·cases f
 ·cases f
def k6(fuel:Nat)(t:BT)(s:BS):BS:=λd=>Xq (motive:=λ_=>dJ->aM->Bool) (λ_ _=>false) (λ_ f σ S=>t σ S λc S1=>match c with
 | true=>s ⟨f,d.rt,d.nx,f⟩ σ S1
 | false=>d.nx σ S1) fuel
theorem BK{fuel:Nat}:∀D σ H,dw g (k6 fuel bt s1) D σ H->Di (fP g bt) (dw g s1) D σ H:=by
 rintro D σ H ⟨F,y,ρ,S,Y,d,C,r,h,p,pr,pb,pc⟩;refine⟨λm l u=>∃I j U i,aB F y ρ H I j u/\aI g F I j U u/\bF g F I j u i l/\k6 m bt s1 d i U=true,⟨fuel,y,ρ,S,Y,.refl,C,r,h⟩,?_⟩;rintro m σ1 H1 ⟨y1,ρ1,S1,f,Q,C1,r1,h1⟩;cases m with
 | zero=>cases h1
 | succ m=>
  refine fA C1 r1 (show bt f S1 (λc S1=>match c with
   | true=>s1 ⟨k6 m bt s1 d,d.rt,d.nx,k6 m bt s1 d⟩ f S1
   | false=>d.nx f S1)=true from h1) λy2 ρ2 S2 H2 c O C2 r2 h2=>?_
  cases c with
  | true=>
   refine rG ⟨λl u=>∃I j U i,aB F y ρ H I j u/\aI g F I j U u/\bF g F I j u i l/\k6 m bt s1 d i U=true,λl u q=>⟨m,Rn m,q⟩,?_⟩;have st:=Q.trans O;exact⟨F,y2,ρ2,S2,f,_,C2,r2,h2,λy3 z S3 H3 x Z L C3 r3 h3=>⟨y3,z,S3,x,st.trans L,C3,r3,h3⟩,pr.mono st,p.mono st,λy3 z S3 H3 x Z L C3 r3 h3=>⟨y3,z,S3,x,st.trans L,C3,r3,h3⟩⟩
  | false=>exact rF (p y2 ρ2 S2 H2 f σ1 (Q.trans O) C2 r2 h2)
theorem iu(fuel:Nat)(d:Xm (Qd X.prog X.w) X.A X.env X.xe)(f:PT X c (fP g bt))(hb:gC X body (dw g s1)):PS X (.While c body [] pos) (dw g<|k6 fuel bt s1):=PS.imp BK (Dj d f hb)
inductive vT where
 | tup (xs:List AV)
 | lst (n:Nat)
 | rng (lo:Int) (n:Nat)
 | dit (n:Nat)
 | dks (n:Nat)
def yI(S:aM)(n:Nat):Option (List<|AV×AV):=match S.t.get n with
 | some (.fz (.dk kvs))=>some kvs
 | some (.fz (.dt kvs))=>some kvs
 | _=>none
def vT.nxt:vT->Nat->aM->Option (Option AV)
 | .tup xs,i,_=>some xs[i]?
 | .lst n,i,S=>match S.t.get n with
  | some (.lst xs)=>some xs[i]?
  | _=>none
 | .rng lo n,i,_=>match RZ i n with
  | true=>some (some<|.int false (lo+.ofNat i)<|lo+.ofNat i)
  | false=>some none
 | .dit n,i,S=>match yI S n with
  | some kvs=>match kvs[i]? with
   | some (k,v)=>some (some<|.tc k<|.tc v .tn)
   | none=>some none
  | none=>none
 | .dks n,i,S=>match yI S n with
  | some kvs=>match kvs[i]? with
   | some (k,_)=>some (some k)
   | none=>some none
  | none=>none
abbrev BI:=dJ->aM->(vT->aM->Bool)->Bool
structure nN(g:Gx)(F:Fx)(y:Option Int)(ρ:List P3)(H:Hp)(src:vT)(J:It):Prop where
 turn:∀y1 ρ1 S1 H1 i,aB F y ρ H y1 ρ1 H1->aI g F y1 ρ1 S1 H1->(∀av,src.nxt i S1=some (some av)->J.go i H1/\∀x H',J.yld i H1 x H'->aB F y1 ρ1 H1 y1 ρ1 H'/\aI g F y1 ρ1 S1 H'/\aT F y1 ρ1 H' av x)/\(src.nxt i S1=some none->J.stop i H1)
def C8(g:Gx)(b:BI):TI:=λσ H R=>∃F y ρ S f k,aI g F y ρ S H/\bF g F y ρ H f σ/\b f S k=true/\∀i d S1 H1 h J,aB F y ρ H i d H1->aI g F i d S1 H1->nN g F i d H1 h J->k h S1=true->R J H1
theorem PI.imp{iter:Qv}{t t':TI}(h:∀σ H R,t' σ H R->t σ H R)(p:PI X tg iter t):PI X tg iter t':=λpins s σ H R I q=>p pins s σ H R I (h _ _ _ q)
def wC(fuel:Nat)(it:BI)(t:BG)(s:BS):BS:=λd σ S=>it σ S λh S1=>Xq (motive:=λ_=>Nat->dJ->aM->Bool) (λ_ _ _=>false) (λ_ j i σ S=>match h.nxt i S with
 | some (some x)=>t x σ S λf l=>s ⟨j<|i+1,d.rt,d.nx,j<|i+1⟩ f l
 | some none=>d.nx σ S
 | none=>false) fuel 0 σ S1
def yJ(t:BG)(s:BS)(d:Ds)(h:vT)(fuel:Nat):Nat->dJ->aM->Bool:=Xq (motive:=λ_=>Nat->dJ->aM->Bool) (λ_ _ _=>false) (λ_ j i σ S=>match h.nxt i S with
 | some (some x)=>t x σ S λf l=>s ⟨j<|i+1,d.rt,d.nx,j<|i+1⟩ f l
 | some none=>d.nx σ S
 | none=>false) fuel
theorem wD{F:Fx}{Q:Option Int}{h:List P3}{S1:aM}{H1:Hp}{fuel:Nat}{t:BG}{j:vT}{J:It}{d:Ds}{D:rD}{σ:L2.St}{U:dJ}(C1:aI g F Q h S1 H1)(r1:bF g F Q h H1 U σ)(so:nN g F Q h H1 j J)(h1:yJ t s1 d j fuel 0 U S1=true)
  (p:lP g F Q h H1 d.nx D.nx) (pr:gG g F Q h H1 d.rt D.rt):∃W:Nat->Nat->L2.St->Hp->Prop,(∃m,W 0 m σ H1)/\∀i m σ H,W i m σ H ->
 (J.stop i H/\D.nx σ H)∨(J.go i H/\∃N:L2.St->Hp->Prop,(∀l z,N l z->∃m',m' < m/\W (i+1) m' l z)/\∀x z,J.yld i H x z->mz g sl t x σ z λC H2=>dw g s1 {D with nx:=N,ct:=N,bk:=D.nx} C H2):=by
 refine⟨λi m l z=>∃y' r S' f,aB F Q h H1 y' r z/\aI g F y' r S' z/\bF g F y' r z f l/\yJ t s1 d j m i f S'=true,⟨fuel,Q,h,S1,U,.refl,C1,r1,h1⟩,?_⟩;rintro i m C H2 ⟨y2,ρ2,O,u,st2,C2,r2,L⟩;obtain⟨t1,t2⟩:=so.turn y2 ρ2 O H2 i st2 C2;cases m with
 | zero=>cases L
 | succ m=>
  have L:(match j.nxt i O with
   | some (some x)=>t x u O λC O=>s1 ⟨yJ t s1 d j m<|i+1,d.rt,d.nx,yJ t s1 d j m<|i+1⟩ C O
   | some none=>d.nx u O
   | none=>false)=true:=L
  cases q:j.nxt i O with
  | none=>rw[q] at L;cases L
  | some ox=>cases ox with
   | none=>
    rw[q] at L;exact .inl ⟨t2 q,p y2 ρ2 O H2 u C st2 C2 r2 L⟩
   | some ax=>
    rw[q] at L;obtain⟨go,yl⟩:=t1 ax q;refine .inr ⟨go,λl z=>∃y' r S' f,aB F Q h H1 y' r z/\aI g F y' r S' z/\bF g F y' r z f l/\yJ t s1 d j m (i+1) f S'=true,λl z q=>⟨m,Rn m,q⟩,λx H3 yx=>?_⟩;obtain⟨st3,C3,rx⟩:=yl x H3 yx;refine⟨F,y2,ρ2,O,ax,u,_,C3,rx,bF.mono st3 r2,L,λy4 ρ4 S4 H4 σ4 σ5 st4 C4 r4 _ h4=>?_⟩;have I:=(st2.trans st3).trans st4;exact⟨F,y4,ρ4,S4,σ4,_,C4,r4,h4,λy5 Z S5 H5 Y σ7 st5 C5 r5 h5=>⟨y5,Z,S5,Y,I.trans st5,C5,r5,h5⟩,pr.mono I,p.mono I,λy5 Z S5 H5 Y σ7 st5 C5 r5 h5=>⟨y5,Z,S5,Y,I.trans st5,C5,r5,h5⟩⟩
theorem G7{fuel:Nat}{it:BI}{t:BG}:∀D σ H,dw g (wC fuel it t s1) D σ H->Ms (C8 g it) (mz g sl t) (dw g s1) D σ H:=by
 rintro D σ H ⟨F,y,ρ,S,f,d,C,r,h,p,m,x,u⟩;exact⟨F,y,ρ,S,f,_,C,r,h,λq i S1 H1 j J st C1 l h1=>wD C1 (bF.mono st r) l h1 (p.mono st) (m.mono st)⟩
theorem dY(fuel:Nat){iter:Qv}{it:BI}{t:BG}(d:Xm (Qd X.prog X.w) X.A X.env X.xe)(i:X.calm=true)(f:PI X tg iter (C8 g it))(h:PG X tg (mz g sl t))(hb:gC X body (dw g s1))
  (hs:∀x,RH iter X.env x=pure x:=by with_unfolding_all (intro _;rfl)):PS X (.For tg iter body [] pos) (dw g<|wC fuel it t s1):=PS.imp G7 (Dl d i f h hb hs)
def Ag(a:BE):BI:=λσ S k=>a σ S λx S1=>match lT x with
 | some xs=>k (.tup xs) S1
 | none=>false
def Jq(a:BE):BI:=λσ S k=>a σ S λx S1=>match x with
 | .ref n=>match S1.t.get n with
  | some (.lst _)=>k (.lst n) S1
  | _=>false
 | _=>false
def mR(a:BA):BI:=λσ S k=>a σ S λxs S1=>match xs with
 | [.int false lo d]=>match dq lo d&&dq d lo&&dq (-1000) lo&&dq lo 1000 with
  | true=>k (.rng 0 lo.toNat) S1
  | false=>false
 | _=>false
theorem cT(h:PI X tg a (Mr X.K<|up g ba)):PI X tg a (C8 g<|Ag ba):=by
 refine PI.imp (λσ H R Y=>eO Y λF y ρ S O k C r h p=>?_) h;refine ar C r h λQ f S1 H1 ax x st C1 r1 U h1=>?_;cases q:lT ax with
 | none=>simp only[q] at h1;cases h1
 | some xs=>
  simp only[q] at h1;obtain⟨a,vs,rfl,I,u⟩:=gR U q;refine⟨a,rfl,⟨vs,ic.of I⟩,p Q f S1 H1 (.tup xs) _ st C1 ⟨λy2 ρ2 S2 H2 i d C2=>?_⟩ h1⟩;have m:ic X.K H2 a vs:=ic.of (d.tup _ _ I);have l:=aQ.mono d u;refine⟨λav e=>?_,λe=>?_⟩
  ·have e:xs[i]?=some av:=Qu e;obtain⟨v,L,Z⟩:=et l e;refine⟨⟨vs,v,m,L⟩,λz H' j=>?_⟩;obtain⟨rfl,j⟩:=j;have:=j vs m;rw[L] at this;cases this;exact⟨.refl,C2,Z⟩
  ·have e:xs[i]?=none:=Qu e;have:=QM.mp e;exact⟨vs,m,by rw[<-aP u];exact this⟩
theorem iM(h:PI X tg a (IT X.K<|up g ba)):PI X tg a (C8 g<|Jq ba):=by
 refine PI.imp (λσ H R hx=>eO hx λF y ρ S σa k C r h p=>?_) h;refine ar C r h λy1 l S1 H1 ax x st C1 r1 U h1=>?_;cases ax with
 | ref n=>
  dsimp only at h1;cases q:S1.t.get n with
  | none=>rw[q] at h1;cases h1
  | some ob=>rw[q] at h1;cases ob with
   | lst xs=>
    obtain⟨a,vs,rfl,hρ,ha,pr⟩:=C1.lst U q;refine⟨a,rfl,⟨vs,ie.of ha⟩,p y1 l S1 H1 (.lst n) _ st C1 ⟨λy2 ρ2 S2 Z i u C2=>?_⟩ h1⟩;have I:aT F y2 ρ2 Z (.ref n) (.ref a):=aT.mono u U;unfold vT.nxt;dsimp only;cases q2:S2.t.get n with
    | none=>exact⟨λ_ e=>(nomatch e),λe=>(nomatch e)⟩
    | some L=>cases L with
     | lst f=>
      obtain⟨a2,d,e2,_,Q,j⟩:=C2.lst I q2;cases e2;have O:ie X.K Z a d:=ie.of Q;refine⟨λav e=>?_,λe=>?_⟩
      ·have e:f[i]?=some av:=Qu e;obtain⟨v,Y,h4⟩:=et j e;refine⟨⟨d,v,O,Y⟩,λz H' m=>?_⟩;obtain⟨rfl,m⟩:=m;have:=m d O;rw[Y] at this;cases this;exact⟨.refl,C2,h4⟩
      ·have e:f[i]?=none:=Qu e;have:=QM.mp e;exact⟨d,O,by rw[<-aP j];exact this⟩
     | _=>exact⟨λ_ e=>(nomatch e),λe=>(nomatch e)⟩
   | _=>cases h1
 | _=>cases h1
theorem M0{F:Fx}{lo:Int}{n:Nat}:nN g F y ρ H (.rng lo n) (N7 lo n):=by
 refine⟨λm ρ2 p r i f l=>?_⟩;unfold vT.nxt;dsimp only;cases q:RZ i n with
 | true=>
  have j:i+1≤n:=bA q;refine⟨λav e=>⟨j,λx u d=>?_⟩,λe=>(nomatch e)⟩;obtain⟨rfl,rfl⟩:=d;cases e;exact⟨.refl,l,_,rfl,Rr _,Rr _⟩
 | false=>
  refine⟨λav e=>(nomatch e),λ_=>?_⟩;show n≤i;have:¬i<n:=λh=>by
   have:RZ i n=true:=Nat.ble_eq_true_of_le h;rw[q] at this;cases this
  omega
theorem o7(h:PI X tg a (IU<|iY g br)):PI X tg a (C8 g<|mR br):=by
 refine PI.imp (λσ H R m=>eO m λF y ρ S f k C r h p=>?_) h;refine bn C r h λi d S1 H1 u xs st C1 x l h1=>?_;split at h1
 ·rename_i lo I;split at h1
  ·rename_i q;simp only[Qq,bi] at q;cases l with | cons r0 j=>cases j with | nil=>
   obtain⟨z,rfl,b1,b2⟩:=r0;have:z=lo:=by omega
   subst this;exact⟨z,rfl,by omega,by omega,p i d S1 H1 (.rng 0 z.toNat) _ st C1 M0 h1⟩
  ·cases h1
 ·cases h1
def M3(σ:List (Option AV)):List (Option Nat)->List (Option AV)
 | []=>[]
 | some j::r=>GL σ j::M3 σ r
 | none::r=>none::M3 σ r
def vU(ix:List (Option Nat))(σ:dJ):dJ:=⟨M3 σ.v ix,σ.ke⟩
theorem uT{F:Fx}{y:Option Int}{ρ:List P3}{H:Hp}{d:List (Option AV)}{σ:St}(r:gp F y ρ H d σ):∀ix:List (Option Nat),gp F y ρ H (M3 d ix) (jW ix σ)
 | []=>.nil
 | none::ix=>.cons trivial (uT r ix)
 | some j::ix=>by
  refine .cons ?_ (uT r ix);cases q:GL d j with
  | none=>trivial
  | some av=>
   obtain⟨v,e,f⟩:=pZ r q;show fQ F y ρ H (some av) (σ[j]?.join);rw[e];exact f
theorem Er{F:Fx}{d:dJ}(r:bF g F y ρ H d σ)(ix:List (Option Nat)):bF g F y ρ H (vU ix d) (jW ix σ):=⟨uT r.v ix,r.e⟩
def KY(σ:dJ)(t:BG)(l:BT)(m:BE)(k:AV->aM->Bool)(f:vT)(fuel:Nat):Nat->List AV->aM->Bool:=Xq (motive:=λ_=>Nat->List AV->aM->Bool) (λ_ _ _=>false) (λ_ h i ys S=>match QV ys.length 900 with
 | false=>false
 | true=>match f.nxt i S with
  | some none=>k (.ref S.n) (S.add<|.lst ys)
  | some (some x)=>t x σ S λd q=>l d q λc j=>match c with
   | true=>m d j λz p=>h (i+1) (ys++[z]) p
   | false=>h (i+1) ys j
  | none=>false) fuel
def M4(fuel:Nat)(ix:List (Option Nat))(it:BI)(t:BG)(f:BT)(h:BE):BE:=λσ S k=>it σ S λd S1=>KY (vU ix σ) t f h k d fuel 0 [] S1
def KZ:BT:=λ_ S k=>k true S
theorem Ah{F:Fx}{Y:Option Int}{r:List P3}{S1:aM}{H1:Hp}{fuel:Nat}{t:BG}{Z:BT}{te:BE}{h:vT}{J:It}{k:AV->aM->Bool}{Q:VK}{σ:L2.St}{f:dJ}(hsl:∀j∈sl,ix[j]?=some none)(C1:aI g F Y r S1 H1)(r1:bF g F Y r H1 f σ)(so:nN g F Y r H1 h J)
  (h1:KY (vU ix f) t Z te k h fuel 0 [] S1=true) (p:gG g F Y r H1 k Q):∃W:Nat->Nat->List V->Hp->Prop,(∃m,W 0 m [] H1)/\∀i m ys H,W i m ys H->ys.length<Qf /\
 ((J.stop i H/\∀p,H p=none->Q (.ref p) (upd H p<|.lst ys))∨(J.go i H/\∀x H',J.yld i H x H'->mz g sl t x (jW ix σ) H' λl H2=>L2.yg (jW ix σ) l/\fP g Z l H2 λb H3=>
  if b=true then up g te l H3 λy H4=>∃m',m' < m/\W (i+1) m' (ys++[y]) H4 else ∃m',m' < m/\W (i+1) m' ys H3)):=by
 refine⟨λi m ys H'=>∃y' O S' d,aB F Y r H1 y' O H'/\aI g F y' O S' H'/\aQ F y' O H' d ys/\KY (vU ix f) t Z te k h m i d S'=true,⟨fuel,Y,r,S1,[],.refl,C1,.nil,h1⟩,?_⟩;rintro i m ys H2 ⟨U,ρ2,I,d,L,C2,r2,C⟩;obtain⟨t1,t2⟩:=so.turn U ρ2 I H2 i L C2;cases m with
 | zero=>cases C
 | succ m=>
  have C:(match QV d.length 900 with
   | false=>false
   | true=>match h.nxt i I with
    | some none=>k (.ref I.n) (I.add<|.lst d)
    | some (some x)=>t x (vU ix f) I λl I=>Z l I λc S3=>match c with
     | true=>te l S3 λz S4=>KY (vU ix f) t Z te k h m (i+1) (d++[z]) S4
     | false=>KY (vU ix f) t Z te k h m (i+1) d S3
    | none=>false)=true:=C
  cases q0:QV d.length 900 with
  | false=>rw[q0] at C;cases C
  | true=>
   rw[q0] at C;have hl:=aP r2;have hl2:=bA q0;refine⟨bX<|by omega,?_⟩;dsimp only at C;cases q:h.nxt i I with
   | none=>rw[q] at C;cases C
   | some ox=>cases ox with
    | none=>
     rw[q] at C;refine .inl ⟨t2 q,λpl hp=>?_⟩;have u:aB F U ρ2 H2 U (ρ2++[pl]) (upd H2 pl<|.lst ys):=aB.add hp;exact p U _ _ _ (.ref I.n) _ (L.trans u) (C2.add (o:=.lst d) hp ⟨ys,rfl,aQ.mono u r2⟩) ⟨pl,by rw[C2.n];simp,rfl⟩ C
    | some ax=>
     rw[q] at C;obtain⟨go,yl⟩:=t1 ax q;refine .inr ⟨go,λx H3 yx=>?_⟩;obtain⟨u,C3,rx⟩:=yl x H3 yx;have rl:bF g F U ρ2 H3 (vU ix f) (jW ix σ):=Er (bF.mono (L.trans u) r1) ix;refine⟨F,U,ρ2,I,ax,_,_,C3,rx,rl,C,λy4 ρ4 S4 H4 σ4 σ5 st4 C4 r4 o4 h4=>⟨⟨o4.1.symm,λj v e=>?_⟩,?_⟩⟩
     ·rw[o4.2 j λm=>?_]
      ·exact e
      ·have z:=hsl j m;unfold jW at e;rw[QZ,z] at e;cases e
     ·refine fA C4 r4 h4 λy5 ρ5 S5 H5 c st5 C5 r5 h5=>?_;have stc:=((L.trans u).trans st4).trans st5;have r25:=aQ.mono ((u.trans st4).trans st5) r2;cases c with
      | false=>exact rF ⟨m,Rn m,y5,ρ5,S5,d,stc,C5,r25,h5⟩
      | true=>
       refine rG (ar C5 r5 h5 λy6 ρ6 S6 H6 az z st6 C6 r6 rz h6=>?_);exact⟨m,Rn m,y6,ρ6,S6,d++[az],stc.trans st6,C6,dG (aQ.mono st6 r25)<|.cons rz .nil,h6⟩
theorem Es{fuel:Nat}{it:BI}{t:BG}{i:BT}{l:BE}(f:∀j∈sl,ix[j]?=some none):∀σ H Q,up g (M4 fuel ix it t i l) σ H Q->F6 ix (C8 g it) (mz g sl t) (fP g i) (up g l) σ H Q:=by
 rintro σ H Q ⟨F,y,ρ,S,d,k,C,r,h,p⟩;exact⟨F,y,ρ,S,d,_,C,r,h,λx m S1 H1 q J st C1 u h1=>Ah f C1 (bF.mono st r) u h1 (p.mono st)⟩
theorem cD:oq X [] (fP g KZ):=λpins s σ H Q I f=>eO f λF y ρ S d k C r h p=>DL pins s σ H Q I (p.here C h)
theorem fG{c:Qv}(h:PT X c (fP g bt)):oq X [c] (fP g bt):=DM h
theorem iw(fuel:Nat){it:BI}{t:BG}{f:BT}{i:BE}(d:∀j∈sl,ix[j]?=some none)(h:PE X e (F6 ix (C8 g it) (mz g sl t) (fP g f)<|up g i)):PE X e (up g<|M4 fuel ix it t f i):=PE.imp (Es d) h
theorem Et(fuel:Nat)(i:Nat){it:BI}{t:BG}{m:BT}{q:BE}(l:∀j∈sl,ix[j]?=some none)(h:PS X st (jj (F6 ix (C8 g it) (mz g sl t) (fP g m)<|up g q)<|fY i)):PS X st (dw g<|gH (M4 fuel ix it t m q)<|a8 i) :=
 PS.imp (λD σ H O=>yr O λF y ρ S u d C r h p _=>Es (fuel:=fuel) l σ H _ (ar C r h λz f S1 H1 ax x st C1 L I h1=>p z f S1 H1 _ _ st C1 (c9 L I) h1)) h
end
end RB
variable{F:RB.Fx}{gy:RB.Gy}{g:RB.Gx}
namespace RB
open PySem PySem.Spec PyProof.Rows L2
def wE:Nat->List (Option AV)
 | 0=>[]
 | n+1=>none::wE n
def mS:Nat->List AV->List (Option AV)
 | n,[]=>wE n
 | n,a::r=>some a::mS (n - 1) r
def bQ(n:Nat)(b:BS):BF:=λc S k ke=>b ⟨λ_ S1=>k .non S1,k,λ_ _=>false,λ_ _=>false⟩ ⟨mS n c,ke⟩ S
section
theorem mU:∀n:Nat,gp F y ρ H (wE n) (VG n none)
 | 0=>.nil
 | n+1=>.cons trivial (mU n)
theorem wF:∀{n:Nat} {c:List AV} {vs:List V},aQ F y ρ H c vs->vs.length≤n->gp F y ρ H (mS n c) (vs.map some++VG (n - vs.length) none)
 | n,_,_,.nil,_=>by simpa[mS] using mU n
 | n,_,_,.cons (l₂:=d) r t,h=>by
  simp at h;have:=wF (n:=n - 1) t (by omega);unfold mS;refine .cons r ?_;have e:n - (d.length+1)=n - 1 - d.length:=by omega
  simp only[Rm,e];exact this
end
section
theorem qg{n:Nat}{N ps:List Str}{b:BS}{CX:kP}{A:RN}{outer:List Env}{s:P5}{Q:VK}{E:XK}{body:List SK}(x:ps.length≤N.length)(o:ps.length=n)
  (h:kW gy n (bQ N.length b) vs H Q E) (hb:gC X body (dw ⟨gy,E⟩ b)):∃t,gC X body t/\t {nx:=λ_ q=>Q .non q,rt:=Q} (fw N vs) H:=by
 obtain⟨F,y,ρ,S,j,k,ke,C,r,u,h,p,m⟩:=h;refine⟨_,hb,F,y,ρ,S,⟨mS N.length j,ke⟩,_,C,⟨wF r<|by omega,m⟩,h,?_,p,?_,?_⟩
 ·intro i c S1 H1 f d st C1 l h1;exact p i c S1 H1 .non _ st C1 rfl h1
 ·intro i c S1 H1 f d st C1 l h1;cases h1
 ·intro i c S1 H1 f d st C1 l h1;cases h1
def gI(P:QK)(w:Q4)(K:P7)(mg:Str->Option P0)(base:QO)(gy:Gy)(CX:kP)(x:Str)(k n:Nat)(f:BF):Prop :=
 ∃c fd ps,ps.length=n/\bS P w K mg base CX k c fd ps (kW gy n f)/\mg x=some (.ref c)/\QX K (.ref c)=true/\cC K fd ps []
theorem K0{x:Str}{N ps:List Str}{k n:Nat}{b:BS}(d:cO K mg x st)(S:aj N ps (ae st))(hn:ps.length=n:=by decide)(o:ps.length≤N.length:=by decide)
  (hb:∀(kV doc i:P0) (p:Option P3) (c ct:P0) (us:List P0),us.length=ps.length->Tu (Q1 x x (bL st) (aW st) (ae st) .none kV doc i p c ct) ⟨us,[]⟩=pure (ps.zip us))
  (hbody:∀(f:P3) (c:P0) (A:RN) (outer:List Env) (s:P5) (H:Hp) (E:XK),a9 k (A.deeper<|Su x (ae st) s.heap.objs.size f c)->gC (bT eT P w K mg base N x (ae st) f c A outer s H E).nox (aW st) (dw ⟨gy,E⟩ b)) :
  gI P w K mg base gy eT x (k+1) n (bQ N.length b):=by
 obtain⟨f,fd,F,l⟩:=d;refine⟨f,fd,ps,hn,F.ok S (λvs H Q E h=>?_)<|λc A outer s H vs Q E j h=>?_,l,F.kp,F.binds hb⟩
 ·obtain⟨_,_,_,_,_,_,_,_,_,m,_⟩:=h;rw[m,hn]
 ·exact qg (CX:=eT) (A:=A) (outer:=outer) (s:=s) o hn h (hbody f c A outer s H E j)
end
section
variable{CX:kP}{a b c e o:Qv}{ba bb bc:BE}{bt:BT}{br bk:BA}{s1 s2:BS}{pos apos:Pos}{x m:Str}{p:Pos}{k n:Nat}{f:BF}
theorem dy:ck eT X g.E:=λ_ _ _ _ _ _ _ h=>h.elim
theorem yK(c:gI X.prog X.w X.K X.mg X.base g.toGy CX x k n f)(j:a9 k X.A)(i:ck CX X g.E)(u:PA X (e::es) (iY g br))(r:Gl X x:=by nofun)(h:(x==("__debug__":Str))=false:=by decide)
  (he:hE9 X e es:=by nofun) (d:hP9 X pos es:=by nofun):PE X (.Call (.Name x p) (e::es) [] pos) (up g<|lQ (nJ n f) br):=by
 obtain⟨z,fd,ps,hn,F,l,q,hb⟩:=c;exact PE.imp Ed (uA F j r l q hb .nil i u h he d)
def mV(P:QK)(w:Q4)(K:P7)(mg:Str->Option P0)(base:QO)(gy:Gy)(CX:kP)(c:Nat)(m:Str)(k n:Nat)(j:List AV)(f:BF):Prop :=
 ∃h fd ps i d,ps.length=n/\bS P w K mg base CX k h fd ps (kW gy n f)/\uz K (gy.cl c) m h/\cC K fd ps i/\aJ d i/\∀F y ρ H,aQ F y ρ H j d
theorem k7{F:Fx}{y:Option Int}{ρ:List P3}{H:Hp}{m:Str}(d:∀i∈kU,bd[i]?≠some m):∀{fs:List (Nat×AV)} {j:List (Str×V)},Paired (λp q=>bd[p.1]?=some q.1/\aT F y ρ H p.2 q.2) fs j->(∀p∈fs,p.1∈kU)->j.lookup m=none
 | _,_,.nil,_=>rfl
 | _,_,.cons (a:=(i,w)) (b:=(z,v)) hd tl,h=>by
  have:(m==z)=false:=by
   rw[beq_eq_false_iff_ne];intro e;subst e;exact d i (h (i,w) Qj) hd.1
  rw[SV,this];exact k7 d tl λp l=>h p (Ql _ l)
def cj(c n:Nat)(dA:List AV)(f:BF)(a:BE)(r:BA):BE:=λσ S k=>a σ S λx S1=>match x with
 | .ref i=>match S1.t.get i with
  | some (.ins c' _)=>match Qn c' c with
   | true=>r σ S1 λxs d=>nJ n f (.ref i::(xs++dA)) d k σ.ke
   | false=>false
  | _=>false
 | _=>false
theorem qh{c:Nat}{dA:List AV}{dvs:List V}(hm:∀i∈kU,bd[i]?≠some m)(hd:∀F y ρ H,aQ F y ρ H dA dvs):∀σ H Q,up g (cj c n dA f ba br) σ H Q->zA (g.cl c) m (kW g.toGy n f) dvs g.E (up g ba) (iY g br) σ H Q:=λσ H Q hx=>eO hx λF y ρ S z k C r h p=>
 ar C r h λy1 ρ1 S1 H1 ax x st C1 r1 Y h1=>by
  cases ax with
  | ref i=>
   dsimp only at h1;cases q:S1.t.get i with
   | none=>rw[q] at h1;cases h1
   | some ob=>
    rw[q] at h1;cases ob with
    | ins c' fs=>
     dsimp only at h1;cases q2:Qn c' c with
     | false=>rw[q2] at h1;cases h1
     | true=>
      rw[q2] at h1;have ec:=Qh q2;subst ec;obtain⟨a,dx,gs,rfl,hρ,hc2,ha,pr,U⟩:=C1.ins Y q;refine⟨a,dx,gs,rfl,ha,k7 hm pr U,bn C1 r1 h1 λI ρ2 S2 Z u xs j C2 r2 L l=>?_⟩;have d:aQ F I ρ2 Z (.ref i::(u++dA)) (.ref a::(xs++dvs)):=.cons (aT.mono j Y) (dG L<|hd F I ρ2 Z);unfold nJ at l;cases O:Qn (AV.ref i::(u++dA)).length n with
      | false=>simp only[O] at l;cases l
      | true=>
       simp only[O] at l;exact⟨F,I,ρ2,S2,_,k,z.ke,C2,d,by rw[<-aP d];exact Qh O,l,p.mono<|st.trans j,r2.e⟩
    | _=>cases h1
  | _=>cases h1
theorem Ai{pl:Sem Bool}{c:Nat}{l:List AV}(M:mV X.prog X.w X.K X.mg X.base g.toGy CX c m k n l f)(C:oP X.K (g.cl c))(z:∀i∈kU,bd[i]?≠some m)(u:a9 k X.A)(r:ck CX X g.E)(ho:PE X o (up g ba))(H:PA X (e::es) (iY g br))
  (d:hE9 X e es:=by nofun) (h:hP9 X pos es:=by nofun)
  (ht:Q0 (.Call (.Attribute o m apos) (e::es) [] pos) X.env=(do
   let j <-Q0 o X.env
   SI apos.atName
   let (f,first) <-SJ [j] (TC j m pl)
   U8 pos f first (Sr pos<|Qy (e::es) X.env) (Sb pos<|Rh [] X.env)):=by nofun) :
  PE X (.Call (.Attribute o m apos) (e::es) [] pos) (up g<|cj c n l f ba br):=by
 obtain⟨O,fd,ps,Q,L,hn,F,q,hb,hd,I⟩:=M;exact PE.imp (qh z I) (Gi ho C q F u hb hd r H d h ht)
theorem lU{pl:Sem Bool}{c:Nat}{I:List AV}(M:mV X.prog X.w X.K X.mg X.base g.toGy CX c m k n I f)(hc:oP X.K (g.cl c))(hm:∀i∈kU,bd[i]?≠some m)(hr:a9 k X.A)(hx:ck CX X g.E)(ho:PE X o (up g ba))
  (ht:Q0 (.Call (.Attribute o m apos) [] [] pos) X.env=(do
   let z <-Q0 o X.env
   SI apos.atName
   let (f,first) <-SJ [z] (TC z m pl)
   U8 pos f first (Sr pos<|Qy [] X.env) (Sb pos<|Rh [] X.env)):=by nofun) :
  PE X (.Call (.Attribute o m apos) [] [] pos) (up g<|cj c n I f ba aK):=by
 obtain⟨fa,fd,ps,ds,dvs,hn,F,me,hb,hd,hA⟩:=M;refine PE.imp (λσ H Q h=>?_) (Du ho hc me F hr hb hd hx ht);obtain⟨F',y,ρ,S,j,k,C,r,h,p⟩:=h;have:=qh (g:=g) (m:=m) (n:=n) (f:=f) (ba:=ba) (br:=aK) (c:=c) hm hA σ H Q ⟨F',y,ρ,S,j,k,C,r,h,p⟩
 -- the same but for the empty row of d
 obtain⟨F2,Y,ρ2,S2,l,k2,C2,r2,h2,p2⟩:=this;refine⟨F2,Y,ρ2,S2,l,k2,C2,r2,h2,λZ u S' L av v st C' rv hk=>?_⟩;obtain⟨a,dx,fs,e1,e2,e3,F3,U,q,S3,O,k3,C3,r3,h3,p3⟩:=p2 Z u S' L av v st C' rv hk;exact⟨a,dx,fs,e1,e2,e3,p3 U q S3 L [] [] .refl C3 .nil h3⟩
inductive uU where
 | arg (i:Nat)
 | dfl (a:AV) (v:V) (u:P0)
def ow(d:List AV):List uU->List AV
 | []=>[]
 | .arg i::r=>d.getD i .non::ow d r
 | .dfl a _ _::r=>a::ow d r
def oy(d:List V):List uU->List V
 | []=>[]
 | .arg i::r=>d.getD i .non::oy d r
 | .dfl _ v _::r=>v::oy d r
def wG(d:List P0):List uU->List P0
 | []=>[]
 | .arg i::r=>d.getD i .none::wG d r
 | .dfl _ _ u::r=>u::wG d r
def uV:List uU->Prop
 | []=>True
 | .arg _::r=>uV r
 | .dfl a v u::r=>(∀F y ρ H,aT F y ρ H a v)/\aN v u/\uV r
theorem Eu{d:List V}{h:List P0}(r:aJ d h)(i:Nat):aN (d.getD i .non) (h.getD i .none):=by
 cases e:d[i]? with
 | none=>simp[UW,e,r.none_of e,L2.aN]
 | some v=>
  obtain⟨u,h1,j⟩:=r.get e;simp[UW,e,h1,j]
theorem o8{d:List V}{j:List P0}(r:aJ d j):∀{tpl:List uU},uV tpl->aJ (oy d tpl) (wG j tpl)
 | [],_=>.nil
 | .arg i::t,h=>.cons (Eu r i) (o8 r (tpl:=t) h)
 | .dfl a v u::t,h=>.cons h.2.1 (o8 r (tpl:=t) h.2.2)
theorem BL{d:List AV}{h:List V}(r:aQ F y ρ H d h)(i:Nat):aT F y ρ H (d.getD i .non) (h.getD i .non):=by
 cases e:d[i]? with
 | none=>
  have q:=aP r;have:=QM.mp e;have l:h[i]?=none:=QM.mpr (by omega);simp[UW,e,l];rfl
 | some v=>
  obtain⟨u,h1,j⟩:=et r e;simp[UW,e,h1];exact j
theorem lV{F:Fx}{y:Option Int}{ρ:List P3}{H:Hp}{d:List AV}{j:List V}(r:aQ F y ρ H d j):∀{tpl:List uU},uV tpl->aQ F y ρ H (ow d tpl) (oy j tpl)
 | [],_=>.nil
 | .arg i::t,h=>.cons (BL r i) (lV r (tpl:=t) h)
 | .dfl a v u::t,h=>.cons (h.1 F y ρ H) (lV r (tpl:=t) h.2.2)
def lW(K:P7)(fd:U6)(ps ks:List Str)(h:Nat)(tpl:List uU):Prop :=
 ∀(s:P5) (us d:List P0),K.In s.heap->us.length=h->d.length=ks.length->Xn s fd ⟨us,ks.zip d⟩ (ps.zip<|us++wG d tpl)
def yL(P:QK)(w:Q4)(K:P7)(mg:Str->Option P0)(base:QO)(gy:Gy)(CX:kP)(c:Nat)(m:Str)(k n h:Nat)(ks:List Str)(tpl:List uU)(f:BF):Prop :=
 ∃d fd ps,ps.length=n/\bS P w K mg base CX k d fd ps (kW gy n f)/\uz K (gy.cl c) m d/\lW K fd ps ks h tpl/\uV tpl
theorem K2{q:P3}{ps ks:List Str}{l:Nat}{tpl:List uU}{sp:Sp}{σ:L2.St}{Q:VK}{us d:List P0}{vs j:List V}(F:bS X.prog X.w X.K X.mg X.base CX k q fd ps sp)(L:a9 k X.A)(hb:lW X.K fd ps ks l tpl)(ht:uV tpl)(C:ck CX X g.E)
  (I:ay X pins σ H s) (r:aJ vs us) (rz:aJ j d) (h1:vs.length=l) (O:j.length=ks.length) (h:sp (vs++oy j tpl) H Q g.E):Qa (Qd X.prog X.w) X.A (call (.ref q) us<|ks.zip d) (EP X pins σ Q) X.xe s:=by
 have z:aJ (vs++oy j tpl) (us++wG d tpl):=r.append (o8 rz ht);refine SA (Rx (F.run X.A X.stack s H ⟨us,ks.zip d⟩ _ _ Q g.E L I.env0 (hb s us d I.kIn (by rw[<-r.length];exact h1)<|by rw[<-rz.length];exact O) z h) λr s' i=>?_);cases r with
 | error e=>exact C pins σ H s e s' I i
 | ok fl=>
  cases fl with
  | ret u=>exact I.after i
  | next=>exact QE i
  | brk=>exact QE i
  | cont=>exact QE i
def fU(c n h j:Nat)(tpl:List uU)(f:BF)(a:BE)(r l:BA):BE:=λσ S k=>a σ S λx S1=>match x with
 | .ref i=>match S1.t.get i with
  | some (.ins c' _)=>match Qn c' c with
   | true=>r σ S1 λxs u=>l σ u λd q=>match Qn (xs.length+1) h&&Qn d.length j with
    | true=>nJ n f (.ref i::(xs++ow d tpl)) q k σ.ke
    | false=>false
   | false=>false
  | _=>false
 | _=>false
theorem PK.imp{d:List Uy}{t t':TA}(h:∀σ H Q,t' σ H Q->t σ H Q)(p:PK X d t):PK X d t':=λpos pins s σ H Q I q=>p pos pins s σ H Q I (h _ _ _ q)
theorem gx:PK X [] (iY g aK):=PK.imp (λσ H Q i=>eO i λF y ρ S d k C r h p=>p y ρ S H [] [] .refl C .nil h) J8
theorem di{i:List Uy}{nm:Option Str}{j:Pos}(Z:PE X e (up g ba))(Y:PK X i (iY g br)):PK X (⟨nm,e,j⟩::i) (iY g<|ah ba br) :=
 PK.imp (λσ H Q U=>eO U λF y ρ S l k C r h p=>ar C r h λy1 q S1 H1 ax x st C1 O L h1=>bn C1 O h1 λu ρ2 S2 H2 az z d C2 r2 I h2=>p u ρ2 S2 H2 (ax::az) (x::z) (st.trans d) C2 (.cons (aT.mono d L) I) h2) (Gk Z Y)
theorem dH{pl:Sem Bool}{c np:Nat}{ks:List Str}{tpl:List uU}{L:List Uy}(M:yL X.prog X.w X.K X.mg X.base g.toGy CX c m k n np ks tpl f)(hc:oP X.K (g.cl c))(hm:∀i∈kU,bd[i]?≠some m)(hr:a9 k X.A)(hx:ck CX X g.E)(ho:PE X o (up g ba))(ha:PA X (e::es) (iY g br))(hkw:PK X L (iY g bk))
  (hall:(Sb pos<|Rh L X.env).all (·.1.isSome)=true:=by nofun) (hks:(Sb pos<|Rh L X.env).filterMap (·.1)=ks:=by nofun)
  (hst:hE9 X e es:=by nofun)
  (hpl:((Sr pos<|Qy (e::es) X.env).any (·.1)||(Sb pos<|Rh L X.env).any (·.1.isNone))=false:=by nofun)
  (ht:Q0 (.Call (.Attribute o m apos) (e::es) L pos) X.env=(do
   let ov <-Q0 o X.env
   SI apos.atName
   let (f,first) <-SJ [ov] (TC ov m pl)
   U8 pos f first (Sr pos<|Qy (e::es) X.env) (Sb pos<|Rh L X.env)):=by nofun) :
  PE X (.Call (.Attribute o m apos) (e::es) L pos) (up g<|fU c n np ks.length tpl f ba br bk):=by
 obtain⟨fa,fd,ps,hn,Fn,me,hb,hk⟩:=M;rintro pins s σ H Q I ⟨F,y,ρ,S,j,kk,C,r,h,p⟩;refine TH (pl:=pl) (bv (ho pins s σ H (λx H1=>∃i a Z z S1 dx gs,x=.ref a/\aB F y ρ H Z z H1/\aI g F Z z S1 H1/\bF g F Z z H1 j σ/\aT F Z z H1 (.ref i) (.ref a)/\H1 a=some (.ins (g.cl c) dx gs)/\gs.lookup m=none /\
   br j S1 (λxs S2=>bk j S2 λO S3=>match Qn (xs.length+1) np&&Qn O.length ks.length with
    | true=>nJ n f (.ref i::(xs++ow O tpl)) S3 kk j.ke
    | false=>false)=true) I (ar C r h λZ z S1 H1 ax x st C1 r1 rx h1=>?_)) λu s1 z9=>?_) ht
 ·cases ax with
  | ref i=>
   dsimp only at h1;cases q:S1.t.get i with
   | none=>rw[q] at h1;cases h1
   | some ob=>
    rw[q] at h1;cases ob with
    | ins c' fs=>
     dsimp only at h1;cases q2:Qn c' c with
     | false=>rw[q2] at h1;cases h1
     | true=>
      rw[q2] at h1;have ec:=Qh q2;subst ec;obtain⟨a,dx,gs,rfl,hρ,hc2,ha,pr,hfl⟩:=C1.ins rx q;exact⟨i,a,Z,z,S1,dx,gs,rfl,st,C1,r1,rx,ha,k7 hm pr hfl,h1⟩
    | _=>cases h1
  | _=>cases h1
 ·obtain⟨x,H1,I1,rx,i,a,Z,z,S1,dx,gs,ex,st1,C1,r1,ri,ea,l,h1⟩:=z9;subst ex;obtain rfl:u=Qo a:=rx;refine iE I1 ea hc me l ?_;refine XB (first:=[.ref a]) (h₀:=X.base) I.ok.mod.kin me.kp hall (bv (ha pos pins s1 σ H1 (λxs H2=>∃d y2 ρ2 S2,aB F Z z H1 y2 ρ2 H2/\aI g F y2 ρ2 S2 H2/\bF g F y2 ρ2 H2 j σ/\aQ F y2 ρ2 H2 d xs /\
    bk j S2 (λO S3=>match Qn (d.length+1) np&&Qn O.length ks.length with
     | true=>nJ n f (.ref i::(d++ow O tpl)) S3 kk j.ke
     | false=>false)=true) I1 (bn C1 r1 h1 λy2 ρ2 S2 H2 d xs U C2 r2 Y h2=>⟨d,y2,ρ2,S2,U,C2,r2,Y,h2⟩)) λus s2 z9=>?_) hpl hst
  obtain⟨vs,H2,I2,rv,d,y2,ρ2,S2,U,C2,r2,Y,h2⟩:=z9;refine bv (hkw pos pins s2 σ H2 (λO H3=>O.length=ks.length/\(V.ref a::vs).length=np/\kW g.toGy n f ((V.ref a::vs)++oy O tpl) H3 Q g.E) I2<|bn C2 r2 h2 λy3 ρ3 S3 H3 azs O st3 C3 r3 rzs h3=>?_) λws s3 z9=>?_
  ·cases q:Qn (d.length+1) np&&Qn azs.length ks.length with
   | false=>simp only[q] at h3;cases h3
   | true=>
    simp only[q] at h3;simp only[Qq] at q;have e1:=Qh q.1;have e2:=Qh q.2;have l1:=aP Y;have l2:=aP rzs;have rall:aQ F y3 ρ3 H3 (.ref i::(d++ow azs tpl)) (.ref a::(vs++oy O tpl)):=.cons (aT.mono (U.trans st3) ri) (dG (aQ.mono st3 Y)<|lV rzs hk);refine⟨by omega,by simp;omega,?_⟩;unfold nJ at h3;cases q3:Qn (AV.ref i::(d++ow azs tpl)).length n with
    | false=>simp only[q3] at h3;cases h3
    | true=>
     simp only[q3] at h3;exact⟨F,y3,ρ3,S3,_,kk,j.ke,C3,rall,by rw[YW,<-aP rall];exact Qh q3,h3,p.mono<|(st1.trans U).trans st3,r3.e⟩
  ·obtain⟨O,H3,I3,rz,hz,hv,q3⟩:=z9;rw[hks];refine⟨I3.kIn,?_⟩;exact K2 (vs:=V.ref a::vs) Fn hr hb hk hx I3 (.cons (show L2.aN (.ref a) (Qo a) from rfl) rv) rz hv hz q3
def Jr(c n:Nat)(f:BF)(r:BA):BE:=λσ S k=>r σ S λxs S1=>nJ n f (.ref S1.n::xs) (S1.add<|.ins c []) (λv d=>match v with
 | .non=>k (.ref S1.n) d
 | _=>false) σ.ke
theorem Ev{c:Nat}(hc:c<2):∀σ H Q,up g (Jr c n f br) σ H Q->IW (g.cl c) (kW g.toGy n f) [] g.E (iY g br) σ H Q:=λσ H Q hx=>eO hx λF y ρ S Y k C r h p=>
 bn C r h λl d S1 H1 U xs st C1 r1 rx h1=>by
  intro x i hx O ne;rw[Sz];have L:(upd H1 i<|.own x) x=none:=by rw[al (RO ne)];exact hx
  have I:aB F l d H1 l d (upd H1 i<|.own x):=aB.lay O;have C2:=C1.lay (o:=.own x) O;have z:aB F l d (upd H1 i<|.own x) l (d++[x]) (upd (upd H1 i<|.own x) x<|.ins (g.cl c) i []):=aB.add L;have C3:=C2.add (o:=.ins c []) (ho:=.ins (g.cl c) i []) L ⟨i,[],⟨hc,rfl,λp hp=>(nomatch hp)⟩,.nil⟩;have u:=(st.trans I).trans z;have rn:∀{H':Hp},aT F l (d++[x]) H' (.ref S1.n) (.ref x):=λ{H'}=>⟨x,by rw[C1.n];simp,rfl⟩
  have j:aQ F l (d++[x]) (upd (upd H1 i<|.own x) x<|.ins (g.cl c) i []) (.ref S1.n::U) (.ref x::xs):=.cons rn (aQ.mono (I.trans z) rx);unfold nJ at h1;cases q3:Qn (AV.ref S1.n::U).length n with
  | false=>simp only[q3] at h1;cases h1
  | true=>
   simp only[q3] at h1;refine⟨F,l,_,_,_,_,Y.ke,C3,j,by rw[<-QP j];exact Qh q3,h1,λy5 Z S5 H5 av v q C5 rv h5=>?_,r.e.mono u⟩;cases av with
   | non=>exact⟨rv,p y5 Z S5 H5 (.ref S1.n) _ (u.trans q) C5 (aT.mono (av:=.ref S1.n) q rn) h5⟩
   | _=>cases h5
def OX(P:QK)(w:Q4)(K:P7)(mg:Str->Option P0)(base:QO)(gy:Gy)(CX:kP)(c:Nat)(x:Str)(k n:Nat)(f:BF):Prop :=
 ∃d fd ps,ps.length=n/\bS P w K mg base CX k d fd ps (kW gy n f)/\Mk K (gy.cl c) d/\mg x=some (.ref<|gy.cl c)/\cC K fd ps []
theorem G8{c:Nat}(r:c<2)(M:OX X.prog X.w X.K X.mg X.base g.toGy CX c x k n f)(j:a9 (k+1) X.A)(i:ck CX X g.E)(u:PA X (e::es) (iY g br))(q:Gl X x:=by nofun)(h:(x==("__debug__":Str))=false:=by decide)
  (he:hE9 X e es:=by nofun) (d:hP9 X pos es:=by nofun):PE X (.Call (.Name x p) (e::es) [] pos) (up g<|Jr c n f br):=by
 obtain⟨z,fd,ps,hn,F,mk,l,hb⟩:=M;exact PE.imp (Ev r) (Gj mk F j q l hb .nil i u h he d)
end
section
theorem K3{x qual:Str}{d:P3}{N ps:List Str}{k n:Nat}{b:BS}(F:Fun K x qual st d fd)(S:aj N ps (ae st))(hn:ps.length=n:=by decide)(j:ps.length≤N.length:=by decide)
  (hbody:∀(c:P0) (A:RN) (outer:List Env) (s:P5) (H:Hp) (E:XK),a9 k (A.deeper<|Su qual (ae st) s.heap.objs.size d c)->gC (bT eT P w K mg base N qual (ae st) d c A outer s H E).nox (aW st) (dw ⟨gy,E⟩ b)) :
  bS P w K mg base eT (k+1) d fd ps (kW gy n<|bQ N.length b):=by
 refine F.ok S (λvs H Q E h=>?_) (λc A outer s H vs Q E f h=>?_)
 ·obtain⟨_,_,_,_,_,_,_,_,_,i,_⟩:=h;rw[i,hn]
 ·exact qg (CX:=eT) (A:=A) (outer:=outer) (s:=s) j hn h (hbody c A outer s H E f)
end
end RB
namespace RB
open PySem PySem.Spec L2
theorem BM:Q9 "any" = some (.builtin "any"):=by decide +kernel
theorem BN:Q9 "all" = some (.builtin "all"):=by decide +kernel
structure M5(mg:Str->Option P0):Prop extends Mods mg where
 any:mg "any" = none
 all:mg "all" = none
end RB
namespace L2
open PySem PySem.Spec PyProof.Rows
section
variable{a b:Qv}{ta tb:TE}{rest:List Qv}
theorem M6:Mt X (λx H Q=>on (rK H x) λb=>Q b H):=by
 intro pins s σ H x v Q I c h;obtain⟨b,e,q⟩:=dE h;refine xY pins s σ H x v Q I c ⟨b,?_,q⟩;cases x with
 | non=>cases e;rfl
 | bl b=>cases e;rfl
 | int i=>cases e;rfl
 | ref a=>
  simp only[rK] at e;split at e
  ·cases e;exact .inl ⟨_,.inl<|.inl ‹_›,rfl⟩
  ·cases e;exact .inr (.inl ⟨_,ic.of ‹_›,rfl⟩)
  ·cases e;exact .inl ⟨_,.inl<|.inr ⟨_,‹_›⟩,rfl⟩
  ·cases e;exact .inr (.inr ⟨_,‹_›,rfl⟩)
  ·cases e
 | _=>cases e
def OY(ta tb:TE):TE:=λσ H Q=>ta σ H λx H1=>on (rK H1 x) λc=>if c=true then Q x H1 else tb σ H1 Q
theorem K4(o:PE X a ta)(hb:PE X (.BoolOp .Or (b::rest) pos) tb):PE X (.BoolOp .Or (a::b::rest) pos) (OY ta tb):=by
 intro pins s σ H Q I h;refine BoolOp_or (bv (o pins s σ H _ I h) λv m j=>de j λx H1 I1 f q1=>?_);refine bv (M6 pins m σ H1 x v (λc d=>if c=true then Q x d else tb σ d Q) I1 f q1) λc l ⟨d,i,q2⟩=>?_;cases c with
 | false=>exact hb pins l σ d Q i q2
 | true=>exact⟨x,d,i,f,q2⟩
theorem uW:∀{bs:List Bool} {us:List P0},aJ (bs.map V.bl) us->us=bs.map Si
 | [],_,r=>by cases r;rfl
 | b::bs,_,r=>by
  cases r with
  | cons h t=>cases h;rw[uW t];rfl
theorem wH(bs:List Bool):(Ui bs.length).map (λi=>bs.getD i false)=bs:=by
 apply List.ext_getElem
 ·simp
 ·intro i h1 c;simp at h1;simp[UW,h1]
def Js:List V->Hp->VK->Prop:=λxs H Q=>∃(a:P3) (bs:List Bool),xs=[.ref a]/\H a=some (.lst<|bs.map V.bl)/\Q (.bl<|bs.any id) H
def Jt:List V->Hp->VK->Prop:=λxs H Q=>∃(a:P3) (bs:List Bool),xs=[.ref a]/\H a=some (.lst<|bs.map V.bl)/\Q (.bl<|bs.all id) H
theorem wI(bs:List Bool):TruthOf prog w A (λi v=>(bs.map Si).toArray[i]?=some v) (λi=>bs.getD i false):=by
 intro i v s Q E hP hQ;rw[WS,QZ] at hP;cases e:bs[i]? with
 | none=>rw[e] at hP;cases hP
 | some c=>
  rw[e] at hP;cases hP;have:bs.getD i false=c:=by simp[UW,e]
  dsimp only at hQ;rw[this] at hQ;exact Sa hQ
theorem BO(l:X.calm=true):cZ X (.builtin "any") Js:=by
 intro pins s σ H xs us Q I r h;obtain⟨a,bs,rfl,p,q⟩:=h;obtain⟨u,rfl,f⟩:=iW r;cases f;obtain⟨its,n,d,ho,hz⟩:=I.lst p;have e:=uW d;subst e;have j:s.heap.IsList a (bs.map Si).toArray:=⟨_,ho,rfl,n,rfl⟩
 have c:a≠s.heap.objs.size:=Qp (Qc ho);have kp:∀b o,s.heap.get? b=some o->(s.heap.push {cls:=.type "list_iterator",data:=.fields #[.ref a,.int 0 0]}).get? b=some o:=λb o e=>P1 _ e;refine call_any_walk (VX j ⟨_,_,_,_,_,_,_,rfl,af3 (A:=X.A.in1) (I.ok.hd l) s.heap.objs.size a c (bs.map Si).toArray,⟨⟨_,P8 _ rfl,rfl,rfl⟩,⟨_,kp a _ ho,rfl,n,rfl⟩⟩,wI bs,λh' tk i=>?_⟩);refine⟨.bl<|bs.any id,H,I.kept λb o e=>i b o (λm=>?_) (kp b o e),?_,q⟩
 ·have:b=s.heap.objs.size:=by simpa using m
  exact absurd (Qc e) (by rw[this];exact RL _)
 ·show Si _=Si _;congr 1
  conv=>rhs;rw[<-wH bs]
  rw[List.any_map];simp
theorem BQ(l:X.calm=true):cZ X (.builtin "all") Jt:=by
 intro pins s σ H xs us Q I r h;obtain⟨a,bs,rfl,p,q⟩:=h;obtain⟨u,rfl,f⟩:=iW r;cases f;obtain⟨its,n,d,ho,hz⟩:=I.lst p;have e:=uW d;subst e;have j:s.heap.IsList a (bs.map Si).toArray:=⟨_,ho,rfl,n,rfl⟩
 have c:a≠s.heap.objs.size:=Qp (Qc ho);have kp:∀b o,s.heap.get? b=some o->(s.heap.push {cls:=.type "list_iterator",data:=.fields #[.ref a,.int 0 0]}).get? b=some o:=λb o e=>P1 _ e;refine call_all_walk (VX j ⟨_,_,_,_,_,_,_,rfl,af3 (A:=X.A.in1) (I.ok.hd l) s.heap.objs.size a c (bs.map Si).toArray,⟨⟨_,P8 _ rfl,rfl,rfl⟩,⟨_,kp a _ ho,rfl,n,rfl⟩⟩,wI bs,λh' tk i=>?_⟩);refine⟨.bl<|bs.all id,H,I.kept λb o e=>i b o (λm=>?_) (kp b o e),?_,q⟩
 ·have:b=s.heap.objs.size:=by simpa using m
  exact absurd (Qc e) (by rw[this];exact RL _)
 ·show Si _=Si _;congr 1
  conv=>rhs;rw[<-wH bs]
  rw[Wz];simp
theorem oz{a:P3}{its:Array P0}(hz:¬(its.size:Int)≥2 ^ 63) :
  Meets (Sd.«bool.__new__» ⟨[.type "bool",.ref a],[]⟩) (λ_ R s=>s.heap.IsList a its/\R (.ok<|.ret<|.bool<|!its.isEmpty) {s with toks:=s.toks+1+1}) :=
 Meets.of_wp λj h q p st c=>by
  obtain⟨h0,m,o,i,l⟩:=st;obtain⟨f,hs⟩:=c;have d:=F.conv_sub_bool
  repeat (any_goals (first | assumption | (with_reducible refine Yp f (by omega) ?_) | wp_step))
  all_goals first | exact⟨_,rfl,hs⟩ | exact hs | skip
def Ew:List V->Hp->VK->Prop:=λxs H Q=>∃a ys,xs=[.ref a]/\H a=some (.lst ys)/\Q (.bl<|!ys.isEmpty) H
theorem yM:cZ X (.type "bool") Ew:=by
 intro pins s σ H xs us Q I r h;obtain⟨a,ys,rfl,i,q⟩:=h;obtain⟨u,rfl,f⟩:=iW r;cases f;obtain⟨its,n,c,ho,hz⟩:=I.lst i;have d:=c.length;have j:=mC;refine call_bool_1 (oz (a:=a) (its:=its.toArray)<|by rw[P6];omega) ⟨⟨_,ho,rfl,n,rfl⟩,?_⟩;exact⟨rfl,.bl<|!ys.isEmpty,H,(I.tok _).tok _,by rw[<-kO c];rfl,q⟩
end
end L2
namespace RB
open PySem L2
section
variable{a b c e o:Qv}{ba bb bc:BE}{bt:BT}{br bk:BA}{s1 s2:BS}{es rest:List Qv}
def OZ(a b:BE):BE:=λσ S k=>a σ S λx S1=>match BH S1 x with
 | some true=>k x S1
 | some false=>b σ S1 k
 | none=>false
theorem K5(z:PE X a (up g ba))(hb:PE X (.BoolOp .Or (b::rest) pos) (up g bb)):PE X (.BoolOp .Or (a::b::rest) pos) (up g<|OZ ba bb):=by
 refine PE.imp (λσ H Q u=>eO u λF y ρ S i k C r h p=>?_) (K4 z hb);refine ar C r h λj f S1 H1 ax x st C1 m l h1=>?_;cases q:BH S1 ax with
 | none=>simp only[q] at h1;cases h1
 | some d=>
  simp only[q] at h1;rw[Ab C1 l q,bP];cases d with
  | true=>exact rG (p j f S1 H1 ax x st C1 l h1)
  | false=>exact rF ⟨F,j,f,S1,i,k,C1,m,h1,p.mono st⟩
def Ex:List AV->Option (List Bool)
 | []=>some []
 | .bl b::r=>match Ex r with
  | some bs=>some (b::bs)
  | none=>none
 | _::_=>none
theorem uX{F:Fx}{y:Option Int}{ρ:List P3}{H:Hp}:∀{xs:List AV} {vs:List V} {bs:List Bool},aQ F y ρ H xs vs->Ex xs=some bs->vs=bs.map V.bl
 | _,_,_,.nil,h=>by cases h;rfl
 | _,_,bs,.cons (a:=ax) r t,h=>by
  cases ax with
  | bl c=>
   unfold Ex at h;split at h
   ·rename_i d q;cases h;rw[uX t q];cases(show _=V.bl c from r);rfl
   ·cases h
  | _=>cases h
def M7:List AV->aM->(AV->aM->Bool)->Bool:=λxs S k=>match xs with
 | [x]=>match iJ S x with
  | some ys=>match Ex ys with
   | some bs=>k (.bl<|bs.any id) S
   | none=>false
  | none=>false
 | _=>false
def rT:List AV->aM->(AV->aM->Bool)->Bool:=λxs S k=>match xs with
 | [x]=>match iJ S x with
  | some ys=>match Ex ys with
   | some bs=>k (.bl<|bs.all id) S
   | none=>false
  | none=>false
 | _=>false
theorem G9:mK g Js M7:=by
 intro F y ρ S H xs j k Q C d h p;unfold M7 at h;split at h
 ·split at h
  ·rename_i ys q;split at h
   ·rename_i bs q2;cases d with | cons r t=>cases t with | nil=>
    obtain⟨n,a,vs,rfl,rfl,_,i,f⟩:=cG C r q;have e:=uX f q2;subst e;exact⟨a,bs,rfl,i,p.here C (av:=.bl _) rfl h⟩
   ·cases h
  ·cases h
 ·cases h
theorem Ha:mK g Jt rT:=by
 intro F y ρ S H xs j k Q C d h p;unfold rT at h;split at h
 ·split at h
  ·rename_i ys q;split at h
   ·rename_i bs q2;cases d with | cons r t=>cases t with | nil=>
    obtain⟨n,a,vs,rfl,rfl,_,i,f⟩:=cG C r q;have e:=uX f q2;subst e;exact⟨a,bs,rfl,i,p.here C (av:=.bl _) rfl h⟩
   ·cases h
  ·cases h
 ·cases h
def Ju:List AV->aM->(AV->aM->Bool)->Bool:=λxs S k=>match xs with
 | [x]=>match iJ S x with
  | some ys=>k (.bl<|!ys.isEmpty) S
  | none=>false
 | _=>false
theorem Ey:mK g Ew Ju:=by
 intro F y ρ S H xs j k Q C d h p;unfold Ju at h;split at h
 ·split at h
  ·rename_i ys q;cases d with | cons r t=>cases t with | nil=>
   obtain⟨n,a,vs,rfl,rfl,_,i,f⟩:=cG C r q;refine⟨a,vs,rfl,i,?_⟩;rw[<-iK f];exact p.here C (av:=.bl _) rfl h
  ·cases h
 ·cases h
def M8:AV->aM->(AV->aM->Bool)->Bool:=λx S k=>match x with
 | .int false lo hi=>k (.int false (-hi)<|-lo) S
 | _=>false
theorem Hb:OR g (rU λi=>.int (-i)) M8:=by
 intro F y ρ S H x ax k Q C d h p;cases ax with
 | int s lo f=>cases s with
  | true=>cases h
  | false=>
   obtain⟨z,rfl,h1,j⟩:=d;exact⟨z,rfl,p.here C (av:=.int false _ _) ⟨_,rfl,by omega,by omega⟩ h⟩
 | _=>cases h
def BR(a:BE):BE:=PH M8 a
theorem mW(l:PE X a (up g ba)):PE X (.UnaryOp .USub a pos) (up g<|BR ba) :=
 PE.imp (λσ H Q ⟨F,y,ρ,S,f,k,C,r,h,p⟩=>ar C r h λi d S1 H1 ax x st C1 m j h1=>Hb F i d S1 H1 x ax k Q C1 j h1 (p.mono st)) (Mu J4 l)
def M9(xs:List AV):Nat->List AV
 | 0=>[]
 | n+1=>xs++M9 xs n
def PN:AV->AV->aM->(AV->aM->Bool)->Bool:=λa b S k=>match b with
 | .int false lo d=>match dq lo d&&dq d lo&&dq 0 lo&&dq lo 20 with
  | true=>match iJ S a with
   | some xs=>match QV xs.length 20 with
    | true=>k (.ref S.n) (S.add<|.lst<|M9 xs lo.toNat)
    | false=>false
   | none=>false
  | false=>false
 | _=>false
def O0(n:Nat)(a:BE):BE:=λσ S k=>a σ S λx S1=>match lT x with
 | some xs=>match QV n xs.length with
  | true=>k (chain<|xs.drop n) S1
  | false=>false
 | none=>false
theorem mX{F:Fx}{y:Option Int}{ρ:List P3}{H:Hp}:∀{xs:List AV} {vs:List V} (n:Nat),aQ F y ρ H xs vs->aQ F y ρ H (xs.drop n) (vs.drop n)
 | _,_,0,r=>r
 | _,_,_+1,.nil=>.nil
 | _,_,n+1,.cons _ t=>mX n t
theorem BU(n:Nat)(xs:List V)(h:n≤xs.length):mG xs (some (n:Int)) none=xs.drop n:=by
 unfold mG;have e:HT.sIx xs.length 0 (some (n:Int))=min n xs.length:=HT.sIx_nat xs.length 0 n;rw[e,HT.sIx_none,Nat.min_eq_left h,UH (by rw[Wa];exact Qi _)]
theorem Ez(n:Nat)(h:PE X e (Pq Je (up g ba) (IX<|tC<|.int (n:Int)) zD)):PE X e (up g<|O0 n ba):=by
 refine PE.imp (λσ H Q L=>eO L λF y ρ S z k C r h p=>?_) h;refine ar C r h λj d S1 H1 ax x st C1 O I h1=>⟨(n:Int),rfl,?_⟩
 cases q:lT ax with
 | none=>simp only[q] at h1;cases h1
 | some xs=>
  simp only[q] at h1;split at h1
  ·rename_i q2;obtain⟨a,vs,rfl,u,l⟩:=gR I q;have U:=aP l;have hn:=bA q2;show on (ik H1<|.ref a) λxs=>(∀p,H1 p=none->Q (.ref p) (upd H1 p<|.tup<|mG xs (some (n:Int)) none))/\(mG xs (some (n:Int)) none=xs->Q (.ref a) H1);rw[il u,bP,BU n vs (by omega)];refine⟨λpl m=>?_,λe=>?_⟩
   ·have f:aB F j d H1 j d (upd H1 pl<|.tup<|vs.drop n):=aB.lay m;exact p j d S1 _ _ _ (st.trans f) (C1.lay m) (aT.chain aA<|aQ.mono f<|mX n l) h1
   ·have i:=mX n l;rw[e] at i;exact p j d S1 H1 _ _ st C1 (aT.chain u i) h1
  ·cases h1
abbrev BP:=dJ->aM->(List (AV×AV)->aM->Bool)->Bool
def wJ:BP:=λ_ S k=>k [] S
def hU(a b:BE)(r:BP):BP:=λσ S k=>a σ S λx S1=>b σ S1 λz f=>r σ f λps d=>k ((x,z)::ps) d
end
end RB
namespace L2
open PySem PySem.Spec PyProof.Rows
structure O1(h:QO)(d:P3)(ob:Obj)(es:Array SS)(ep:Nat):Prop where
 at_:h.get? d=some ob
 ex:ob.ExactDict
 dat:ob.data=.dict es ep
section
variable{d it:P3}{ob:Obj}{es:Array SS}{ep i:Nat}{ok ov:P0}
theorem EA(hd:(d==R6)=false):MeetsIn prog w (Sd.«dict.items» ⟨[.ref d],[]⟩) (λ_ R s=>s.TypeIs (.ref d) "dict" /\
  R (.ok<|.ret<|.ref s.heap.objs.size) {s with heap:=s.heap.push {cls:=.type "dict_items",data:=.fields #[.ref d]}}) :=
 .of_wp λf c st ⟨ty,h⟩=>by
  unfold Sd.«dict.items» ae7;refine PZ (PZ<|WT ty ?_);show Qa _ _ (pure d) _ _ st;refine P2 (show Qa _ _ (WU d >>= _) _ _ st from ?_);unfold WU;rw[if_neg (by rw[hd];decide)];exact PZ (P2<|PZ<|QT<|P2 ⟨_,rfl,h⟩)
theorem EB{v:P3}{Q:P0->P5->Prop}(f:s.heap.IsItemsView v d)(c:O1 s.heap d ob es ep)
  (hQ:Q (.ref s.heap.objs.size) {s with heap:=s.heap.push {cls:=.type "dict_itemiterator",data:=.fields #[.none,.bool false,.ref d,.int 0 0,.int es.size 0,.int ep 0,.none,.none]}}) :
  Qa (Qd prog w) A (W0<|.ref v) Q E s:=by
 obtain⟨l,j,m,h⟩:=id f;refine UI f.typeIs WE (Ro WE f.typeIs F.entry_dict_items_iter ?_<|F.args_dict_items_iter_1 _);unfold Sd.«dict_items.__iter__» aa4 YX;refine PZ (P2<|PZ<|PZ<|Ru j h (x:=.ref d) rfl<|P2<|PZ<|PZ<|UJ c.at_ c.dat<|PZ<|WM c.at_ c.dat ?_);have own:Tx "dict_itemiterator" = true:=by decide
 rw[own];refine QT (P2 ⟨_,rfl,"dict_itemiterator",_,⟨_,P8 _ rfl,rfl⟩,Rs.lookup,?_⟩) ?_
 ·simpa[SF,Ue] using hQ
 ·simp only[sizeOk,Ue,if_true,P6,Ri,Rm,WI,Q6];omega
theorem EC{Q:Option P0->P5->Prop}{e:SS}(f:Um s.heap it d i es.size ep ok ov)(O:O1 s.heap d ob es ep)(hx:es[i]?=some e)
  (hQ:∀h',XR h' it d (i+1) es.size ep e.key e.val s.heap.objs.size->h'.get? s.heap.objs.size=some {cls:=.type "tuple",data:=.seq #[e.key,e.val]}->h'.objs.size=s.heap.objs.size+1 ->
   (∀b o,b≠it->s.heap.get? b=some o->h'.get? b=some o)->Q (some<|.ref s.heap.objs.size) {s with heap:=h'}) :
  Qa (Qd prog w) A (Vj<|.ref it) Q E s:=by
 obtain⟨h0,I,L,p,u⟩:=s;have ty:XS ⟨h0,I,L,p,u⟩ (.ref it) "dict_itemiterator":=⟨_,f,rfl⟩
 have own:Tx "dict_itemiterator" = true:=by decide
 have hlt:i<es.size:=(Rp.mp hx).1;unfold Vj;refine PZ (S8<|RY (name:=P4 "__next__") ty Rs<|Ro Rs ty UY ?_<|UM _);refine PZ (P2<|PZ<|PZ ?_)
 first | refine PZ (Sn ty<|P2<|PZ<|UK f rfl ?_) | refine PZ (SO ty<|P2<|PZ<|UK f rfl ?_)
 rw[own];simp only[if_true];show Qa _ _ (if (Qo d==QN)=true then _ else _) _ _ _;rw[if_neg (show ¬((Qo d==QN)=true) from Qr)];refine PZ (P2<|PZ<|UJ O.at_ O.dat ?_);rw[if_neg (by simp)];refine PZ (P2<|PZ<|WM O.at_ O.dat ?_);rw[if_neg (by simp)];refine P2 ?_;simp only[show ¬((i:Int)<0) from by omega,if_false,TM,hx];refine PZ ?_
 first | refine PZ (Sn ty<|P2<|PZ<|To ty ?_) | refine PZ (SO ty<|P2<|PZ<|To ty ?_)
 show Qa _ _ (setField (.ref it) 3 (SF<|(i:Int)+1) >>= _) _ _ ⟨h0,I,L,p,u⟩;refine PZ (RV f (by simp) λh1 e1 b1=>?_);have r:RP it h0 h1:=b1;have C:Um h1 it d (i+1) es.size ep ok ov:=by
  have z:((i+1:Nat):Int)=(i:Int)+1:=by omega
  show h1.get? it=_;rw[z];simpa[SF] using e1
 have m:XS ⟨h1,I,L,p,u⟩ (.ref it) "dict_itemiterator":=⟨_,C,rfl⟩
 refine PZ (QG<|PZ<|To m<|PZ<|To m ?_);show Qa _ _ (UL (.ref it) 6 e.key e.val) _ _ ⟨h1,I,L,p,u⟩;unfold UL XT;refine PZ (VN ?_);have sz1:h1.objs.size=h0.objs.size:=r.1;have U:it<h0.objs.size:=Qc f;have c:Um (h1.push {cls:=.type "tuple",data:=.seq #[e.key,e.val]}) it d (i+1) es.size ep ok ov:=P1 _ C;have h:(h1.push {cls:=.type "tuple",data:=.seq #[e.key,e.val]}).get? h0.objs.size=some {cls:=.type "tuple",data:=.seq #[e.key,e.val]}:=by rw[<-sz1];exact P8 _ rfl
 have j:(h1.push {cls:=.type "tuple",data:=.seq #[e.key,e.val]}).objs.size=h0.objs.size+1:=by rw[Ss,sz1]
 have l:∀b o,b≠it->h0.get? b=some o->(h1.push {cls:=.type "tuple",data:=.seq #[e.key,e.val]}).get? b=some o:=λb o n q=>P1 _ (r.extBut b o n q);show Qa _ _ (_ >>= _) _ _ ⟨h1.push {cls:=.type "tuple",data:=.seq #[e.key,e.val]},I,L,p,u⟩
 revert c h j l
 generalize h1.push {cls:=.type "tuple",data:=.seq #[e.key,e.val]}=h2;intro c h j l;rw[sz1];refine PZ (PZ<|Ru c rfl (x:=.none) rfl<|P2 ?_);simp only[if_true];refine PZ (Ru c rfl (x:=ok) rfl<|PZ<|Ru c rfl (x:=ov) rfl ?_);refine PZ (RV c (by simp) λh3 e3 b3=>?_);have it3:Um h3 it d (i+1) es.size ep e.key ov:=e3;refine PZ (RV it3 (by simp) λh4 e4 b4=>?_);have it4:Um h4 it d (i+1) es.size ep e.key e.val:=e4;refine PZ (RV it4 (by simp) λh5 e5 b5=>?_);have Z:XR h5 it d (i+1) es.size ep e.key e.val h0.objs.size:=e5;refine PZ (RV Z (by simp) λH e6 b6=>?_);have Y:XR H it d (i+1) es.size ep e.key e.val h0.objs.size:=e6;have s3:RP it h2 h3:=b3;have s4:RP it h3 h4:=b4;have s5:RP it h4 h5:=b5;have s6:RP it h5 H:=b6;have all:∀b o,b≠it->h2.get? b=some o->H.get? b=some o:=λb o n q=>s6.extBut b o n (s5.extBut b o n<|s4.extBut b o n<|s3.extBut b o n q);refine PZ (W5<|P2<|P2 ⟨_,rfl,P2<|hQ H Y (all _ _ (Tj U) h) ?_ λb o n q=>all b o n (l b o n q)⟩);show H.objs.size=h0.objs.size+1;rw[s6.1,s5.1,s4.1,s3.1,j]
theorem Hc{Q:Option P0->P5->Prop}(j:A.handled=none)(c:Um s.heap it d i es.size ep ok ov)(f:O1 s.heap d ob es ep)(h:es.size≤i)
  (hQ:∀h',Xa it s.heap h'->Q none {s with heap:=h'}):Qa (Qd prog w) A (Vj<|.ref it) Q E s:=by
 have ty:s.TypeIs (.ref it) "dict_itemiterator":=⟨_,c,rfl⟩
 have own:Tx "dict_itemiterator" = true:=by decide
 unfold Vj;refine PZ (S8<|RY (name:=P4 "__next__") ty Rs<|Ro Rs ty UY ?_<|UM _);refine PZ (P2<|PZ<|PZ ?_)
 first | refine PZ (Sn ty<|P2<|PZ<|UK c rfl ?_) | refine PZ (SO ty<|P2<|PZ<|UK c rfl ?_)
 rw[own];simp only[if_true];show Qa _ _ (if (Qo d==QN)=true then _ else _) _ _ _;rw[if_neg (show ¬((Qo d==QN)=true) from Qr)];refine PZ (P2<|PZ<|UJ f.at_ f.dat ?_);rw[if_neg (by simp)];refine PZ (P2<|PZ<|WM f.at_ f.dat ?_);rw[if_neg (by simp)];refine P2 ?_;simp only[show ¬((i:Int)<0) from by omega,if_false,TM,WD h];refine PZ ?_
 first | refine PZ (Sn ty<|P2 ?_) | refine PZ (SO ty<|P2 ?_)
 show Qa _ _ (setField (.ref it) 2 .none >>= _) _ _ s;refine PZ (TV c rfl (by simp)<|show Qa _ _ (ZR (.type "StopIteration") [] >>= _) _ _ _ from PZ ?_);simp only[ZR,newTuple];refine PZ (QT (PZ (m:=TW _ _)<|Vd (a:=QN) (by first | rfl | (simp only[TW];rfl))<|QT ?_<|by size_fits)<|by size_fits);simp only[ZS];refine PZ (V7 ?_);rw[show A.in1.handled=none from j];refine PZ (P2<|Xb ?_);refine PZ (UZ (b:=true) (T:="StopIteration") ⟨_,P8 _ rfl,rfl⟩ Xd ?_);exact P2 (hQ _<|((XC ..).extBut.push _).push _)
theorem BV:YE ac2 "dict_itemiterator.__iter__" = some Sd.«dict_keyiterator.__iter__»:=Xe (id':="dict_keyiterator.__iter__") (by kernel_rfl) rfl (by decide +kernel) (by kernel_rfl)
theorem yN{Q:P0->P5->Prop}(c:Um s.heap it d i es.size ep ok ov)(h:Q (.ref it) s):Qa (Qd prog w) A (W0<|.ref it) Q E s:=by
 have ty:s.TypeIs (.ref it) "dict_itemiterator":=⟨_,c,rfl⟩
 refine UI ty Ve (Ro Ve ty BV ?_<|F.args_dict_itemiterator_iter_1 _);show Qa _ _ (ret<|Qo it) _ _ s;exact P2 ⟨_,rfl,"dict_itemiterator",_,ty,Rs.lookup,h⟩
end
section
variable{σ:L2.St}{a:P3}{o1 o2:HO}
theorem ay.ghost(I:ay X pins σ H s)(h1:H a=some o1)(h:∀x,o1≠.own x)(d:∀xs,o1≠.tup xs)(f:∀ps,o1≠.tbl ps)(m:∀o u,X.H₀ a≠some (.frz o u))(new:bD X.prog X.w (upd H a o2) s.heap a o2) :
  ay X pins σ (upd H a o2) s:=by
 have ne:∀b,H b=none->b≠a:=λb e z=>by rw[z,h1] at e;cases e
 refine⟨I.ok,I.os,I.bare,⟨I.base.keep,I.base.slot,λb o e n r=>?_,I.base.there,λb xs e=>?_,λb o u e=>?_,λb ps e=>?_⟩,I.loc,I.cell,?_,λx c e=>?_,λp C=>?_,λb o e=>?_,I.len⟩
 ·have q:=I.base.free b o e n r;rw[al (ne b q)];exact q
 ·have q:=I.base.tups b xs e;rw[al λz=>by rw[z,h1] at q;exact d xs (Qu q)];exact q
 ·have q:=I.base.frzs b o u e;rw[al λz=>m o u (by rw[<-z];exact e)];exact q
 ·obtain⟨more,q⟩:=I.base.tbls b ps e;exact⟨more,by rw[al λz=>by rw[z,h1] at q;exact f _ (Qu q)];exact q⟩
 ·rw[al (ne _ I.free)];exact I.free
 ·rw[al (ne _<|I.freeC x c e)];exact I.freeC x c e
 ·obtain⟨l,i,j⟩:=I.pin p C;exact⟨l,by rw[al (ne _ i)];exact i,j⟩
 ·by_cases z:b=a
  ·subst z;rw[aA] at e;cases e;exact new
  ·rw[al z] at e;refine(I.hok b o e).stay (λ_ _ _ q=>q) (λc q=>?_) λc xs q=>?_
   ·rw[al λw=>by rw[w,h1] at q;exact h _ (Qu q)];exact q
   ·rw[al λw=>by rw[w,h1] at q;exact d _ (Qu q)];exact q
def qi:HO->Bool
 | .dK _=>true
 | .dT _=>true
 | _=>false
theorem uY{u:HO}(h:qi u=true):(∀x,u≠.own x)/\(∀xs,u≠.tup xs)/\(∀ps,u≠.tbl ps)/\∀o w,u≠.frz o w:=by
 cases u<;>first | (cases h;done) | exact⟨λ_ z=>(nomatch z),λ_ z=>(nomatch z),λ_ z=>(nomatch z),λ_ _ z=>(nomatch z)⟩
theorem ay.freeze{u:HO}{ob:Obj}(I:ay X pins σ H s)(l:qi u=true)(h1:H a=some u)(ho:s.heap.get? a=some ob):ay X pins σ (upd H a<|.frz ob u) s/\∀o w,X.H₀ a≠some (.frz o w):=by
 obtain⟨h,f,j,i⟩:=uY l;have d:∀o w,X.H₀ a≠some (.frz o w):=λo w e=>by
  have:=I.base.frzs a o w e;rw[h1] at this;exact i o w (Qu this)
 refine⟨I.ghost h1 h f j d ⟨ho,(I.hok a u h1).stay (λ_ _ _ q=>q) (λc q=>?_) λc xs q=>?_⟩,d⟩
 ·rw[al λw=>by rw[w,h1] at q;exact h _ (Qu q)];exact q
 ·rw[al λw=>by rw[w,h1] at q;exact f _ (Qu q)];exact q
theorem ay.thaw{u:HO}{ob:Obj}(I:ay X pins σ H s)(h1:H a=some (.frz ob u))(d:∀o w,X.H₀ a≠some (.frz o w)):ay X pins σ (upd H a u) s:=by
 refine I.ghost h1 (λ_ z=>nomatch z) (λ_ z=>nomatch z) (λ_ z=>nomatch z) d ?_;obtain⟨_,ok⟩:=I.hok a _ h1;refine ok.stay (λ_ _ _ q=>q) (λc q=>?_) λc xs q=>?_
 ·rw[al λw=>by rw[w,h1] at q;cases q];exact q
 ·rw[al λw=>by rw[w,h1] at q;cases q];exact q
end
inductive kl (H:Hp):HO->List (V×V)->Prop where
 | k {kvs:List (bj×V)}:kl H (.dK kvs) (kvs.map λp=>(kV p.1,p.2))
 | t {kvs:List (List bj×V)} {prs:List (V×V)}:Paired (λ(p:List bj×V) (q:V×V)=>(∃b,q.1=.ref b/\H b=some (.tup<|p.1.map kV))/\p.2=q.2) kvs prs->kl H (.dT kvs) prs
structure Jv(ob:Obj)(es:Array SS)(ep:Nat)(prs:List (V×V)):Prop where
 ex:ob.ExactDict
 dat:ob.data=.dict es ep
 len:es.size=prs.length
 get:∀(i:Nat) (k v:V),prs[i]?=some (k,v)->∃e,es[i]?=some e/\aN k e.key/\aN v e.val
theorem ED{k:bj}{u:P0}(h:(aY prog w).is k u=true):aN (kV k) u:=by
 cases k with
 | inl n=>
  have h:Uo n u=true:=h;cases u<;>simp[Uo] at h;exact⟨_,by rw[h]⟩
 | inr x=>
  have h:V2 x u=true:=h;cases u<;>simp[V2,Value.isStr] at h;exact⟨_,by rw[h]⟩
theorem BW{kvs:List (bj×V)}{vs:List (bj×P0)}(r:KV kvs vs){l:List SS}(p:Pairs (aY prog w) l vs):l.length=kvs.length/\∀(i:Nat) (k v:V),(kvs.map λp=>(kV p.1,p.2))[i]?=some (k,v)->∃e,l[i]?=some e/\aN k e.key/\aN v e.val:=by
 induction r generalizing l with
 | nil=>cases p;exact⟨rfl,λi k v e=>by simp at e⟩
 | @cons x q xs qs h t f=>
  cases p with
  | @cons e _ es _ h1 j p=>
   obtain⟨l1,d⟩:=f p;refine⟨by simp[l1],λi k v c=>?_⟩;cases i with
   | zero=>
    simp at c;obtain⟨rfl,rfl⟩:=c;refine⟨e,rfl,?_,by rw[j];exact h.2⟩;have h0:=h1;rw[<-h.1] at h0;exact ED h0
   | succ i=>
    simp only[Qx,Sx] at c ⊢;exact d i k v c
theorem BX{h:QO}{a:P3}{u:HO}(ok:bD P w H h a u)(hu:qi u=true):∃ob es ep c,h.get? a=some ob/\Jv ob es ep c/\kl H u c/\(a==R6)=false:=by
 cases u with
 | dK kvs=>
  obtain⟨z,hd,vs,r,o,es,ep,O,L,I,C,Q,e6⟩:=ok;obtain⟨l1,Z⟩:=BW r Q;refine⟨o,es,ep,_,O,⟨L,I,by rw[QI,<-l1];simp,λi k v q=>?_⟩,.k,hd⟩;obtain⟨e,q1,q2⟩:=Z i k v q;exact⟨e,by simpa using q1,q2⟩
 | dT kvs=>
  obtain⟨z,hd,xs,r,o,es,ep,O,L,I,C,Q⟩:=ok;have key:∀{l:List (List bj×V)} {m:List (List bj×P3×P0)},Paired (λ(p:List bj×V) (q:List bj×P3×P0)=>p.1=q.1/\H q.2.1=some (.tup<|p.1.map kV)/\aN p.2 q.2.2) l m ->
    ∃c:List (V×V),Paired (λ(p:List bj×V) (q:V×V)=>(∃b,q.1=.ref b/\H b=some (.tup<|p.1.map kV))/\p.2=q.2) l c/\c.length=m.length/\∀(i:Nat) (k v:V),c[i]?=some (k,v)->∃x,m[i]?=some x/\k=.ref x.2.1/\aN v x.2.2:=by
   intro l m Y
   induction Y with
   | nil=>exact⟨[],.nil,rfl,λi k v e=>by simp at e⟩
   | @cons p q ps qs h t ih=>
    obtain⟨c,j,f,d⟩:=ih;refine⟨(.ref q.2.1,p.2)::c,.cons ⟨⟨q.2.1,rfl,h.2.1⟩,rfl⟩ j,by simp[f],λi k v e=>?_⟩;cases i with
    | zero=>
     simp at e;obtain⟨rfl,rfl⟩:=e;exact⟨q,rfl,rfl,h.2.2⟩
    | succ i=>
     simp only[Sx] at e ⊢;exact d i k v e
  obtain⟨c,j,f,d⟩:=key r;have hsz:es.size=xs.length:=by rw[<-QL,C,QI]
  refine⟨o,es,ep,c,O,⟨L,I,by rw[hsz,f],λi k v q=>?_⟩,.t j,hd⟩;obtain⟨x,q1,rfl,U⟩:=d i k v q;refine⟨Zx (UQ<|aY P w) x,?_,rfl,U⟩;rw[<-Sh,C,QZ,q1];rfl
 | _=>cases hu
def O2(a:P3)(ob:Obj)(u:HO)(c:List (V×V)):It :=
 ⟨λi H=>H a=some (.frz ob u)/\i<c.length,λi H x d=>∃T k v,H T=none/\c[i]?=some (k,v)/\x=.ref T/\d=upd H T (.tup [k,v]),λi H=>H a=some (.frz ob u)/\c.length≤i⟩
def O3(a:P3)(ob:Obj)(u:HO)(c:List (V×V)):It :=
 ⟨λi H=>H a=some (.frz ob u)/\i<c.length,λi H x d=>d=H/\∃v,c[i]?=some (x,v),λi H=>H a=some (.frz ob u)/\c.length≤i⟩
section
theorem yO{m:List Qv}{r:Nat}{a it:P3}{ob:Obj}{u:HO}{es:Array SS}{ep:Nat}{c:List (V×V)}(j:Jv ob es ep c) :
  vX P w K (.Tuple m r pos) (O2 a ob u c) [it] it (λi h=>∃ok d,Um h it a i es.size ep ok d) where
 mem:=by simp
 obj:=λi h st b hb=>by
  have e:b=it:=by simpa using hb
  subst e;obtain⟨ok,d,e⟩:=st;exact⟨_,e,λv z=>by cases z⟩
 keep:=λi h h' st k=>by
  obtain⟨ok,d,e⟩:=st;exact⟨ok,d,k it (by simp) _ e⟩
 item:=by
  intro X hP C U hc i pins s σ H E I Q st O;subst hP C U;obtain⟨hz,L⟩:=O;obtain⟨ok,d,st⟩:=st;obtain⟨f,_⟩:=I.hok a _ hz;obtain⟨⟨k,v⟩,hp⟩:∃p,c[i]?=some p:=⟨c[i],by simp[L]⟩
  obtain⟨e,he,rk,rv⟩:=j.get i k v hp;obtain⟨l,f1,f2,f3,Z,Y⟩:=Q it (by simp);have hne:a≠it:=λz=>by rw[z,l] at hz;cases hz
  have lt:it<s.heap.objs.size:=Qc st;refine EC st ⟨f,j.ex,j.dat⟩ he λh1 o1 t1 z1 k1=>⟨_,rfl,?_⟩
  refine wpAny_letOwnedTupleGo_items (s:={s with heap:=h1}) o1 λx i2 s2=>?_;have hT:=I.hok.fresh (Qi s.heap.objs.size);have r:∀b o,b≠it->h1.get? b=some o->x.get? b=some o:=λb o n q=>(s2.2 b n).trans q;have tT:x.get? s.heap.objs.size=some {cls:=.type "tuple",data:=.seq #[e.key,e.val]}:=r _ _ (Tj lt) t1;have Il:ay X pins σ (upd H s.heap.objs.size<|.tup [k,v]) {s with heap:=s.heap.push {cls:=.type "tuple",data:=.seq #[e.key,e.val]}} :=
   I.laid (t':=s.toks) (λb o q=>P1 _ q) (Qi _) ⟨by show 2≤Qf;decide,[e.key,e.val],.cons rk<|.cons rv .nil,⟨_,P8 _ rfl,rfl,_,rfl⟩⟩
  have Ic:ay X pins σ (upd H s.heap.objs.size<|.tup [k,v]) {s with heap:=x}:=by
   refine ay.turned (s:={s with heap:=s.heap.push {cls:=.type "tuple",data:=.seq #[e.key,e.val]}}) (t':=s.toks) (h':=x) (it:=it) Il (λb o n q=>?_) (by rw[al (Qp lt)];exact l) f1 f3 Z Y;rcases Heap.get?_push_cases q with ⟨z1,z2⟩ | q
   ·subst z1 z2;exact tT
   ·exact r b o n (k1 b o n q)
  exact⟨.ref s.heap.objs.size,_,Ic,rfl,⟨_,k,v,hT,hp,rfl,rfl⟩,⟨_,_,i2⟩,λb hb=>by
   have:b=it:=by simpa using hb
   subst this;rw[al (Qp lt)];exact l⟩
 done:=by
  intro X hP C U hc i pins s σ H E I Q st O;subst hP C U;obtain⟨hz,L⟩:=O;obtain⟨ok,d,st⟩:=st;obtain⟨f,_⟩:=I.hok a _ hz;obtain⟨l,f1,f2,f3,Z,Y⟩:=Q it (by simp);exact Hc (I.ok.hd hc) st ⟨f,j.ex,j.dat⟩ (by rw[j.len];exact L) λh' eb=>⟨rfl,I.turned (t':=s.toks) (λb o hb e=>eb b o hb e) l f1 f3 Z Y⟩
 self:=λ_ i _ _ _ st h=>by
  obtain⟨ok,d,st⟩:=st;exact yN st h
def yP(H₀:Hp)(d:TE):TI:=λσ H R=>d σ H λx H1=>∃a u,x=.ref a/\H1 a=some u/\qi u=true/\∀ob c,kl H1 u c->(∀o w,H₀ a≠some (.frz o w))->R (O2 a ob u c) (upd H1 a<|.frz ob u)
theorem wK{C:List Qv}{kk:Nat}{p i f:Pos}{o:Qv}{O:TE}(ho:PE X o O)(m:QR o "items" X.env (Q0 o X.env)=Q0 o X.env:=by nofun)(l:(i.endLine==f.line)=true:=by nofun) :
  PI X (.Tuple C kk p) (.Call (.Attribute o "items" i) [] [] f) (yP X.H₀ O):=by
 intro pins s σ H R I h;refine Wb m l (bv (ho pins s σ H _ I h) λv c Y=>?_);obtain⟨x,H1,I1,Z,a,u,ex,U,Q,q⟩:=Y;subst ex;cases Z;obtain⟨ob,es,ep,L,j,r,pr,z⟩:=BX (I1.hok a u U) Q;have ty:c.TypeIs (.ref a) "dict":=⟨ob,j,r.ex.1⟩
 refine⟨"dict","dict.items",Ry,Wh,PySem.F.type_dict_items,ty,λb e=>by cases e;exact⟨ob,j,r.ex.2.1⟩,Sc rfl<|Xv ?_⟩;refine TX Wh ty PySem.F.entry_dict_items (PySem.F.args_dict_items_1 _) (EA z) ⟨ty,?_⟩;have I2:ay X pins σ H1 {c with heap:=c.heap.push {cls:=.type "dict_items",data:=.fields #[.ref a]}}:=I1.kept (t':=c.toks) λb o e=>P1 _ e;have d:(c.heap.push {cls:=.type "dict_items",data:=.fields #[.ref a]}).get? a=some ob:=P1 _ j;refine EB (s:={c with heap:=c.heap.push {cls:=.type "dict_items",data:=.fields #[.ref a]}}) ⟨_,P8 _ rfl,rfl,rfl⟩ ⟨d,r.ex,r.dat⟩ ?_;obtain⟨If,nf⟩:=I2.freeze Q U d;have I3:=If.kept (h':=(c.heap.push {cls:=.type "dict_items",data:=.fields #[.ref a]}).push {cls:=.type "dict_itemiterator",data:=.fields #[.none,.bool false,.ref a,.int 0 0,.int es.size 0,.int ep 0,.none,.none]}) (t':=c.toks) λb o e=>P1 _ e;refine⟨_,[(c.heap.push {cls:=.type "dict_items",data:=.fields #[.ref a]}).objs.size],_,_,_,rfl,I3,yO r,⟨.none,.none,P8 _ rfl⟩,λb hb=>?_,q ob L pr nf⟩;have e:b=(c.heap.push {cls:=.type "dict_items",data:=.fields #[.ref a]}).objs.size:=by simpa using hb
 subst e;exact If.fpOk (Qi _) (If.hok.fresh<|Qi _)
theorem BY{tg:Qv}{a it:P3}{ob:Obj}{kvs:List (bj×V)}{vs:List (bj×P0)}{ep:Nat}(O:KV kvs vs)(j:∃es,ob.ExactDict/\ob.data=.dict es ep/\KeysOf (aY P w) es/\Pairs (aY P w) es.toList vs/\(vs.map (·.1)).Nodup) :
  vX P w K tg (O3 a ob (.dK kvs)<|kvs.map λp=>(kV p.1,p.2)) [it] it (λi h=>h.IsKeyIter it a i vs.length ep) where
 mem:=by simp
 obj:=λi h st b hb=>by
  have e:b=it:=by simpa using hb
  subst e;obtain⟨o,e,c,d⟩:=st;exact⟨o,e,λv z=>by rw[d] at z;cases z⟩
 keep:=λi h h' st k=>st.at λo e=>k it (by simp) o e
 item:=by
  intro X hP L U hc i pins s σ H E I C st Q;subst hP L U;obtain⟨hz,x⟩:=Q;obtain⟨f,_⟩:=I.hok a _ hz;obtain⟨es,j⟩:=j;rw[QI] at x;have hl:=QP O;have hv:i<vs.length:=by omega
  have hx:vs[i]?=some (vs[i].1,vs[i].2):=QA hv;obtain⟨f0,f1,f2,f3,Z,Y⟩:=C it (by simp);refine wpAny_pyNext_dict_item st ⟨ob,es,f,j⟩ hx λkey h' u q sb=>?_;have I1:ay X pins σ H {s with heap:=h'}:=I.turned (t':=s.toks) (λb o hb e=>(sb.2 b hb).trans e) f0 f1 f3 Z Y;obtain⟨o,e,c,d⟩:=id q;have kp:∀{l:List (bj×V)} {m:List (bj×P0)} (r:KV l m) (i:Nat) (h1:i<l.length) (h2:i<m.length),l[i].1=m[i].1:=by
   intro l m r;unfold KV at r
   induction r with
   | nil=>intro i h1;simp at h1
   | cons h t ih=>
    intro i h1 h2;cases i with
    | zero=>exact h.1
    | succ i=>exact ih i (by simpa using h1) (by simpa using h2)
  refine⟨key,rfl,vY (s:={s with heap:=h'}) e c d (by decide) ⟨kV kvs[i].1,H,I1,?_,⟨rfl,kvs[i].2,by simp[x]⟩,q,λb hb=>(C b hb).1⟩⟩;rw[kp O i x (by omega)];exact ED u
 done:=by
  intro X hP L U hc i pins s σ H E I C st Q;subst hP L U;obtain⟨hz,x⟩:=Q;obtain⟨f,_⟩:=I.hok a _ hz;obtain⟨es,j⟩:=j;rw[QI] at x;have hl:=QP O;obtain⟨f0,f1,f2,f3,Z,Y⟩:=C it (by simp);exact wpAny_pyNext_dict_end (I.ok.hd hc) st ⟨ob,es,f,j⟩ (by simp;omega) λh' eb=>⟨rfl,I.turned (t':=s.toks) (λb o hb e=>eb b o hb e) f0 f1 f3 Z Y⟩
 self:=λ_ _ _ _ _ st h=>wpAny_pyIter_keyiter st h
def tm(H₀:Hp)(c:TE):TI:=λσ H R=>c σ H λx H1=>∃a kvs,x=.ref a/\H1 a=some (.dK kvs)/\∀ob,(∀o w,H₀ a≠some (.frz o w))->R (O3 a ob (.dK kvs)<|kvs.map λp=>(kV p.1,p.2)) (upd H1 a<|.frz ob<|.dK kvs)
theorem uZ{m o:Qv}{d:TE}(ho:PE X o d):PI X m o (tm X.H₀ d):=by
 intro pins s σ H R I h;refine bv (ho pins s σ H _ I h) λv c l=>?_;obtain⟨x,H1,I1,p,a,kvs,ex,i,q⟩:=l;subst ex;cases p;obtain⟨z,hd,vs,r,ob,es,ep,j,f⟩:=I1.hok a _ i;refine wpAny_pyIter_dict hd ⟨ob,es,j,f⟩ ?_;obtain⟨If,C⟩:=I1.freeze (u:=.dK kvs) rfl i j;have I3:=If.kept (h':=c.heap.push {cls:=.type "dict_keyiterator",data:=.fields #[.ref a,.int 0 0,.int vs.length 0,.int ep 0]}) (t':=c.toks) λb o e=>P1 _ e;refine⟨_,[c.heap.objs.size],_,_,_,rfl,I3,BY r ⟨es,f⟩,⟨_,P8 _ rfl,rfl,rfl⟩,λb hb=>?_,q ob C⟩;have e:b=c.heap.objs.size:=by simpa using hb
 subst e;exact If.fpOk (Qi _) (If.hok.fresh<|Qi _)
end
def wL(H₀:Hp)(Q:Hp->Prop)(H:Hp):Prop:=∃a ob u,H a=some (.frz ob u)/\(∀o w,H₀ a≠some (.frz o w))/\Q (upd H a u)
theorem PS.thaw{t:TS}(h:PS X st t):PS X st (λD σ H=>t {D with nx:=λc d=>wL X.H₀ (D.nx c) d} σ H):=by
 intro pins s σ H D I q;refine bv (h pins s σ H _ I q) λf l q1=>?_;cases f with
 | next=>
  obtain⟨c,d,j,a,ob,u,h1,i,q2⟩:=q1;exact⟨c,_,j.thaw h1 i,q2⟩
 | ret v=>exact q1
 | brk=>exact q1
 | cont=>exact q1
theorem PE.thaw{e:Qv}{t:TE}(h:PE X e t):PE X e (λσ H Q=>t σ H λv c=>wL X.H₀ (Q v) c):=by
 intro pins s σ H Q I q;refine bv (h pins s σ H _ I q) λu i ⟨v,c,f,r,a,ob,w,h1,d,q2⟩=>⟨v,_,f.thaw h1 d,r,q2⟩
end L2
namespace RB
open PySem L2
def K6(S:aM)(x:AV):Option (Nat×aM):=match x with
 | .ref n=>match S.t.get n with
  | some (.dk kvs)=>some (n,S.set n (.fz<|.dk kvs))
  | some (.dt kvs)=>some (n,S.set n (.fz<|.dt kvs))
  | _=>none
 | _=>none
def K7(S:aM)(x:AV):Option (Nat×aM):=match x with
 | .ref n=>match S.t.get n with
  | some (.dk kvs)=>some (n,S.set n (.fz<|.dk kvs))
  | _=>none
 | _=>none
def Aj(S:aM)(n:Nat):Option aM:=match S.t.get n with
 | some (.fz o)=>some (S.set n o)
 | _=>none
def EE(n:Nat)(k:dJ->aM->Bool):dJ->aM->Bool:=λσ S=>match Aj S n with
 | some S1=>k σ S1
 | none=>false
def wM(n:Nat)(k:AV->aM->Bool):AV->aM->Bool:=λv S=>match Aj S n with
 | some S1=>k v S1
 | none=>false
def yQ(keys:Bool)(S:aM)(x:AV):Option (Nat×aM):=match keys with
 | true=>K7 S x
 | false=>K6 S x
def EF(keys:Bool)(n:Nat):vT:=match keys with
 | true=>.dks n
 | false=>.dit n
def Na(fuel:Nat)(keys:Bool)(a:BE)(t:BG)(s:BS):BS:=λd σ S=>a σ S λx S1=>match yQ keys S1 x with
 | some (n,c)=>yJ t s ⟨EE n d.nx,d.rt,d.bk,d.ct⟩ (EF keys n) fuel 0 σ c
 | none=>false
def BZ(fuel:Nat)(keys:Bool)(ix:List (Option Nat))(a:BE)(t:BG)(c:BT)(d:BE):BE:=λσ S k=>a σ S λx S1=>match yQ keys S1 x with
 | some (n,f)=>KY (vU ix σ) t c d (wM n k) (EF keys n) fuel 0 [] f
 | none=>false
section
variable{S:aM}
theorem qj{c:AV}{k:bj}(h:gF c k):aT F y ρ H c (kV k):=by
 cases c with
 | int s lo d=>cases s with
  | true=>exact h.elim
  | false=>obtain⟨e,rfl⟩:=h;exact⟨lo,rfl,Rr _,by omega⟩
 | str i=>obtain⟨x,e,rfl⟩:=h;exact⟨x,e,rfl⟩
 | _=>exact h.elim
theorem qo:∀{c:AV} {ks:List bj},gM c ks->rM F y ρ H c (ks.map kV)
 | .tn,_,h=>by cases h;rfl
 | .tc a b,_,⟨k,r,e,h1,d⟩=>by subst e;exact⟨kV k,r.map kV,rfl,qj h1,qo d⟩
 | .non,_,h=>h.elim
 | .bl _,_,h=>h.elim
 | .int _ _ _,_,h=>h.elim
 | .str _,_,h=>h.elim
 | .ref _,_,h=>h.elim
 | .ext _,_,h=>h.elim
theorem B0{c:AV}{ks:List bj}{b:P3}(h:gM c ks)(hb:H b=some (.tup<|ks.map kV)):aT F y ρ H c (.ref b):=by
 have t:=qo (F:=F) (y:=y) (ρ:=ρ) (H:=H) h;cases c with
 | tn=>cases h;exact⟨b,rfl,hb⟩
 | tc p q=>
  obtain⟨w,d,e,h1,f⟩:=t;exact⟨b,w,d,rfl,by rw[hb,e],h1,f⟩
 | _=>exact h.elim
theorem Ak(C:aI g F y ρ S H){ax:AV}{x:V}(i:aT F y ρ H ax x){n:Nat}{j:aM}(h:K6 S ax=some (n,j)):∃a u,x=.ref a/\ax=.ref n/\ρ[n]?=some a/\H a=some u/\qi u=true /\
  ∀ob,aB F y ρ H y ρ (upd H a<|.frz ob u)/\aI g F y ρ j (upd H a<|.frz ob u):=by
 cases ax with
 | ref m=>
  unfold K6 at h;dsimp only at h;cases q:S.t.get m with
  | none=>rw[q] at h;cases h
  | some o=>
   rw[q] at h;cases o with
   | dk kvs=>
    cases h;obtain⟨a,ks,rfl,c,d,f⟩:=C.dk i q;refine⟨a,.dK ks,rfl,rfl,c,d,rfl,λob=>?_⟩;have st:aB F y ρ H y ρ (upd H a<|.frz ob<|.dK ks):=aB.set C c d;exact⟨st,C.set c d (o:=.fz (.dk kvs)) (ob:=⟨ob,_,rfl,ks,rfl,aV (λ_ _ z=>⟨z.1,aT.mono st z.2⟩) f⟩)⟩
   | dt kvs=>
    cases h;obtain⟨a,ks,rfl,c,d,f⟩:=C.dt i q;refine⟨a,.dT ks,rfl,rfl,c,d,rfl,λob=>?_⟩;have st:aB F y ρ H y ρ (upd H a<|.frz ob<|.dT ks):=aB.set C c d;exact⟨st,C.set c d (o:=.fz (.dt kvs)) (ob:=⟨ob,_,rfl,ks,rfl,aV (λ_ _ z=>⟨z.1,aT.mono st z.2⟩) f⟩)⟩
   | _=>cases h
 | _=>cases h
theorem Al(C:aI g F y ρ S H){ax:AV}{x:V}(i:aT F y ρ H ax x){n:Nat}{f:aM}(h:K7 S ax=some (n,f)):∃a ks,x=.ref a/\ax=.ref n/\ρ[n]?=some a/\H a=some (.dK ks) /\
  ∀ob,aB F y ρ H y ρ (upd H a<|.frz ob<|.dK ks)/\aI g F y ρ f (upd H a<|.frz ob<|.dK ks):=by
 cases ax with
 | ref m=>
  unfold K7 at h;dsimp only at h;cases q:S.t.get m with
  | none=>rw[q] at h;cases h
  | some o=>
   rw[q] at h;cases o with
   | dk kvs=>
    cases h;obtain⟨a,ks,rfl,c,d,j⟩:=C.dk i q;refine⟨a,ks,rfl,rfl,c,d,λob=>?_⟩;have st:aB F y ρ H y ρ (upd H a<|.frz ob<|.dK ks):=aB.set C c d;exact⟨st,C.set c d (o:=.fz (.dk kvs)) (ob:=⟨ob,_,rfl,ks,rfl,aV (λ_ _ z=>⟨z.1,aT.mono st z.2⟩) j⟩)⟩
   | _=>cases h
 | _=>cases h
theorem Hd{u:HO}{c:List (V×V)}{kvs:List (AV×AV)}{o:AO}(l:kl H u c)(ho:d8 F y ρ H g o u)(e:o=.dk kvs∨o=.dt kvs):Paired (λp q=>aT F y ρ H p.1 q.1/\aT F y ρ H p.2 q.2) kvs c:=by
 cases l with
 | @k ks=>
  rcases e with rfl | rfl
  ·obtain⟨f,e,d⟩:=ho;cases e
   induction d with
   | nil=>exact .nil
   | cons h t i=>exact .cons ⟨qj h.1,h.2⟩ i
  ·obtain⟨_,e,_⟩:=ho;cases e
 | @t ks c j=>
  rcases e with rfl | rfl
  ·obtain⟨_,e,_⟩:=ho;cases e
  ·obtain⟨f,e,d⟩:=ho;cases e
   induction d generalizing c with
   | nil=>cases j;exact .nil
   | cons h t i=>
    cases j with
    | cons h' t'=>
     obtain⟨⟨b,r,m⟩,e3⟩:=h';refine .cons ⟨?_,?_⟩ (i t')
     ·rw[r];exact B0 h.1 m
     ·rw[<-e3];exact h.2
theorem qq{H d:Hp}(ht:∀b vs,H b=some (.tup vs)->d b=some (.tup vs)){u:HO}{c:List (V×V)}(h:kl H u c):kl d u c:=by
 cases h with
 | k=>exact .k
 | t f=>exact .t (Paired.mapP f λ_ _ ⟨⟨b,l,j⟩,i⟩=>⟨⟨b,l,ht _ _ j⟩,i⟩)
theorem k8{c d:Type}{R:c->d->Prop}:∀{xs:List c} {ys:List d} {i:Nat} {a:c},Paired R xs ys->xs[i]?=some a->∃b,ys[i]?=some b/\R a b
 | _,_,_,_,.nil,e=>by simp at e
 | _,_,0,_,.cons r _,e=>by simp at e;subst e;exact⟨_,rfl,r⟩
 | _,_,i+1,a,.cons _ t,e=>by
  obtain⟨v,h1,f⟩:=k8 (i:=i) (a:=a) t (by simpa using e);exact⟨v,by simpa using h1,f⟩
theorem Hf{S1:aM}{n:Nat}{kvs:List (AV×AV)}(h:yI S1 n=some kvs):∃o,S1.t.get n=some (.fz o)/\(o=.dk kvs∨o=.dt kvs):=by
 unfold yI at h;split at h
 ·cases h;exact⟨_,‹_›,.inl rfl⟩
 ·cases h;exact⟨_,‹_›,.inr rfl⟩
 ·cases h
theorem Am{a:P3}{ob:Obj}{u:HO}{d:List (V×V)}{n:Nat}(i:ρ[n]?=some a)(x:H a=some (.frz ob u))(r:kl H u d){f:Option Int}{c:List P3}{S1:aM}{H1:Hp}(st:aB F y ρ H f c H1)(C1:aI g F f c S1 H1){kvs:List (AV×AV)}(h:yI S1 n=some kvs) :
  H1 a=some (.frz ob u)/\Paired (λp q=>aT F f c H1 p.1 q.1/\aT F f c H1 p.2 q.2) kvs d:=by
 have h1:=st.frz a ob u x;obtain⟨o,e,I⟩:=Hf h;obtain⟨Q,ho,l,j,C⟩:=C1.at_ n a (st.mem i);rw[e] at l;cases l;rw[h1] at j;cases j;obtain⟨m,O,L,z⟩:=C;cases L;exact⟨h1,Hd (qq st.tup r) z I⟩
theorem tz{a:P3}{ob:Obj}{u:HO}{f:List (V×V)}{n:Nat}(h:ρ[n]?=some a)(L:H a=some (.frz ob u))(I:kl H u f):nN g F y ρ H (.dit n) (O2 a ob u f):=by
 refine⟨λj d S1 H1 i st C1=>?_⟩;unfold vT.nxt;dsimp only;cases q:yI S1 n with
 | none=>exact⟨λ_ e=>(nomatch e),λe=>(nomatch e)⟩
 | some kvs=>
  obtain⟨h1,l⟩:=Am h L I st C1 q;have hl:=QP l;dsimp only;cases q2:kvs[i]? with
  | none=>
   refine⟨λ_ e=>(nomatch e),λ_=>⟨h1,?_⟩⟩;have:=QM.mp q2;omega
  | some p=>
   obtain⟨U,av⟩:=p;obtain⟨⟨k,v⟩,O,C,z⟩:=k8 l q2;have hi:=(P9.mp q2).1;refine⟨λQ e=>⟨⟨h1,by omega⟩,λx H' r=>?_⟩,λe=>(nomatch e)⟩;cases e;obtain⟨T,Z,Y,m,o,rfl,rfl⟩:=r;rw[O] at o;cases o;have c:aB F j d H1 j d (upd H1 T<|.tup [k,v]):=aB.lay m;exact⟨c,C1.lay m,aT.chain (xs:=[U,av]) aA<|.cons (aT.mono c C)<|.cons (aT.mono c z) .nil⟩
theorem wN{a:P3}{ob:Obj}{u:HO}{c:List (V×V)}{n:Nat}(d:ρ[n]?=some a)(r:H a=some (.frz ob u))(o:kl H u c):nN g F y ρ H (.dks n) (O3 a ob u c):=by
 refine⟨λI j S1 H1 i st C1=>?_⟩;unfold vT.nxt;dsimp only;cases q:yI S1 n with
 | none=>exact⟨λ_ e=>(nomatch e),λe=>(nomatch e)⟩
 | some kvs=>
  obtain⟨h1,f⟩:=Am d r o st C1 q;have Q:=QP f;dsimp only;cases q2:kvs[i]? with
  | none=>
   refine⟨λ_ e=>(nomatch e),λ_=>⟨h1,?_⟩⟩;have:=QM.mp q2;omega
  | some p=>
   obtain⟨Y,av⟩:=p;obtain⟨⟨k,v⟩,z,m,O⟩:=k8 f q2;have U:=(P9.mp q2).1;refine⟨λC e=>⟨⟨h1,by omega⟩,λx Z l=>?_⟩,λe=>(nomatch e)⟩;cases e;obtain⟨rfl,L,h⟩:=l;rw[z] at h;cases h;exact⟨.refl,C1,m⟩
theorem B7{a:P3}{ob:Obj}{u:HO}{n:Nat}{c:dJ}{σ:L2.St}(d:ρ[n]?=some a)(e:H a=some (.frz ob u))(r:bF g F y ρ H c σ):bF g F y ρ (upd H a u) c σ:=by
 have f:∀b vs,H b=some (.tup vs)->(upd H a u) b=some (.tup vs):=λb vs q=>by rw[al λz=>by rw[z,e] at q;cases q];exact q
 have mo:Mo y ρ H y ρ (upd H a u):=⟨λ_ h=>h,λh=>h,f⟩
 refine⟨aV (λx v i=>?_) r.v,r.e.mono0 ⟨λ_ h=>h,⟨[],by simp⟩,λ_ h=>.inl h,λb o q n _=>?_,f,λb q=>?_⟩⟩
 ·cases x with
  | none=>trivial
  | some x=>cases v with
   | none=>exact i
   | some v=>exact aT.monoM mo (av:=x) i
 ·rw[al λz=>n (by rw[z];exact QB d)];exact q
 ·by_cases z:b=a
  ·subst z;rw[aA] at q;cases q
  ·rw[al z] at q;exact q
theorem wO{a:P3}{ob:Obj}{u:HO}{av:AV}{v:V}(e:H a=some (.frz ob u))(r:aT F y ρ H av v):aT F y ρ (upd H a u) av v :=
 aT.monoM ⟨λ_ h=>h,λh=>h,λb vs q=>by rw[al λz=>by rw[z,e] at q;cases q];exact q⟩ r
theorem u0{a:P3}{ob:Obj}{u:HO}{n:Nat}{H0 H1:Hp}{f:Option Int}{c:List P3}{S1 j:aM}(d:ρ[n]?=some a)(r:H a=some u)(p:qi u=true)(st:aB F y ρ (upd H a<|.frz ob u) f c H1)(i:aB F y ρ H y ρ (upd H a<|.frz ob u))(C1:aI g F f c S1 H1)(h:Aj S1 n=some j) :
  H1 a=some (.frz ob u)/\aB F y ρ H f c (upd H1 a u)/\aI g F f c j (upd H1 a u):=by
 have h1:=st.frz a ob u aA;obtain⟨z,m,x,l⟩:=uY p;unfold Aj at h;split at h
 ·rename_i o q;cases h;exact⟨h1,(i.trans st).thaw (QB d) r m l,C1.thaw (st.mem d) h1 q⟩
 ·cases h
end
section
variable{a b c e o tg:Qv}{ba bb bc:BE}{bt:BT}{br:BA}{s1 s2:BS}{body:List SK}
theorem An(fuel:Nat){z:List Qv}{kk:Nat}{l i f:Pos}{t:BG}(hp:Xm (Qd X.prog X.w) X.A X.env X.xe)(hc:X.calm=true)(ho:PE X o (up g ba))(hg:PG X (.Tuple z kk l) (mz g sl t))(hb:gC X body (dw g s1))
  (O:QR o "items" X.env (Q0 o X.env)=Q0 o X.env:=by nofun) (L:(i.endLine==f.line)=true:=by nofun)
  (hs:∀x,RH (.Call (.Attribute o "items" i) [] [] f) X.env x=pure x:=by with_unfolding_all (intro _;rfl)) :
  PS X (.For (.Tuple z kk l) (.Call (.Attribute o "items" i) [] [] f) body [] pos) (dw g<|Na fuel false ba t s1):=by
 refine PS.imp (λD σ H hx=>MN hx λF y ρ S σa d C r h p pr pb pc=>?_) (PS.thaw<|Dl hp hc (wK ho O L) hg hb hs);refine ar C r h λy1 ρ1 S1 H1 ax x st C1 r1 rx h1=>?_;cases q:yQ false S1 ax with
 | none=>simp only[q] at h1;cases h1
 | some m=>
  obtain⟨n,S2⟩:=m;simp only[q] at h1;obtain⟨a,u,rfl,rfl,I,ha,hu,fr⟩:=Ak C1 rx q;refine⟨a,u,rfl,ha,hu,λob prs Z nf=>?_⟩;obtain⟨j,Cf⟩:=fr ob;refine wD Cf (bF.mono j r1) (tz I aA<|qq j.tup Z) h1 (λy3 ρ3 S3 H3 U σ4 Y C3 r3 Q=>?_) ((pr.mono st).mono j);have Q:EE n d.nx U S3=true:=Q;unfold EE at Q;split at Q
  ·rename_i S4 q4;obtain⟨t1,t2,t3⟩:=u0 (H0:=H1) I ha hu Y j C3 q4;obtain⟨m1,m2,m3,m4⟩:=uY hu;refine⟨a,ob,u,t1,nf,p y3 ρ3 S4 _ U σ4 (st.trans t2) t3 ?_ Q⟩;exact B7 (Y.mem I) t1 r3
  ·cases Q
theorem wP(fuel:Nat)(keys:Bool){t:BG}{Z:BT}{te:BE}{n:Nat}{a:P3}{ob:Obj}{u:HO}{y h:Option Int}{ρ d:List P3}{S2:aM}{H H1:Hp}{k:AV->aM->Bool}{Q:VK}{σ:L2.St}{l:dJ}{J:It}{H₀:Hp}
  (U:∀j∈sl,ix[j]?=some none) (st:aB F y ρ H h d H1) (r1:bF g F h d H1 l σ) (O:d[n]?=some a) (ha:H1 a=some u) (hu:qi u=true) (q:aB F h d H1 h d (upd H1 a<|.frz ob u)) (Cf:aI g F h d S2 (upd H1 a<|.frz ob u)) (nf:∀o w,H₀ a≠some (.frz o w))
  (so:nN g F h d (upd H1 a<|.frz ob u) (EF keys n) J) (h1:KY (vU ix l) t Z te (wM n k) (EF keys n) fuel 0 [] S2=true) (p:gG g F y ρ H k Q):∃W:Nat->Nat->List V->Hp->Prop,(∃m,W 0 m [] (upd H1 a<|.frz ob u))/\∀i m ys H,W i m ys H->ys.length<Qf /\
 ((J.stop i H/\∀p,H p=none->wL H₀ (Q<|.ref p) (upd H p<|.lst ys))∨(J.go i H/\∀x C,J.yld i H x C->mz g sl t x (jW ix σ) C λf H2=>L2.yg (jW ix σ) f/\fP g Z f H2 λb Y=>
  if b=true then up g te f Y λy H4=>∃r,r < m/\W (i+1) r (ys++[y]) H4 else ∃r,r < m/\W (i+1) r ys Y)):=by
 refine Ah (Q:=λv C=>wL H₀ (Q v) C) U Cf (bF.mono q r1) so h1 λy3 I S3 Y av v L C3 rv z=>?_;unfold wM at z;split at z
 ·rename_i S4 q4;obtain⟨t1,t2,t3⟩:=u0 (H0:=H1) O ha hu L q C3 q4;exact⟨a,ob,u,t1,nf,p y3 I S4 _ av v (st.trans t2) t3 (wO t1 rv) z⟩
 ·cases z
theorem Hg(fuel:Nat){t:BG}{z:BT}{I:BE}{H₀:Hp}(l:∀j∈sl,ix[j]?=some none):∀σ H Q,up g (BZ fuel false ix ba t z I) σ H Q->F6 ix (yP H₀<|up g ba) (mz g sl t) (fP g z) (up g I) σ H (λv H'=>wL H₀ (Q v) H'):=λσ H Q hx=>eO hx λF y ρ S U k C r h p=>
 ar C r h λy1 Y S1 H1 ax x st C1 r1 Z h1=>by
  cases q:yQ false S1 ax with
  | none=>simp only[q] at h1;cases h1
  | some m=>
   obtain⟨n,S2⟩:=m;simp only[q] at h1;obtain⟨a,u,rfl,rfl,f,O,L,fr⟩:=Ak C1 Z q;refine⟨a,u,rfl,O,L,λob prs i nf=>?_⟩;obtain⟨d,Cf⟩:=fr ob;exact wP fuel false l st r1 f O L d Cf nf (tz f aA<|qq d.tup i) h1 p
theorem Ao(fuel:Nat){t:BG}{l:BT}{u:BE}{H₀:Hp}(i:∀j∈sl,ix[j]?=some none):∀σ H Q,up g (BZ fuel true ix ba t l u) σ H Q->F6 ix (tm H₀<|up g ba) (mz g sl t) (fP g l) (up g u) σ H (λv H'=>wL H₀ (Q v) H'):=λσ H Q Z=>eO Z λF y ρ S I k C r h p=>
 ar C r h λy1 L S1 H1 ax x st C1 U O h1=>by
  cases q:yQ true S1 ax with
  | none=>simp only[q] at h1;cases h1
  | some m=>
   obtain⟨n,S2⟩:=m;simp only[q] at h1;obtain⟨a,ks,rfl,rfl,d,z,fr⟩:=Al C1 O q;refine⟨a,ks,rfl,z,λob Y=>?_⟩;obtain⟨f,Cf⟩:=fr ob;exact wP fuel true i st U d z rfl f Cf Y (wN d aA .k) h1 p
theorem K8(fuel:Nat){t:BG}{f:BT}{i:BE}(d:∀j∈sl,ix[j]?=some none)(h:PE X e (F6 ix (tm X.H₀<|up g ba) (mz g sl t) (fP g f)<|up g i)):PE X e (up g<|BZ fuel true ix ba t f i):=PE.imp (Ao fuel d) (PE.thaw h)
theorem B8(fuel:Nat)(i:Nat){t:BG}{m:BT}{q:BE}(l:∀j∈sl,ix[j]?=some none)(h:PS X st (jj (F6 ix (yP X.H₀<|up g ba) (mz g sl t) (fP g m)<|up g q)<|fY i)):PS X st (dw g<|gH (BZ fuel false ix ba t m q)<|a8 i) :=
 PS.imp (λD σ H O=>yr O λF y ρ S u d C r h p _=>Hg fuel l σ H _ (ar C r h λz f S1 H1 ax x st C1 L I h1=>p z f S1 H1 _ _ st C1 (c9 L I) h1)) (PS.thaw h)
end
end RB
namespace L2
open PySem PySem.Spec PyProof.Rows
def K9(ix:List (Option Nat))(j:TI)(g:TG)(l:TT)(tk o:TE):TE:=λσ H Q=>j σ H λJ H1=>∃W:Nat->Nat->List (bj×V)->Hp->Prop,(∃m,W 0 m [] H1)/\∀i m ys H,W i m ys H->ys.length<Qf /\
 ((J.stop i H/\∀p,H p=none->Q (.ref p) (upd H p<|.dK ys))∨(J.go i H/\∀x h,J.yld i H x h->g x (jW ix σ) h λc u=>yg (jW ix σ) c/\l c u λb f=>
  if b=true then tk c f λkv r=>o c r λy q=>∃k,kv=kV k/\∃d,d < m/\W (i+1) d (df ys k y) q else ∃d,d < m/\W (i+1) d ys f))
section
variable{sc:Q8}{Nc:List Str}{kx vx tg iter:Qv}{ifs:List Qv}{wi:TI}{g:TG}{tt:TT}{tk te:TE}
def gD(P:QK)(w:Q4)(kx vx:Qv)(tk te:TE)(sc:Q8)(tg iter:Qv)(ifs:List Qv)(pos:Pos):Gt P w (bj×V) sc tg iter ifs where
 ty:="dict"
 dt:=.dict #[]
 dk:=by size_fits
 fr:=rfl
 mo:=.dK
 CE:=.DictComp kx vx [⟨tg,iter,ifs,0⟩] sc pos
 fin:=λD env=>do
  let kv <-Q0 kx env;let c <-SJ [kv] (Q0 vx env)
  SI {kx.pos with endLine:=vx.pos.endLine,endCol:=vx.pos.endCol}
  SJ [kv,c] (dictSet D kv c)
 tf:=λys σ H Q=>tk σ H λkv H1=>te σ H1 λy j=>∃k,kv=kV k/\Q (df ys k y) j
 r0:=λ{_ h D} e n=>⟨Ra _,beq_eq_false_iff_ne.mpr n,[],.nil,_,#[],0,e,⟨rfl,rfl,rfl⟩,rfl,(λ_ z=>by simp at z),.nil,.nil⟩
 rO:=λx=>by
  obtain⟨z,n,its,v,d⟩:=x;obtain⟨o,es,ep,e,_,hd,_⟩:=id d;exact⟨o,e,(λv z=>by rw[hd] at z;cases z),λi=>⟨z,n,its,v,d.at λo f=>by rw[e] at f;cases f;exact i⟩⟩
 ht:=λ_ _ _=>rfl
 un:=λ_ _ _ _=>rfl
 hs:=codeAny_compStart_dict
 ev:=λ_=>⟨_,rfl⟩
 eu:=λ_ _=>⟨_,rfl⟩
 cl:=rfl
theorem Nb(x:PE X kx tk)(he:PE X vx te):PF X (gD X.prog X.w kx vx tk te sc tg iter ifs pos):=λpins D ys s σ H Q I z hz h=>PZ (bv (x pins s σ H _ I h) λO j i=>de i λkv Hk L o p=>PZ (QG (bv (he pins j σ Hk _ L p) λy m ⟨v,H1,I1,r,k,C,q⟩=>by
 subst C;obtain⟨_,n,its,c,d⟩:=z I1;have l:=c.length;exact PZ (R1<|QG<|wpAny_dictSet_pairs (hsz:=by rw[<-l];exact R9 hz) (jo o) d λh' u f=>⟨_,_,m,_,_,rfl,I1,f,⟨by have:=(c.put k r).length;have:=stored_length_le its k y;omega,n,_,c.put k r,u⟩,q⟩))))
theorem Jw(i:X.calm=true)(S:aR X.env.scope X.N sc Nc ix)(f:PI X tg iter wi)(h:∀C s H ex pn,PG (ee X sc Nc C s H ex pn) tg g)(c:∀C s H ex pn,oq (ee X sc Nc C s H ex pn) ifs tt)(d:∀C s H ex pn,PE (ee X sc Nc C s H ex pn) kx tk)(he:∀C s H ex pn,PE (ee X sc Nc C s H ex pn) vx te)
  (hs:∀x,RH iter X.env x=pure x:=by with_unfolding_all (intro _;rfl)):PE X (.DictComp kx vx [⟨tg,iter,ifs,0⟩] sc pos) (K9 ix wi g tt tk te):=Jb (G:=gD X.prog X.w kx vx tk te sc tg iter ifs pos) i S f h c (λC s H ex pn=>Nb (d C s H ex pn) (he C s H ex pn)) hs
theorem wQ{i:Nat}{x:Str}{pos' c:Pos}(p:X.calm=true)(q:X.N.Nodup)(h:X.N[i]?=some x)(j:X.env.scope.names.lookup x=some .local)(S:aR X.env.scope X.N sc Nc ix)(m:PI X tg iter wi)(o:∀C s H ex pn,PG (ee X sc Nc C s H ex pn) tg g)
  (f:∀C s H ex pn,oq (ee X sc Nc C s H ex pn) ifs tt) (l:∀C s H ex pn,PE (ee X sc Nc C s H ex pn) kx tk) (he:∀C s H ex pn,PE (ee X sc Nc C s H ex pn) vx te)
  (d:RX (.DictComp kx vx [⟨tg,iter,ifs,0⟩] sc pos) (some<|.Name x pos') c.line X.env=pure true:=by nofun)
  (hs:∀x,RH iter X.env x=pure x:=by with_unfolding_all (intro _;rfl)):PS X (.Assign [.Name x pos'] (.DictComp kx vx [⟨tg,iter,ifs,0⟩] sc pos) c) (jj (K9 ix wi g tt tk te)<|fY i):=wd (G:=gD X.prog X.w kx vx tk te sc tg iter ifs pos) p q h j S m o f (λC s H ex pn=>Nb (l C s H ex pn) (he C s H ex pn)) d hs
end
end L2
namespace RB
open PySem L2
def L4(σ:dJ)(t:BG)(m:BT)(tk o:BE)(k:AV->aM->Bool)(f:vT)(fuel:Nat):Nat->List (AV×AV)->aM->Bool:=Xq (motive:=λ_=>Nat->List (AV×AV)->aM->Bool) (λ_ _ _=>false) (λ_ j i ys S=>match QV ys.length 900 with
 | false=>false
 | true=>match f.nxt i S with
  | some none=>k (.ref S.n) (S.add<|.dk ys)
  | some (some x)=>t x σ S λd r=>m d r λc l=>match c with
   | true=>tk d l λh q=>o d q λz p=>match f6 h with
    | true=>j (i+1) (rN ys h z) p
    | false=>false
   | false=>j (i+1) ys l
  | none=>false) fuel
def O4(fuel:Nat)(ix:List (Option Nat))(it:BI)(t:BG)(d:BT)(tk f:BE):BE:=λσ S k=>it σ S λc S1=>L4 (vU ix σ) t d tk f k c fuel 0 [] S1
def Nd(fuel:Nat)(keys:Bool)(ix:List (Option Nat))(a:BE)(t:BG)(c:BT)(tk d:BE):BE:=λσ S k=>a σ S λx S1=>match yQ keys S1 x with
 | some (n,f)=>L4 (vU ix σ) t c tk d (wM n k) (EF keys n) fuel 0 [] f
 | none=>false
section
variable{a b c e o tg:Qv}{ba bb bc:BE}{bt:BT}{br:BA}{s1 s2:BS}{body:List SK}
abbrev B9(F:Fx)(y:Option Int)(ρ:List P3)(H:Hp):List (AV×AV)->List (bj×V)->Prop:=Paired λp q=>gF p.1 q.1/\aT F y ρ H p.2 q.2
theorem B9.mono{y f:Option Int}{ρ d:List P3}{H H1:Hp}(st:aB F y ρ H f d H1){p:List (AV×AV)}{q:List (bj×V)}(h:B9 F y ρ H p q):B9 F f d H1 p q:=aV (λ_ _ z=>⟨z.1,aT.mono st z.2⟩) h
theorem Ap{Y:Option Int}{u:List P3}{S1:aM}{H1:Hp}{fuel:Nat}{t:BG}{Z:BT}{tk te:BE}{l:vT}{J:It}{k:AV->aM->Bool}{Q:VK}{σ:L2.St}{h:dJ}(hsl:∀j∈sl,ix[j]?=some none)(C1:aI g F Y u S1 H1)(r1:bF g F Y u H1 h σ)(so:nN g F Y u H1 l J)
  (h1:L4 (vU ix h) t Z tk te k l fuel 0 [] S1=true) (p:gG g F Y u H1 k Q):∃W:Nat->Nat->List (bj×V)->Hp->Prop,(∃m,W 0 m [] H1)/\∀i m ys H,W i m ys H->ys.length<Qf /\
 ((J.stop i H/\∀p,H p=none->Q (.ref p) (upd H p<|.dK ys))∨(J.go i H/\∀x H',J.yld i H x H'->mz g sl t x (jW ix σ) H' λf H2=>L2.yg (jW ix σ) f/\fP g Z f H2 λb H3=>
  if b=true then up g tk f H3 λkv H4=>up g te f H4 λy H5=>∃k,kv=kV k/\∃m',m' < m/\W (i+1) m' (df ys k y) H5 else ∃m',m' < m/\W (i+1) m' ys H3)):=by
 refine⟨λi m ys H'=>∃y' O S' d,aB F Y u H1 y' O H'/\aI g F y' O S' H'/\B9 F y' O H' d ys/\L4 (vU ix h) t Z tk te k l m i d S'=true,⟨fuel,Y,u,S1,[],.refl,C1,.nil,h1⟩,?_⟩;rintro i m ys H2 ⟨U,ρ2,I,d,L,C2,r2,r⟩;obtain⟨t1,t2⟩:=so.turn U ρ2 I H2 i L C2;cases m with
 | zero=>cases r
 | succ m=>
  have r:(match QV d.length 900 with
   | false=>false
   | true=>match l.nxt i I with
    | some none=>k (.ref I.n) (I.add<|.dk d)
    | some (some x)=>t x (vU ix h) I λf I=>Z f I λc S3=>match c with
     | true=>tk f S3 λky S4=>te f S4 λz S5=>match f6 ky with
      | true=>L4 (vU ix h) t Z tk te k l m (i+1) (rN d ky z) S5
      | false=>false
     | false=>L4 (vU ix h) t Z tk te k l m (i+1) d S3
    | none=>false)=true:=r
  cases q0:QV d.length 900 with
  | false=>rw[q0] at r;cases r
  | true=>
   rw[q0] at r;have hl:=QP r2;have hl2:=bA q0;refine⟨bX<|by omega,?_⟩;dsimp only at r;cases q:l.nxt i I with
   | none=>rw[q] at r;cases r
   | some ox=>cases ox with
    | none=>
     rw[q] at r;refine .inl ⟨t2 q,λpl hp=>?_⟩;have C:aB F U ρ2 H2 U (ρ2++[pl]) (upd H2 pl<|.dK ys):=aB.add hp;exact p U _ _ _ (.ref I.n) _ (L.trans C) (C2.add (o:=.dk d) hp ⟨ys,rfl,B9.mono C r2⟩) ⟨pl,by rw[C2.n];simp,rfl⟩ r
    | some ax=>
     rw[q] at r;obtain⟨go,yl⟩:=t1 ax q;refine .inr ⟨go,λx H3 yx=>?_⟩;obtain⟨C,C3,rx⟩:=yl x H3 yx;have rl:bF g F U ρ2 H3 (vU ix h) (jW ix σ):=Er (bF.mono (L.trans C) r1) ix;refine⟨F,U,ρ2,I,ax,_,_,C3,rx,rl,r,λy4 ρ4 S4 H4 σ4 σ5 st4 C4 r4 o4 h4=>⟨⟨o4.1.symm,λj v e=>?_⟩,?_⟩⟩
     ·rw[o4.2 j λm=>?_]
      ·exact e
      ·have z:=hsl j m;unfold jW at e;rw[QZ,z] at e;cases e
     ·refine fA C4 r4 h4 λy5 ρ5 S5 H5 c st5 C5 r5 h5=>?_;have stc:=((L.trans C).trans st4).trans st5;have r25:=B9.mono ((C.trans st4).trans st5) r2;cases c with
      | false=>exact rF ⟨m,Rn m,y5,ρ5,S5,d,stc,C5,r25,h5⟩
      | true=>
       refine rG (ar C5 r5 h5 λy6 ρ6 S6 H6 ak kv st6 C6 r6 rk h6=>ar C6 r6 h6 λy7 ρ7 S7 H7 az z st7 C7 r7 rz h7=>?_);cases qk:f6 ak with
       | false=>simp only[qk] at h7;cases h7
       | true=>
        simp only[qk] at h7;obtain⟨kk,hk,rfl⟩:=RB.dv qk rk;refine⟨kk,rfl,m,Rn m,y7,ρ7,S7,rN d ak az,(stc.trans st6).trans st7,C7,?_,h7⟩;exact oW (KR:=gF) (R:=aT F y7 ρ7 _) (λ_ _ _ _ h1 r=>gQ h1 r) hk rz (B9.mono (st6.trans st7) r25)
theorem EG{fuel:Nat}{it:BI}{t:BG}{i:BT}{tk l:BE}(f:∀j∈sl,ix[j]?=some none):∀σ H Q,up g (O4 fuel ix it t i tk l) σ H Q->K9 ix (C8 g it) (mz g sl t) (fP g i) (up g tk) (up g l) σ H Q:=by
 rintro σ H Q ⟨F,y,ρ,S,d,k,C,r,h,p⟩;exact⟨F,y,ρ,S,d,_,C,r,h,λx m S1 H1 q J st C1 u h1=>Ap f C1 (bF.mono st r) u h1 (p.mono st)⟩
theorem Jx(fuel:Nat){it:BI}{t:BG}{f:BT}{tk i:BE}(d:∀j∈sl,ix[j]?=some none)(h:PE X e (K9 ix (C8 g it) (mz g sl t) (fP g f) (up g tk)<|up g i)):PE X e (up g<|O4 fuel ix it t f tk i):=PE.imp (EG d) h
theorem EH(fuel:Nat)(i:Nat){it:BI}{t:BG}{m:BT}{tk q:BE}(l:∀j∈sl,ix[j]?=some none)(h:PS X st (jj (K9 ix (C8 g it) (mz g sl t) (fP g m) (up g tk)<|up g q)<|fY i)):PS X st (dw g<|gH (O4 fuel ix it t m tk q)<|a8 i) :=
 PS.imp (λD σ H O=>yr O λF y ρ S u d C r h p _=>EG (fuel:=fuel) l σ H _ (ar C r h λz f S1 H1 ax x st C1 L I h1=>p z f S1 H1 _ _ st C1 (c9 L I) h1)) h
theorem Hh(fuel:Nat){t:BG}{L:BT}{tk O:BE}{H₀:Hp}(z:∀j∈sl,ix[j]?=some none):∀σ H Q,up g (Nd fuel true ix ba t L tk O) σ H Q->K9 ix (tm H₀<|up g ba) (mz g sl t) (fP g L) (up g tk) (up g O) σ H (λv I=>wL H₀ (Q v) I):=λσ H Q hx=>eO hx λF y ρ S Z k C r h p=>
 ar C r h λy1 ρ1 S1 H1 ax x st C1 r1 rx h1=>by
  cases q:yQ true S1 ax with
  | none=>simp only[q] at h1;cases h1
  | some m=>
   obtain⟨n,S2⟩:=m;simp only[q] at h1;obtain⟨a,ks,rfl,rfl,f,Y,fr⟩:=Al C1 rx q;refine⟨a,ks,rfl,Y,λob nf=>?_⟩;obtain⟨d,Cf⟩:=fr ob;refine Ap (Q:=λv I=>wL H₀ (Q v) I) z Cf (bF.mono d r1) (wN f aA .k) h1 λy3 l S3 H3 av v u C3 rv i=>?_;unfold wM at i;split at i
   ·rename_i S4 q4;obtain⟨U,t2,t3⟩:=u0 (H0:=H1) f Y rfl u d C3 q4;exact⟨a,ob,_,U,nf,p y3 l S4 _ av v (st.trans t2) t3 (wO U rv) i⟩
   ·cases i
theorem Ca(fuel:Nat)(i:Nat){t:BG}{m:BT}{tk q:BE}(l:∀j∈sl,ix[j]?=some none)(h:PS X st (jj (K9 ix (tm X.H₀<|up g ba) (mz g sl t) (fP g m) (up g tk)<|up g q)<|fY i)):PS X st (dw g<|gH (Nd fuel true ix ba t m tk q)<|a8 i) :=
 PS.imp (λD σ H O=>yr O λF y ρ S u d C r h p _=>Hh fuel l σ H _ (ar C r h λz f S1 H1 ax x st C1 L I h1=>p z f S1 H1 _ _ st C1 (c9 L I) h1)) (PS.thaw h)
end
end RB
namespace L2
open PySem PySem.Spec PyProof.Rows PySem.W
def rV{c:Type}(f:Nat->Nat->Option Bool):KasT c->Option c
 | .ret a=>some a
 | .ask i j k=>match f i j with
  | some b=>rV f (k b)
  | none=>none
theorem tE{d:Type}{c:Nat->Nat->(Bool->P5->Prop)->P5->Prop}{s:P5}{f:Nat->Nat->Option Bool}(h:∀i j b,f i j=some b->∀C:Bool->P5->Prop,C b s->c i j C s){G:d->P5->Prop}{a:d}(l:G a s) :
  ∀(t:KasT d),rV f t=some a->t.kasWp c G s
 | .ret b,e=>by cases e;exact l
 | .ask i j k,e=>by
  unfold rV at e;cases q:f i j with
  | none=>rw[q] at e;cases e
  | some b=>
   rw[q] at e;exact h i j b q _ (tE h l (k b) e)
def wR(c:Bool)(kz:List Int)(i j:Nat):Option Bool:=match kz[i]?,kz[j]? with
 | some a,some b=>if c=true/\a=b then none else some (decide<|a<b)
 | _,_=>none
def Cb(H:Hp)(c:Bool):List Int->List V->Prop:=Paired λk x=>match c with
 | true=>∃b ys,x=.ref b/\H b=some (.tup (.int k::ys))
 | false=>x=.int k
def Aq(prog:QK)(w:Q4)(A:RN)(us vs:List P0)(p:Array Nat)(s:P5):Prop :=
 ∀(Q:SortSt->P5->Prop) (E:P0->P5->Prop),(∀c,p.size=vs.length->We c=p.map (kas_item<|us.toArray.zip vs.toArray)->Wf c=none->Q c s) ->
  Qa (Qd prog w) A (keyKind' us.toArray) (λf s'=>Qa (Qd prog w) A ((sortRuns').run (UX f (us.toArray.zip vs.toArray) #[] 7 none)) (λr d=>Q r.2 d) E s') E s
theorem tF{H:Hp}:∀{kz:List Int} {ks:List V} {us:List P0},Cb H false kz ks->aJ ks us->UC us kz
 | _,_,_,.nil,r=>by cases r;exact .nil
 | _,_,_,.cons e t,r=>by
  cases r with
  | cons c rt=>
   cases(show _=V.int _ from e);obtain⟨t',rfl⟩:=c;exact .cons _ _ (tF (H:=H) t rt)
theorem qr:∀{kz:List Int} {us:List P0} {i:Nat} {k:Int},UC us kz->kz[i]?=some k->∃t,us[i]?=some (.int k t)
 | _,_,_,_,.nil,e=>by simp at e
 | _,_,0,_,.cons n t _,e=>by simp at e;subst e;exact⟨t,rfl⟩
 | _,_,i+1,k,.cons _ _ r,e=>by
  obtain⟨t,h⟩:=qr (i:=i) (k:=k) r (by simpa using e);exact⟨t,by simpa using h⟩
theorem tG{P:QK}{w:Q4}{H:Hp}{h:QO}(ok:jc P w H h):∀{kz:List Int} {ks:List V} {us:List P0},Cb H true kz ks->aJ ks us->∃fs,KatTups h us fs/\UC fs kz /\
  ∀(i:Nat) (k:Int),kz[i]?=some k->∃a o xs n t,us[i]?=some (.ref a)/\h.get? a=some o/\o.data=.seq xs n/\xs.toList.head?=some (.int k t)
 | _,_,_,.nil,r=>by cases r;exact⟨[],KatTups.nil,.nil,λi k e=>by simp at e⟩
 | _,_,_,.cons (a:=k0) e t,r=>by
  cases r with
  | cons m rt=>
   obtain⟨b,ys,rfl,hb⟩:=e;cases(show _=Qo b from m);obtain⟨fs,h1,C,x⟩:=tG ok t rt;obtain⟨z,its,l,o,j,I,n,f⟩:=ok b _ hb;cases l with
   | cons r0 L=>
    obtain⟨d,rfl⟩:=r0;refine⟨_::fs,KatTups.cons j I f rfl h1,.cons k0 d C,λi k c=>?_⟩;cases i with
    | zero=>simp at c;subst c;exact⟨b,o,_,n,d,rfl,j,f,rfl⟩
    | succ i=>
     obtain⟨a,p,xs,u,t',q⟩:=x i k (by simpa using c);exact⟨a,p,xs,u,t',by simpa using q⟩
theorem EI{xs ys:List P0}{p q:P0}(h1:xs.head?=some p)(c:ys.head?=some q):∃r,xs.zip ys=(p,q)::r:=by
 cases xs with
 | nil=>cases h1
 | cons x xs=>cases ys with
  | nil=>cases c
  | cons y ys=>cases h1;cases c;exact⟨_,rfl⟩
theorem EJ{l:Bool}{kz:List Int}{ks:List V}{us vs:List P0}{p:Array Nat}(ok:jc prog w H s.heap)(L:Cb H l kz ks)(I:aJ ks us)(hl:us.length=vs.length)(h2:2≤vs.length)(Z:vs.length<64)
  (hr:rV (wR l kz) (ZT vs.length)=some p):Aq prog w A us vs p s:=by
 intro Q E hq;have step:∀o,(∀i j b,wR l kz i j=some b->∀C:Bool->P5->Prop,C b s->kas_ask prog w A o us i j C s)->Qa (Qd prog w) A ((sortRuns').run (UX o (us.toArray.zip vs.toArray) #[] 7 none)) (λr x=>Q r.2 x) E s:=λo hc=>
  kat_run (Q:=Q) (G:=λp' s'=>p'=p/\s'=s) hl h2 Z (λp' u s' z h f e3=>by obtain⟨rfl,rfl⟩:=e3;exact hq u z h f) (tE hc ⟨rfl,rfl⟩ _ hr)
 have m:∀{i:Nat} {v:P0},us[i]?=some v->us.getD i QN=v:=λ{i v} e=>by rw[RC,e];rfl
 cases l with
 | false=>
  have U:=tF L I;have hk:=ksk_kind (keys:=us.toArray) (by simpa using U) (by simpa[hl] using h2);rw[hk];refine P2 (step _ λi j b e C Y=>?_);unfold wR at e;split at e
  ·rename_i a c h f;simp at e;obtain⟨t1,g1⟩:=qr U h;obtain⟨q,g2⟩:=qr U f;unfold kas_ask;rw[m g1,m g2];refine kat_lt_int ?_;rw[e];exact Y
  ·cases e
 | true=>
  obtain⟨fs,t1,q,t3⟩:=tG ok L I;have O:0<fs.length:=by
   have q1:=q.length;have q2:=QP L;have q3:=I.length;omega
  refine kat_kind (T:=.type "int") t1 O (λv hv=>?_) rfl (step _ λi j b e C Y=>?_)
  ·obtain⟨n,t,rfl⟩:=q.all v hv;exact .now
  ·unfold wR at e;split at e
   ·rename_i a c h f;split at e
    ·cases e
    ·rename_i d;simp at e d;obtain⟨a1,o1,xs1,n1,u1,g1,g2,g3,g4⟩:=t3 i a h;obtain⟨a2,o2,xs2,n2,u2,k1,k2,k3,k4⟩:=t3 j c f;unfold kas_ask;rw[m g1,m k1];refine kat_lt g2 g3 k2 k3 ?_;obtain⟨r,hz⟩:=EI g4 k4;rw[hz];refine kat_cons (YM ?_);have:(a==c)=false:=by simpa using d
     rw[this];refine kat_no (oneLt_int ?_);rw[e];exact Y
   ·cases e
def EK(prog:QK)(w:Q4)(A:RN)(us vs out:List P0)(s:P5):Prop :=
 (vs.length<2/\out=vs)∨(2≤vs.length/\∃p:Array Nat,Aq prog w A us vs p s/\out=p.toList.map λi=>vs.getD i QN)
section
variable{a kS:P3}{vs us out:List P0}{e e1:Nat}{P:YU->P5->Prop}
theorem Nf{n:Nat}(ho:s.heap.get? a=some (Qz "list" vs.toArray n))(L:vs.length<64)
  (hs:∀h' o,oS a s.heap h'->EK prog w A vs vs out {s with heap:=h',toks:=o})
  (h:∀h' c,oS a s.heap h'->h'.get? a=some (Qz "list" out.toArray c)->P (.done<|.ret .none) {s with heap:=h'}) :
  Qa (Qd prog w) A (Sd.«list.sort» ⟨[.ref a],[]⟩) P E s:=by
 have few:vs.length≤Qf:=by rw[Q6];omega
 obtain⟨e1,m⟩:∃e1,(s.heap.update a (QU λ_=>(#[]:Array P0))).get? a=some (Qz "list" #[] e1):=⟨_,SU ho λ_=>#[]⟩
 rw[list_sort_plain];refine PZ (Vv ho rfl<|PZ<|R5 ho rfl (PZ<|Us m rfl<|PZ<|VN (PZ<|Ud (QG ?_)<|Ra _) few) (by rw[P6];exact few)<|Ra _);have l:oS a s.heap (((s.heap.update a<|QU λ_=>(#[]:Array P0)).push (Qz "tuple" vs.toArray 0)).push (Qz "list" #[] 0)):=((oS.upd _ _ _).kp (Kp.push _ _)).kp (Kp.push _ _);have d:(((s.heap.update a<|QU λ_=>(#[]:Array P0)).push (Qz "tuple" vs.toArray 0)).push (Qz "list" #[] 0)).get? a=_:=P1 _ (P1 _ m);have r:=hs _ s.toks l;show Qa (Qd prog w) A _ P E {s with heap:=((s.heap.update a<|QU λ_=>(#[]:Array P0)).push (Qz "tuple" vs.toArray 0)).push (Qz "list" #[] 0)};dsimp only;rcases r with ⟨z,rfl⟩ | ⟨z,p,H,rfl⟩
 ·have f:out.toArray.size<2:=by rw[P6];exact z
  rw[if_pos f,if_pos f];refine PZ (P2 ?_);rw[WK];refine PZ (P2 ?_);have H1:(We<|UX ZN (out.toArray.zip out.toArray) #[] 7 none).map (·.2)=out.toArray:=by
   show(out.toArray.zip out.toArray).map (·.2)=out.toArray;apply Wi.mp;rw[Wj,ksk_zip];simp[YY]
  have u:Wf (UX ZN (out.toArray.zip out.toArray) #[] 7 none)=none:=rfl;dsimp only;rw[H1];refine PZ (Us d rfl ?_);refine PZ (R5 d rfl ?_ (Ra _)<|by rw[P6];omega)
  (try rw[u])
  simp only[bne_self_eq_false,Qt,if_false];exact P2 (h _ _ (l.trans<|oS.upd _ _ _)<|SU d λ_=>_)
 ·have f:¬vs.toArray.size<2:=by rw[P6];omega
  rw[if_neg f,if_neg f];refine PZ (QS (H (λj s'=>p.size=vs.length/\We j=p.map (kas_item<|vs.toArray.zip vs.toArray)/\Wf j=none/\s'=_) E λj q1 q2 q=>⟨q1,q2,q,rfl⟩) (λO s' I=>PZ (QS I ?_ λ_ _ x=>x)) λ_ _ x=>x);rintro ⟨⟨⟩,j⟩ C ⟨q1,q2,q,rfl⟩;have H1:=kat_snds rfl q2;have u:=q;have Q:(p.toList.map λi=>vs.getD i QN).length≤Qf:=by rw[QI,QL,q1];exact few
  dsimp only;rw[H1];refine PZ (Us d rfl ?_);refine PZ (R5 d rfl ?_ (Ra _)<|by rw[P6];omega)
  (try rw[u])
  simp only[bne_self_eq_false,Qt,if_false];exact P2 (h _ _ (l.trans<|oS.upd _ _ _)<|SU d λ_=>_)
end
def Pt(prog:QK)(w:Q4)(a:P3)(xs:List V)(s:P5):Prop :=
 ∀(A:RN) (Q:List P0->P5->Prop) (E:P0->P5->Prop),A.handled=none->(∀vs g tk,aJ xs vs->Kp s.heap g->Q vs {s with heap:=g,toks:=tk})->Qa (Qd prog w) A (collect<|.ref a) Q E s
inductive u3 (w:Q4) (H:Hp):P3->List V->Prop where
 | lst {a:P3} {xs:List V}:H a=some (.lst xs)->u3 w H a xs
 | tup {a:P3} {xs:List V}:H a=some (.tup xs)->u3 w H a xs
 | dk {a:P3} {kvs:List (bj×V)}:H a=some (.dK kvs)->u3 w H a (kvs.map λp=>kV p.1)
theorem tH{kvs:List (bj×V)}{vs:List (bj×P0)}(r:KV kvs vs)(c:us.length=vs.length)(h:∀(i:Nat) v,us[i]?=some v->∃k x,vs[i]?=some (k,x)/\(aY prog w).is k v=true):aJ (kvs.map λp=>kV p.1) us:=by
 induction r generalizing us with
 | nil=>
  cases us with
  | nil=>exact .nil
  | cons _ _=>simp at c
 | @cons p q ps qs h0 t d=>
  cases us with
  | nil=>simp at c
  | cons u us=>
   obtain⟨k,x,e,f⟩:=h 0 u rfl;simp at e;obtain⟨rfl⟩:=e;refine .cons ?_ (d (by simpa using c) λi v e=>by simpa using h (i+1) v (by simpa using e));have h1:=h0.1;dsimp only at h1;show aN (kV p.1) u;rw[h1];exact ED f
section
theorem EL{σ:L2.St}{a:P3}(I:ay X pins σ H s)(c:u3 X.w H a xs):Pt X.prog X.w a xs s:=by
 intro A Q E l q;cases c with
 | lst h=>
  obtain⟨its,n,rv,ho,z⟩:=I.lst h;exact V0 a (.inl rfl) ho rfl rfl (λg d=>q _ g s.toks rv d) (by rw[P6,<-rv.length];exact z)
 | tup h=>
  obtain⟨z,its,rv,o,ho,m,n,hd⟩:=I.hok a _ h;exact V0 a (.inr rfl) ho m hd (λg d=>q _ g s.toks rv d) (by rw[P6,<-rv.length];exact z)
 | @dk kvs h=>
  obtain⟨z,hd,vs,rv,dd⟩:=pL I.hok h;obtain⟨ep,dat⟩:=dd.dictAt;refine kdu_collect (kdl_dict (knd:=aY X.prog X.w) (kvs:=vs) (ep:=ep) hd) l dat (by rw[<-rv.length];exact z) λh' tk acc j f=>?_;refine q _ h' tk (tH (prog:=X.prog) (w:=X.w) rv (by rw[QL];exact f.1) λi v e=>?_) j;exact f.2 i v (by rw[<-Sh];exact e)
def ft(H:Hp)(ks xs out:List V):Prop :=
 (xs.length<2/\out=xs)∨(2≤xs.length/\∃c kz p,Cb H c kz ks/\rV (wR c kz) (ZT xs.length)=some p/\p.size≤64/\out=p.toList.map λi=>xs.getD i .non)
theorem mY:∀{xs:List V} {vs:List P0} (i:Nat),aJ xs vs->aN (xs.getD i .non) (vs.getD i QN)
 | _,_,_,.nil=>rfl
 | _,_,0,.cons r _=>r
 | _,_,i+1,.cons _ t=>by simpa using mY i t
theorem tI{xs:List V}{vs:List P0}(r:aJ xs vs):∀l:List Nat,aJ (l.map λi=>xs.getD i .non) (l.map λi=>vs.getD i QN)
 | []=>.nil
 | i::l=>.cons (mY i r) (tI r l)
theorem lX{ks xs out:List V}{us vs:List P0}(i:ft H ks xs out)(j:aJ ks us)(r:aJ xs vs)(o:us.length=vs.length)(f:vs.length<64) :
  ∃c,aJ out c/\c.length≤64/\∀s:P5,jc prog w H s.heap->EK prog w A us vs c s:=by
 have l:=r.length;rcases i with ⟨d,rfl⟩ | ⟨d,q,kz,p,k,h,m,rfl⟩
 ·exact⟨vs,r,by omega,λs _=>.inl ⟨by omega,rfl⟩⟩
 ·rw[l] at h d;exact⟨_,tI r _,by rw[QI,QL];exact m,λs ok=>.inr ⟨d,p,EJ ok k j o d f h,rfl⟩⟩
def Ar(w:Q4):List V->Hp->VK->Prop:=λvs H Q=>∃a xs out,vs=[.ref a]/\u3 w H a xs/\xs.length<64/\ft H xs xs out/\∀p,H p=none->Q (.ref p) (upd H p<|.lst out)
theorem qt{σ:L2.St}{a:P3}{ys out:List V}{Q:VK}(L:X.calm=true)(I:ay X pins σ H s)(col:Pt X.prog X.w a ys s)(U:ys.length<64)(x:ft H ys ys out)(q:∀p,H p=none->Q (.ref p) (upd H p<|.lst out)) :
  Qa (Qd X.prog X.w) X.A (call (.builtin "sorted") [.ref a]) (EP X pins σ Q) X.xe s:=by
 have C:=I.ok.hd L;refine Calls.call_function_entry Zd Yz YA (args_sorted1 _) ?_;unfold Sd.«sorted»;refine PZ (m:=ZP "sorted" 1 1 _) (P2<|PZ<|col _ _ _ C λvs g tk i r=>?_);have Z:=i.length;have few:vs.length≤Qf:=by rw[Q6];omega
 refine PZ (Ud ?_ few);have f:(g.push<|Qz "list" vs.toArray 0).get? g.objs.size=some (Qz "list" vs.toArray 0):=P8 _ rfl;have z:Kp s.heap (g.push<|Qz "list" vs.toArray 0):=Kp.trans r (Kp.push _ _);have I1:ay X pins σ H {s with heap:=g,toks:=tk}:=I.kept r;have kL:Kp g (g.push<|Qz "list" vs.toArray 0):=Kp.push _ _;have l:∀b ob,g.get? b=some ob->b≠g.objs.size:=λb ob e=>Qp (Qc e);obtain⟨d,j,lo,u⟩:=lX (prog:=X.prog) (w:=X.w) (A:=X.A.in1.in1) x i i rfl (by omega);show Qa _ _ _ _ _ {s with heap:=g.push (Qz "list" vs.toArray 0),toks:=tk};refine PZ (QG<|Ro W6 ⟨_,f,rfl⟩ WL ?_<|args_list_sort _);refine Nf (s:={s with heap:=g.push (Qz "list" vs.toArray 0),toks:=tk}) f (by omega) (λh' h kp=>u _ ?_) λh' c kp O=>⟨_,rfl,P2 ⟨_,rfl,?_⟩⟩
 ·exact(I1.kept (h':=h') (t':=h) λb ob e=>kp b ob (l b ob e) (kL b ob e)).hok
 ·have Y:out.length≤Qf:=by rw[j.length,Q6];omega
  exact⟨.ref g.objs.size,_,I1.laid (a:=g.objs.size) (h':=h') (o:=.lst out) (t':=tk) (λb ob e=>kp b ob (l b ob e) (kL b ob e)) (Qi _) ⟨Y,d,c,j,O⟩,rfl,q _<|I1.hok.fresh<|Qi _⟩
theorem fI(j:X.calm=true):cZ X (.builtin "sorted") (Ar X.w):=by
 intro pins s σ H xs us Q I r h;obtain⟨a,ys,out,rfl,c,d,f,q⟩:=h;obtain⟨u,rfl,i⟩:=iW r;cases i;exact qt j I (EL I c) d f q
def EM:List V->Hp->VK->Prop:=λvs H Q=>∃a kvs,vs=[.ref a]/\H a=some (.dK kvs)/\∀p,H p=none->Q (.ref p) (upd H p<|.lst<|kvs.map λp=>kV p.1)
theorem qw(m:X.calm=true):cZ X (.type "list") EM:=by
 intro pins s σ H xs us Q I r h;obtain⟨a,kvs,rfl,d,q⟩:=h;obtain⟨u,rfl,f⟩:=iW r;cases f;obtain⟨z,hd,vs,rv,dd⟩:=pL I.hok d;obtain⟨ep,dat⟩:=dd.dictAt;refine kdl_call (kdl_dict (knd:=aY X.prog X.w) (kvs:=vs) (ep:=ep) hd) (I.ok.hd m) dat (by rw[<-rv.length];exact z) λh' tk acc c l x d=>?_;have j:aJ (kvs.map λp=>kV p.1) acc.toList:=tH (prog:=X.prog) (w:=X.w) rv (by rw[QL];exact d.1) λi v e=>d.2 i v (by rw[<-Sh];exact e);exact⟨.ref s.heap.objs.size,_,I.laid (a:=s.heap.objs.size) (h':=h') (o:=.lst (kvs.map λp=>kV p.1)) (t':=tk) l (Qi _) ⟨by rw[QI];exact z,acc.toList,c,j,by rw[x]⟩,rfl,q _<|I.hok.fresh<|Qi _⟩
end
def nO(sp:Sp)(E:XK)(D kS:P3)(ob:Obj)(Fin:List V->Hp->Prop):List V->List V->Hp->Prop
 | [],ks,H=>Fin ks H
 | x::r,ks,H=>sp [x] H (λk c=>c D=some (.frz ob<|.lst [])/\c kS=some (.lst ks)/\nO sp E D kS ob Fin r (ks++[k]) (upd c kS<|.lst<|ks++[k])) E
def As(w:Q4)(sp:Sp)(E:XK)(d:TE):TE:=λσ H Q=>d σ H λv H1=>∃a xs,v=.ref a/\u3 w H1 a xs/\xs.length<64/\∀D kS ob,H1 D=none->H1 kS=none->kS≠D ->
 nO sp E D kS ob (λks c=>∃out,ft c ks xs out/\c D=some (.frz ob<|.lst [])/\c kS=some (.lst ks)/\Q (.ref D) (upd (upd c kS<|.lst []) D<|.lst out)) xs [] (upd (upd H1 D<|.frz ob<|.lst []) kS<|.lst [])
section
variable{σ:L2.St}
theorem ay.noFrz{a:P3}(I:ay X pins σ H s)(h:H a=some (.lst xs)):∀o u,X.H₀ a≠some (.frz o u):=λo u e=>by
 have:=I.base.frzs a o u e;rw[h] at this;cases this
theorem yR{D kS:P3}{l e2:Nat}{ks xs out:List V}{us vs:List P0}{P:YU->P5->Prop}(I:ay X pins σ H s)(nf:∀o u,X.H₀ D≠some (.frz o u))(Q:H D=some (.frz (Qz "list" #[] l)<|.lst []))(C:H kS=some (.lst ks))
  (ho:s.heap.get? kS=some {cls:=.type "list",data:=.seq us.toArray e2}) (rk:aJ ks us) (rv:aJ xs vs) (r:us.length=vs.length) (U:vs.length<64) (so:ft H ks xs out)
  (h:∀s',ay X pins σ (upd (upd H kS<|.lst []) D<|.lst out) s'->P (.done<|.ret .none) s') :
  Qa (Qd X.prog X.w) A (Zw D false vs.toArray l (.ref kS) us.toArray) P E s:=by
 obtain⟨c,Y,lo,sr⟩:=lX (prog:=X.prog) (w:=X.w) (A:=A) so rk rv r U;have q:s.heap.get? D=some (Qz "list" #[] l):=(I.hok D _ Q).1;have ne:kS≠D:=λz=>by rw[z,Q] at C;cases C
 have zs:us.toArray.size≤Qf:=by rw[P6,Q6];omega
 -- the tail
 have tail:∀st:SortSt,(We st).map (·.2)=c.toArray->Wf st=none->Qa (Qd X.prog X.w) A (ZL D false l (.ref kS) st) P E s:=λst h1 h3=>by
  unfold ZL;dsimp only;rw[h1];have j:(s.heap.update kS<|QU λ_=>(#[]:Array P0)).get? D=some (Qz "list" #[] l):=(Rv _ _ _ _ ne.symm).trans q;refine PZ (R5 ho rfl ?_ zs<|Ra _);refine PZ (W5<|PZ<|Us j rfl ?_);refine PZ (R5 j rfl ?_ (Ra _)<|by simp only[Qt,if_false];rw[P6,Q6];omega);rw[h3];simp only[bne_self_eq_false,Qt,if_false];refine P2 (h _ ?_);have Ia:=I.lstUpd (ys:=[]) (its':=[]) (f:=QU λ_=>(#[]:Array P0)) C ho rfl .nil (Ra _) s.toks;have O:(upd H kS<|.lst []) D=some (.frz (Qz "list" #[] l)<|.lst []):=by rw[al ne.symm];exact Q
  have Ib:=Ia.thaw O nf;have L:(upd (upd H kS<|.lst []) D<|.lst []) D=some (.lst []):=aA;have Ic:=Ib.lstUpd (ys:=out) (its:=[]) (its':=c) (n:=l) (f:=QU λ_=>c.toArray) L j rfl Y (by rw[Y.length,Q6];omega) s.toks;rw[zq] at Ic;exact Ic
 unfold Zw;simp only[Qt,if_false];rcases sr s I.hok with ⟨Z,rfl⟩ | ⟨Z,p,hp,rfl⟩
 ·have i:c.toArray.size<2:=by rw[P6];exact Z
  rw[if_pos i,if_pos i];refine PZ (P2 ?_);rw[WK];refine PZ (P2 ?_);refine tail (UX ZN (us.toArray.zip c.toArray) #[] 7 none) ?_ rfl;show(us.toArray.zip c.toArray).map (·.2)=c.toArray;apply Wi.mp;rw[Wj,ksk_zip];simp[YY,r]
 ·have i:¬vs.toArray.size<2:=by rw[P6];omega
  rw[if_neg i,if_neg i];refine PZ (QS (hp (λd s'=>p.size=vs.length/\We d=p.map (kas_item<|us.toArray.zip vs.toArray)/\Wf d=none/\s'=s) E λd q1 q2 m=>⟨q1,q2,m,rfl⟩) (λκ s' hk=>PZ (QS hk ?_ λ_ _ x=>x)) λ_ _ x=>x);rintro ⟨⟨⟩,d⟩ s'' ⟨q1,q2,m,rfl⟩;exact tail d (kat_snds r q2) m
theorem wS{k:Nat}{f D kS:P3}{ps:List Str}{sp:Sp}{EX:XK}{m:Nat}{P:YU->P5->Prop}{vs:List P0}{Fin:List V->Hp->Prop}
  (F:bS X.prog X.w X.K X.mg X.base eT k f fd ps sp) (hr:a9 k A) (henv:∀s H,jl X.prog X.w X.K X.mg X.base X.A X.stack s H->jl X.prog X.w X.K X.mg X.base A X.stack s H) (hb:cC X.K fd ps []) (I:ay X pins σ H s) (rv:aJ xs vs) (h64:vs.length<64) (ho:s.heap.get? kS=some (Qz "list" #[] 0)) (hS:H kS=some (.lst [])) (hD:H D=some (.frz (Qz "list" #[] m)<|.lst []))
  (h:nO sp EX D kS (Qz "list" #[] m) Fin xs [] H)
  (fin:∀ks us c s' n,ay X pins σ c s'->c D=some (.frz (Qz "list" #[] m)<|.lst [])->c kS=some (.lst ks)->s'.heap.get? kS=some {cls:=.type "list",data:=.seq us.toArray n}->aJ ks us->us.length=vs.length->Fin ks c->Qa (Qd X.prog X.w) A (Zw D false vs.toArray m (.ref kS) us.toArray) P E s') :
  Qa (Qd X.prog X.w) A (ZO D (.ref f) false vs.toArray m<|.ref kS) P E s:=by
 unfold ZO;refine PZ (Uj ?_)
 first
  | rw[Yc]
  | (rw[<-Yd];simp only[Xx])
 have hxl:=rv.length;refine PZ (ksk_fold (λi s'=>∃c ks,ay X pins σ c s'/\c D=some (.frz (Qz "list" #[] m)<|.lst [])/\c kS=some (.lst ks)/\ks.length=i/\nO sp EX D kS (Qz "list" #[] m) Fin (xs.drop i) ks c) vs 0 s
  ⟨H,[],I,hD,hS,rfl,h⟩ ?step ?done)
 case step=>
  rintro j x s' hx ⟨c,ks,O,hD',p,hk,l⟩;simp only[Yy] at hk l ⊢;have hj:j<vs.length:=(P9.mp hx).1;obtain⟨L,Y⟩:∃L,xs[j]?=some L:=⟨_,QA<|by omega⟩
  have rx:aN L x:=by
   have q:=mY j rv;rw[RC,RC,Y,hx] at q;exact q
  have ed:xs.drop j=L::xs.drop (j+1):=by
   obtain⟨hjj,e⟩:=P9.mp Y;rw[<-e];exact List.drop_eq_getElem_cons hjj
  rw[ed] at l;obtain⟨QQ,hQQ⟩:∃QQ:VK,QQ=λk c=>c D=some (.frz (Qz "list" #[] m) (.lst []))/\c kS=some (.lst ks)/\nO sp EX D kS (Qz "list" #[] m) Fin (xs.drop (j+1)) (ks++[k]) (upd c kS (.lst (ks++[k]))):=⟨_,rfl⟩
  have l:sp [L] c QQ EX:=by rw[hQQ];exact l
  have hln:=F.len _ _ _ _ l;refine PZ (S8<|QS (Q:=EP X pins σ QQ) (E:=λ_ _=>False) (SA<|Rx (F.run A X.stack s' c ⟨[x],[]⟩ [x] [L] QQ EX hr (henv s' c O.env0) (by have:=hb s' [x] O.kIn (by simpa using hln);simpa using this) (.cons rx .nil) l) λr s2 Z=>?_) (λu s2 hu=>?_) λ_ _ q=>q.elim)
  ·cases r with
   | error e=>exact Z
   | ok fl=>
    cases fl with
    | ret u=>exact O.after Z
    | next=>exact QE Z
    | brk=>exact QE Z
    | cont=>exact QE Z
  ·obtain⟨v,H2,I2,ru,hu⟩:=hu;rw[hQQ] at hu;obtain⟨C,o,g2⟩:=hu;obtain⟨its,n,U,d,z⟩:=I2.lst o;have hkl:=U.length;dsimp only;refine PZ (R5 d rfl ?_ (by rw[P6,Q6];omega)<|by rw[Zl,P6,Q6];omega);have I3:=I2.lstUpd (ys:=ks++[v]) (its':=its++[u]) (f:=QU (·.push u)) o d (by simp[QU];rfl) (U.append<|.cons ru .nil) (by rw[Ri,WQ,Q6];omega) s2.toks;refine P2 ⟨rfl,_,ks++[v],I3,?_,aA,by simp[hk],g2⟩;rw[al λz=>by rw[z,o] at C;cases C];exact C
 case done=>
  rintro s' ⟨c,ks,O,hD',p,hk,l⟩;simp only[Yy] at hk l;obtain⟨its,n,U,d,z⟩:=O.lst p;have hkl:=U.length;rw[<-hxl,List.drop_length] at l;refine PZ (Vv d rfl ?_);exact fin ks its c s' n O hD' p d U (by omega) l
theorem wT{k:Nat}{f a:P3}{ps:List Str}{sp:Sp}{EX:XK}{Q:VK}(F:bS X.prog X.w X.K X.mg X.base eT k f fd ps sp)(hc:X.calm=true)(hr:a9 (k+2) X.A)(hb:cC X.K fd ps [])(I:ay X pins σ H s)(r:u3 X.w H a xs)(h64:xs.length<64)
  (h:∀D kS ob,H D=none->H kS=none->kS≠D->nO sp EX D kS ob (λks p=>∃out,ft p ks xs out/\p D=some (.frz ob<|.lst [])/\p kS=some (.lst ks)/\Q (.ref D) (upd (upd p kS<|.lst []) D<|.lst out)) xs [] (upd (upd H D<|.frz ob<|.lst []) kS<|.lst [])) :
  Qa (Qd X.prog X.w) X.A (call (.builtin "sorted") [.ref a] [(P4 "key",.ref f)]) (EP X pins σ Q) X.xe s:=by
 have hh:=I.ok.hd hc;refine WC Zd Yz YA (ksk_s1 _ _) ?_;unfold Sd.«sorted»;refine PZ (m:=ZP "sorted" 1 1 _) (P2<|PZ<|EL I r _ _ _ hh λvs g tk u kg=>?_);have hl:=u.length;have few:vs.length≤Qf:=by rw[Q6];omega
 refine PZ (Ud ?_ few);have c:(g.push<|Qz "list" vs.toArray 0).get? g.objs.size=some (Qz "list" vs.toArray 0):=P8 _ rfl;have I1:ay X pins σ H {s with heap:=g,toks:=tk}:=I.kept kg;have nD:∀b ob,g.get? b=some ob->b≠g.objs.size:=λb ob e=>Qp (Qc e);show Qa _ _ _ _ _ {s with heap:=g.push (Qz "list" vs.toArray 0),toks:=tk};refine PZ (QG<|Xy W6 ⟨_,c,rfl⟩ WL ?_<|ksk_l1 _ _);rw[ksk_t1];obtain⟨j,d⟩:∃j,((g.push (Qz "list" vs.toArray 0)).update g.objs.size (QU λ_=>(#[]:Array P0))).get? g.objs.size=some (Qz "list" #[] j):=⟨_,SU c λ_=>#[]⟩
 unfold ksk_tree;refine PZ (Vv c rfl<|PZ<|R5 c rfl (PZ<|Us d rfl<|PZ<|VN (PZ<|Ud (QG ?_)<|Ra _) few) (by rw[P6];exact few)<|Ra _);have fD:H g.objs.size=none:=I1.hok.fresh (Qi _);have Ia:ay X pins σ (upd H g.objs.size<|.lst []) {s with heap:=(g.push<|Qz "list" vs.toArray 0).update g.objs.size (QU λ_=>(#[]:Array P0)),toks:=tk} :=
  I1.laid (a:=g.objs.size) (o:=.lst []) (t':=tk) (λb ob e=>(Rv _ _ _ _<|nD b ob e).trans (P1 _ e)) (Qi _) ⟨Ra _,[],j,.nil,d⟩
 have Z:=Ia.noFrz aA;have Ib:ay X pins σ (upd (upd H g.objs.size<|.lst []) g.objs.size<|.frz (Qz "list" #[] j)<|.lst []) {s with heap:=(g.push<|Qz "list" vs.toArray 0).update g.objs.size (QU λ_=>(#[]:Array P0)),toks:=tk} :=
  Ia.ghost aA (λ_ z=>nomatch z) (λ_ z=>nomatch z) (λ_ z=>nomatch z) Z ⟨d,Ra _,[],j,.nil,d⟩
 rw[zq] at Ib;have Ic:=Ib.kept (h':=((g.push<|Qz "list" vs.toArray 0).update g.objs.size (QU λ_=>(#[]:Array P0))).push (Qz "tuple" vs.toArray 0)) (t':=tk) λ_ _ e=>P1 _ e;have i:(((g.push<|Qz "list" vs.toArray 0).update g.objs.size (QU λ_=>(#[]:Array P0))).push (Qz "tuple" vs.toArray 0) |>.push (Qz "list" #[] 0)).get? (((g.push<|Qz "list" vs.toArray 0).update g.objs.size (QU λ_=>(#[]:Array P0))).push (Qz "tuple" vs.toArray 0)).objs.size=some (Qz "list" #[] 0):=P8 _ rfl;have Id:=Ic.laid (a:=(((g.push<|Qz "list" vs.toArray 0).update g.objs.size (QU λ_=>(#[]:Array P0))).push (Qz "tuple" vs.toArray 0)).objs.size) (h':=(((g.push<|Qz "list" vs.toArray 0).update g.objs.size (QU λ_=>(#[]:Array P0))).push (Qz "tuple" vs.toArray 0)).push (Qz "list" #[] 0)) (o:=.lst []) (t':=tk)
  (λ_ _ e=>P1 _ e) (Qi _) ⟨Ra _,[],0,.nil,i⟩
 have l:=Ic.hok.fresh (Qi _);have x:(((g.push<|Qz "list" vs.toArray 0).update g.objs.size (QU λ_=>(#[]:Array P0))).push (Qz "tuple" vs.toArray 0)).objs.size≠g.objs.size:=λz=>by rw[z,aA] at l;cases l
 have Y:H (((g.push<|Qz "list" vs.toArray 0).update g.objs.size (QU λ_=>(#[]:Array P0))).push (Qz "tuple" vs.toArray 0)).objs.size=none:=by rw[al x] at l;exact l
 refine wS F (A:=X.A.in1.in1) hr.in1.in1 (λ_ _ e=>e.in1.in1) hb Id u (by omega) i aA (by rw[al x.symm];exact aA) (h _ _ _ fD Y x) λks us H' s' n I' U O C rk L z9=>?_;obtain⟨out,so,h1,h2,q⟩:=z9;exact yR I' Z U O C rk u L (by omega) so λs2 I2=>⟨_,rfl,P2 ⟨_,rfl,.ref _,_,I2,rfl,q⟩⟩
theorem Cc{k:Nat}{f:P3}{ps:List Str}{sp:Sp}{C:XK}{e:Qv}{i:TE}{x:Str}{p z kp pos:Pos}(F:bS X.prog X.w X.K X.mg X.base eT k f fd ps sp)(hc:X.calm=true)(Z:a9 (k+2) X.A)(hb:cC X.K fd ps [])(hm:X.mg x=some (.ref f))(l:X.mg "sorted" = none)(he:PE X e i)
  (hg:Gl X x:=by nofun) (o:(x==("__debug__":Str))=false:=by decide) (m:Gl X "sorted":=by nofun) (c:Qy [e] X.env=(false,Q0 e X.env)::Qy [] X.env:=by nofun) :
  PE X (.Call (.Name "sorted" p) [e] [⟨some "key",.Name x z,kp⟩] pos) (As X.w sp C i):=by
 intro pins s σ H Q I h;refine Re (kK I m l cy ?_);refine W9 (by rw[c];rfl) (by rfl) (evalArgs_kw2 (by rfl) ?_ c);have ha:PA X [e] (j9 i mF):=cg he d9 c;refine bv (ha pos pins s σ H (λvs H1=>match vs with
  | [v]=>∃a xs,v=.ref a/\u3 X.w H1 a xs/\xs.length<64/\∀D kS ob,H1 D=none->H1 kS=none->kS≠D ->
   nO sp C D kS ob (λks d=>∃out,ft d ks xs out/\d D=some (.frz ob<|.lst [])/\d kS=some (.lst ks)/\Q (.ref D) (upd (upd d kS<|.lst []) D<|.lst out)) xs [] (upd (upd H1 D<|.frz ob<|.lst []) kS<|.lst [])
  | _=>False) I h) λus O L=>de L λvs H1 I1 U q1=>?_
 obtain⟨v,rfl⟩:∃v,vs=[v]:=by rcases vs with _ | ⟨v,_ | _⟩<;>first | exact⟨_,rfl⟩ | exact q1.elim
 obtain⟨a,xs,rfl,j,r,q⟩:=q1;obtain⟨u,rfl,Y⟩:=iW U;cases Y;show Qa _ _ (ac9 [do let v <-Q0 (.Name x z) X.env;SI pos;pure v]) _ _ O;refine VF (PZ<|dM I1 hg hm ?_ o);refine PZ (R1<|P2<|Uz ?_);exact wT F hc Z hb I1 j r q
end
end L2
namespace RB
open PySem L2 PySem.W
def wU:List (AV×AV)->List AV
 | []=>[]
 | (k,_)::r=>k::wU r
def EN(S:aM)(x:AV):Option (List AV):=match lT x with
 | some xs=>some xs
 | none=>match x with
  | .ref n=>match S.t.get n with
   | some (.lst xs)=>some xs
   | some (.dk kvs)=>some (wU kvs)
   | _=>none
  | _=>none
def wV(d:Bool):List AV->Option (List AV)
 | []=>some []
 | x::r=>match wV d r with
  | some ns=>match d,x with
   | false,.int s lo c=>some (.int s lo c::ns)
   | true,.tc (.int s lo c) _=>some (.int s lo c::ns)
   | _,_=>none
  | none=>none
def Og(a b:AV):Option Bool:=match a,b with
 | .int s lo f,.int s' c d=>BB s lo f s' c d
 | _,_=>none
def La(c:Bool)(ns:List AV)(i j:Nat):Option Bool:=match ns[i]?,ns[j]? with
 | some a,some b=>match Og a b with
  | some true=>some true
  | some false=>match c with
   | false=>some false
   | true=>match Og b a with
    | some true=>some false
    | _=>none
  | none=>none
 | _,_=>none
def EO(xs:List AV):List Nat->List AV
 | []=>[]
 | i::r=>xs.getD i .non::EO xs r
def Ng:List AV->Bool
 | .tc _ _::_=>true
 | _=>false
def tJ(ks xs:List AV):Option (List AV):=match RZ xs.length 2 with
 | true=>some xs
 | false=>match RZ xs.length 64 with
  | false=>none
  | true=>match wV (Ng ks) ks with
   | some ns=>match rV (La (Ng ks) ns) (ZT xs.length) with
    | some p=>match QV p.size 64 with
     | true=>some (EO xs p.toList)
     | false=>none
    | none=>none
   | none=>none
section
variable{S:aM}
theorem u4:∀{kvs:List (AV×AV)} {ks:List (bj×V)},Paired (λp q=>gF p.1 q.1/\aT F y ρ H p.2 q.2) kvs ks->aQ F y ρ H (wU kvs) (ks.map λp=>kV p.1)
 | _,_,.nil=>.nil
 | _,_,.cons (a:=(k,v)) h t=>.cons (qj h.1) (u4 t)
theorem At(w:Q4)(C:aI g F y ρ S H){ax:AV}{x:V}(f:aT F y ρ H ax x){xs:List AV}(h:EN S ax=some xs):∃a vs,x=.ref a/\u3 w H a vs/\aQ F y ρ H xs vs:=by
 unfold EN at h;split at h
 ·rename_i ys q;cases h;obtain⟨a,vs,rfl,d,c⟩:=gR f q;exact⟨a,vs,rfl,.tup d,c⟩
 ·split at h
  ·rename_i n _;split at h
   ·rename_i ys q;cases h;obtain⟨a,ho,rfl,_,d,vs,rfl,c⟩:=C.obj f q;exact⟨a,vs,rfl,.lst d,c⟩
   ·rename_i kvs q;cases h;obtain⟨a,ks,rfl,_,d,c⟩:=C.dk f q;exact⟨a,_,rfl,.dk d,u4 c⟩
   ·cases h
  ·cases h
theorem yS(d:∀x,y=some x->1≤x){a b:AV}{i j:Int}{c:Bool}(h1:aT F y ρ H a (.int i))(f:aT F y ρ H b (.int j))(h:Og a b=some c):decide (i<j)=c:=by
 unfold Og at h;split at h
 ·obtain⟨z,e,b1⟩:=aZ.mp h1;obtain⟨m,l,b2⟩:=aZ.mp f;cases e;cases l;exact kZ d b1 b2 h
 ·cases h
theorem Au{c:Bool}:∀{ks ns:List AV} {vs:List V},aQ F y ρ H ks vs->wV c ks=some ns->∃kz,Cb H c kz vs/\aQ F y ρ H ns (kz.map V.int)
 | _,_,_,.nil,h=>by cases h;exact⟨[],.nil,.nil⟩
 | x::r,ns,_,.cons r0 t,h=>by
  unfold wV at h;cases q:wV c r with
  | none=>simp only[q] at h;cases h
  | some m=>
   simp only[q] at h;obtain⟨kz,h1,f⟩:=Au t q;cases c with
   | false=>
    cases x with
    | int s lo j=>
     cases h;obtain⟨z,rfl,b1⟩:=aZ.mp r0;exact⟨z::kz,.cons rfl h1,.cons r0 f⟩
    | _=>cases h
   | true=>
    cases x with
    | tc hd tl=>
     cases hd with
     | int s lo j=>
      cases h;obtain⟨a,w,i,rfl,l,d,_⟩:=r0;obtain⟨z,rfl,b1⟩:=aZ.mp d;exact⟨z::kz,.cons ⟨a,i,rfl,l⟩ h1,.cons d f⟩
     | _=>cases h
    | _=>cases h
theorem Nh{kz:List Int}{i:Nat}{v:V}(h:(kz.map V.int)[i]?=some v):∃k,kz[i]?=some k/\v=.int k:=by
 rw[QZ] at h;cases e:kz[i]? with
 | none=>rw[e] at h;cases h
 | some k=>rw[e] at h;cases h;exact⟨k,rfl,rfl⟩
theorem Lb{d:Bool}(o:∀x,y=some x->1≤x){ns:List AV}{kz:List Int}(h:aQ F y ρ H ns (kz.map V.int)){i j:Nat}{b:Bool}(e:La d ns i j=some b):wR d kz i j=some b:=by
 unfold La at e;split at e
 ·rename_i a c L I;obtain⟨v,C,m⟩:=et h L;obtain⟨u,r,f⟩:=et h I;obtain⟨k1,q1,rfl⟩:=Nh C;obtain⟨k2,q2,rfl⟩:=Nh r;unfold wR;rw[q1,q2];dsimp only;split at e
  ·rename_i l;cases e;have:=yS o m f l;simp at this;rw[if_neg (by omega)];simp[this]
  ·rename_i l;have z:=yS o m f l;simp at z;cases d with
   | false=>cases e;simp;omega
   | true=>
    dsimp only at e;split at e
    ·rename_i q;cases e;have p:=yS o f m q;simp at p;rw[if_neg (by omega)];simp;omega
    ·cases e
  ·cases e
 ·cases e
theorem tL{c:Type}{f d:Nat->Nat->Option Bool}(h:∀i j b,f i j=some b->d i j=some b):∀(t:KasT c) {a:c},rV f t=some a->rV d t=some a
 | .ret _,_,e=>e
 | .ask i j k,a,e=>by
  unfold rV at e ⊢;cases q:f i j with
  | none=>rw[q] at e;cases e
  | some b=>rw[q] at e;rw[h i j b q];exact tL h (k b) e
theorem Cd{xs:List AV}(r:aQ F y ρ H xs vs)(i:Nat):aT F y ρ H (xs.getD i .non) (vs.getD i .non):=by
 rw[RC,RC];cases e:xs[i]? with
 | none=>
  have hl:=aP r;have:vs[i]?=none:=QM.mpr (by rw[<-hl];exact QM.mp e);rw[this];rfl
 | some a=>
  obtain⟨v,d,c⟩:=et r e;rw[d];exact c
theorem wW{xs:List AV}{vs:List V}(r:aQ F y ρ H xs vs):∀l:List Nat,aQ F y ρ H (EO xs l) (l.map λi=>vs.getD i .non)
 | []=>.nil
 | i::l=>.cons (Cd r i) (wW r l)
theorem wX(o:∀x,y=some x->1≤x){ks xs out:List AV}{us vs:List V}(d:aQ F y ρ H ks us)(r:aQ F y ρ H xs vs)(h:tJ ks xs=some out):∃c,ft H us vs c/\aQ F y ρ H out c:=by
 have hl:=aP r;unfold tJ at h;split at h
 ·rename_i q;cases h;have q:xs.length+1≤2:=bA q;exact⟨vs,.inl ⟨by omega,rfl⟩,r⟩
 ·rename_i q;have q:2≤xs.length:=by
   rcases ad3 xs.length 2 with z | z
   ·have:RZ xs.length 2=true:=by simp[Nat.blt_eq];exact z
    rw[this] at q;cases q
   ·exact z
  split at h
  ·cases h
  ·split at h
   ·rename_i ns m;split at h
    ·rename_i p l;split at h
     ·rename_i f;cases h;obtain⟨kz,h1,u⟩:=Au d m;refine⟨_,.inr ⟨by omega,_,kz,p,h1,?_,bA f,rfl⟩,wW r _⟩;rw[<-hl];exact tL (λi j b e=>Lb o u e) _ l
     ·cases h
    ·cases h
   ·cases h
def Av:List AV->aM->(AV->aM->Bool)->Bool:=λxs S k=>match xs with
 | [x]=>match EN S x with
  | some ys=>match RZ ys.length 64 with
   | true=>match tJ ys ys with
    | some out=>k (.ref S.n) (S.add<|.lst out)
    | none=>false
   | false=>false
  | none=>false
 | _=>false
theorem gz:mK g (Ar w) Av:=by
 intro F y ρ S H xs u k Q C l h p;unfold Av at h;split at h
 ·rename_i x;split at h
  ·rename_i ys q;split at h
   ·rename_i q2;split at h
    ·rename_i out r;cases l with | cons r0 t=>cases t with | nil=>
     obtain⟨a,vs,rfl,d,f⟩:=At w C r0 q;obtain⟨c,j,m⟩:=wX C.pos f f r;have z:=aP f;have q2:ys.length+1≤64:=bA q2;refine⟨a,vs,c,rfl,d,by omega,j,λpl i=>?_⟩;have st:aB F y ρ H y (ρ++[pl]) (upd H pl<|.lst c):=aB.add i;exact p y _ _ _ (.ref S.n) _ st (C.add (o:=.lst out) i ⟨c,rfl,aQ.mono st m⟩) ⟨pl,by rw[C.n];simp,rfl⟩ h
    ·cases h
   ·cases h
  ·cases h
 ·cases h
def EQ:List AV->aM->(AV->aM->Bool)->Bool:=λxs S k=>match xs with
 | [.ref n]=>match S.t.get n with
  | some (.dk kvs)=>k (.ref S.n) (S.add<|.lst<|wU kvs)
  | _=>false
 | _=>false
theorem tM:mK g EM EQ:=by
 intro F y ρ S H xs j k Q C d h p;unfold EQ at h;split at h
 ·rename_i n;split at h
  ·rename_i kvs q;cases d with | cons r0 t=>cases t with | nil=>
   obtain⟨a,ks,rfl,_,i,f⟩:=C.dk r0 q;refine⟨a,ks,rfl,i,λpl c=>?_⟩;have st:aB F y ρ H y (ρ++[pl]) (upd H pl<|.lst<|ks.map λp=>kV p.1):=aB.add c;exact p y _ _ _ (.ref S.n) _ st (C.add (o:=.lst (wU kvs)) c ⟨_,rfl,aQ.mono st<|u4 f⟩) ⟨pl,by rw[C.n];simp,rfl⟩ h
  ·cases h
 ·cases h
end
end RB
namespace RB
open PySem PySem.Spec PyProof.Rows L2 PySem.W
section
variable{y y1 y2:Option Int}{ρ ρ1 ρ2:List P3}{H H1 H2:Hp}{S S1:aM}
theorem aI.over(C:aI g F y ρ S H)(e:∀b∈ρ,H1 b=H b)(t:∀b vs,H b=some (.tup vs)->H1 b=some (.tup vs))(o:∀b,F.own b->H1 b=H b)(x:∀b f,H b=some (.ext f)->H1 b=some (.ext f)):aI g F y ρ S H1:=by
 refine⟨C.n,C.sym,C.pos,C.nd,λi c d=>?_,C.own,C.fe,λb w d=>C.ol b w (by rw[<-o b w];exact d),F.st _ _ C.J λb u w d=>?_,C.fl⟩
 ·obtain⟨ob,ho,h1,l,j⟩:=C.at_ i c d;exact⟨ob,ho,h1,by rw[e c (QB d)];exact l,d8.monoM ⟨λ_ h=>h,λh=>h,t⟩ j⟩
 ·rcases w with w | ⟨f,rfl⟩
  ·rw[o b w];exact d
  ·exact x b f d
theorem aB.over(st:aB F y ρ H y1 ρ1 H1){a:P3}{o:HO}(e:H a=none):aB F y ρ H y1 ρ1 (upd H1 a o):=by
 have ne:∀b u,H b=some u->b≠a:=λb u q z=>by rw[z,e] at q;cases q
 refine⟨st.y,st.pre,st.new,λb u q n w=>?_,λb vs q=>?_,λb q=>?_,λb c u q=>?_⟩
 ·rw[al (ne b _ q)];exact st.keep b u q n w
 ·rw[al (ne b _ q)];exact st.tup b vs q
 ·by_cases z:b=a
  ·rw[z];exact e
  ·rw[al z] at q;exact st.live b q
 ·rw[al (ne b _ q)];exact st.frz b c u q
theorem aB.more(st:aB F y ρ H y1 ρ1 H1){a:P3}(e:H a=none):aB F y ρ H y1 (ρ1++[a]) H1:=by
 refine⟨st.y,?_,λb hb=>?_,st.keep,st.tup,st.live,st.frz⟩
 ·obtain⟨r,rfl⟩:=st.pre;exact⟨r++[a],by simp⟩
 ·rcases Rc.mp hb with hb | hb
  ·exact st.new b hb
  ·rw[Rj.mp hb];exact .inr e
end
def ER(f:BF)(ke:KE)(k:List AV->aM->Bool):List AV->List AV->aM->Bool
 | [],ks,S=>k ks S
 | x::r,ks,S=>f [x] S (λz S1=>ER f ke k r (ks++[z]) S1) ke
def Aw(f:BF)(a:BE):BE:=λσ S k=>a σ S λx S1=>match EN S1 x with
 | some xs=>match RZ xs.length 64 with
  | true=>ER f σ.ke (λks c=>match tJ ks xs with
   | some out=>k (.ref c.n) (c.add<|.lst out)
   | none=>false) xs [] S1
  | false=>false
 | none=>false
section
theorem tN{F:Fx}{f:BF}{k:List AV->aM->Bool}{D kS:P3}{ob:Obj}{Fin:List V->Hp->Prop}{ke:KE}{U:Option Int}{j:List P3}{H0:Hp}(e1:H0 D=none)(e2:H0 kS=none)(ne:kS≠D)(o1:¬F.own D)(Z:¬F.own kS)(p:lO g F U j H0 ke)
  (i:∀y ρ S H ks ksv,aB F U j H0 y ρ H->aI g F y ρ S H->D∉ρ->kS∉ρ->H D=some (.frz ob<|.lst [])->H kS=some (.lst ksv)->aQ F y ρ H ks ksv->k ks S=true->Fin ksv H) :
  ∀(xs:List AV) (o:List V) (ks:List AV) (ksv:List V) (y:Option Int) (ρ:List P3) (S:aM) (H:Hp),aB F U j H0 y ρ H->aI g F y ρ S H->D∉ρ->kS∉ρ->H D=some (.frz ob<|.lst [])->H kS=some (.lst ksv)->aQ F y ρ H xs o->aQ F y ρ H ks ksv ->
   ER f ke k xs ks S=true->nO (kW g.toGy 1 f) g.E D kS ob Fin o ksv H
 | _,_,ks,ksv,y,ρ,S,H,st,C,nD,L,Q,O,.nil,Y,h=>i y ρ S H ks ksv st C nD L Q O Y h
 | _,_,ks,ksv,y,ρ,S,H,st,C,nD,L,Q,O,.cons (l₁:=r) (l₂:=rv) r0 t,Y,h=>by
  refine⟨F,y,ρ,S,[_],_,ke,C,.cons r0 .nil,rfl,h,λI d S1 H1 az z c C1 rz h1=>?_,p.mono st⟩;have x:=c.frz _ _ _ Q;have l:=c.keep _ _ O L Z;have nD1:D∉d:=λm=>by
   rcases c.new D m with q | q
   ·exact nD q
   ·rw[Q] at q;cases q
  have u:kS∉d:=λm=>by
   rcases c.new kS m with q | q
   ·exact L q
   ·rw[O] at q;cases q
  refine⟨x,l,?_⟩;have mo:Mo I d H1 I d (upd H1 kS<|.lst<|ksv++[z]):=⟨λ_ h=>h,λh=>h,λb vs q=>by rw[al λw=>by rw[w,l] at q;cases q];exact q⟩
  have C2:aI g F I d S1 (upd H1 kS<|.lst<|ksv++[z]):=C1.over (λb hb=>al λw=>u (w▸hb)) mo.tup (λb w=>al λq=>Z (q▸w)) (λb φ q=>by rw[al λw=>by rw[w,l] at q;cases q];exact q);refine tN e1 e2 ne o1 Z p i r rv (ks++[az]) (ksv++[z]) I d S1 _ ((st.trans c).over e2) C2 nD1 u (by rw[al ne.symm];exact x) aA ?_ ?_ h1
  ·exact aV (λ_ _ q=>aT.monoM mo q) (aQ.mono c t)
  ·exact dG (aV (λ_ _ q=>aT.monoM mo q)<|aQ.mono c Y) (.cons (aT.monoM mo rz) .nil)
end
section
variable{e:Qv}{ba:BE}{pos p p1 kp:Pos}{x:Str}{k:Nat}{f:BF}
theorem yT:∀σ H Q,up g (Aw f ba) σ H Q->As w (kW g.toGy 1 f) g.E (up g ba) σ H Q:=λσ H Q hx=>eO hx λF y ρ S σa k C r h p=>
 ar C r h λL j S1 H1 ax x st C1 r1 rx h1=>by
  cases q:EN S1 ax with
  | none=>simp only[q] at h1;cases h1
  | some xs=>
   simp only[q] at h1;split at h1
   ·rename_i q2;obtain⟨a,vs,rfl,src,pr⟩:=At w C1 rx q;have hl:=aP pr;have q2:xs.length+1≤64:=bA q2;refine⟨a,vs,rfl,src,by omega,λD kS ob m Y ne=>?_⟩;have o1:¬F.own D:=λw=>C1.ol D w m;have o2:¬F.own kS:=λw=>C1.ol kS w Y;have eK:(upd H1 D<|.frz ob<|.lst []) kS=none:=by rw[al ne];exact Y
    have O:aB F L j H1 L j (upd (upd H1 D<|.frz ob<|.lst []) kS<|.lst []):=(aB.lay m).trans (aB.lay eK);have CA:aI g F L j S1 (upd (upd H1 D<|.frz ob<|.lst []) kS<|.lst []):=(C1.lay m).lay eK;refine tN (k:=λks Z=>match tJ ks xs with
     | some out=>k (.ref Z.n) (Z.add<|.lst out)
     | none=>false) m Y ne o1 o2 r1.e ?_ xs vs [] [] L j S1 _ O CA (C1.fresh m) (C1.fresh Y) (by rw[al ne.symm];exact aA) aA (aQ.mono O pr) .nil h1
    intro I ρ2 Z l ks ksv U C2 nD nK hD hK rk h2;cases q3:tJ ks xs with
    | none=>simp only[q3] at h2;cases h2
    | some out=>
     simp only[q3] at h2;obtain⟨d,so,ro⟩:=wX C2.pos rk (aQ.mono U pr) q3;refine⟨d,so,hD,hK,?_⟩;have stF:aB F L j H1 I (ρ2++[D]) (upd (upd l kS<|.lst []) D<|.lst d):=((U.over Y).over m).more m;have tD:∀b o,l b=some o->(∀o' u,o≠.frz o' u)->b≠D:=λb o q n w=>by rw[w,hD] at q;cases q;exact n _ _ rfl
     have tK:∀b o,l b=some o->(∀u,o≠.lst u)->b≠kS:=λb o q n w=>by rw[w,hK] at q;cases q;exact n _ rfl
     have moF:Mo I ρ2 l I (ρ2++[D]) (upd (upd l kS<|.lst []) D<|.lst d):=⟨λ_ h=>h,λ{i c} h=>by
       rw[RG (P9.mp h).1];exact h,λb vs q=>by
       rw[al (tD b _ q λ_ _ z=>nomatch z),al (tK b _ q λ_ z=>nomatch z)];exact q⟩
     have roF:aQ F I (ρ2++[D]) (upd (upd l kS<|.lst []) D<|.lst d) out d:=aV (λ_ _ q=>aT.monoM moF q) ro;have CB:aI g F I ρ2 Z (λb=>if b=D then none else(upd l kS<|.lst []) b):=C2.over
      (λb hb=>(if_neg λw=>nD (by rw[<-w];exact hb)).trans (al λw=>nK (by rw[<-w];exact hb)))
      (λb vs q=>by rw[if_neg (tD b _ q λ_ _ z=>nomatch z),al (tK b _ q λ_ z=>nomatch z)];exact q)
      (λb w=>(if_neg λq=>o1 (by rw[<-q];exact w)).trans (al λq=>o2 (by rw[<-q];exact w)))
      (λb φ q=>by rw[if_neg (tD b _ q λ_ _ z=>nomatch z),al (tK b _ q λ_ z=>nomatch z)];exact q)
     have eq:upd (λb=>if b=D then none else(upd l kS<|.lst []) b) D (.lst d)=upd (upd l kS<|.lst []) D (.lst d):=by
      funext b;by_cases z:b=D
      ·subst z;rw[aA,aA]
      ·rw[al z,al z];simp[z]
     have CF:=CB.add (p:=D) (o:=.lst out) (ho:=.lst d) (by simp) (by rw[eq];exact⟨d,rfl,roF⟩);rw[eq] at CF;exact p I _ _ _ (.ref Z.n) _ (st.trans stF) CF ⟨D,by rw[C2.n];simp,rfl⟩ h2
   ·cases h1
theorem tO(c:gI X.prog X.w X.K X.mg X.base g.toGy eT x k 1 f)(q:X.calm=true)(l:a9 (k+2) X.A)(h:X.mg "sorted" = none)(he:PE X e (up g ba))
  (o:Gl X x:=by nofun) (j:(x==("__debug__":Str))=false:=by decide) (i:Gl X "sorted":=by nofun) (d:Qy [e] X.env=(false,Q0 e X.env)::Qy [] X.env:=by nofun) :
  PE X (.Call (.Name "sorted" p) [e] [⟨some "key",.Name x p1,kp⟩] pos) (up g<|Aw f ba):=by
 obtain⟨u,fd,ps,hn,F,m,r,hb⟩:=c;exact PE.imp yT (Cc F q l hb m h he o j i d)
def Hi(x:AV):List AV->Option (List AV)
 | []=>some [x]
 | y::ys=>match x,y with
  | .tc (.int s lo h) _,.tc (.int s' c d) _=>match BB s lo h s' c d with
   | some true=>some (x::y::ys)
   | some false=>match BB s' c d s lo h with
    | some true=>match Hi x ys with
     | some r=>some (y::r)
     | none=>none
    | _=>none
   | none=>none
  | _,_=>none
def u5:List AV->Option (List AV)
 | []=>some []
 | x::xs=>match x with
  | .tc (.int _ _ _) t=>match wp t with
   | some ys=>match RZ ys.length 60 with
    | true=>match u5 xs with
     | some r=>Hi x r
     | none=>none
    | false=>none
   | none=>none
  | _=>none
def u6(a:BE):BE:=λσ S k=>a σ S λx S1=>match lT x with
 | some xs=>match RZ xs.length 64,u5 xs with
  | true,some out=>k (.ref S1.n) (S1.add<|.lst out)
  | _,_=>false
 | none=>false
def KR(F:Fx)(y:Option Int)(ρ:List P3)(H:Hp)(a:AV)(p:Int×V):Prop:=aT F y ρ H a p.2/\∃s lo c t,a=.tc (.int s lo c) t/\Bd y s lo c p.1
theorem Ax{F:Fx}{y:Option Int}{ρ:List P3}{H:Hp}(h:∀x,y=some x->1≤x){x:AV}{p:Int×V}(d:KR F y ρ H x p):∀{xs out:List AV} {ps:List (Int×V)},Paired (KR F y ρ H) xs ps->ps.Pairwise (λp q=>p.1<q.1)->Hi x xs=some out ->
  ∃qs:List (Int×V),qs.Perm (p::ps)/\Paired (KR F y ρ H) out qs/\qs.Pairwise λp q=>p.1<q.1
 | [],out,_,.nil,_,e=>by cases e;exact⟨[p],.refl _,.cons d .nil,List.pairwise_singleton _ _⟩
 | _::xs,out,_,.cons (b:=q) (l₂:=ps) i t,pw,e=>by
  obtain⟨C,s,lo,U,Q,rfl,b1⟩:=id d;obtain⟨I,s',u,L,O,rfl,b2⟩:=id i;have c:=Tp.mp pw;unfold Hi at e;dsimp only at e;split at e
  ·rename_i q1;cases e;have l1:p.1<q.1:=by simpa using kZ h b1 b2 q1
   refine⟨p::q::ps,.refl _,.cons d<|.cons i t,Tp.mpr ⟨λz hz=>?_,pw⟩⟩;rcases Qm.mp hz with rfl | hz
   ·exact l1
   ·exact Int.lt_trans l1 (c.1 z hz)
  ·split at e
   ·rename_i q2;split at e
    ·rename_i r l;cases e;have l1:q.1<p.1:=by simpa using kZ h b2 b1 q2
     obtain⟨qs,j,m,o⟩:=Ax h d t c.2 l;refine⟨q::qs,(ZU q j).trans (List.Perm.swap p q ps),.cons i m,Tp.mpr ⟨λz hz=>?_,o⟩⟩;rcases Qm.mp (j.mem_iff.mp hz) with rfl | hz
     ·exact l1
     ·exact c.1 z hz
    ·cases e
   ·cases e
  ·cases e
theorem tR{F:Fx}{y:Option Int}{ρ:List P3}{H:Hp}(m:∀x,y=some x->1≤x):∀{xs out:List AV} {vs:List V},aQ F y ρ H xs vs->u5 xs=some out->∃(kz:List Int) (qs:List (Int×V)),kz.length=vs.length/\(∀(i:Nat) (x:V) (k:Int),vs[i]?=some x->kz[i]?=some k->∃b ys,x=.ref b/\H b=some (.tup (.int k::ys))/\ys.length<60) /\
  qs.Perm (kz.zip vs)/\Paired (KR F y ρ H) out qs/\qs.Pairwise λp q=>p.1<q.1
 | [],out,_,.nil,e=>by cases e;exact⟨[],[],rfl,λi x k e=>by simp at e,.refl _,.nil,.nil⟩
 | x::xs,out,_,.cons (b:=v) (l₂:=vs) r t,e=>by
  unfold u5 at e;split at e
  ·rename_i s lo O u;split at e
   ·rename_i ys C;split at e
    ·rename_i q2;split at e
     ·rename_i o1 I;obtain⟨kz,qs,h1,Z,Y,U,Q⟩:=tR m t I;have d:=r;obtain⟨b,w,o,rfl,hb,L,c⟩:=r;obtain⟨z,rfl,bz⟩:=aZ.mp L;rw[gq C] at c;have hl:=aP (mJ c);have q2:ys.length+1≤60:=bA q2;obtain⟨h,g1,g2,g3⟩:=Ax m (p:=(z,.ref b)) ⟨d,s,lo,O,u,rfl,bz⟩ U Q e;refine⟨z::kz,h,by simp[h1],λi x k l j=>?_,g1.trans<|ZU _ Y,g2,g3⟩;cases i with
      | zero=>simp at l j;subst l j;exact⟨b,o,rfl,hb,by omega⟩
      | succ i=>exact Z i x k (by simpa using l) (by simpa using j)
     ·cases e
    ·cases e
   ·cases e
  ·cases e
theorem nQ:∀{ps qs:List (Int×V)},ps.Perm qs->ps.Pairwise (λp q=>p.1≤q.1)->qs.Pairwise (λp q=>p.1<q.1)->ps=qs
 | [],qs,c,_,_=>(List.Perm.nil_eq c)
 | p::ps,[],c,_,_=>by cases c.eq_nil
 | p::ps,q::qs,c,h1,h=>by
  have d:=Tp.mp h1;have h2':=Tp.mp h;have e:p=q:=by
   rcases Qm.mp (c.mem_iff.mp (Qj (a:=p))) with e | m
   ·exact e
   ·rcases Qm.mp (c.mem_iff.mpr (Qj (a:=q))) with e | m'
    ·exact e.symm
    ·exact absurd (d.1 q m') (Int.not_le.mpr<|h2'.1 p m)
  subst e;rw[nQ (List.Perm.cons_inv c) d.2 h2'.2]
theorem Ay{F:Fx}{y:Option Int}{ρ:List P3}{H:Hp}:∀{xs:List AV} {ps:List (Int×V)},Paired (KR F y ρ H) xs ps->aQ F y ρ H xs (ps.map Prod.snd)
 | _,_,.nil=>.nil
 | _,_,.cons r t=>.cons r.1 (Ay t)
theorem Ce:∀σ H Q,up g (u6 ba) σ H Q->uI K g.tT g.tP g.tQ (up g ba) σ H Q:=λσ H Q hx=>eO hx λF y ρ S σa k C r h p=>
 ar C r h λL j S1 H1 ax x st C1 r1 rx h1=>by
  have lam:=C1.fl.lam H1 C1.J;have fin:∀(xs:List AV) (vs:List V) (D:P3) (d:Hp),aQ F L j H1 xs vs->k (.ref S1.n) (S1.add<|.lst xs)=true->H1 D=none->d D=some (.lst vs)->(∀b o,b≠g.tT->H1 b=some o->d b=some o)->lN d g.tT g.tP g.tQ->(∀b,d b=none->H1 b=none)->Q (.ref D) d:=λxs vs D d Y hk U e2 kp I lv=>by
   have nT:∀b,b∈j->b≠g.tT:=λb hb z=>C1.own b hb (by rw[z];exact C1.fl.own);obtain⟨ps0,l,_⟩:=lam;have O:aB F L j H1 L (j++[D]) d:=by
    refine⟨λ_ h=>h,⟨[D],rfl⟩,λb hb=>?_,λb o q n w=>kp b o (λz=>w (by rw[z];exact C1.fl.own)) q,λb vs q=>kp b _ (λz=>by rw[z,l] at q;cases q) q,lv,λb o u q=>kp b _ (λz=>by rw[z,l] at q;cases q) q⟩;rcases Rc.mp hb with hb | hb
    ·exact .inl hb
    ·rw[Rj.mp hb];exact .inr U
   have hD2:∀b o,H1 b=some o->b≠D:=λb o q z=>by rw[z,U] at q;cases q
   have CM:aI g F L j S1 (λb=>if b=D then none else d b):=by
    refine⟨C1.n,C1.sym,C1.pos,C1.nd,λi c ec=>?_,C1.own,C1.fe,λb w ec=>?_,C1.fl.re H1 _ C1.J ?_<|λb o n q=>?_,C1.fl⟩
    ·obtain⟨ob,ho,h1,Z,m⟩:=C1.at_ i c ec;refine⟨ob,ho,h1,?_,d8.monoM ⟨λ_ h=>h,λh=>h,λb vs q=>?_⟩ m⟩
     ·exact(if_neg<|hD2 c _ Z).trans (kp c ho (nT c<|QB ec) Z)
     ·exact(if_neg<|hD2 b _ q).trans (kp b _ (λz=>by rw[z,l] at q;cases q) q)
    ·have nb:b≠D:=λz=>C1.ol b w (by rw[z];exact U);exact C1.ol b w (lv b<|(if_neg nb).symm.trans ec)
    ·obtain⟨ps,h1,Z,m⟩:=I;refine⟨ps,(if_neg<|hD2 _ _ l).trans h1,Z,?_⟩;rcases m with m | ⟨c',m,h4⟩
     ·exact .inl m
     ·exact .inr ⟨c',m,(if_neg λz=>by rw[z,e2] at h4;cases h4).trans h4⟩
    ·exact(if_neg<|hD2 b o q).trans (kp b o n q)
   have eq:upd (λb=>if b=D then none else d b) D (.lst vs)=d:=by
    funext b;by_cases z:b=D
    ·subst z;rw[aA,e2]
    ·rw[al z];simp[z]
   have CF:=CM.add (p:=D) (o:=.lst xs) (ho:=.lst vs) (by simp) (by rw[eq];exact⟨vs,rfl,aQ.mono O Y⟩);rw[eq] at CF;exact p L _ _ _ (.ref S1.n) _ (st.trans O) CF ⟨D,by rw[C1.n];simp,rfl⟩ hk
  have lvf:∀d:Hp,(∀b o,b≠g.tT->H1 b=some o->d b=some o)->lN d g.tT g.tP g.tQ->∀b,d b=none->H1 b=none:=λd kp I b q=>by
   cases e:H1 b with
   | none=>rfl
   | some o=>
    by_cases z:b=g.tT
    ·obtain⟨ps,h1,_⟩:=I;rw[z,h1] at q;cases q
    ·rw[kp b o z e] at q;cases q
  split at h1
  ·rename_i xs q;obtain⟨a,vs,rfl,ha,Y⟩:=gR rx q;split at h1
   ·rename_i out q2 q3;obtain⟨kz,qs,g1,g2,g3,g4,g5⟩:=tR C1.pos Y q3;have hl:=aP Y;have q2:xs.length+1≤64:=bA q2;refine⟨a,vs,kz,rfl,ha,by omega,g1,g2,lam,λD d ys U e2 kp I ks=>?_⟩;obtain⟨ps,pm,rfl,pw⟩:=ks;have e:=nQ (pm.trans g3.symm) pw g5;subst e;exact fin out _ D d (Ay g4) h1 U e2 kp I (lvf d kp I)
   ·cases h1
  ·cases h1
theorem ES(h:PE X e (uI K g.tT g.tP g.tQ<|up g ba)):PE X e (up g<|u6 ba):=PE.imp Ce h
end
end RB
namespace L2
open PySem PySem.Spec PyProof.Rows PySem.W
def iy(led:Bool)(ps:List Nat):SetTable:={Xf 0 0 led with place:=ps.toArray}
def gb(kt:List (Int×Tok)):List (Int×P0):=kt.map λp=>(Uw p.1,.int p.1 p.2)
def tS(ps:List Nat)(h:Int)(j:Nat):Prop:=∀led,(iy led ps).freeSlot h=some (j,false)/\QY ps.toArray j=ps.length
theorem ET(h:Int):tS [] h (SetTable.bits h%8):=λled=>⟨by unfold SetTable.freeSlot SetTable.probe;rfl,rfl⟩
theorem Az{c:Type}(xs:List c)(x:c){n:Nat}(h:n=xs.length):YF xs.toArray n x=(xs++[x]).toArray:=by
 apply Wi.mp;rw[SetTable.toList_insertAt];subst h;simp
theorem qx{led:Bool}{ps:List Nat}{n:Nat}(h:ps.length=n)(c:n≤7):(iy led ps).fits n=true:=by
 unfold SetTable.fits ab9 iy;simp[Xf,h,c]
theorem Hj{led:Bool}{ps:List Nat}{h:Int}{j:Nat}(ok:tS ps h j):(iy led ps).put j=(iy led (ps++[j]),ps.length):=by
 unfold SetTable.put;show(({mask:=7,place:=YF ps.toArray (QY ps.toArray j) j,dummies:=#[],finger:=0,led:=led,moves:=0,plain:=true}:SetTable),QY ps.toArray j)=_;rw[(ok led).2,Az ps j rfl];rfl
theorem Hl{led:Bool}{es:List (Int×P0)}{ps:List Nat}{h:Int}{x:P0}{j:Nat}(ok:tS ps h j)(c:es.length=ps.length)(f:ps.length≤6):layNew (iy led ps) es.toArray h x=((es++[(h,x)]).toArray,iy led (ps++[j]),false,false):=by
 unfold layNew;rw[(ok led).1];dsimp only;rw[Hj ok];dsimp only;rw[Az es (h,x) c.symm];have d:(iy led<|ps++[j]).fits (es++[(h,x)]).toArray.size=true:=qx (by simp[c]) (by simp[c];omega);unfold SetTable.orStandIn;rw[d];rfl
section
variable{a:P3}
theorem Cg{kt:List (Int×Tok)}:ElemsOf (knd:=VT prog w) (gb kt):=λe he=>by
 obtain⟨p,_,rfl⟩:=RS.mp he;exact⟨⟨p.1,by simp[VT,Uo],rfl⟩,rfl⟩
theorem yU{led:Bool}{kt:List (Int×Tok)}{ps:List Nat}{k:Int}{t:Tok}{j ep:Nat}{o:Obj}{Q:Bool->P5->Prop}(ho:s.heap.get? a=some o)(hd:o.data=.set (gb kt).toArray ep (iy led ps))(m:kt.length=ps.length)(q:ps.length≤3)(i:∀p∈kt,p.1≠k)(ok:tS ps (Uw k) j)
  (h:Q true {s with heap:=s.heap.update a (ZV (gb<|kt++[(k,t)]).toArray (iy led<|ps++[j]))}):Qa (Qd prog w) A (setAddHashed a (.int k t)<|Uw k) Q E s:=by
 have c:(gb kt).length=ps.length:=by unfold gb;simpa using m
 have d:(iy led ps).fits (gb kt).toArray.size=true:=qx (by simp[c]) (by simp[c];omega);have f:=Cg (prog:=prog) (w:=w) (kt:=kt);unfold setAddHashed setAddHashedIn;refine QG (PZ<|TN ho hd d ?_);dsimp only;rw[byScan_of (knd:=VT prog w) (x:=.int k t) rfl (by simp[c,scanBound];omega) (by simpa using f)];simp only[↓reduceIte];unfold setAddByScan;refine PZ (PZ<|Uj ?_);refine PZ (wpAny_setScan_of (knd:=VT prog w) (k:=k) (by simp[VT,Uo]) ho hd d (by simpa using f) ?_);have hn:(gb kt).toArray.toList.findIdx? (λe=>(VT prog w).is k e.2)=none:=by
  rw[List.findIdx?_eq_none_iff];intro e he;obtain⟨p,l,rfl⟩:=RS.mp (by simpa[gb] using he:e∈kt.map λp=>(Uw p.1,Tc p.1 p.2));have:=i p l;simp[VT,Uo,this]
 rw[hn];dsimp only;rw[Hl ok c (by omega)];dsimp only;show Qa _ _ (pure () >>= _) _ _ _;refine PZ (P2 ?_);show Qa _ _ (hashByValue 8 (.int k t) >>= _) _ _ _;rw[hashByValue_scannable 8 rfl];refine PZ (P2 ?_);simp only[plainKind,↓reduceIte];refine PZ (wpAny_storeSet_of ho hd ?_<|by simp[c,Q6];omega);have tf:(iy led<|ps++[j]).tooFull=false:=by
  unfold SetTable.tooFull ab9 iy;simp[Xf];omega
 rw[tf];refine P2 (P2 ?_);have e:(gb kt++[(Uw k,Tc k t)])=gb (kt++[(k,t)]):=by simp[gb]
 rw[e];exact h
theorem rW(x:P0){Q₁:P0->P5->Prop}
  (h:Q₁ (.ref s.heap.objs.size) {s with heap:=s.heap.push {cls:=.type "set",dict:=none,data:=.set #[] 0 (.fresh 0 0<|!w.params.followText "set-order")}}) :
  Tk (Qd prog w) A (.call (.builtin "set.__new__") ⟨[.type "set",x],[]⟩) (wants Q₁ E) s:=by
 refine Zm ?_;show Qa _ A.in1 (do YZ "set.__new__" ⟨[.type "set",x],[]⟩;again (.builtin "set.__new__" ⟨[.type "set",x],[]⟩)) _ _ s;refine PZ (Vd (F.newCall_set_1 x)<|P2 ⟨plainId_quiet Zn _,Tz F.entry_set_new ?_⟩);rw[Vf Zn _];unfold Sd.«set.__new__» ZW;have c:=sub_set_self;obtain⟨f,g,d,tk,os⟩:=s;dsimp only
 wp_walk
 refine T3 (P2 ?_);dsimp only;simp only[newObj];refine PZ (wpAny_alloc<|P2 ?_);exact P2 h
end
theorem ge:Slot "set_iterator" "__next__" "set_iterator.__next__" :=
 .of (owner:="set_iterator") (n:="__next__") (by rw[Zo,WV];kernel_rfl) (by decide +kernel) (by decide +kernel) (by decide +kernel)
  (by first | exact .inl (by decide +kernel) | exact .inr (by decide +kernel)) (by rw[Xg];kernel_rfl)
theorem rX:YE ac2 "set_iterator.__next__" = some Sd.«set_iterator.__next__»:=Y0 (by kernel_rfl)
theorem wY:Manifest.owners.lookup (String.ofList ['r','o','t','a','r','e','t','i','_','t','e','s'].reverse)=some Manifest.sig_set_iterator:=by kernel_rfl
theorem u7(a:P0):argsOk "set_iterator.__next__" ⟨[a],[]⟩:=by
 unfold argsOk;rw[signature?_of (id:="set_iterator.__next__") (n:=['_','_','t','x','e','n','_','_']) (o:=['r','o','t','a','r','e','t','i','_','t','e','s']) (by kernel_rfl) wY];kernel_rfl
theorem lY:Slot "set_iterator" "__iter__" "set_iterator.__iter__" :=
 .of (owner:="set_iterator") (n:="__iter__") (by rw[Zo,WV];kernel_rfl) (by decide +kernel) (by decide +kernel) (by decide +kernel)
  (by first | exact .inl (by decide +kernel) | exact .inr (by decide +kernel)) (by rw[Xg];kernel_rfl)
theorem rY:YE ac2 "set_iterator.__iter__" = some Sd.«dict_keyiterator.__iter__» :=
 Xe (id':="dict_keyiterator.__iter__") (by kernel_rfl) (by first | rfl | decide +kernel | (unfold ZX;simp +decide [YG])) (by decide +kernel) (by kernel_rfl)
theorem u8(a:P0):argsOk "set_iterator.__iter__" ⟨[a],[]⟩:=by
 unfold argsOk;rw[signature?_of (id:="set_iterator.__iter__") (n:=['_','_','r','e','t','i','_','_']) (o:=['r','o','t','a','r','e','t','i','_','t','e','s']) (by kernel_rfl) wY];kernel_rfl
theorem lZ:YE ac2 "set.__iter__" = some Sd.«frozenset.__iter__» :=
 Xe (id':="frozenset.__iter__") (by kernel_rfl) (by first | rfl | decide +kernel | (unfold ZX;simp +decide [YG])) (by decide +kernel) (by kernel_rfl)
def k9(w:Q4)(h:QO)(a:P3)(kt:List (Int×Tok))(ps:List Nat)(ep:Nat):Prop:=∃o,h.get? a=some o/\o.ExactSet/\o.data=.set (gb kt).toArray ep (iy (!w.params.followText "set-order") ps)
def Ch(h:QO)(it a:P3)(f i:Int)(n ep:Nat):Prop:=h.get? it=some {cls:=.type "set_iterator",dict:=none,data:=.fields #[.int f 0,.int i 0,.ref a,.int n 0,.int ep 0],slots:=#[]}
section
variable{a it:P3}{kt:List (Int×Tok)}{ps:List Nat}{ep:Nat}
theorem k9.typeIs(x:k9 w s.heap a kt ps ep):s.TypeIs (.ref a) "set":=let ⟨o,ho,c,_⟩:=x;⟨o,ho,c.1⟩
theorem Ch.typeIs{f i:Int}{n:Nat}(x:Ch s.heap it a f i n ep):s.TypeIs (.ref it) "set_iterator":=⟨_,x,rfl⟩
theorem l0:(gb kt).toArray.size=kt.length:=by simp[gb]
theorem iz{led:Bool}(c:ps.length=kt.length)(d:kt.length≤7):(iy led ps).fits (gb kt).toArray.size=true:=by rw[l0];exact qx c d
theorem EU{Q:P0->P5->Prop}(x:k9 w s.heap a kt ps ep)(c:ps.length=kt.length)(f:kt.length≤7)
  (h:Q (.ref s.heap.objs.size) {s with heap:=s.heap.push {cls:=.type "set_iterator",data:=.fields #[.int 0 0,.int 0 0,.ref a,.int kt.length 0,.int ep 0]}}):Qa (Qd prog w) A (W0<|.ref a) Q E s:=by
 obtain⟨o,ho,i,hd⟩:=id x;refine UI x.typeIs Zq (Ro Zq x.typeIs lZ ?_<|F.args_set_iter_1 _);unfold Sd.«frozenset.__iter__»;show Qa _ _ (V8 a >>= _) _ _ s;unfold V8;refine PZ (PZ<|XD ho hd (iz c f)<|P2 ?_);rw[l0];unfold setDrawn;refine PZ (PZ<|TN ho hd (iz c f) ?_);dsimp only;unfold ZY;refine PZ (PZ<|T3<|P2 ?_);refine P2 ?_;refine Uh (λd=>absurd d (show ¬((!(w.params.followText "set-order")&&false)=true) by simp)) (λ_=>?_);refine PZ (P2 ?_);unfold setEpoch;refine PZ (PZ<|TN ho hd (iz c f)<|P2 ?_);refine PZ (QT<|P2 ⟨_,rfl,"set_iterator",_,⟨_,P8 _ rfl,rfl⟩,ge.lookup,?_⟩);exact h
end
def l6{c:Type}:Nat->List c->List (List c)
 | 0,_=>[[]]
 | n+1,l=>(Ui l.length).flatMap λi=>match l[i]? with
  | some x=>(l6 n<|l.eraseIdx i).map (x::·)
  | none=>[]
theorem AA{c d:Type}(g:c->d):∀(l:List c) (i:Nat),(l.map g).eraseIdx i=(l.eraseIdx i).map g
 | [],_=>rfl
 | _::_,0=>rfl
 | x::l,i+1=>congrArg (g x::·) (AA g l i)
theorem yV{c d:Type}(f:Nat->Nat)(g:c->d):∀(n k:Nat) (l:List c) (out:Array c),(Tq f n k (l.map g)<|out.map g)=(Tq f n k l out).map g
 | 0,_,_,_=>rfl
 | n+1,k,l,out=>by
  unfold Tq;rw[QI,QZ];cases l[f k%l.length]? with
  | none=>rfl
  | some x=>
   show Tq f n (k+1) ((l.map g).eraseIdx _) ((out.map g).push (g x))=_;rw[AA,<-Array.map_push];exact yV f g n (k+1) _ _
theorem wZ{d:Type}(f:Nat->Nat):∀(n k:Nat) (l:List d) (out:Array d),l.length=n->∃q∈l6 n l,(Tq f n k l out).toList=out.toList++q
 | 0,_,_,out,_=>⟨[],Rj.mpr rfl,by unfold Tq;simp⟩
 | n+1,k,l,out,e=>by
  have c:f k%l.length<l.length:=Nat.mod_lt _ (by omega);have i:l[f k%l.length]?=some l[f k%l.length]:=QA c;obtain⟨q,j,h⟩:=wZ f n (k+1) (l.eraseIdx<|f k%l.length) (out.push l[f k%l.length]) (by rw[List.length_eraseIdx_of_lt c];omega);refine⟨l[f k%l.length]::q,?_,?_⟩
  ·unfold l6;refine Y1.mpr ⟨f k%l.length,WY.mpr c,?_⟩;rw[i];exact RS.mpr ⟨q,j,rfl⟩
  ·unfold Tq;rw[i];dsimp only;rw[h];simp
theorem yW{c:Type}:∀(n:Nat) (l q:List c),q∈l6 n l->q.length=n
 | 0,_,q,h=>by cases(Rj.mp h);rfl
 | n+1,l,q,h=>by
  unfold l6 at h;obtain⟨i,_,h⟩:=Y1.mp h;split at h
  ·obtain⟨d,h1,rfl⟩:=RS.mp h;simp[yW n _ d h1]
  ·cases h
def lg(w:Q4)(a:P3)(ep:Nat)(kt:List (Int×Tok)):List (Int×Tok):=match w.params.followText "set-order" with
 | true=>(U0 (w.params.setOrder a ep) kt.toArray).toList
 | false=>kt
theorem Hm{a:P3}{ep:Nat}{kt:List (Int×Tok)}:(U0 (w.params.setOrder a ep) (gb kt).toArray).toList=gb (U0 (w.params.setOrder a ep) kt.toArray).toList:=by
 unfold U0;rw[l0];have:=yV (w.params.setOrder a ep) (λp:Int×Tok=>(Uw p.1,Tc p.1 p.2)) kt.length 0 kt #[];simp only[P6];show(Tq _ kt.length 0 (kt.map _) #[]).toList=_;rw[show(#[]:Array (Int×P0))=(#[]:Array (Int×Tok)).map (λp:Int×Tok=>(Uw p.1,Tc p.1 p.2)) by simp,this];simp[gb]
theorem EV{a:P3}{ep:Nat}{kt:List (Int×Tok)}:(lg w a ep kt).map SH∈kt.map SH::l6 kt.length (kt.map SH):=by
 unfold lg;cases w.params.followText "set-order" with
 | false=>exact Qj
 | true=>
  refine Ql _ ?_;have h1:=yV (w.params.setOrder a ep) (SH:Int×Tok->Int) kt.length 0 kt #[];obtain⟨q,c,e⟩:=wZ (w.params.setOrder a ep) kt.length 0 (kt.map SH) #[] (by simp);have:((U0 (w.params.setOrder a ep) kt.toArray).toList).map SH=q:=by
   unfold U0;simp only[P6];rw[<-Wj,<-h1];simpa using e
  dsimp only;rw[this];exact c
theorem u9{a:P3}{ep:Nat}{kt:List (Int×Tok)}:(lg w a ep kt).length=kt.length:=by
 rcases Qm.mp (EV (w:=w) (a:=a) (ep:=ep) (kt:=kt)) with h | h
 ·simpa using congrArg Za h
 ·simpa using yW _ _ _ h
def lh(ps:List Nat):Prop:=QY ps.toArray 0=0/\∀i j,ps[i]?=some j->QY ps.toArray (j+1)=i+1
theorem EW(j:Nat):lh [j]:=⟨by simp[QY,YH],λi k e=>by
 cases i with
 | zero=>simp at e;subst e;simp[QY,YH]
 | succ i=>simp at e⟩
section
variable{a it:P3}{kt:List (Int×Tok)}{ps:List Nat}{ep:Nat}
theorem w4{slot i:Nat}{Q:Option (P0×Nat)->P5->Prop}(x:k9 w s.heap a kt ps ep)(f:ps.length=kt.length)(l:kt.length≤7)(m:lh ps)(hb:w.params.followText "set-order" = false->QY ps.toArray slot=i)
  (item:∀p n,(lg w a ep kt)[i]?=some p->(w.params.followText "set-order" = false->QY ps.toArray n=i+1)->Q (some (.int p.1 p.2,n)) s) (done:(lg w a ep kt)[i]?=none->Q none s):Qa (Qd prog w) A (setNext a slot i ep) Q E s:=by
 obtain⟨o,ho,r,hd⟩:=id x;unfold setNext;refine PZ (TN ho hd (iz f l) ?_);dsimp only;unfold ZY;refine PZ (PZ<|T3<|P2 ?_);dsimp only;show Qa _ _ (if (w.params.followText "set-order")=true then _ else _) _ _ _;cases c:w.params.followText "set-order" with
 | true=>
  simp only[↓reduceIte,bne_self_eq_false,Qt];unfold setWalk;refine PZ (PZ<|TN ho hd (iz f l) ?_);dsimp only;unfold ZY;refine PZ (PZ<|T3<|P2 ?_);show Qa _ _ (if (w.params.followText "set-order")=true then _ else _) _ _ _;rw[if_pos c];refine PZ (T3<|P2<|P2 ?_);have eo:lg w a ep kt=(U0 (w.params.setOrder a ep) kt.toArray).toList:=by unfold lg;rw[c]
  show Q (af4 (λe=>(e.2,slot)) (U0 (w.params.setOrder a ep) (gb kt).toArray)[i]?) s;rw[<-Sh,Hm,<-eo];unfold gb;rw[QZ];cases q:(lg w a ep kt)[i]? with
  | none=>exact done q
  | some p=>exact item p slot q λz=>by rw[c] at z;cases z
 | false=>
  simp only[Qt,↓reduceIte];refine Uh (λd=>absurd d (show ¬(false=true) by simp)) (λ_=>?_);refine PZ ?_;refine Uh (λd=>absurd d ?_) (λ_=>P2 ?_)
  ·show ¬(false=true);simp
  refine P2 ?_;have eo:lg w a ep kt=kt:=by unfold lg;rw[c]
  rw[eo] at item done;have hb:=hb c;show Q (match (gb kt).toArray[QY ps.toArray slot]?,ps.toArray[QY ps.toArray slot]? with
   | some (_,x),some j=>some (x,j+1)
   | _,_=>none) s
  rw[hb];simp only[WS];unfold gb;rw[QZ];cases q:kt[i]? with
  | none=>exact done q
  | some p=>
   have h:i<ps.length:=by rw[f];exact(P9.mp q).1
   rw[QA h];exact item p _ q λ_=>m.2 i _ (QA h)
end
section
variable{a it:P3}{kt:List (Int×Tok)}{ps:List Nat}{ep:Nat}
theorem w6{n i:Nat}{Q:Option P0->P5->Prop}(h:A.handled=none)(x:k9 w s.heap a kt ps ep)(f:ps.length=kt.length)(j:kt.length≤7)(o:lh ps)(z:Ch s.heap it a (n:Nat) (i:Nat) kt.length ep)(hb:w.params.followText "set-order" = false->QY ps.toArray n=i)
  (item:∀h' p (n:Nat),(lg w a ep kt)[i]?=some p->(w.params.followText "set-order" = false->QY ps.toArray n=i+1)->Ch h' it a (n:Nat) (i+1:Nat) kt.length ep->RP it s.heap h'->Q (some<|.int p.1 p.2) {s with heap:=h'})
  (done:(lg w a ep kt)[i]?=none->∀h',Xa it s.heap h'->Q none {s with heap:=h'}):Qa (Qd prog w) A (Vj<|.ref it) Q E s:=by
 obtain⟨os,c,u,d⟩:=id x;unfold Vj;refine PZ (S8<|RY (name:=P4 "__next__") z.typeIs ge<|Ro ge z.typeIs rX ?_<|u7 _);unfold Sd.«set_iterator.__next__»;refine PZ (P2 ?_);refine PZ (UK z rfl ?_);dsimp only;refine PZ (XD c d (iz f j) ?_);rw[l0,if_neg (by simp)];simp only[TM];refine PZ (w4 x f j o hb (λp m q C=>?_) λq=>?_)
 ·dsimp only;refine PZ (RV z (by simp) λh1 l s1=>?_);refine PZ (RV (s:={s with heap:=h1}) l (by simp) λH I r=>?_);exact P2 ⟨_,rfl,P2<|item H p m q C (by unfold Ch;simpa[SF] using I)<|s1.trans r⟩
 ·dsimp only;refine PZ (RV z (by simp) λh1 l s1=>?_);show Qa _ _ (ZR (.type "StopIteration") [] >>= _) _ _ _;refine PZ ?_;simp only[ZR,newTuple];refine PZ (QT ?_<|by size_fits);refine PZ (m:=TW _ _) (Vd (a:=QN) (by first | rfl | (simp only[TW];rfl)) ?_);refine QT ?_ (by size_fits);simp only[ZS];refine PZ (V7 ?_)
  first | rw[show A.in1.handled=none from h] | rw[h]
  refine PZ (P2<|Xb ?_);refine PZ (UZ (T:="StopIteration") (b:=true) ⟨_,P8 _ rfl,rfl⟩ Xd ?_);exact P2 (done q _<|(s1.extBut.push _).push _)
theorem k9.at{h h':QO}(x:k9 w h a kt ps ep)(e:∀o,h.get? a=some o->h'.get? a=some o):k9 w h' a kt ps ep:=let ⟨o,ho,r⟩:=x;⟨o,e o ho,r⟩
theorem Ci(H:A.handled=none)(u:ps.length=kt.length)(L:kt.length≤7)(j:lh ps)(I:P3)(d:a≠I):Walks prog w A I [I,a] [I] kt.length (λi v=>∃p,(lg w a ep kt)[i]?=some p/\v=.int p.1 p.2) (λi h=>k9 w h a kt ps ep/\∃n:Nat,(w.params.followText "set-order" = false->QY ps.toArray n=i)/\Ch h I a (n:Nat) (i:Nat) kt.length ep) where
 sub:=λb hb=>by simp at hb;simp[hb]
 frame:=λi h h' st C=>⟨st.1.at λo e=>C a (by simp) o e,by
  obtain⟨n,hn,z⟩:=st.2;exact⟨n,hn,C I (by simp) _ z⟩⟩
 item:=λi s Q E O st hQ=>by
  obtain⟨x,n,hn,z⟩:=st;refine w6 H x u L j z hn (λh' p m q r l c=>hQ _ h' s.toks ⟨p,q,rfl⟩ ⟨x.at λo e=>(c.2 a d).trans e,m,r,l⟩ λb o hb e=>(c.2 b<|λz=>hb (by simp[z])).trans e) λq=>?_;rw[QM,u9] at q;omega
 done:=λs Q E st hQ=>by
  obtain⟨x,n,hn,z⟩:=st;refine w6 H x u L j z hn (λh' p m q r l c=>?_) λq h' he=>hQ h' s.toks λb o hb e=>he b o (λz=>hb (by simp[z])) e;have:=(P9.mp q).1;rw[u9] at this;omega
 self:=λi s Q E st hQ=>by
  obtain⟨_,n,_,z⟩:=st;have f:s.TypeIs (.ref I) "set_iterator":=z.typeIs;refine UI f lY (Ro lY f rY ?_<|u8 _);show Qa _ _ (ret<|.ref I) _ _ s;exact P2 ⟨_,rfl,"set_iterator",_,f,ge.lookup,hQ⟩
theorem Hn{r:P3}{Q:Bool->P5->Prop}(i:s.TypeIs (.ref r) "set")(h:Q false s):Qa (Qd prog w) A (Vx<|.ref r) Q E s:=by
 unfold Vx;refine PZ (WJ i PySem.F.slot_set_len.lookup ?_);generalize d:("set.__len__":String)=f
 wp_delta
 rw[show splitId f=some ("set","__len__") from by subst d;decide +kernel];subst d;refine PZ (UZ (T:="set") (b:=true) i (by rw[Xg];kernel_rfl) ?_);refine Uh (λc=>absurd c (by decide)) (λ_=>?_);refine Uh (λ_=>?_) (λc=>absurd (by decide +kernel) c);refine PZ (Ww i ?_);exact P2 h
theorem Ho(f:ps.length=kt.length)(j:kt.length≤7)(d:lh ps):KdlSrc prog w "set" a a kt.length (λi v=>∃p,(lg w a ep kt)[i]?=some p/\v=.int p.1 p.2) (λh=>k9 w h a kt ps ep) where
 type:=λ_ x=>x.typeIs
 there:=λ_ x=>let ⟨_,ho,_⟩:=x;⟨Qc ho,Qc ho⟩
 keep:=λ_ _ x l=>x.at λo e=>l a (.inl rfl) o e
 notList:=by decide
 notTuple:=by decide
 hint:=λ_ _ _ _ x c=>Hn x.typeIs c
 iter:=λ_ _ m x=>⟨_,_,(λ_ _ c=>EU x f j c),Ci m f j d _ (let ⟨_,ho,_⟩:=x;Qp (Qc ho)),⟨x.at λo e=>P1 _ e,0,λ_=>d.1,P8 _ rfl⟩⟩
end
section
inductive qy:List Nat->List Int->List Nat->Prop where
 | nil {ps:List Nat}:qy ps [] ps
 | cons {ps qs:List Nat} {k:Int} {ks:List Int} {j:Nat}:tS ps (Uw k) j->ps.length≤3->qy (ps++[j]) ks qs->qy ps (k::ks) qs
def vI(kt:List (Int×Tok)):List P0:=kt.map λp=>.int p.1 p.2
theorem w8{R:Result->P5->Prop}{S I l:P3}(U:A.in1.handled=none)(f:l≠I)(c:S≠I)(u:S≠l){all:List (Int×Tok)}{qs:List Nat}(hn:(all.map SH).Nodup) :
  ∀(r d:List (Int×Tok)) (ps:List Nat) (ep:Nat) (s:P5),all=d++r->qy ps (r.map SH) qs->d.length=ps.length->k9 w s.heap S d ps ep->s.heap.IsTupleIter I l d.length->s.heap.IsTuple l (vI all).toArray ->
  (∀h' tk ep,k9 w h' S all qs ep->qs.length=all.length->(∀b o,b≠S->b≠I->s.heap.get? b=some o->h'.get? b=some o)->R (.ok<|.ret .none) {s with heap:=h',toks:=tk}) ->
  Tk (Qd prog w) A (.builtin "set.update.loop" ⟨[.ref S,.ref I],[]⟩) R s
 | [],d,ps,ep,s,e,m,hd,Z,hI,Q,hR=>by
  have W:=ae5 (prog:=prog) (w:=w) U I l f (vI all).toArray;simp at e;subst e;cases m;refine Tz Wk ?_;rw[Vf Uu _];show Qa _ A.in1 (Vj (.ref I) >>= _) _ _ s;refine PZ (W.done _ _ _ ⟨by simpa[vI] using hI,Q⟩ λh2 C q=>?_);show Qa _ A.in1 (ret QN) _ _ _;refine P2 (hR h2 C ep (Z.at λo e=>q S o (by simp[c]) e) hd.symm λb o L x e=>q b o (by simp[x]) e)
 | (k,t)::r,d,ps,ep,s,e,m,hd,Z,hI,Q,hR=>by
  have W:=ae5 (prog:=prog) (w:=w) U I l f (vI all).toArray;cases m with
  | @cons _ _ _ _ j ok h3 m=>
  refine Tz Wk ?_;rw[Vf Uu _];show Qa _ A.in1 (Vj (.ref I) >>= _) _ _ s;refine PZ (W.item d.length s _ _ (by simp[vI,e]) ⟨hI,Q⟩ λv h1 tk O i kp=>?_);have O:v=.int k t:=by simpa[vI,e] using O.symm
  subst O;have Y:=Z.at (h':=h1) λo e=>kp S o (by simp[c]) e;obtain⟨o,ho,hx,h⟩:=id Y;show Qa _ A.in1 (SJ [Tc k t] (setAdd S<|.int k t) >>= _) _ _ _;refine PZ (QG ?_);unfold setAdd;refine QG ?_;refine PZ ((VT prog w).pyHash (k:=k) (intKind_is _ _ _ _) ?_);refine yU (kt:=d) (ps:=ps) (j:=j) ho h hd h3 (λp hp z=>?_) ok ?_
  ·rw[e] at hn;simp only[Vo,Qx] at hn;have:=(YC.mp hn).2.2 p.1 (RS.mpr ⟨p,hp,rfl⟩) k Qj;exact this z
  refine P2 ⟨plainId_quiet Uu _,?_⟩;have hg:=RJ (ZV (gb<|d++[(k,t)]).toArray (iy (!w.params.followText "set-order")<|ps++[j])) ho (by rw[putSet_of _ _ h];rfl);rw[putSet_of _ _ h] at hg;refine w8 U f c u hn r (d++[(k,t)]) (ps++[j]) (ep+1) _ (by simp[e]) m (by simp[hd]) ⟨_,hg,hx,rfl⟩ ?_ ?_ λh' H ep' a1 a2 a3=>hR h' H ep' a1 a2 λb o L x e=>a3 b o L x ((Rv _ _ _ _ L).trans (kp b o (by simp[x]) e))
  ·have:=i.1.at (h':=h1.update S (ZV (gb<|d++[(k,t)]).toArray (iy (!w.params.followText "set-order")<|ps++[j]))) λo e=>(Rv _ _ _ _ c.symm).trans e;simpa using this
  ·exact i.2.at λo e=>(Rv _ _ _ _ u.symm).trans e
set_option maxRecDepth 100000 in
theorem vb{l:P3}{kt:List (Int×Tok)}{ps:List Nat}{Q:P0->P5->Prop}(hh:A.handled=none)(hl:s.heap.IsTuple l (vI kt).toArray)(hn:(kt.map SH).Nodup)(la:qy [] (kt.map SH) ps)
  (h:∀(h':QO) (tk:Nat) ep,k9 w h' s.heap.objs.size kt ps ep->ps.length=kt.length->(∀b o,s.heap.get? b=some o->h'.get? b=some o)->Q (.ref s.heap.objs.size) {s with heap:=h',toks:=tk}) :
  Qa (Qd prog w) A (call (.type "set") [.ref l]) Q E s:=by
 obtain⟨c,tl,hmro⟩:=Ts.mro;have Y:=Ts.made;have hsub:=Ts.sub;refine SA (Zm ?_);show Qa _ _ (callAny (.type "set") _) _ _ _;refine P2 ⟨Yg _<|by decide +kernel,Tz F.entry_type_call ?_⟩;rw[Around.under_plain (weight_type_call_type "set" [.ref l] []) rfl];have h1:=Ts.notType;have h2:=Ts.canCreate;have hct:=F.typeCall_set_1 (.ref l)
 repeat (any_goals (first | assumption | wp_step))
 refine Rx (rW (.ref l) (E:=E) (Q₁:=λobj s₁=>obj=.ref s.heap.objs.size/\s₁={s with heap:=s.heap.push {cls:=.type "set",dict:=none,data:=.set #[] 0 (.fresh 0 0<|!w.params.followText "set-order")}}) ⟨rfl,rfl⟩) λr s₁ U=>?_;cases r with
 | error e=>exact U
 | ok fl=>
  cases fl with
  | ret obj=>
   obtain⟨rfl,rfl⟩:=U;generalize z:(!w.params.followText "set-order")=led;have hS:(s.heap.push {cls:=.type "set",dict:=none,data:=.set #[] 0 (.fresh 0 0 led)}).get? s.heap.objs.size=some {cls:=.type "set",dict:=none,data:=.set #[] 0 (.fresh 0 0 led)}:=P8 _ rfl;have hT:XS {s with heap:=s.heap.push {cls:=.type "set",dict:=none,data:=.set #[] 0 (.fresh 0 0 led)}} (.ref s.heap.objs.size) "set":=⟨_,hS,rfl⟩
   have hli:=Ts.init.lookup;have hbi:=Ts.init.bind (.ref s.heap.objs.size)
   repeat (any_goals (first | assumption | wp_step))
   refine Rx (Vg (R:=wants (λr i=>r=.none/\∃h' tk ep,i={s with heap:=h',toks:=tk}/\k9 w h' s.heap.objs.size kt ps ep/\ps.length=kt.length /\
     (∀b o,s.heap.get? b=some o->h'.get? b=some o)) E) Ts.init.plain F.entry_set_init (check_set_init_1 hT ?_)) λp i d=>?_
   ·obtain⟨ol,u,L,nl,I⟩:=id hl;obtain⟨ocls,j,O,f⟩:=ol;simp only at L I;subst L;subst I;have q:(s.heap.push {cls:=.type "set",dict:=none,data:=.set #[] 0 (.fresh 0 0 led)}).get? l=some {cls:=.type "tuple",dict:=j,data:=.seq (vI kt).toArray nl,slots:=f}:=P1 _ u;have hsls:=F.sub_tuple_set;have hslf:=F.sub_tuple_frozenset;have hne:(XZ "tuple"==XZ "dict")=false:=by decide
    have H:(s.heap.push {cls:=.type "set",dict:=none,data:=.set #[] 0 (.fresh 0 0 led)}).IsTuple l (vI kt).toArray:=⟨_,q,rfl,nl,rfl⟩
    unfold Sd.«set.__init__» noKeywords Zr;generalize hPI:W0=PI
    wp_walk
    subst hPI;refine X3 H ?_;refine PZ (ZZ ?_);have C:l<s.heap.objs.size:=Qc u;have hh3:A.in1.in1.in1.handled=none:=by simp[hh]
    have x:l≠(s.heap.push {cls:=.type "set",dict:=none,data:=.set #[] 0 (.fresh 0 0 led)}).objs.size:=by
     rw[Ss];exact Qp (Sw C)
    have hSI:s.heap.objs.size≠(s.heap.push {cls:=.type "set",dict:=none,data:=.set #[] 0 (.fresh 0 0 led)}).objs.size:=by
     rw[Ss];exact Qp (Rn _)
    subst z;refine w8 hh3 x hSI (Tj C) hn kt [] [] 0 _ rfl la rfl ⟨_,P1 _ hS,⟨rfl,rfl,rfl⟩,rfl⟩ ⟨_,P8 _ rfl,rfl,rfl⟩ (H.push _) λh' tk ep o o2 kp=>?_;show Qa _ _ _ _ _ _;refine P2 ?_;show Qa _ _ (ret QN) _ _ _;refine P2 ⟨rfl,h',tk,ep,rfl,o,o2,λb o e=>?_⟩;have hb:=Qc e;exact kp b o (Qp hb) (by rw[Ss];exact Qp (Sw hb)) (P1 _<|P1 _ e)
   ·cases p with
    | error e=>exact d
    | ok m=>
     cases m with
     | ret r=>
      obtain⟨rfl,h',tk,ep,rfl,hS',hS2,Z⟩:=d
      repeat (any_goals (first | assumption | wp_step))
      exact h _ _ _ hS' hS2 Z
     | _=>exact d.elim
  | _=>exact U.elim
end
def yX(w:Q4)(a:P3)(ks:List Int):HO:=.ext λh=>∃kt ps ep,kt.map SH=ks/\k9 w h a kt ps ep/\ps.length=kt.length/\lh ps
def xa(ks:List Int):Prop:=ks.Nodup/\∃ps,qy [] ks ps/\lh ps
def xb(ks:List Int):Prop:=ks.length≤7/\∀kz,kz∈ks::l6 ks.length ks->∀H,ft H (kz.map V.int) (kz.map V.int) (ks.map V.int)
def EY(w:Q4):List V->Hp->VK->Prop:=λvs H Q=>∃a ks,vs=[.ref a]/\H a=some (.tup<|ks.map V.int)/\xa ks/\∀p,H p=none->Q (.ref p) (upd H p<|yX w p ks)
def yY(w:Q4):List V->Hp->VK->Prop:=λvs H Q=>∃a ks,vs=[.ref a]/\H a=some (yX w a ks)/\xb ks/\∀p,H p=none->Q (.ref p) (upd H p<|.lst<|ks.map V.int)
theorem AB:∀{ks:List Int} {us:List P0},aJ (ks.map V.int) us->∃kt:List (Int×Tok),kt.map SH=ks/\us=vI kt
 | [],_,r=>by cases r;exact⟨[],rfl,rfl⟩
 | k::ks,_,r=>by
  cases r with
  | cons r0 c=>
   obtain⟨t,rfl⟩:=r0;obtain⟨kt,rfl,rfl⟩:=AB c;exact⟨(k,t)::kt,rfl,rfl⟩
theorem xf:∀{l:List (Int×Tok)} {us:List P0},us.length=l.length->(∀(i:Nat) v,us[i]?=some v->∃p,l[i]?=some p/\v=.int p.1 p.2)->aJ ((l.map SH).map V.int) us
 | [],us,e,_=>by cases us with
  | nil=>exact .nil
  | cons _ _=>simp at e
 | p::l,us,e,h=>by cases us with
  | nil=>simp at e
  | cons u us=>
   obtain⟨q,c,rfl⟩:=h 0 u rfl;simp at c;subst c;exact .cons ⟨p.2,rfl⟩ (xf (by simpa using e) λi v d=>by simpa using h (i+1) v (by simpa using d))
section
theorem Ck(p:X.calm=true):cZ X (.type "set") (EY X.w):=by
 intro pins s σ H xs us Q I r h;obtain⟨a,ks,rfl,x,⟨hn,ps,m,d⟩,q⟩:=h;obtain⟨u,rfl,j⟩:=iW r;cases j;obtain⟨z,its,i,f⟩:=I.hok a _ x;obtain⟨kt,rfl,rfl⟩:=AB i;refine vb (I.ok.hd p) f hn m λh' tk ep o c kp=>?_;refine⟨.ref s.heap.objs.size,_,I.laid (a:=s.heap.objs.size) (h':=h') (o:=yX X.w s.heap.objs.size (kt.map SH)) (t':=tk) kp (Qi _) ⟨⟨kt,ps,ep,rfl,o,c,d⟩,let ⟨ob,ho,_⟩:=o;⟨ob,ho⟩,λh1 L ⟨kt,ps,ep,C,o,c,l⟩ e=>⟨kt,ps,ep,C,o.at e,c,l⟩⟩,rfl,q _<|I.hok.fresh<|Qi _⟩
theorem yZ(L:X.calm=true):cZ X (.builtin "sorted") (yY X.w):=by
 intro pins s σ H xs us Q I r h;obtain⟨a,ks,rfl,O,⟨d,j⟩,q⟩:=h;obtain⟨u,rfl,l⟩:=iW r;cases l;obtain⟨⟨kt,ps,ep,rfl,o,z,f⟩,_⟩:=I.hok a _ O;rw[QI] at d;have c:=EV (w:=X.w) (a:=a) (ep:=ep) (kt:=kt);have len:=u9 (w:=X.w) (a:=a) (ep:=ep) (kt:=kt);refine qt (ys:=((lg X.w a ep kt).map SH).map V.int) (out:=(kt.map SH).map V.int) L I ?_ (by simp[len];omega) (j _ (by rw[QI];exact c) H) q;intro A Q E C q;refine kdu_collect (Ho (prog:=X.prog) (w:=X.w) (kt:=kt) (ps:=ps) (ep:=ep) z d f) C o (by rw[Q6];omega) λh' tk acc kp m=>?_;refine q _ h' tk ?_ kp;obtain⟨x,p⟩:=m;exact xf (by rw[QL,x,len]) λi v e=>p i v (by rw[<-Sh];exact e)
theorem xa.one(k:Int):xa [k]:=⟨by simp,_,.cons (ET _) (by simp) .nil,EW _⟩
theorem xb.one(k:Int):xb [k]:=⟨by simp,λkz m H=>.inl (by
 have:kz=[k]:=by
  rcases Qm.mp m with m | m
  ·exact m
  ·simpa[l6] using m
 subst this;simp)⟩
theorem cr{a b:Bool}(h:(a&&b)=true):a=true/\b=true:=by simpa using h
def Cl(led:Bool)(ps:List Nat)(h:Int)(j:Nat):Bool:=match (iy led ps).freeSlot h with
 | some (c,false)=>Qn c j&&Qn (QY ps.toArray j) ps.length
 | _=>false
def Hq:List Nat->List Int->Option (List Nat)
 | ps,[]=>some ps
 | ps,k::ks=>match (iy true ps).freeSlot (Uw k) with
  | some (j,_)=>match Cl true ps (Uw k) j&&Cl false ps (Uw k) j&&QV ps.length 3 with
   | true=>Hq (ps++[j]) ks
   | false=>none
  | none=>none
def Lc(ps:List Nat):Nat->List Nat->Bool
 | _,[]=>true
 | i,j::c=>Qn (QY ps.toArray<|j+1) (i+1)&&Lc ps (i+1) c
def Ld(ks kz:List Int):Bool:=match rV (wR false kz) (ZT kz.length) with
 | some p=>p.toList.all (λi=>RZ i kz.length)&&decide (p.toList.map (λi=>kz.getD i 0)=ks)&&QV p.toList.length 64
 | none=>false
def Le:List Int->Bool
 | []=>true
 | k::ks=>ks.all (λz=>!(decide<|k=z))&&Le ks
def Lf(ks:List Int):Bool:=QV 2 ks.length&&QV ks.length 7&&Le ks&&(match Hq [] ks with
 | some ps=>Qn (QY ps.toArray 0) 0&&Lc ps 0 ps
 | none=>false)&&(ks::l6 ks.length ks).all (Ld ks)
theorem Hr{ps:List Nat}{h:Int}{j:Nat}(h1:Cl true ps h j=true)(c:Cl false ps h j=true):tS ps h j:=by
 have:∀led,Cl led ps h j=true->(iy led ps).freeSlot h=some (j,false)/\QY ps.toArray j=ps.length:=λled q=>by
  unfold Cl at q;split at q
  ·rename_i d e;obtain⟨a,b⟩:=cr q;rw[e,Qh a];exact⟨rfl,Qh b⟩
  ·cases q
 intro led;cases led
 ·exact this _ c
 ·exact this _ h1
theorem AC:∀{ks:List Int} {ps qs:List Nat},Hq ps ks=some qs->qy ps ks qs
 | [],ps,qs,e=>by cases e;exact .nil
 | k::ks,ps,qs,e=>by
  unfold Hq at e;split at e
  ·split at e
   ·rename_i q;obtain⟨q,c⟩:=cr q;obtain⟨q1,q2⟩:=cr q;exact .cons (Hr q1 q2) (Rw c) (AC e)
   ·cases e
  ·cases e
theorem AD{ps:List Nat}:∀{c:List Nat} {i:Nat},Lc ps i c=true->∀n j,c[n]?=some j->QY ps.toArray (j+1)=i+n+1
 | [],_,_,n,j,e=>by simp at e
 | j0::c,i,h,n,j,e=>by
  obtain⟨h1,d⟩:=cr h;cases n with
  | zero=>simp at e;subst e;exact Qh h1
  | succ n=>
   have:=AD d n j (by simpa using e);omega
theorem AE:∀{ks:List Int},Le ks=true->ks.Nodup
 | [],_=>Tf
 | k::ks,h=>by
  obtain⟨h1,c⟩:=cr h;refine RQ.mpr ⟨λm=>?_,AE c⟩;have:=TY.mp h1 k m;simp at this
theorem xg{H:Hp}:∀(kz:List Int),Cb H false kz (kz.map V.int)
 | []=>.nil
 | _::kz=>.cons rfl (xg (H:=H) kz)
theorem Hs{ks kz:List Int}(f:2≤kz.length)(h:Ld ks kz=true)(H:Hp):ft H (kz.map V.int) (kz.map V.int) (ks.map V.int):=by
 unfold Ld at h;split at h
 ·rename_i p e;obtain⟨h,d⟩:=cr h;obtain⟨h0,h1⟩:=cr h;refine .inr ⟨by simpa using f,false,kz,p,xg kz,by simpa using e,by rw[<-QL];exact Rw d,?_⟩;rw[<-of_decide_eq_true h1,TZ];refine Vs λi m=>?_;have c:i+1≤kz.length:=Rw (TY.mp h0 i m);have c:i<kz.length:=c;simp[RC,QA c]
 ·cases h
theorem AF{ks:List Int}(h:Lf ks=true):xa ks/\xb ks:=by
 unfold Lf at h;obtain⟨h,d⟩:=cr h;obtain⟨h,c⟩:=cr h;obtain⟨h,f⟩:=cr h;obtain⟨h1,l⟩:=cr h;have h1:2≤ks.length:=Rw h1;split at c
 ·rename_i ps e;obtain⟨p,o⟩:=cr c;refine⟨⟨AE f,ps,AC e,Qh p,λi j q=>by simpa using AD o i j q⟩,Rw l,λkz m H=>Hs ?_ (TY.mp d kz m) H⟩;rcases Qm.mp m with rfl | m
  ·exact h1
  ·rw[yW _ _ _ m];exact h1
 ·cases c
end
end L2
namespace RB
open PySem L2
def Oh:List AV->Option (List Int)
 | []=>some []
 | .int false lo c::xs=>match decide (lo=c),Oh xs with
  | true,some ks=>some (lo::ks)
  | _,_=>none
 | _=>none
def EZ(a:BE):BE:=λσ S k=>a σ S λx S1=>match x with
 | .tc (.int s lo c) .tn=>k (.ref S1.n) (S1.add<|.lst [.int s lo c])
 | _=>match lT x with
  | some xs=>match Oh xs with
   | some ks=>match Lf ks with
    | true=>k (.ref S1.n) (S1.add<|.lst xs)
    | false=>false
   | none=>false
  | none=>false
theorem E1{F:Fx}{y:Option Int}{ρ:List P3}{H:Hp}:∀{xs:List AV} {ks:List Int} {vs:List V},Oh xs=some ks->aQ F y ρ H xs vs->vs=ks.map V.int
 | [],ks,_,e,.nil=>by cases e;rfl
 | x::xs,ks,_,e,.cons r t=>by
  cases x with
  | int s lo f=>
   cases s with
   | true=>cases e
   | false=>
    unfold Oh at e;split at e
    ·rename_i d q1 q2;cases e;obtain⟨z,rfl,c⟩:=aZ.mp r;rw[E1 q2 t];have:=of_decide_eq_true q1;subst this;have:z=lo:=by have:=c.1;have:=c.2;omega
     rw[this];rfl
    ·cases e
  | _=>cases e
section
variable{e:Qv}{ba:BE}
theorem y8(h:PE X e (J9 (yY w)<|j9 (J9 (EY w)<|j9 (up g ba) mF) mF)):PE X e (up g<|EZ ba):=by
 refine PE.imp (λσ H Q hx=>eO hx λF y ρ S Z k C r h p=>?_) h;refine ar C r h λd c S1 H1 ax x st C1 r1 L h1=>?_;have fin:∀(xs:List AV) (ks:List Int) (a:P3),x=.ref a->H1 a=some (.tup<|ks.map V.int)->aQ F d c H1 xs (ks.map V.int)->xa ks->xb ks->k (.ref S1.n) (S1.add<|.lst xs)=true->(J9 (EY w) (λσ H Q=>Q [x] H):TE) σ H1 λv H2=>yY w [v] H2 Q:=λxs ks a ex m f so sr hk=>by
  subst ex;refine⟨a,ks,rfl,m,so,λpl U=>⟨pl,ks,rfl,aA,sr,λI l=>?_⟩⟩;have j:aB F d c H1 d c (upd H1 pl<|yX w pl ks):=aB.lay U;have C2:aI g F d c S1 (upd H1 pl<|yX w pl ks):=C1.lay U;have i:aB F d c (upd H1 pl<|yX w pl ks) d (c++[I]) (upd (upd H1 pl<|yX w pl ks) I<|.lst<|ks.map V.int):=aB.add l;exact p d _ _ _ (.ref S1.n) _ ((st.trans j).trans i) (C2.add (o:=.lst xs) l ⟨_,rfl,aQ.mono (j.trans i) f⟩) ⟨I,by rw[C1.n];simp,rfl⟩ hk
 split at h1
 ·rename_i s lo Y;obtain⟨a,vs,rfl,m,f⟩:=aT.chain_of (xs:=[.int s lo Y]) L;cases f with | cons r0 t=>cases t with | nil=>
  have u:=r0;obtain⟨z,rfl,bz⟩:=aZ.mp r0;exact fin [.int s lo Y] [z] a rfl m (.cons u .nil) (.one z) (.one z) h1
 ·split at h1
  ·rename_i xs q;obtain⟨a,vs,rfl,m,f⟩:=gR L q;split at h1
   ·rename_i ks q2;split at h1
    ·rename_i O;have:=E1 q2 f;subst this;exact fin xs ks a rfl m f (AF O).1 (AF O).2 h1
    ·cases h1
   ·cases h1
  ·cases h1
end
end RB
namespace L2
open PySem PySem.Spec PyProof.Rows PySem.W
theorem l7{c d:Type}[DecidableEq c]{k:c}:∀{xs:List (c×d)} {j:Nat} {p:d},(xs.map (·.1)).Nodup->xs[j]?=some (k,p)->xs.eraseIdx j=xs.filter λx=>decide (x.1≠k)
 | [],j,p,_,e=>by simp at e
 | x::r,0,p,hn,e=>by
  simp at e;subst e;rw[Qx,RQ] at hn;rw[List.eraseIdx_zero,List.tail_cons,SE];rw[if_neg (by simp)];symm;rw[List.filter_eq_self];intro x h;have:x.1≠k:=λz=>hn.1 (by rw[<-z];exact RS.mpr ⟨x,h,rfl⟩);simp[this]
 | x::r,j+1,p,hn,e=>by
  rw[Qx,RQ] at hn;have f:r[j]?=some (k,p):=by simpa using e
  have ne:x.1≠k:=λz=>hn.1 (by rw[z];exact RS.mpr ⟨(k,p),QB f,rfl⟩);rw[Ur,SE,if_pos (by simp[ne]),l7 hn.2 f]
theorem tU{c d:Type}(f:c->d):∀(l:List c) (j:Nat),(l.map f).eraseIdx j=(l.eraseIdx j).map f
 | [],_=>rfl
 | _::_,0=>rfl
 | x::l,j+1=>by simp[Ur,tU f l j]
theorem KT.drop{kvs:List (List bj×V)}{xs:List (List bj×P3×P0)}(r:KT H kvs xs)(k:List bj):KT H (ij kvs k) (xs.filter λx=>decide (x.1≠k)):=by
 induction r with
 | nil=>exact .nil
 | @cons p q ps qs h t c=>
  unfold ij;rw[SE,SE];have e:q.1=p.1:=h.1.symm;rw[e];by_cases z:p.1=k
  ·simp only[z,ne_eq,not_true,decide_false];exact c
  ·simp only[z,ne_eq,not_false_eq_true,decide_true,if_true];exact .cons h c
section
variable{κ:Type}[DecidableEq κ]{knd:HeapKind prog w κ}
theorem vc{d a:P3}{xs:List (κ×P3×P0)}{k:κ}{Q:Option SS->P5->Prop}(q:knd.room A)(c:knd.is s.heap k a)(u:s.heap.DictOfH knd d xs)(r:(XQ xs k).isSome=true)(hsz:xs.length≤Qf)
  (hQ:∀e h' o es ep,h'.get? d=some o->o.ExactDict->o.data=.dict es ep->es.toList=(xs.filter λx=>decide (x.1≠k)).map (Zx knd)->RP d s.heap h'->Q (some e) {s with heap:=h',toks:=s.toks+knd.draws k}) :
  Qa (Qd prog w) A (Vh d<|.ref a) Q E s:=by
 obtain⟨o,es,ep,ho,C,hd,he,i,hn⟩:=u;unfold Vh
 try with_reducible refine QG ?_
 refine PZ (knd.pyHash q c<|PZ<|wpAny_dictFind_heap (s:={s with toks:=s.toks+knd.draws k}) q c ho hd he i hn ?_ ?_)
 ·intro f;rw[atKey_none_of_get f] at r;cases r
 ·intro j p h;refine PZ (UJ (s:={s with toks:=s.toks+knd.draws k}) ho hd ?_);rw[entry_at he j,h];have m:es.size≤Qf:=by have e:=Zs he;omega
  refine PZ (wpAny_updateDictKeys (hz:=m) (s:={s with toks:=s.toks+knd.draws k}) ho hd<|P2<|hQ _ _ _ _ (ep+1) (RJ _ ho<|Obj.isFreed_of_dict<|Xh hd _) (C.mapDictKeys _) (Xh hd _) ?_<|XC ..);rw[<-l7 hn h];have z:j<es.size:=by rw[Zs he];exact(P9.mp h).1
  have H:(es.eraseIdxIfInBounds j).toList=es.toList.eraseIdx j:=by
   obtain⟨l⟩:=es;simp
  rw[H,he];exact tU _ xs j
end
section
variable{σ:L2.St}{a b:P3}{kvs:List (List bj×V)}{k:List bj}
theorem y9{Q:Unit->P5->Prop}(m:A.units+1<R0)(I:ay X pins σ H s)(e:H a=some (.dT kvs))(r:H b=some (.tup<|k.map kV))(l:(c7 kvs k).isSome=true)(h:∀s',ay X pins σ (upd H a<|.dT<|ij kvs k) s'->Q () s') :
  Qa (Qd X.prog X.w) A (delItem (.ref a)<|.ref b) Q E s:=by
 obtain⟨z,hd,xs,d,dd⟩:=I0 I.hok e;have p:(XQ xs k).isSome=true:=by
  have q:=(d.val k).isSome_eq;rw[UF] at q;rw[<-q];exact l
 have hz:xs.length≤Qf:=by rw[<-QP d];exact z
 refine Yb dd.typeIs (by decide) SM (Ro SM dd.typeIs VL ?_<|Vu _ _);unfold Sd.«dict.__delitem__»;refine PZ ?_;unfold aa5;refine PZ (WT dd.typeIs ?_);show Qa _ _ (pure (Qo a,Qo b)) _ _ s;refine P2 ?_;show Qa _ _ (Vh a (.ref b) >>= _) _ _ s;refine PZ (vc (Sl m) (L2.dv I.hok r) dd p hz λO h' o es ep i L C u j=>?_);refine PZ (W5<|P2 ⟨.none,rfl,h _ ?_⟩);have hn:((xs.filter λx=>decide (x.1≠k)).map (·.1)).Nodup:=by
  obtain⟨_,_,_,_,_,_,_,_,hn⟩:=dd;exact af5 (ag1 _ List.filter_sublist) hn
 refine jP I (by rw[e];exact RU) j ⟨o,i⟩ ⟨Rg (v9 kvs k) z,hd,_,(KT.drop d k).keeps λc ys f=>?_,o,es,ep,i,L,C,u,hn⟩;rw[al (IQ f e<|λz=>nomatch z)];exact f
end
def Ni(H:Hp)(a:P3)(y:V)(c:Hp):Prop :=
 (∃kvs k,H a=some (.dK kvs)/\y=kV k/\(c7 kvs k).isSome=true/\c=upd H a (.dK<|ij kvs k)) ∨
 ∃kvs k b,H a=some (.dT kvs)/\y=.ref b/\H b=some (.tup<|k.map kV)/\(c7 kvs k).isSome=true/\c=upd H a (.dT<|ij kvs k)
def Lg(d ty:TE):TS:=λD σ H=>d σ H λx H1=>ty σ H1 λy f=>∃a c,x=.ref a/\Ni f a y c/\D.nx σ c
theorem E2{o i:Qv}{pos c:Pos}{f ty:TE}(z:X.A.units+1<R0)(ho:PE X o f)(C:PE X i ty):PS X (.Delete [.Subscript o i c] pos) (Lg f ty):=by
 intro pins s σ H D I h;refine wpAny_Delete (wpAny_deleteEach_cons<|wpAny_delete_Subscript<|bv (ho pins s σ H _ I h) λu q d=>de d λx H1 I1 r q1=>bv (C pins q σ H1 _ I1 q1) λiv O d=>?_);obtain⟨y,Q,m,j,a,U,ex,g,q2⟩:=d;subst ex;obtain rfl:u=Qo a:=r;rcases g with ⟨kvs,k,e,rfl,l,rfl⟩ | ⟨kvs,k,b,e,rfl,L,l,rfl⟩
 ·exact Bm m e j l λp I3=>Xi ⟨σ,_,I3,q2⟩
 ·cases(show iv=Qo b from j);exact y9 z m e L l λp I3=>Xi ⟨σ,_,I3,q2⟩
end L2
namespace RB
open PySem L2
def AG(S:aM)(x y:AV):Option aM:=match x with
 | .ref n=>match S.t.get n with
  | some (.dk kvs)=>match f6 y with
   | true=>match er kvs y with
    | some _=>some (S.set n<|.dk<|nM kvs y)
    | none=>none
   | false=>none
  | some (.dt kvs)=>match fS y with
   | true=>match er kvs y with
    | some _=>some (S.set n<|.dt<|nM kvs y)
    | none=>none
   | false=>none
  | _=>none
 | _=>none
def Jy(a b:BE):BS:=λd σ S=>a σ S λx S1=>b σ S1 λz f=>match AG f x z with
 | some c=>d.nx σ c
 | none=>false
section
variable{S:aM}
theorem E3(C:aI g F y ρ S H){ax m:AV}{x k:V}(I:aT F y ρ H ax x)(L:aT F y ρ H m k){O:aM}(h:AG S ax m=some O) :
  ∃a u,x=.ref a/\Ni H a k u/\aB F y ρ H y ρ u/\aI g F y ρ O u:=by
 unfold AG at h;split at h
 ·rename_i n;split at h
  ·rename_i kvs q;split at h
   ·rename_i q2;split at h
    ·rename_i v p;cases h;obtain⟨a,ks,rfl,c,d,i⟩:=C.dk I q;obtain⟨j,l,rfl⟩:=RB.dv q2 L;have st:aB F y ρ H y ρ (upd H a<|.dK<|ij ks j):=aB.set C c d;obtain⟨l1,U⟩:=ip (KR:=gF) (R:=aT F y ρ H) (λ_ _ _ _ h1 f=>gQ h1 f) l i;obtain⟨Q,r,_⟩:=l1 v p;refine⟨a,_,rfl,.inl ⟨ks,j,d,rfl,by rw[r];rfl,rfl⟩,st,C.set c d (o:=.dk (nM kvs m)) (ob:=⟨_,rfl,?_⟩)⟩;exact lS (KR:=gF) (R:=aT F y ρ _) (λ_ _ _ _ h1 f=>gQ h1 f) l (aV (λ_ _ z=>⟨z.1,aT.mono st z.2⟩) i)
    ·cases h
   ·cases h
  ·rename_i kvs q;split at h
   ·rename_i q2;split at h
    ·rename_i v p;cases h;obtain⟨a,ks,rfl,c,d,i⟩:=C.dt I q;obtain⟨j,b,l,rfl,hb⟩:=uQ q2 L;have st:aB F y ρ H y ρ (upd H a<|.dT<|ij ks j):=aB.set C c d;obtain⟨l1,U⟩:=ip (KR:=gM) (R:=aT F y ρ H) (λ_ _ _ _ h1 f=>jv h1 f) l i;obtain⟨Q,r,_⟩:=l1 v p;refine⟨a,_,rfl,.inr ⟨ks,j,b,d,rfl,hb,by rw[r];rfl,rfl⟩,st,C.set c d (o:=.dt (nM kvs m)) (ob:=⟨_,rfl,?_⟩)⟩;exact lS (KR:=gM) (R:=aT F y ρ _) (λ_ _ _ _ h1 f=>jv h1 f) l (aV (λ_ _ z=>⟨z.1,aT.mono st z.2⟩) i)
    ·cases h
   ·cases h
  ·cases h
 ·cases h
end
section
variable{o i:Qv}{ba bb:BE}{pos tpos:Pos}
theorem vf(Z:X.A.units+1<R0)(ho:PE X o (up g ba))(hi:PE X i (up g bb)):PS X (.Delete [.Subscript o i tpos] pos) (dw g<|Jy ba bb):=by
 refine PS.imp (λD σ H Y=>yr Y λF y ρ S l d C r h p _=>?_) (E2 Z ho hi);refine ar C r h λy1 u S1 H1 ax x st C1 U O h1=>ar C1 U h1 λI ρ2 S2 H2 az z f C2 Q L j=>?_;cases q:AG S2 ax az with
 | none=>simp only[q] at j;cases j
 | some S4=>
  simp only[q] at j;obtain⟨a,m,rfl,dp,c,C4⟩:=E3 C2 (aT.mono f O) L q;exact⟨a,m,rfl,dp,p I ρ2 S4 m l σ ((st.trans f).trans c) C4 (bF.mono c Q) j⟩
end
end RB
namespace RB
open PySem PySem.Spec PyProof.Rows L2
def E4(i:Nat):List Nat->Bool
 | []=>false
 | j::r=>match Qn j i with
  | true=>true
  | false=>E4 i r
def E5(K:P7)(mg:Str->Option P0)(nm:Str)(tab:List Nat):Prop :=
 ∃a o its n,mg nm=some (.ref a)/\K.lookup a=some o/\o.cls=.type "tuple"/\o.data=.seq its n/\its.size≤Qf/\Paired (λi u=>∃x t,bd[i]?=some x/\u=.str x t) tab its.toList
def Nj(neg:Bool)(tab:List Nat)(a:BE):BE:=λσ S k=>a σ S λx S1=>match x with
 | .str i=>k (.bl (match neg with
  | true=>!E4 i tab
  | false=>E4 i tab)) S1
 | _=>false
theorem tV:∀{tab:List Nat} {us:List P0},Paired (λi u=>∃x t,bd[i]?=some x/\u=.str x t) tab us->∃xs:List Str,Paired (λi x=>bd[i]?=some x) tab xs/\aJ (xs.map V.str) us
 | _,_,.nil=>⟨[],.nil,.nil⟩
 | _,_,.cons ⟨x,t,f,d⟩ r=>by
  obtain⟨xs,h1,c⟩:=tV r;exact⟨x::xs,.cons f h1,.cons ⟨t,d⟩ c⟩
theorem AH{i:Nat}{x:Str}(c:bd[i]?=some x):∀{tab:List Nat} {xs:List Str},Paired (λi x=>bd[i]?=some x) tab xs->F5 (.str x) (xs.map V.str)=E4 i tab
 | _,_,.nil=>rfl
 | j::tab,_,.cons (b:=z) e r=>by
  have d:=AH c r;unfold F5 at d ⊢;unfold E4;rw[Qx,T9,d,gE];by_cases q:j=i
  ·subst q;rw[c] at e;cases e;simp[xM]
  ·have:¬z=x:=λw=>q (by subst w;exact dU e c);simp[q,xM,this]
theorem Cm(xs:List Str):(xs.map V.str).all eR=true:=by
 induction xs with
 | nil=>rfl
 | cons x r c=>rw[Qx,So,c];rfl
section
variable{a b c e o i:Qv}{ba bb bc:BE}{bt:BT}{br bk:BA}{s1 s2:BS}{pos p:Pos}{es rest:List Qv}{nm:Str}{tab:List Nat}
theorem Ht{neg:Bool}{mg:Str->Option P0}{av:P3}{ob:Obj}{its:Array P0}{n:Nat}(h1:K.lookup av=some ob)(U:ob.cls=.type "tuple")(O:ob.data=.seq its n)(L:its.size≤Qf)(I:Paired (λi u=>∃x t,bd[i]?=some x/\u=.str x t) tab its.toList) :
  ∀σ H Q,up g (Nj neg tab ba) σ H Q->J0 (OD K neg) (up g ba) (tC<|.ref av) σ H Q:=λσ H Q q=>eO q λF y ρ S j k C r h p=>
 ar C r h λl d S1 H1 ax x st C1 Y m f=>by
  split at f
  ·rename_i i;obtain⟨z,e,rfl⟩:=m;obtain⟨xs,q1,q2⟩:=tV I;refine⟨av,xs.map V.str,rfl,.inr<|.inr ⟨ob,its,n,h1,U,O,L,q2⟩,rfl,Cm xs,?_⟩;rw[AH e q1];refine p l d S1 H1 (.bl _) _ st C1 ?_ f;cases neg<;>rfl
  ·cases f
theorem vg(f:Gl X nm)(T:E5 X.K X.mg nm tab)(h:PE X a (up g ba))(d:Rt .NotIn (.Name nm p)=false)(hd:(nm==("__debug__":Str))=false:=by decide):PT X (.Compare a [.NotIn] [.Name nm p] pos) (fP g<|bB<|Nj true tab ba):=by
 obtain⟨av,ob,its,n,h0,h1,q,m,l,j⟩:=T;exact PT.imp (fB<|Ht (mg:=X.mg) h1 q m l j) (uy lF h (zr f h0 rfl hd) d)
def Hu(gy:Gy):AV->P0->Prop
 | .str i,u=>∃x t,bd[i]?=some x/\u=.str x t
 | .ext j,u=>j<11/\u=.ref (gy.fe j)
 | _,_=>False
def Hv(P:QK)(w:Q4)(K:P7)(mg:Str->Option P0)(gy:Gy)(nm:Str)(tab:List (AV×AV)):Prop :=
 ∃a vs,mg nm=some (.ref a)/\(∀h,K.In h->h.DictOf (aY P w) a vs)/\Paired (λ(p:AV×AV) (q:bj×P0)=>gF p.1 q.1/\Hu gy p.2 q.2) tab vs
def Nk(tab:List (AV×AV))(a:BE):BE:=λσ S k=>a σ S λx S1=>match f6 x with
 | true=>match er tab x with
  | some v=>k v S1
  | none=>false
 | false=>false
theorem Jz{gy:Gy}{m:AV}{d:bj}(f:gF m d):∀{tab:List (AV×AV)} {vs:List (bj×P0)} {av:AV},Paired (λ(p:AV×AV) (q:bj×P0)=>gF p.1 q.1/\Hu gy p.2 q.2) tab vs->er tab m=some av->∃u,U2 vs d=some u/\Hu gy av u
 | _,_,_,.nil,h=>by cases h
 | _,_,av,.cons (a:=(l,w)) (b:=(r,v)) hd tl,h=>by
  obtain⟨h1,j⟩:=hd;dsimp only at h1 j;unfold er at h;rw[gQ h1 f] at h;by_cases q:r=d
  ·subst q;simp at h;subst h;exact⟨v,by simp[U2],j⟩
  ·simp[q] at h;obtain⟨u,e1,x⟩:=Jz f tl h;exact⟨u,by rw[<-e1];simp[U2,SC,q],x⟩
theorem AI(hg:Gl X nm){tab:List (AV×AV)}(T:Hv X.prog X.w X.K X.mg g.toGy nm tab)(hi:PE X i (up g bb))(hs:DE i)(hd:(nm==("__debug__":Str))=false:=by decide):PE X (.Subscript (.Name nm p) i pos) (up g<|Nk tab bb):=by
 obtain⟨av,vs,h0,h1,h2⟩:=T;rintro pins s σ H Q I ⟨F,y,ρ,S,σa,k,C,r,h,pp⟩;refine uC T7.lookup hs (dM I hg h0 ?_ hd);refine bv (hi pins s σ H (λx H1=>∃d v u,x=kV d/\U2 vs d=some u/\aN v u/\Q v H1) I<|ar C r h λZ l S1 H1 ax x st C1 r1 L f=>?_) λiv s1 ⟨x,H1,I1,L,d,v,u,ex,m,ru,q⟩=>?_
 ·split at f
  ·rename_i q1;split at f
   ·rename_i v q2;obtain⟨d,O,rfl⟩:=RB.dv q1 L;obtain⟨u,m,Y⟩:=Jz O h2 q2;cases v with
    | str j=>
     obtain⟨z,t,U,rfl⟩:=Y;exact⟨d,.str z,_,rfl,m,⟨t,rfl⟩,pp Z l S1 H1 (.str j) _ st C1 ⟨z,U,rfl⟩ f⟩
    | ext j=>
     obtain⟨U,rfl⟩:=Y;exact⟨d,.ref<|g.fe j,_,rfl,m,rfl,pp Z l S1 H1 (.ext j) _ st C1 (C1.fe j U).symm f⟩
    | _=>exact Y.elim
   ·cases f
  ·cases f
 ·subst ex;have dd:=h1 _ I1.kIn;exact⟨dd.typeIs,YS (jo L) dd.mapOf m ⟨v,H1,I1.tok _,ru,q⟩⟩
def Hw:List (Option BF)->Nat->Option BF
 | [],_=>none
 | x::r,n=>match n with
  | 0=>x
  | n+1=>Hw r n
def Lh(n:Nat)(fs:List (Option BF))(a:BE)(r:BA):BE:=λσ S k=>a σ S λx S1=>match x with
 | .ext j=>match Hw fs j with
  | some f=>r σ S1 λxs d=>nJ n f xs d k σ.ke
  | none=>false
 | _=>false
end
abbrev Pu(F:Fx)(y:Option Int)(ρ:List P3)(H:Hp):List (AV×AV)->List (V×V)->Prop:=Paired λp q=>aT F y ρ H p.1 q.1/\aT F y ρ H p.2 q.2
def PP(g:Gx)(b:BP)(σ:L2.St)(H:Hp)(Q:List (V×V)->Hp->Prop):Prop:=∃F y ρ S d k,aI g F y ρ S H/\bF g F y ρ H d σ/\b d S k=true/\∀i c j h f ps,aB F y ρ H i c h->aI g F i c j h->Pu F i c h f ps->k f j=true->Q ps h
def Oi(X:Cx)(g:Gx)(pos:Pos)(keys:List (Option Qv))(c:List Qv)(b:BP):Prop:=∃d,MF X pos keys c d/\∀σ H Q,PP g b σ H Q->pM d σ H Q
def l8:List (AV×AV)->Bool
 | []=>true
 | (k,_)::r=>f6 k&&l8 r
def qA(kvs:List (AV×AV)):List (AV×AV)->List (AV×AV)
 | []=>kvs
 | (k,v)::r=>qA (rN kvs k v) r
def xh(b:BP):BE:=λσ S k=>b σ S λc S1=>match l8 c&&QV c.length 15 with
 | true=>k (.ref S1.n) (S1.add<|.dk<|qA [] c)
 | false=>false
section
variable{a b c e o i:Qv}{ba bb bc:BE}{bt:BT}{br bk:BA}{s1 s2:BS}{pos p:Pos}{es rest:List Qv}
theorem l9:Oi X g pos [] [] wJ:=⟨[],zN,λσ H Q f=>eO f λF y ρ S d k C r h p=>p y ρ S H [] [] .refl C .nil h⟩
theorem cM{ks:List (Option Qv)}{vs:List Qv}{I:BP}(hk:PE X a (up g ba))(hv:PE X b (up g bb))(hr:Oi X g pos ks vs I):Oi X g pos (some a::ks) (b::vs) (hU ba bb I):=by
 obtain⟨m,h1,h2⟩:=hr;refine⟨(up g ba,up g bb)::m,pN hk hv h1,λσ H Q hx=>eO hx λF y ρ S j k C r h p=>?_⟩;refine ar C r h λy1 L S1 H1 ax x st C1 r1 Z h1=>ar C1 r1 h1 λU ρ2 S2 H2 az z f C2 r2 Y q=>?_;refine h2 σ H2 _ ⟨F,U,ρ2,S2,j,_,C2,r2,q,λO l S3 H3 u ps d C3 r3 h3=>?_⟩;exact p O l S3 H3 ((ax,az)::u) ((x,z)::ps) ((st.trans f).trans d) C3 (.cons ⟨aT.mono (f.trans d) Z,aT.mono d Y⟩ r3) h3
theorem xi{F:Fx}{y:Option Int}{ρ:List P3}{H:Hp}:∀{d:List (AV×AV)} {ps:List (V×V)},Pu F y ρ H d ps->l8 d=true->∃kvs:List (bj×V),ps=kvs.map (λkv=>(kV kv.1,kv.2))/\B9 F y ρ H d kvs
 | _,_,.nil,_=>⟨[],rfl,.nil⟩
 | (m,l)::_,(k,v)::_,.cons h t,e=>by
  simp only[l8,Qq] at e;obtain⟨kvs,e1,h1⟩:=xi t e.2;obtain⟨f,j,ek⟩:=RB.dv e.1 h.1;refine⟨(f,v)::kvs,?_,.cons ⟨j,h.2⟩ h1⟩;rw[Qx,<-e1];dsimp only at ek;rw[<-ek]
theorem xj{F:Fx}{y:Option Int}{ρ:List P3}{H:Hp}:∀{more:List (AV×AV)} {d:List (bj×V)} {kvs:List (AV×AV)} {ks:List (bj×V)},B9 F y ρ H more d->B9 F y ρ H kvs ks->B9 F y ρ H (qA kvs more) (dR ks d)
 | _,_,_,_,.nil,h=>h
 | (k,v)::_,(j,f)::_,kvs,ks,.cons h t,h0=>by
  unfold qA;show B9 F y ρ H _ (dR (df ks j f) _);exact xj t (oW (KR:=gF) (R:=aT F y ρ H) (λ_ _ _ _ h1 l=>gQ h1 l) h.1 h.2 h0)
theorem ma{keys:List (Option Qv)}{d:List Qv}{bp:BP}(h:Oi X g pos keys d bp)(O:keys.all (·.isSome)=true)(hl:keys.length=d.length)(h0:keys≠[])(h15:keys.length≤15):PE X (.Dict keys d pos) (up g<|xh bp):=by
 obtain⟨trs,h1,h2⟩:=h;refine PE.imp (λσ H Q hx=>eO hx λF y ρ S Y k C r h p=>?_) (zO h1 O hl h0 h15);intro D I;have o1:¬F.own D:=λw=>C.ol D w I;have L:aB F y ρ H y ρ (upd H D<|.dK []):=aB.lay I;refine h2 σ _ _ ⟨F,y,ρ,S,Y,_,C.lay I,bF.mono L r,h,λx ρ2 S2 j f ps l C2 rp U=>?_⟩;cases q:l8 f&&QV f.length 15 with
 | false=>simp only[q] at U;cases U
 | true=>
  simp only[q] at U;simp only[Qq] at q;have nD:D∉ρ:=C.fresh I;have hD:j D=some (.dK []):=l.keep D _ aA nD o1;have nD2:D∉ρ2:=λm=>by
   rcases l.new D m with z | z
   ·exact nD z
   ·rw[aA] at z;cases z
  obtain⟨kvs,rfl,rk⟩:=xi rp q.1;have hlen:=QP rk;refine⟨hD,kvs,rfl,by rw[<-hlen];exact bA q.2,?_⟩;have tD:∀b o,j b=some o->(∀u,o≠.dK u)->b≠D:=λb o q n w=>by rw[w,hD] at q;cases q;exact n _ rfl
  have Z:aB F y ρ H x (ρ2++[D]) (upd j D<|.dK<|dR [] kvs):=((L.trans l).over I).more I;have moF:Mo x ρ2 j x (ρ2++[D]) (upd j D<|.dK<|dR [] kvs):=⟨λ_ h=>h,λ{i c} h=>by
   rw[RG (P9.mp h).1];exact h,λb vs q=>by rw[al (tD b _ q λ_ z=>nomatch z)];exact q⟩
  have rkF:B9 F x (ρ2++[D]) (upd j D<|.dK<|dR [] kvs) f kvs:=aV (λ_ _ z=>⟨z.1,aT.monoM moF z.2⟩) rk;have CB:aI g F x ρ2 S2 (λb=>if b=D then none else j b):=C2.over
   (λb hb=>if_neg λw=>nD2 (by rw[<-w];exact hb))
   (λb vs q=>(if_neg<|tD b _ q λ_ z=>nomatch z).trans q)
   (λb w=>if_neg λq=>o1 (by rw[<-q];exact w))
   (λb φ q=>(if_neg<|tD b _ q λ_ z=>nomatch z).trans q)
  have eq:upd (λb=>if b=D then none else j b) D (.dK<|dR [] kvs)=upd j D (.dK<|dR [] kvs):=by
   funext b;by_cases z:b=D
   ·subst z;rw[aA,aA]
   ·rw[al z,al z];simp[z]
  have CF:=CB.add (p:=D) (o:=.dk (qA [] f)) (ho:=.dK (dR [] kvs)) (by simp) (by rw[eq];exact⟨_,rfl,xj rkF .nil⟩);rw[eq] at CF;exact p x _ _ _ (.ref S2.n) _ Z CF ⟨D,by rw[C2.n];simp,rfl⟩ U
def O5(P:QK)(w:Q4)(K:P7)(mg:Str->Option P0)(base:QO)(gy:Gy)(CX:kP)(c:Nat)(x:Str)(k n h:Nat)(ks:List Str)(tpl:List uU)(f:BF):Prop :=
 ∃d fd ps,ps.length=n/\bS P w K mg base CX k d fd ps (kW gy n f)/\Mk K (gy.cl c) d/\mg x=some (.ref<|gy.cl c)/\lW K fd ps ks h tpl/\uV tpl
def Li(c n j l:Nat)(tpl:List uU)(f:BF)(r m:BA):BE:=λσ S k=>r σ S λxs S1=>m σ S1 λh d=>match Qn (xs.length+1) j&&Qn h.length l with
 | true=>nJ n f (.ref d.n::(xs++ow h tpl)) (d.add<|.ins c []) (λv q=>match v with
  | .non=>k (.ref d.n) q
  | _=>false) σ.ke
 | false=>false
theorem Cn{CX:kP}{k L:Nat}{C z:P3}{ps ks:List Str}{tpl:List uU}{sp:Sp}{σ:L2.St}{Q:VK}{us j:List P0}{vs l:List V}(M:Mk X.K C z)(F:bS X.prog X.w X.K X.mg X.base CX k z fd ps sp)(hr:a9 (k+1) X.A)(hb:lW X.K fd ps ks L tpl)(ht:uV tpl)(Z:ck CX X g.E)
  (I:ay X pins σ H s) (r:aJ vs us) (rz:aJ l j) (h1:vs.length+1=L) (h2:l.length=ks.length)
  (h:∀x m,H x=none->H m=none->m≠x->sp (.ref x::(vs++oy l tpl)) (upd (upd H m<|.own x) x<|.ins C m []) (λv H2=>v=.non/\Q (.ref x) H2) g.E) :
  Qa (Qd X.prog X.w) X.A (call (.ref C) us<|ks.zip j) (EP X pins σ Q) X.xe s:=by
 have hq:=h (s.heap.objs.size+1) s.heap.objs.size (I.hok.fresh<|ae3 _) (I.hok.fresh<|Qi _) (Qp<|Rn _);have q:=ay.made (C:=C) I;have U:aJ (V.ref (s.heap.objs.size+1)::(vs++oy l tpl)) (Qo (s.heap.objs.size+1)::(us++wG j tpl)):=.cons rfl (r.append<|o8 rz ht);refine SA (v5 (f:=z) I.kIn M.makes M.init (beq_iff_eq.mp M.fn) (Rx (F.run _ X.stack _ _ ⟨Qo (s.heap.objs.size+1)::us,ks.zip j⟩ (Qo (s.heap.objs.size+1)::(us++wG j tpl)) _ _ g.E (hr.make C us<|ks.zip j)
  (q.env0.make C us<|ks.zip j) (hb _ (Qo (s.heap.objs.size+1)::us) j q.kIn (by rw[Rm,<-r.length];exact h1)<|by rw[<-rz.length];exact h2) U hq) λr s' d=>?_))
 cases r with
 | error e=>exact Z pins σ _ _ e s' q d
 | ok fl=>
  cases fl with
  | ret u=>
   obtain⟨v,H',I3,O,ev,Y⟩:=q.after d;subst ev;exact⟨O,⟨V.ref<|s.heap.objs.size+1,H',I3,rfl,Y⟩⟩
  | next=>exact QE d
  | brk=>exact QE d
  | cont=>exact QE d
theorem E6{CX:kP}{x:Str}{c k n np:Nat}{ks:List Str}{tpl:List uU}{m:List Uy}{f:BF}(hc:c<2)(M:O5 X.prog X.w X.K X.mg X.base g.toGy CX c x k n np ks tpl f)(hr:a9 (k+1) X.A)(hx:ck CX X g.E)(ha:PA X (e::es) (iY g br))(hkw:PK X m (iY g bk))(hg:Gl X x:=by nofun)(hdb:(x==("__debug__":Str))=false:=by decide)
  (hall:(Sb pos<|Rh m X.env).all (·.1.isSome)=true:=by nofun) (hks:(Sb pos<|Rh m X.env).filterMap (·.1)=ks:=by nofun)
  (hst:hE9 X e es:=by nofun)
  (hpl:((Sr pos<|Qy (e::es) X.env).any (·.1)||(Sb pos<|Rh m X.env).any (·.1.isNone))=false:=by nofun):PE X (.Call (.Name x p) (e::es) m pos) (up g<|Li c n np ks.length tpl f br bk):=by
 obtain⟨fa,fd,ps,hn,Fn,mk,hm,hb,hk⟩:=M;rintro pins s σ H Q I ⟨F,y,ρ,S,z,kk,C,r,h,pp⟩;refine Re (dM I hg hm ?_ hdb);refine XB (h₀:=X.base) I.ok.mod.kin mk.kp hall (bv (ha pos pins s σ H (λxs Y=>∃d y2 ρ2 U,aB F y ρ H y2 ρ2 Y/\aI g F y2 ρ2 U Y/\bF g F y2 ρ2 Y z σ/\aQ F y2 ρ2 Y d xs /\
   bk z U (λZ U=>match Qn (d.length+1) np&&Qn Z.length ks.length with
    | true=>nJ n f (.ref U.n::(d++ow Z tpl)) (U.add<|.ins c []) (λv S3=>match v with
     | .non=>kk (.ref U.n) S3
     | _=>false) z.ke
    | false=>false)=true) I (bn C r h λy2 ρ2 U Y d xs st2 C2 r2 O h2=>⟨d,y2,ρ2,U,st2,C2,r2,O,h2⟩)) λus s2 z9=>?_) hpl hst
 obtain⟨vs,Y,I2,rv,d,y2,ρ2,U,st2,C2,r2,O,h2⟩:=z9;refine bv (hkw pos pins s2 σ Y (λZ u=>Z.length=ks.length/\vs.length+1=np/\∀x j,u x=none->u j=none->j≠x->kW g.toGy n f (.ref x::(vs++oy Z tpl)) (upd (upd u j<|.own x) x<|.ins (g.cl c) j []) (λv Y=>v=.non/\Q (.ref x) Y) g.E) I2<|bn C2 r2 h2 λy3 l S3 u azs Z st3 C3 r3 rzs h3=>?_) λws s3 z9=>?_
 ·cases q:Qn (d.length+1) np&&Qn azs.length ks.length with
  | false=>simp only[q] at h3;cases h3
  | true=>
   simp only[q] at h3;simp only[Qq] at q;have e1:=Qh q.1;have e2:=Qh q.2;have l1:=aP O;have l2:=aP rzs;refine⟨by omega,by omega,λx j hx' hdx ne=>?_⟩;have hx2:(upd u j<|.own x) x=none:=by rw[al (RO ne)];exact hx'
   have st4:aB F y3 l u y3 l (upd u j<|.own x):=aB.lay hdx;have C4:=C3.lay (o:=.own x) hdx;have L:aB F y3 l (upd u j<|.own x) y3 (l++[x]) (upd (upd u j<|.own x) x<|.ins (g.cl c) j []):=aB.add hx2;have C5:=C4.add (o:=.ins c []) (ho:=.ins (g.cl c) j []) hx2 ⟨j,[],⟨hc,rfl,λp hp=>(nomatch hp)⟩,.nil⟩;have st6:=((st2.trans st3).trans st4).trans L;have rn:∀{H':Hp},aT F y3 (l++[x]) H' (.ref S3.n) (.ref x):=λ{H'}=>⟨x,by rw[C3.n];simp,rfl⟩
   have rall:aQ F y3 (l++[x]) (upd (upd u j<|.own x) x<|.ins (g.cl c) j []) (.ref S3.n::(d++ow azs tpl)) (.ref x::(vs++oy Z tpl)):=.cons rn (dG (aQ.mono (st3.trans<|st4.trans L) O)<|aQ.mono (st4.trans L)<|lV rzs hk);unfold nJ at h3;cases q3:Qn (AV.ref S3.n::(d++ow azs tpl)).length n with
   | false=>simp only[q3] at h3;cases h3
   | true=>
    simp only[q3] at h3;refine⟨F,y3,_,_,_,_,z.ke,C5,rall,by rw[<-QP rall];exact Qh q3,h3,λy7 ρ7 S7 H7 av v st7 C7 rv7 h7=>?_,r3.e.mono<|st4.trans L⟩;cases av with
    | non=>exact⟨rv7,pp y7 ρ7 S7 H7 (.ref S3.n) _ (st6.trans st7) C7 (aT.mono (av:=.ref S3.n) st7 rn) h7⟩
    | _=>cases h7
 ·obtain⟨Z,u,I3,rz,hz,hv,q3⟩:=z9;refine⟨I3.kIn,?_⟩;rw[hks];exact Cn mk Fn hr hb hk hx I3 rv rz hv hz q3
end
abbrev vh:Pos:=⟨47,44,47,70⟩
abbrev o9:Str:=(("lot_of":Str)++".<locals>.")++"<lambda>"
theorem Co{e:Qv}{ba:BE}{d:Pos}{c:Str}(hP:g.tP=d)(hQ:g.tQ=c)(h:PE X e (uI K g.tT d c<|up g ba)):PE X e (up g<|u6 ba):=by
 subst hP hQ;exact ES h
theorem vi{x:Str}{c:P3}{N ps:List Str}{k n:Nat}{b:BS}(d:D9 K mg x st c)(S:aj N ps (ae st))(hn:ps.length=n:=by decide)(z:ps.length≤N.length:=by decide)
  (hb:∀(kV doc i:P0) (o:Option P3) (m ct:P0) (us:List P0),us.length=ps.length->Tu (Q1 x x (bL st) (aW st) (ae st) .none kV doc i o m ct) ⟨us,[]⟩=pure (ps.zip us))
  (hbody:∀(f:P3) (A:RN) (outer:List Env) (s:P5) (H:Hp) (E:XK),a9 k (A.deeper<|Su x (ae st) s.heap.objs.size f<|.ref c)->gC (bT eT P w K mg base N x (ae st) f (.ref c) A outer s H E).nox (aW st) (dw ⟨gy,E⟩ b)) :
  gI P w K mg base gy eT x (k+1) n (bQ N.length b):=by
 obtain⟨f,I,C,kV,doc,i,o,ct,osl,lk,l,kp,r⟩:=d;refine⟨f,_,ps,hn,zB lk l S (λvs H Q E h=>?_) λA outer s H vs Q E p j=>?_,r,kp,.all<|hb kV doc i o (.ref c) ct⟩
 ·obtain⟨_,_,_,_,_,_,_,_,_,u,_⟩:=h;rw[u,hn]
 ·obtain⟨t,h,q⟩:=qg (CX:=eT) (A:=A) (outer:=outer) (s:=s) z hn j (hbody f A outer s H E p);exact⟨t,h.nox,q⟩
structure jf(K:P7)(gy:Gy):Prop where
 cls:∀c,c<2->oP K (gy.cl c)
 na_files:∀c,c<2->b9 K (gy.cl c) "files"
 na_fair:∀c,c<2->b9 K (gy.cl c) "fair"
 na_given:∀c,c<2->b9 K (gy.cl c) "given"
 na_leads:∀c,c<2->b9 K (gy.cl c) "leads"
 na_opened:∀c,c<2->b9 K (gy.cl c) "opened"
 na_held:∀c,c<2->b9 K (gy.cl c) "held"
 na_whole:∀c,c<2->b9 K (gy.cl c) "whole"
 na_waiting:∀c,c<2->b9 K (gy.cl c) "waiting"
 na_asleep:∀c,c<2->b9 K (gy.cl c) "asleep"
 na_outcomes:∀c,c<2->b9 K (gy.cl c) "outcomes"
 na_changes:∀c,c<2->b9 K (gy.cl c) "changes"
 na_tables:∀c,c<2->b9 K (gy.cl c) "tables"
 na_past:∀c,c<2->b9 K (gy.cl c) "past"
 na_future:∀c,c<2->b9 K (gy.cl c) "future"
theorem jf.c0(G:jf K gy):oP K (gy.cl 0):=G.cls 0 (by decide)
theorem jf.c1(G:jf K gy):oP K (gy.cl 1):=G.cls 1 (by decide)
def Cp:List Nat:=[63,2]
def xk:List Nat:=[66,45]
def Cq:List Nat:=[61,78,15]
def oA:List (AV×AV):=[(.str 63,.str 78),(.str 2,.str 61)]
def Cr:List (AV×AV):=[(.str 13,.ext 0),(.str 6,.ext 1),(.str 25,.ext 2),(.str 20,.ext 3),(.str 32,.ext 4),(.str 26,.ext 5),(.str 42,.ext 6),(.str 71,.ext 7),(.str 17,.ext 8),(.str 43,.ext 9),(.str 72,.ext 10)]
structure PQ(P:QK)(w:Q4)(K:P7)(mg:Str->Option P0)(gy:Gy):Prop where
 g_KINDS:E5 K mg "KINDS" Cp
 g_HOLDERS:E5 K mg "HOLDERS" xk
 g_MODES:E5 K mg "MODES" Cq
 g_WRONG_MODES:Hv P w K mg gy "WRONG_MODES" oA
 g_DEEDS:Hv P w K mg gy "DEEDS" Cr
section
variable{h:QO}
theorem aG{x:Str}{f:P3}{m:P0}{j o:Option P3}{kV doc i d ct:P0}(X:K.In h)(G:h.Ns QF mg)
  (a:Vy K QF x=some (some<|.ref f)) (l:K.lookup f=some ⟨m,j,.func<|Q1 x x (bL st) (aW st) (ae st) .none kV doc i o d ct,osl⟩) (c:RM K d x=true) (k:QX K (.ref f)=true):cO K mg x st :=
 ⟨f,_,uD l c k,QH X G a⟩
theorem vj{x:Str}{f d:P3}{m:P0}{j o:Option P3}{kV doc i ct:P0}(X:K.In h)(G:h.Ns QF mg)
  (a:Vy K QF x=some (some<|.ref f)) (l:K.lookup f=some ⟨m,j,.func<|Q1 x x (bL st) (aW st) (ae st) .none kV doc i o (.ref d) ct,osl⟩) (c:RM K (.ref d) x=true) (k:QX K (.ref f)=true):D9 K mg x st d :=
 ⟨f,m,j,kV,doc,i,o,ct,osl,l,c,k,QH X G a⟩
theorem pf{c T:P3}(hd:Sm K c T=true)(d:QF≠T):D7 K mg c T :=
 ⟨λh' f=>Xz f hd,d⟩
def tW(K:P7)(C:P3)(m qual:Str)(st:SK):Prop:=∃f fd,Fun K m qual st f fd/\uz K C m f
theorem dz{C f:P3}{m qual:Str}{o:P0}{j p:Option P3}{kV doc i d ct:P0}(b:Q3 K (.ref C) m=some (some<|.ref f))
  (l:K.lookup f=some ⟨o,j,.func<|Q1 m qual (bL st) (aW st) (ae st) .none kV doc i p d ct,osl⟩) (c:RM K d qual=true) (k:QX K (.ref f)=true) (fn:Ux K (.ref f)=true):tW K C m qual st :=
 ⟨f,_,uD l c k,b,fn,k⟩
def rZ(K:P7)(C:P3)(m qual:Str)(st:SK)(es:Array SS):Prop :=
 ∃(f d:P3) (doc i:P0) (l:Option P3) (c ct kc:P0) (j:Option P3) (ep:Nat) (ks:Array (Option P0)),Fun K m qual st f (Q1 m qual (bL st) (aW st) (ae st) .none (.ref d) doc i l c ct)/\uz K C m f/\K.lookup d=some ⟨kc,j,.dict es ep,ks⟩
theorem vk{C f i:P3}{m qual:Str}{es:Array SS}{r kc:P0}{q p o:Option P3}{osl ks:Array (Option P0)}{doc j d ct:P0}{ep:Nat}(b:Q3 K (.ref C) m=some (some<|.ref f))
  (l:K.lookup f=some ⟨r,q,.func<|Q1 m qual (bL st) (aW st) (ae st) .none (.ref i) doc j p d ct,osl⟩) (c:RM K d qual=true) (k:QX K (.ref f)=true) (fn:Ux K (.ref f)=true) (n:K.lookup i=some ⟨kc,o,.dict es ep,ks⟩):rZ K C m qual st es :=
 ⟨f,i,doc,j,p,d,ct,kc,o,ep,ks,uD l c k,⟨b,fn,k⟩,n⟩
theorem gk{c:Type}{S:Setting}{a:P3}{r:Option P0}{o:Obj}{k:Obj->Sem c}(h:K.lookup a=some o):YI K S (.load a r k)=YI K S (k o):=by
 rw[YI,h]
def Nl(K:P7)(C:P3)(qual:Str)(st:SK):Prop:=∃f fd,Fun K "__init__" qual st f fd/\Mk K C f
theorem E7{C f:P3}{qual:Str}{m:P0}{j o:Option P3}{kV doc i d ct:P0}(mk:WH K C=true)(b:Q3 K (.ref C) "__init__" = some (some<|.ref f))
  (l:K.lookup f=some ⟨m,j,.func<|Q1 "__init__" qual (bL st) (aW st) (ae st) .none kV doc i o d ct,osl⟩) (c:RM K d qual=true) (k:QX K (.ref f)=true) (fn:Ux K (.ref f)=true) (kc:QX K (.ref C)=true):Nl K C qual st :=
 ⟨f,_,uD l c k,mk,b,fn,kc⟩
theorem vm{nm:Str}{a:P3}{c:P0}{d:Option P3}{its:Array P0}{n:Nat}{tab:List Nat}(X:K.In h)(G:h.Ns QF mg)(e:Vy K QF nm=some (some<|.ref a))(l:K.lookup a=some ⟨c,d,.seq its n,osl⟩)(f:c=.type "tuple")(hs:its.size≤Qf)
  (p:Paired (λi u=>∃x t,bd[i]?=some x/\u=.str x t) tab its.toList):E5 K mg nm tab:=⟨a,_,its,n,QH X G e,l,f,rfl,hs,p⟩
theorem tX{i d c:Type}{R:i->c->Prop}{f:d->c}:∀{xs:List i} {ys:List d},Paired (λp q=>R p (f q)) xs ys->Paired R xs (ys.map f)
 | _,_,.nil=>.nil
 | _,_,.cons h t=>.cons h (tX t)
abbrev Lj(w:Q4)(x:Str)(t:Tok)(v:P0):SS:=⟨L6 w<|.inr x,.str x t,v⟩
theorem E8{es:List (Str×Tok×P0)}:KeysOf (aY P w) ((es.map λe=>Lj w e.1 e.2.1 e.2.2).toArray):=by
 intro e he;simp only[List.mem_toArray,RS] at he;obtain⟨⟨x,t,v⟩,_,rfl⟩:=he;exact⟨.inr x,ji P w x t,rfl⟩
theorem tY{P:QK}{w:Q4}:∀es:List (Str×Tok×P0),Pairs (aY P w) (es.map λe=>Lj w e.1 e.2.1 e.2.2) (es.map λe=>((.inr e.1:bj),e.2.2))
 | []=>.nil
 | (x,t,v)::r=>.cons (ji P w x t) rfl (tY r)
theorem AJ{nm:Str}{a:P3}{es:List (Str×Tok×P0)}{n:Nat}{tab:List (AV×AV)}{o:Obj}(X:K.In h)(G:h.Ns QF mg)(e:Vy K QF nm=some (some<|.ref a))(l:K.lookup a=some o)
  (c:o=⟨.type "dict",none,.dict ((es.map λe=>Lj w e.1 e.2.1 e.2.2).toArray) n,#[]⟩) (nd:(es.map (·.1)).Nodup)
  (p:Paired (λ(p:AV×AV) (q:Str×Tok×P0)=>gF p.1 (.inr q.1)/\Hu gy p.2 q.2.2) tab es):Hv P w K mg gy nm tab:=by
 refine⟨a,es.map λe=>((.inr e.1:bj),e.2.2),QH X G e,λh' f=>⟨o,_,n,f _ _ l,?_,by rw[c],E8,by simpa using tY es,?_⟩,?_⟩
 ·rw[c];exact⟨rfl,rfl,rfl⟩
 ·rw[TZ];have:((λe:bj×P0=>e.1)∘λe:Str×Tok×P0=>((.inr e.1:bj),e.2.2))=λe=>(.inr e.1:bj):=rfl;rw[this];have d:(es.map λe=>(.inr e.1:bj))=(es.map (·.1)).map TJ:=by rw[TZ];rfl
  rw[d];exact V1.mpr (af8 (λh w=>h (ad5 w)) nd)
 ·exact tX p
end
abbrev r8(ns:List (Str×SG)):Q8:={kind:=.function,names:=(".0",.local)::ns,isGenerator:=false,isCoroutine:=false,more:=[]}
@[reducible] def bI(n:Int):BE:=bC (.int false n n)
section
theorem b0{F:List P0->Prop}(h:F []):∀us,us.length=0->F us:=λus e=>by
 cases us with
 | nil=>exact h
 | cons=>cases e
theorem bs{n:Nat}{F:List P0->Prop}(h:∀a us,us.length=n->F (a::us)):∀us,us.length=n+1->F us:=λus e=>by
 cases us with
 | nil=>cases e
 | cons a us=>exact h a us (Nat.succ.inj e)
theorem b1{F:List P0->Prop}(h:∀a,F [a]):∀us,us.length=1->F us:=bs λa=>b0 (h a)
theorem b2{F:List P0->Prop}(h:∀a b,F [a,b]):∀us,us.length=2->F us:=bs λa=>b1 (h a)
theorem b3{F:List P0->Prop}(h:∀a b c,F [a,b,c]):∀us,us.length=3->F us:=bs λa=>b2 (h a)
theorem b4{F:List P0->Prop}(h:∀a b c d,F [a,b,c,d]):∀us,us.length=4->F us:=bs λa=>b3 (h a)
theorem b5{F:List P0->Prop}(h:∀a b c d e,F [a,b,c,d,e]):∀us,us.length=5->F us:=bs λa=>b4 (h a)
theorem l1(h:us.length=1):∃a,us=[a]:=b1 (F:=λus=>∃a,us=[a]) (λa=>⟨a,rfl⟩) us h
theorem l3(h:us.length=3):∃a b c,us=[a,b,c]:=b3 (F:=λus=>∃a b c,us=[a,b,c]) (λa b c=>⟨a,b,c,rfl⟩) us h
theorem l4(h:us.length=4):∃a b c d,us=[a,b,c,d]:=b4 (F:=λus=>∃a b c d,us=[a,b,c,d]) (λa b c d=>⟨a,b,c,d,rfl⟩) us h
theorem l5(h:us.length=5):∃a b c d e,us=[a,b,c,d,e]:=b5 (F:=λus=>∃a b c d e,us=[a,b,c,d,e]) (λa b c d e=>⟨a,b,c,d,e,rfl⟩) us h
theorem b6{F:List P0->Prop}(h:∀a b c d e f,F [a,b,c,d,e,f]):∀us,us.length=6->F us:=bs λa=>b5 (h a)
theorem b7{F:List P0->Prop}(h:∀a b c d e f g,F [a,b,c,d,e,f,g]):∀us,us.length=7->F us:=bs λa=>b6 (h a)
theorem cp{N ps:List Str}{c:Q8}(S:aj N ps c:=by exact⟨rfl,rfl,rfl,by decide +kernel,rfl,by decide +kernel,by decide +kernel⟩):aj N ps c:=S
theorem r9{c d:Q8}{N f:List Str}(S:aR c N d f ix:=by exact⟨rfl,by decide +kernel,by decide +kernel,by decide +kernel,by decide +kernel,rfl,by decide +kernel⟩):aR c N d f ix:=S
abbrev Nm(P:QK)(w:Q4)(K:P7)(mg:Str->Option P0)(base:QO)(gy:Gy)(N:List Str)(x:Str)(st:SK)(k:Nat)(b:BS)(f:P3):Prop:=∀{c:P0} {A:RN} {outer:List Env} {s:P5} {H:Hp} {E:XK},a9 k (A.deeper<|Su x (ae st) s.heap.objs.size f c)->(A.deeper<|Su x (ae st) s.heap.objs.size f c).units+1<R0 ->
 gC (bT eT P w K mg base N x (ae st) f c A outer s H E).nox (aW st) (dw ⟨gy,E⟩ b)
abbrev L5(x q:Str)(st:SK)(ps:List Str):Prop:=∀us:List P0,us.length=ps.length->∀{kV doc d:P0} {f:Option P3} {c ct:P0},Tu (Q1 x q (bL st) (aW st) (ae st) .none kV doc d f c ct) ⟨us,[]⟩=pure (ps.zip us)
abbrev Nn(x q:Str)(st:SK)(ps ks:List Str)(h:Nat)(tpl:List uU):Prop:=∀us:List P0,us.length=h->∀c:List P0,c.length=ks.length->∀{kV doc f:P0} {i:Option P3} {d ct:P0},Tu (Q1 x q (bL st) (aW st) (ae st) .none kV doc f i d ct) ⟨us,ks.zip c⟩=pure (ps.zip<|us++wG c tpl)
theorem bH{x:Str}{N ps:List Str}{k n:Nat}{b:BS}(d:cO K mg x st)(S:aj N ps (ae st))(hb:L5 x x st ps)(hbody:∀{f},Nm P w K mg base gy N x st k b f)(hn:ps.length=n:=by decide)(i:ps.length≤N.length:=by decide) :
  gI P w K mg base gy eT x (k+1) n (bQ N.length b):=K0 d S hn i (λ_ _ _ _ _ _ us h=>hb us h) λf j A outer s H E c=>hbody c (dC c)
theorem E9{x q:Str}{N ps:List Str}{k n:Nat}{b:BS}{c:P3}(F:Fun K x q st c fd)(S:aj N ps (ae st))(hbody:Nm P w K mg base gy N q st k b c)(hn:ps.length=n:=by decide)(f:ps.length≤N.length:=by decide) :
  bS P w K mg base eT (k+1) c fd ps (kW gy n<|bQ N.length b):=K3 F S hn f λh A outer s H E d=>hbody d (dC d)
theorem mZ{c:Nat}{x q:Str}{N ps:List Str}{k n:Nat}{b:BS}(D:tW K (gy.cl c) x q st)(S:aj N ps (ae st))(hb:L5 x q st ps)(hbody:∀{f},Nm P w K mg base gy N q st k b f)(hn:ps.length=n:=by decide)(i:ps.length≤N.length:=by decide) :
  mV P w K mg base gy eT c x (k+1) n [] (bQ N.length b):=by
 obtain⟨f,fd,F,d⟩:=D;exact⟨f,fd,ps,[],[],hn,E9 F S hbody hn i,d,F.binds λ_ _ _ _ _ _ us h=>hb us h,.nil,λ_ _ _ _=>.nil⟩
theorem _root_.L2.Fun.kwbinds{x qual:Str}{f:P3}{ps ks:List Str}{c:Nat}{tpl:List uU}(F:Fun K x qual st f fd)(h:Nn x qual st ps ks c tpl):lW K fd ps ks c tpl:=by
 obtain⟨q,p,kV,doc,o,r,m,ct,osl,rfl,lk,l⟩:=F.ex;exact λs us d _ j i=>.of_eq (h us j d i)
theorem O6{c:Nat}{x q:Str}{N ps:List Str}{k n:Nat}{b:BS}(D:Nl K (gy.cl c) q st)(d:mg x=some (.ref<|gy.cl c))(S:aj N ps (ae st))(hb:L5 "__init__" q st ps)(hbody:∀{f},Nm P w K mg base gy N q st k b f)(hn:ps.length=n:=by decide)(i:ps.length≤N.length:=by decide) :
  OX P w K mg base gy eT c x (k+1) n (bQ N.length b):=by
 obtain⟨f,fd,F,mk⟩:=D;exact⟨f,fd,ps,hn,E9 F S hbody hn i,mk,d,F.binds λ_ _ _ _ _ _ us h=>hb us h⟩
theorem No{c:Nat}{x q:Str}{N ps ks:List Str}{d:Nat}{tpl:List uU}{k n:Nat}{b:BS}(D:Nl K (gy.cl c) q st)(h:mg x=some (.ref<|gy.cl c))(S:aj N ps (ae st))(hb:Nn "__init__" q st ps ks d tpl)(ht:uV tpl)(hbody:∀{f},Nm P w K mg base gy N q st k b f)(hn:ps.length=n:=by decide)(i:ps.length≤N.length:=by decide) :
  O5 P w K mg base gy eT c x (k+1) n d ks tpl (bQ N.length b):=by
 obtain⟨f,fd,F,mk⟩:=D;exact⟨f,fd,ps,hn,E9 F S hbody hn i,mk,h,F.kwbinds hb,ht⟩
end
section
variable{a b c e o:Qv}{ba bb bc be:BE}{br:BA}{pos p:Pos}{x m:Str}{k n k':Nat}{f:BF}
theorem uv(i:Nat)(j:X.N[i]?=some x:=by nofun)(h:JO X.env.scope x:=by with_unfolding_all (first | exact UG rfl | exact W4 (UG rfl) | exact W4 (W4 rfl)))(hd:(x==("__debug__":Str))=false:=by decide)(d:(x==("__classdict__":Str))=false:=by decide):PE X (.Name x pos) (up g<|aE i):=Kw i (pv i j h hd d)
theorem uc(c:gI X.prog X.w X.K X.mg X.base g.toGy eT x k n f)(i:a9 k' X.A)(q:PA X (e::es) (iY g br))(j:k≤k':=by decide)(l:Gl X x:=by nofun)(h:(x==("__debug__":Str))=false:=by decide)
  (he:hE9 X e es:=by nofun) (d:hP9 X pos es:=by nofun):PE X (.Call (.Name x p) (e::es) [] pos) (up g<|lQ (nJ n f) br):=yK c (i.mono j) dy q l h he d
theorem um{pl:Sem Bool}{d:Pos}{c:Nat}{q:List AV}(M:mV X.prog X.w X.K X.mg X.base g.toGy eT c m k n q f)(C:oP X.K (g.cl c))(r:a9 k' X.A)(ho:PE X o (up g ba))(H:PA X (e::es) (iY g br))(z:k≤k':=by decide)(u:∀i∈kU,bd[i]?≠some m:=by decide +kernel)
  (h:hE9 X e es:=by nofun) (j:hP9 X pos es:=by nofun)
  (ht:Q0 (.Call (.Attribute o m d) (e::es) [] pos) X.env=(do
   let l <-Q0 o X.env
   SI d.atName
   let (f,first) <-SJ [l] (TC l m pl)
   U8 pos f first (Sr pos<|Qy (e::es) X.env) (Sb pos<|Rh [] X.env)):=by nofun) :
  PE X (.Call (.Attribute o m d) (e::es) [] pos) (up g<|cj c n q f ba br):=Ai M C u (r.mono z) dy ho H h j ht
theorem ug(i:Nat)(l:X.N.Nodup)(h:X.N[i]?=some x:=by nofun)(d:L2.dJ X.env.scope x:=by with_unfolding_all (first | exact UG rfl | exact W4 rfl))(j:X.fn x=true∨X.env.scope.names.lookup x=some .local:=by with_unfolding_all (first | exact .inl rfl | exact .inr rfl | assumption)):PG X (.Name x pos) (mz g [i]<|a8 i):=GR i (uu l h d j)
theorem ua{pos':Pos}(i:Nat)(l:X.N.Nodup)(he:PE X e (up g be))(h:X.N[i]?=some x:=by nofun)(d:L2.dJ X.env.scope x:=by with_unfolding_all (first | exact UG rfl | exact W4 rfl))(hs:RX e (some<|.Name x pos') pos.line X.env=pure false:=by nofun)(j:X.fn x=true∨X.env.scope.names.lookup x=some .local:=by with_unfolding_all (first | exact .inl rfl | exact .inr rfl | assumption)) :
  PS X (.Assign [.Name x pos'] e pos) (dw g<|gH be<|a8 i):=KA i (kM l h d he hs j)
theorem Fa(G:jf X.K g.toGy)(he:PE X e (up g ba))(hb:QR e "files" X.env (Q0 e X.env)=Q0 e X.env:=by nofun):PE X (.Attribute e "files" pos) (up g<|jZ 31 ba):=eZ 31 (by decide +kernel) G.cls G.na_files he hb
theorem Hx(G:jf X.K g.toGy)(he:PE X e (up g ba))(hb:QR e "fair" X.env (Q0 e X.env)=Q0 e X.env:=by nofun):PE X (.Attribute e "fair" pos) (up g<|jZ 29 ba):=eZ 29 (by decide +kernel) G.cls G.na_fair he hb
theorem qB(G:jf X.K g.toGy)(he:PE X e (up g ba))(hb:QR e "given" X.env (Q0 e X.env)=Q0 e X.env:=by nofun):PE X (.Attribute e "given" pos) (up g<|jZ 35 ba):=eZ 35 (by decide +kernel) G.cls G.na_given he hb
theorem cf(G:jf X.K g.toGy)(he:PE X e (up g ba))(hb:QR e "leads" X.env (Q0 e X.env)=Q0 e X.env:=by nofun):PE X (.Attribute e "leads" pos) (up g<|jZ 41 ba):=eZ 41 (by decide +kernel) G.cls G.na_leads he hb
theorem cu(G:jf X.K g.toGy)(he:PE X e (up g ba))(hb:QR e "opened" X.env (Q0 e X.env)=Q0 e X.env:=by nofun):PE X (.Attribute e "opened" pos) (up g<|jZ 54 ba):=eZ 54 (by decide +kernel) G.cls G.na_opened he hb
theorem gS(G:jf X.K g.toGy)(he:PE X e (up g ba))(hb:QR e "held" X.env (Q0 e X.env)=Q0 e X.env:=by nofun):PE X (.Attribute e "held" pos) (up g<|jZ 38 ba):=eZ 38 (by decide +kernel) G.cls G.na_held he hb
theorem Fb(G:jf X.K g.toGy)(he:PE X e (up g ba))(hb:QR e "whole" X.env (Q0 e X.env)=Q0 e X.env:=by nofun):PE X (.Attribute e "whole" pos) (up g<|jZ 75 ba):=eZ 75 (by decide +kernel) G.cls G.na_whole he hb
theorem bh(G:jf X.K g.toGy)(he:PE X e (up g ba))(hb:QR e "waiting" X.env (Q0 e X.env)=Q0 e X.env:=by nofun):PE X (.Attribute e "waiting" pos) (up g<|jZ 73 ba):=eZ 73 (by decide +kernel) G.cls G.na_waiting he hb
theorem d4(G:jf X.K g.toGy)(he:PE X e (up g ba))(hb:QR e "asleep" X.env (Q0 e X.env)=Q0 e X.env:=by nofun):PE X (.Attribute e "asleep" pos) (up g<|jZ 5 ba):=eZ 5 (by decide +kernel) G.cls G.na_asleep he hb
theorem jy(G:jf X.K g.toGy)(he:PE X e (up g ba))(hb:QR e "outcomes" X.env (Q0 e X.env)=Q0 e X.env:=by nofun):PE X (.Attribute e "outcomes" pos) (up g<|jZ 56 ba):=eZ 56 (by decide +kernel) G.cls G.na_outcomes he hb
theorem fb(G:jf X.K g.toGy)(he:PE X e (up g ba))(hb:QR e "changes" X.env (Q0 e X.env)=Q0 e X.env:=by nofun):PE X (.Attribute e "changes" pos) (up g<|jZ 19 ba):=eZ 19 (by decide +kernel) G.cls G.na_changes he hb
theorem bY(G:jf X.K g.toGy)(he:PE X e (up g ba))(hb:QR e "tables" X.env (Q0 e X.env)=Q0 e X.env:=by nofun):PE X (.Attribute e "tables" pos) (up g<|jZ 65 ba):=eZ 65 (by decide +kernel) G.cls G.na_tables he hb
theorem Hy(G:jf X.K g.toGy)(he:PE X e (up g ba))(hb:QR e "past" X.env (Q0 e X.env)=Q0 e X.env:=by nofun):PE X (.Attribute e "past" pos) (up g<|jZ 57 ba):=eZ 57 (by decide +kernel) G.cls G.na_past he hb
end
end RB
namespace L2
open PySem PySem.Spec PyProof.Rows
def F7(h base:QO)(e:P3)(C:P0)(G:Array P0->Prop)(fl:P0):Prop :=
 ∃oe vs T c ts,h.get? e=some oe/\(oe.cls=C/\G vs)/\oe.data=.fields vs/\vs[1]?=some (.ref T)/\base.get? T=none/\T≠e/\h.get? T=some c/\c.data=.fields ts/\ts[3]?=some fl
section
variable{M:Yl}{env:Env}{outer:List Env}{L e:P3}{C:P0}{G:Array P0->Prop}{Q:Unit->P5->Prop}
theorem Fc{oe:Obj}{vs:Array P0}{head:P0}{hn:Bool}(U:∀vs v,G vs->G (vs.setIfInBounds 1 v))(l:A.frames=some (env::outer))(j:s.heap.FunFrames base (env::outer))(O:env.frame=some L)(I:base.StaysIn s.heap)(p:base.get? e=none)
  (he:s.heap.get? e=some oe) (hd:oe.data=.fields vs) (hz:1<vs.size) (h0:G vs) (h:∀h',base.StaysIn h'->s.heap.UpToSlots h'->F7 h' base e oe.cls G (SF L)->Q () {s with heap:=h'}) :
  Qa M A (do let a <-frameOf env;let pl <-entryPlaceOf L hn;let b <-XE head a .none (SF L) .none pl;setField (.ref e) 1 b) Q E s:=by
 have f:e∉g8 (env::outer):=λm=>by
  obtain⟨_,o,ho,i⟩:=j.mem m;rw[he] at ho;cases ho;exact i vs hd
 refine PZ (wpAny_frameOf_fun l j O λh1 d=>PZ (wpAny_entryPlaceOf λpl hpl=>?_));unfold XE newFields;refine PZ (QT ?_<|hpl.sizeOk5 _ _ _ _ _);have x:h1.get? e=some oe:=(d.2.1 e f).trans he;have k1:base.StaysIn h1:=λb o q=>(d.2.1 b λm=>by rw[(j.mem m).1] at q;cases q).trans (I b o q);have c:h1.objs.size≠e:=Tj (Qc x);have H:=VP hd (·.setIfInBounds 1 (Qo h1.objs.size));generalize ho:({cls:=.type "traceback",data:=.fields ([head,.ref L,.none,SF L,.none]++(if pl.isEmpty then VG 6 QN else pl)).toArray}:Obj)=r;have u:=P1 (h:=h1) r x;refine TV u hd hz (h _ (λb o q=>?_) (λb o q i=>?_) ⟨_,_,h1.objs.size,r,_,RJ _ u<|UP H,⟨YJ _ _,U _ _ h0⟩,H,by simp[hz],k1.fresh,c,(QC _ _<|RO c).trans (P8 h1<|by rw[<-ho];rfl),by rw[<-ho],?_⟩)
 ·rw[QC _ _ λz=>by rw[<-z,p] at q;cases q];exact P1 _ (k1 b o q)
 ·obtain⟨sl,q2⟩:=d.2.2 b o q;refine⟨sl,?_⟩;rw[QC _ _ λz=>by rw[<-z,he] at q;cases q;exact i vs hd];exact P1 _ q2
 ·rcases hpl with rfl | ⟨_,_,_,_,_,_,_,rfl⟩<;>simp
theorem Lk{oe:Obj}{vs:Array P0}(l:∀vs v,G vs->G (vs.setIfInBounds 1 v))(c:A.frames=some (env::outer))(i:s.heap.FunFrames base (env::outer))(f:env.frame=some L)(j:base.StaysIn s.heap)(d:base.get? e=none)
  (he:s.heap.get? e=some oe) (hd:oe.data=.fields vs) (h1:vs[1]?=some .none) (h0:G vs) (h:∀h',base.StaysIn h'->s.heap.UpToSlots h'->F7 h' base e oe.cls G (SF L)->Q () {s with heap:=h'}):Qa M A (TF (.ref e) env) Q E s:=by
 unfold TF;simp only[f];refine PZ (Ru he hd h1 ?_);rw[if_neg (by decide)];exact Fc l c i f j d he hd (Rp.mp h1).1 h0 h
theorem JA(U:∀vs v,G vs->G (vs.setIfInBounds 1 v))(f:A.frames=some (env::outer))(I:s.heap.FunFrames base (env::outer))(p:env.frame=some L)(O:base.StaysIn s.heap)(i:base.get? e=none)(ht:F7 s.heap base e C G .none)
  (h:∀h',base.StaysIn h'->s.heap.UpToSlots h'->F7 h' base e C G (SF L)->Q () {s with heap:=h'}):Qa M A (TF (.ref e) env) Q E s:=by
 obtain⟨oe,vs,T,Y,ts,he,⟨rfl,h0⟩,hd,h1,nT,j,l,m,r⟩:=ht;unfold TF;simp only[p];refine PZ (Ru he hd h1 ?_);rw[if_pos (show(Qo T !=QN)=true by simp)];refine PZ (Ru l m r ?_);rw[if_neg (show ¬(QN==SF L)=true by simp[SF])];have c:∀b,b≠T->(s.heap.update T (ac0 (·.setIfInBounds 3 QN))).get? b=s.heap.get? b:=λb n=>QC _ _ (RO n);have rcd:∀b o,s.heap.get? b=some o->(∀vs,o.data≠.fields vs)->b≠T:=λb o q d z=>by rw[z,l] at q;cases q;exact d ts m
 refine PZ (TV l m (Rp.mp r).1 (Fc U f (I.of_keeps λb o q d=>⟨o,(c b<|rcd b o q d).trans q,rfl⟩) p (λb o q=>(c b λz=>by rw[z,nT] at q;cases q).trans (O b o q)) i ((c e<|RO j).trans he) hd (Rp.mp h1).1 h0 λh' H x u=>h h' H (λb o q d=>x b o ((c b<|rcd b o q d).trans q) d) u))
theorem Fd{fl:P0}(m:base.StaysIn s.heap)(ht:F7 s.heap base e C G fl)(h:∀h',base.StaysIn h'->s.heap.UpToSlots h'->F7 h' base e C G .none->Q () {s with heap:=h'}):Qa M A (Vz (.ref e) none) Q E s:=by
 obtain⟨oe,vs,T,u,ts,he,p,hd,h1,nT,c,d,i,r⟩:=ht;have hz:3<ts.size:=(Rp.mp r).1;unfold Vz;refine PZ (Ru he hd h1 ?_);rw[if_pos (show(Qo T !=QN)=true by simp)];have j:=VP i (·.setIfInBounds 3 ((none:Option P3).elim QN λf=>SF f));refine TV d i hz (h _ (λb o q=>?_) (λb o q l=>⟨o.slots,?_⟩) ⟨oe,vs,T,_,_,?_,p,hd,h1,nT,c,RJ _ d<|UP j,j,by simp[hz]⟩)
 ·rw[QC _ _ λz=>by rw[<-z,nT] at q;cases q];exact m b o q
 ·rw[QC _ _ λz=>by rw[<-z,d] at q;cases q;exact l ts i];exact q
 ·rw[QC _ _ c];exact he
theorem Ll(f:env.frame=some L)(ht:F7 s.heap base e C G (SF L))(h:Q () s):Qa M A (TF (.ref e) env) Q E s:=by
 obtain⟨oe,vs,T,d,ts,he,m,hd,h1,nT,c,i,l,j⟩:=ht;exact wpAny_noteFrame_againW (base:=base) (cls:=oe.cls) (a0:=vs[0]?.getD .none) f ⟨oe,vs,T,d,ts,he,⟨rfl,by have:=(Rp.mp h1).1;simp[show 0<vs.size by omega]⟩,hd,h1,nT,c,i,l,j⟩ h
end
abbrev GX(a0:P0)(vs:Array P0):Prop:=vs[0]?=some a0/\vs[2]?=some .none
theorem gX{a0:P0}:∀vs v,GX a0 vs->GX a0 (vs.setIfInBounds 1 v):=λvs v ⟨a,b⟩=>⟨by rw[UN (by decide)];exact a,by rw[UN (by decide)];exact b⟩
def xl(h0:QO)(H:Hp)(e:P3)(C fl:P0)(h:QO):Prop :=
 h0.get? e=none/\H e=none/\∃oe vs T c ts a0,h.get? e=some oe/\oe.cls=C/\GX a0 vs/\oe.data=.fields vs/\vs[1]?=some (.ref T) /\
  h0.get? T=none/\H T=none/\T≠e/\h.get? T=some c/\c.data=.fields ts/\ts[3]?=some fl
structure Np(h0:QO)(H:Hp)(l:List Env)(e:P3)(C fl:P0)(h h':QO):Prop where
 keep:∀x o,h.get? x=some o->(h0.get? x≠none∨H x≠none)->x∉g8 l->h'.get? x=some o
 slot:∀x o,h.get? x=some o->x∈g8 l->∃sl,h'.get? x=some {o with slots:=sl}
 flew:xl h0 H e C fl h'
section
variable{M:Yl}{h0 base:QO}{env:Env}{outer l:List Env}{L e:P3}{C fl:P0}
theorem Lm{h:QO}{x:P3}{o:Obj}{vs:Array P0}(i:h.FunFrames base l)(f:x∈g8 l)(e:h.get? x=some o)(d:o.data=.fields vs):False:=by
 obtain⟨_,j,c,n⟩:=i.mem f;rw[e] at c;cases c;exact n vs d
theorem Fe{h h' b:QO}{T a0:P3}{av:P0}{u:P0}(hl:h.FunFrames base l)(th:∀x o,h0.get? x=some o->∃d,h.get? x=some d)(tr:∀x,H x≠none->∃o,h.get? x=some o)
  (j:h0.get? e=none) (i:H e=none) (r:h0.get? T=none) (p:H T=none) (hb:b=Q2 h (e::T::g8 l))
  (k1:b.StaysIn h') (k2:h.UpToSlots h') (k3:F7 h' b e C (GX av) u):Np h0 H l e C u h h':=by
 subst hb;refine⟨λx o q n nf=>?_,λx o q m=>?_,j,i,?_⟩
 ·refine k1 x o (Sf _ q λm=>?_);rcases Qm.mp m with z | m
  ·subst z;rcases n with n | n
   ·exact n j
   ·exact n i
  ·rcases Qm.mp m with z | m
   ·subst z;rcases n with n | n
    ·exact n r
    ·exact n p
   ·exact nf m
 ·obtain⟨_,d,I,n⟩:=hl.mem m;rw[q] at I;cases I;exact k2 x o q n
 ·obtain⟨oe,vs,c,oT,ts,q1,⟨q2,q3⟩,q4,q5,Z,Y,U,Q,O⟩:=k3;have fz:h0.get? c=none/\H c=none:=by
   cases z:h.get? c with
   | none=>
    refine⟨?_,?_⟩
    ·cases y:h0.get? c with
     | none=>rfl
     | some o=>obtain⟨d,f⟩:=th c o y;rw[z] at f;cases f
    ·cases y:H c with
     | none=>rfl
     | some o=>obtain⟨d,f⟩:=tr c (by rw[y];simp);rw[z] at f;cases f
   | some o=>
    by_cases m:c∈e::T::g8 l
    ·rcases Qm.mp m with w | m
     ·exact absurd w Y
     ·rcases Qm.mp m with w | m
      ·rw[w];exact⟨r,p⟩
      ·exfalso;obtain⟨_,d,I,n⟩:=hl.mem m;obtain⟨sl,e2⟩:=k2 c d I n;rw[U] at e2;cases e2;exact n ts Q
    ·rw[Sf _ z m] at Z;cases Z
  exact⟨oe,vs,c,oT,ts,av,q1,q2,q3,q4,q5,fz.1,fz.2,Y,U,Q,O⟩
theorem iN{h:QO}{c:List P3}(f:h.FunFrames base l)(hs:∀x∈g8 l,x∈c):h.FunFrames (Q2 h c) l :=
 PySem.W.funFrames_hide f λenv d a i=>hs a (VD.mpr ⟨env,d,i⟩)
theorem Ff{Q:Unit->P5->Prop}(f:A.frames=some (env::outer))(hf:env.frame=some L)(j:s.heap.FunFrames base (env::outer))(U:∀x o,h0.get? x=some o->∃o',s.heap.get? x=some o')(O:∀x,H x≠none->∃o,s.heap.get? x=some o)
  (F:xl h0 H e C .none s.heap) (hQ:∀h',Np h0 H (env::outer) e C .none s.heap h'->Q () {s with heap:=h'}):Qa M A (Wu env<|.ref e) Q E s:=by
 obtain⟨i,h,oe,vs,T,oT,ts,a0,q1,q2,q3,q4,q5,q6,q7,Z,Y,d,c⟩:=F;unfold Wu;refine PZ (JA (base:=Q2 s.heap (e::T::g8 (env::outer))) (C:=C) gX f (iN j λx hx=>Ql _ (Ql _ hx)) hf (λb o z=>Rz _ z) (RA _<|by simp)
  ⟨oe,vs,T,oT,ts,q1,⟨q2,q3⟩,q4,q5,RA _<|by simp,Z,Y,d,c⟩ λh1 I u r=>Fd I r λh' q p m=>?_)
 exact hQ h' (Fe (a0:=0) j U O i h q6 q7 rfl q (u.trans p) m)
theorem Cs{h1:QO}{args:List P0}{Q:Unit->P5->Prop}(u:A.frames=some (env::outer))(hf:env.frame=some L)(r:h1.FunFrames base (env::outer))(th:∀x o,h0.get? x=some o->∃f,h1.get? x=some f)(tr:∀x,H x≠none->∃o,h1.get? x=some o)
  (c:Xj h1 s.heap e C args) (hQ:∀h',Np h0 H (env::outer) e C .none h1 h'->Q () {s with heap:=h'}):Qa M A (Wu env<|.ref e) Q E s:=by
 have fr:∀x,h1.get? x=none->h0.get? x=none/\H x=none:=λx z=>by
  refine⟨?_,?_⟩
  ·cases y:h0.get? x with
   | none=>rfl
   | some o=>obtain⟨f,h⟩:=th x o y;rw[z] at h;cases h
  ·cases y:H x with
   | none=>rfl
   | some o=>obtain⟨f,h⟩:=tr x (by rw[y];simp);rw[z] at h;cases h
 obtain⟨t,O,_⟩:=c.there;have I:(Q2 h1<|g8 (env::outer)).get? e=none:=by
  cases q:(Q2 h1<|g8 (env::outer)).get? e with
  | none=>rfl
  | some o=>have:=Rz _ q;rw[c.new] at this;cases this
 unfold Wu;refine PZ (Lk (base:=Q2 h1 (g8 (env::outer))) (G:=GX (.ref t)) gX u ((iN r λx c=>c).of_keeps λb o hb _=>⟨o,c.keeps b o hb,rfl⟩) hf (λb o z=>c.keeps b o (Rz _ z)) I O rfl rfl ⟨rfl,rfl⟩ λh2 x1 x2 x3=>Fd x1 x3 λh' k1 y2 y3=>hQ h' ?_);have i:=x2.trans y2;obtain⟨oe,vs,d,oT,ts,q1,⟨q2,q3⟩,q4,q5,Z,q7,Y,U,p⟩:=y3;refine⟨λx o q n nf=>k1 x o (Sf _ q nf),λx o q m=>?_,(fr e c.new).1,(fr e c.new).2,?_⟩
 ·obtain⟨_,f,j,n⟩:=r.mem m;rw[q] at j;cases j;exact i x o (c.keeps x o q) n
 ·have fz:h0.get? d=none/\H d=none:=by
   cases z:h1.get? d with
   | none=>exact fr d z
   | some o=>
    by_cases m:d∈g8 (env::outer)
    ·exfalso;obtain⟨_,f,j,n⟩:=r.mem m;obtain⟨sl,e2⟩:=i d f (c.keeps _ _ j) n;rw[Y] at e2;cases e2;exact n ts U
    ·rw[Sf _ z m] at Z;cases Z
  exact⟨oe,vs,d,oT,ts,_,q1,q2,q3,q4,q5,fz.1,fz.2,q7,Y,U,p⟩
theorem xl.back{h0 h1 h:QO}(F:xl h1 H e C fl h)(f:∀x o,h0.get? x=some o->∃d,h1.get? x=some d):xl h0 H e C fl h:=by
 have fr:∀x,h1.get? x=none->h0.get? x=none:=λx z=>by
  cases y:h0.get? x with
  | none=>rfl
  | some o=>obtain⟨d,c⟩:=f x o y;rw[z] at c;cases c
 obtain⟨a,b,oe,vs,T,q,ts,a0,q1,q2,p,m,j,i,r⟩:=F;exact⟨fr _ a,b,oe,vs,T,q,ts,a0,q1,q2,p,m,j,fr _ i,r⟩
end
def dB(P:QK)(w:Q4):kP:=λouter H s E ev s'=>∃e C c,ev=.ref e/\s'.os=s.os/\U1 s'.gens/\Un (g8 outer) [] H c s.heap s'.heap/\jc P w c s'.heap/\xl s.heap c e C .none s'.heap/\E C none c
section
variable{e:P3}{C fl:P0}{h':QO}
theorem ay.tracked(J:ay X pins σ H s):∀x,H x≠none->∃o,s.heap.get? x=some o:=λx n=>by
 cases q:H x with
 | none=>exact absurd q n
 | some o=>exact(J.hok x o q).some
theorem ay.aft(J:ay X pins σ H s)(x:X.ex=[])(a:Np X.s₀.heap H X.stack e C fl s.heap h'):Un X.fs [] X.H₀ H X.s₀.heap h'/\jc X.prog X.w H h':=by
 have ne:∀b,b∉X.ex:=λb=>by rw[x];simp
 have p:∀b o,X.s₀.heap.get? b=some o->b∉X.fs->b∉g8 X.stack:=λb o q i m=>by
  rcases Qm.mp (J.stkSub b m) with z | z
  ·subst z;exact absurd (Qw (Qc q) J.ok.above) (RL _)
  ·exact i z
 refine⟨⟨λb o q n i _=>?_,λb o q n r _=>?_,λb o q n _=>J.base.free b o q n (ne b),λb o q _=>?_,J.base.tups,J.base.frzs,J.base.tbls⟩,λb o q=>?_⟩
 ·exact a.keep b o (J.base.keep b o q n i<|ne b) (.inl<|by rw[q];simp) (p b o q i)
 ·obtain⟨sl,h⟩:=J.base.slot b o q n r (ne b);by_cases m:b∈g8 X.stack
  ·obtain⟨d,j⟩:=a.slot b _ h m;exact⟨d,j⟩
  ·exact⟨sl,a.keep b _ h (.inl<|by rw[q];simp) m⟩
 ·obtain⟨l,h⟩:=J.base.there b o q (ne b);by_cases m:b∈g8 X.stack
  ·obtain⟨d,j⟩:=a.slot b _ h m;exact⟨_,j⟩
  ·exact⟨l,a.keep b _ h (.inl<|by rw[q];simp) m⟩
 ·refine(J.hok b o q).stay (λc u hc z=>?_) (λ_ z=>z) λ_ _ z=>z;have f:H c≠none:=by
   rcases hc with rfl | hc
   ·rw[q];simp
   ·rw[hc];simp
  exact a.keep c u z (.inr f) λm=>f (J.stkFree c m)
end
section
variable{N:List Str}{qual:Str}{scope:Q8}{f:P3}{cd:P0}{outer:List Env}{s0:P5}{H0:Hp}{E:XK}{e:P3}{C:P0}
theorem Nq(J:ay (bT (dB P w) P w K mg base N qual scope f cd A outer s0 H0 E) pins σ H s)(F:xl s0.heap H e C .none s.heap)(q:E C none H):(bT (dB P w) P w K mg base N qual scope f cd A outer s0 H0 E).xe (.ref e) s:=by
 have ne:∀b,b∉(bT (dB P w) P w K mg base N qual scope f cd A outer s0 H0 E).ex:=λb z=>nomatch z;refine Ff (base:=base) (h0:=s0.heap) (H:=H) J.ok.frames rfl J.stack (λx o z=>J.base.there x o z (ne x)) J.tracked F λh' a=>?_;obtain⟨un,hok⟩:=J.aft rfl a;exact⟨e,C,H,rfl,J.os,J.bare,un,hok,a.flew,q⟩
theorem Fg{c:P5}{args:List P0}(J:ay (bT (dB P w) P w K mg base N qual scope f cd A outer s0 H0 E) pins σ H s)(d:Xj s.heap c.heap e C args)(ho:c.os=s.os)(h:c.gens=s.gens)(q:E C none H):(bT (dB P w) P w K mg base N qual scope f cd A outer s0 H0 E).xe (.ref e) c:=by
 have ne:∀b,b∉(bT (dB P w) P w K mg base N qual scope f cd A outer s0 H0 E).ex:=λb z=>nomatch z;refine Cs (base:=base) (h0:=s0.heap) (H:=H) (h1:=s.heap) J.ok.frames rfl J.stack (λx o z=>J.base.there x o z (ne x)) J.tracked d λh' a=>?_;obtain⟨un,hok⟩:=J.aft rfl a;exact⟨e,C,H,rfl,ho.trans J.os,by rw[show({c with heap:=h'}:P5).gens=s.gens from h];exact J.bare,un,hok,a.flew,q⟩
theorem jR:ck (dB P w) (bT (dB P w) P w K mg base N qual scope f cd A outer s0 H0 E) E:=by
 rintro pins σ H s ev s' I ⟨e,C,H1,he,os,bare,un,hok,F,q⟩;subst he;have ne:∀b,b∉(bT (dB P w) P w K mg base N qual scope f cd A outer s0 H0 E).ex:=λb z=>nomatch z;obtain⟨h,g,d,t,c⟩:=s';obtain rfl:c=s.os:=os;have J:=I.call (h':=h) (g':=g) (d':=d) (t':=t) (ch:=[]) un hok bare (λb z=>absurd z (by simp));exact Nq J (F.back λx o z=>I.base.there x o z (ne x)) q
end
abbrev O7:List P0:=[.type "ValueError",.type "Exception",.type "BaseException",.type "object"]
structure O8(X:Cx)(E:XK):Prop where
 first:∀(pins:List (P3×Obj)) (σ:St) (H:Hp) (s s1:P5) (e:P3) (C:P0) (args:List P0),ay X pins σ H s->Xj s.heap s1.heap e C args->s1.os=s.os->s1.gens=s.gens->E C none H->X.xe (.ref e) s1
 pass:ck (dB X.prog X.w) X E
theorem O9{N:List Str}{qual:Str}{scope:Q8}{f:P3}{cd:P0}{outer:List Env}{c:P5}{H0:Hp}{E:XK} :
  O8 (bT (dB P w) P w K mg base N qual scope f cd A outer c H0 E) E:=⟨λ_ _ _ _ _ _ _ _ J d ho h q=>Fg J d ho h q,jR⟩
theorem Nr{N:P3}(e:Z0 K N=true):∃c,K.lookup N=some c:=by
 unfold Z0 at e;split at e
 ·exact⟨_,by assumption⟩
 ·cases e
theorem Fh{h h':QO}{N:P3}{m:Str->Option P0}(e:h'.get? N=h.get? N)(n:h.Ns N m):h'.Ns N m:=by
 unfold Heap.Ns at n ⊢;rw[e];exact n
theorem Ln{C:P3}{i:List P0}{c:String}(q:U4 K C i c=true) :
  ∃bm N nm j bs hdct sn sub ab col dd k0 k1 k2 k3 k5,(∃p,K.lookup N=some p)/\∀h:QO,K.In h->h.get? C=some (excClassObj nm j C N bs bm hdct sn sub ab col dd k0 k1 k2 k3 k5 c)/\h.Ns N (h.nsMap N)/\h.nsMap N "__init__" = none/\OwnTail h i bm:=by
 unfold U4 at q;split at q
 ·rename_i dd cd sl ho;split at q
  ·rename_i u bm k0 k1 k2 k3 n k5 o hs;simp only[Qq,beq_iff_eq,Bool.not_eq_true'] at q;obtain⟨⟨⟨⟨⟨rfl,rfl⟩,d⟩,ht⟩,hok⟩,f⟩:=q;obtain⟨nm,bs,mro,ns,j,hd,sn,sub,ab,col,r⟩:=cd;dsimp only at o d hok f;subst o d;have m:sl=#[k0,k1,k2,k3,some (.builtin n),k5]:=by
    obtain⟨l⟩:=sl;simp only at hs;rw[hs]
   subst m;exact⟨bm,ns,nm,j,bs,hd,sn,sub,ab,col,dd,k0,k1,k2,k3,k5,Nr hok,λh X=>⟨X _ _ ho,.of_isNs<|PySem.W.isNs_of_in X hok,PySem.W.nsMap_none_of_in X hok f,PySem.W.tail_of_in X ht⟩⟩
  ·cases q
 ·cases q
def Lo(E:XK)(C:P3):TS:=λ_ _ H=>E (.ref C) none H
theorem Fi{E:XK}{x y:Str}{C:P3}{j O c d pos}(Y:X.calm=true)(fl:O8 X E)(U:Gl X x)(Q:X.mg x=some (.ref C))(hC:U4 X.K C O7 "ValueError.__new__" = true)
  (hd:(x==("__debug__":Str))=false:=by decide):PS X (.Raise (some<|.Call (.Name x O) [.Constant (.str y) j d] [] c) none pos) (Lo E C):=by
 intro pins s σ H D I h;obtain⟨bm,N,nm,q,bs,hdct,sn,sub,ab,col,dd,k0,k1,k2,k3,k5,⟨oN,o⟩,at_⟩:=Ln hC;obtain⟨hCo,hN,i,T⟩:=at_ _ I.kIn;refine wpAny_Raise_call_subT (C:=C) (nm:=nm) (q:=q) (N:=N) (bs:=bs) (bm:=bm) (hdct:=hdct) (sn:=sn) (sub:=sub) (ab:=ab) (col:=col) (dd:=dd) (k0:=k0) (k1:=k1) (k2:=k2) (k3:=k3) (k5:=k5) VQ (mN:=s.heap.nsMap N) (T.hasType VQ.hasBase) (I.ok.hd Y) (by nofun) i (dM I U Q ⟨rfl,?_⟩ hd);refine SW (bv ((cg g9 d9) c pins s σ H (λvs H1=>vs.length=1/\H1=H) I ⟨rfl,rfl⟩) λus L p=>?_);obtain⟨vs,H1,I1,r,u,z⟩:=p;subst z;obtain⟨f,Z,l,T'⟩:=at_ _ I1.kIn;refine⟨rfl,?_,f,Fh ((I1.kIn _ _ o).trans (I.kIn _ _ o).symm) hN,T',λh' e m=>fl.first pins σ _ L _ e _ _ I1 m rfl rfl h⟩;show us.length≤Qf;rw[<-r.length,u];decide
structure jh(X:Cx)(H1 H:Hp)(s1:P5)(e:P3)(C fl:P0)(s:P5):Prop where
 os:s.os=s1.os
 bare:U1 s.gens
 un:Un (g8 X.stack) [] H1 H s1.heap s.heap
 hok:jc X.prog X.w H s.heap
 flew:xl s1.heap H e C fl s.heap
section
variable{H1 H:Hp}{s1 s:P5}{e:P3}{C fl fl':P0}{h':QO}{M:Yl}{Q:Unit->P5->Prop}
theorem jh.inv(I:ay X pins σ H1 s1)(R:jh X H1 H s1 e C fl s):ay X pins σ H s:=I.call' R.os R.un R.hok R.bare λb z=>absurd z (by simp)
theorem jh.aft(I:ay X pins σ H1 s1)(R:jh X H1 H s1 e C fl s)(a:Np s1.heap H X.stack e C fl' s.heap h'):jh X H1 H s1 e C fl' {s with heap:=h'}:=by
 have J:=R.inv I;refine⟨R.os,R.bare,⟨λb o q n j nx=>?_,λb o q n l nx=>?_,R.un.free,λb o q nx=>?_,R.un.tups,R.un.frzs,R.un.tbls⟩,λb o q=>?_,a.flew⟩
 ·exact a.keep b o (R.un.keep b o q n j nx) (.inl<|by rw[q];simp) j
 ·obtain⟨sl,h⟩:=R.un.slot b o q n l nx;obtain⟨d,i⟩:=a.slot b _ h l;exact⟨d,i⟩
 ·obtain⟨p,h⟩:=R.un.there b o q nx;by_cases m:b∈g8 X.stack
  ·obtain⟨d,i⟩:=a.slot b _ h m;exact⟨_,i⟩
  ·exact⟨p,a.keep b _ h (.inl<|by rw[q];simp) m⟩
 ·refine(R.hok b o q).stay (λc u hc z=>?_) (λ_ z=>z) λ_ _ z=>z;have f:H c≠none:=by
   rcases hc with rfl | hc
   ·rw[q];simp
   ·rw[hc];simp
  exact a.keep c u z (.inr f) λm=>f (J.stkFree c m)
theorem jh.traced(I:ay X pins σ H1 s1)(R:jh X H1 H s1 e C fl s):∃T a0,s1.heap.get? T=none/\H T=none/\(Q2 s.heap (e::T::g8 X.stack)).StaysIn s.heap/\s.heap.FunFrames (Q2 s.heap (e::T::g8 X.stack)) X.stack /\
  F7 s.heap (Q2 s.heap (e::T::g8 X.stack)) e C (GX a0) fl/\(Q2 s.heap (e::T::g8 X.stack)).get? e=none:=by
 obtain⟨L,u,oe,vs,T,q,ts,a0,q1,q2,p,m,l,j,i,h,f,d,c⟩:=R.flew;exact⟨T,a0,j,i,λb o z=>Rz _ z,iN (R.inv I).stack λx r=>Ql _ (Ql _ r),
  ⟨oe,vs,T,q,ts,q1,⟨q2,p⟩,m,l,RA _<|by simp,h,f,d,c⟩,RA _<|by simp⟩
theorem jh.step(I:ay X pins σ H1 s1)(R:jh X H1 H s1 e C fl s){T:P3}{a0:P0}(d:s1.heap.get? T=none)(c:H T=none)(k1:(Q2 s.heap (e::T::g8 X.stack)).StaysIn h')(k2:s.heap.UpToSlots h')
  (k3:F7 h' (Q2 s.heap (e::T::g8 X.stack)) e C (GX a0) fl'):jh X H1 H s1 e C fl' {s with heap:=h'} :=
 R.aft I (Fe (base:=X.base) (a0:=0) (R.inv I).stack (λx o z=>R.un.there x o z (by simp)) (R.inv I).tracked R.flew.1 R.flew.2.1 d c rfl k1 k2 k3)
theorem jh.note(I:ay X pins σ H1 s1)(R:jh X H1 H s1 e C .none s)(hX:X.stack=X.env::X.outer)(m:X.env.frame=some X.env.locals)(o:A.frames=some X.stack)
  (h:∀h',jh X H1 H s1 e C (SF X.env.locals) {s with heap:=h'}->Q () {s with heap:=h'}):Qa M A (TF (.ref e) X.env) Q E s:=by
 obtain⟨T,a0,l,j,i,f,d,c⟩:=R.traced I;exact JA (outer:=X.outer) gX (by rw[o,hX]) (by rw[<-hX];exact f) m i c d λh' k1 k2 k3=>h h' (R.step I l j k1 k2 k3)
theorem jh.noteAgain(I:ay X pins σ H1 s1)(R:jh X H1 H s1 e C (SF X.env.locals) s)(d:X.env.frame=some X.env.locals)(h:Q () s):Qa M A (TF (.ref e) X.env) Q E s:=by
 obtain⟨T,a0,m,l,j,i,c,f⟩:=R.traced I;exact Ll d c h
theorem jh.land(I:ay X pins σ H1 s1)(R:jh X H1 H s1 e C fl s)(h:∀h',jh X H1 H s1 e C .none {s with heap:=h'}->Q () {s with heap:=h'}):Qa M A (Vz (.ref e) none) Q E s:=by
 obtain⟨T,a0,i,f,d,l,c,j⟩:=R.traced I;exact Fd d c λh' k1 k2 k3=>h h' (R.step I i f k1 k2 k3)
theorem jh.lift(I:ay X pins σ H1 s1)(R:jh X H1 H s1 e C fl s){L:P3}(h:∀h',jh X H1 H s1 e C (SF L) {s with heap:=h'}->Q () {s with heap:=h'}):Qa M A (Vz (.ref e)<|some L) Q E s:=by
 obtain⟨p,l,oe,vs,T,Z,ts,a0,q1,q2,q3,Y,U,O,u,r,i,f,j⟩:=R.flew;have hs:3<ts.size:=(Rp.mp j).1;unfold Vz;refine PZ (Ru q1 Y U ?_);rw[if_pos (show(Qo T !=QN)=true from by simp)];refine TV i f hs ?_;refine h _ (R.aft I ⟨λx o q n nf=>?_,λx o q m=>?_,p,l,oe,vs,T,_,ts.setIfInBounds 3<|SF L,a0,?_,q2,q3,Y,U,O,u,r,RJ _ i ?_,?_,?_⟩)
 ·rw[QC _ _ λz=>?_];exact q;subst z;rcases n with n | n
  ·exact n O
  ·exact n u
 ·refine⟨o.slots,?_⟩;rw[QC _ _ λz=>?_];exact q;subst z;exact Lm (R.inv I).stack m i f
 ·rw[QC _ _ r];exact q1
 ·obtain⟨c,d,dt,sl⟩:=Z;cases f;rfl
 ·obtain⟨c,d,dt,sl⟩:=Z;cases f;rfl
 ·exact Array.getElem?_setIfInBounds_self_of_lt hs
end
@[reducible] def Cx.marked(X:Cx)(e:P3)(xe:P0->P5->Prop):Cx:={X with A:=X.A.mark (some<|.ref e),calm:=false,xe:=xe}
def Ct(oe:Obj):Prop:=∃vs,oe.data=.fields vs/\vs[2]?=some .none
def JB(base:QO)(A:RN):Prop:=A.handled=none∨∃e oe,A.handled=some (.ref e)/\base.get? e=some oe/\Ct oe
@[reducible] def Cx.markedP(X:Cx)(e:P3)(oe:Obj):Cx:={X with A:=X.A.mark (some<|.ref e),calm:=false,xe:=λ_ _=>False,pn:=(e,oe)::X.pn}
section
variable{H1 H:Hp}{s1 s:P5}{e D:P3}{C fl fl':P0}{xe:P0->P5->Prop}{Q:Flow->P5->Prop}{y:Str}{np hpos:Pos}{b₀:SK}{suite:List SK}{rest:List ExceptHandler}
theorem ay.mark(I:ay X pins σ H s):ay (X.marked e xe) pins σ H s :=
 ⟨{I.ok with hd:=λz=>nomatch z},I.os,I.bare,I.base,I.loc,I.cell,I.free,I.freeC,I.pin,I.hok,I.len⟩
theorem ay.markP{oe:Obj}(I:ay X pins σ H s)(m:(e,oe)∈pins):ay (X.markedP e oe) pins σ H s :=
 ⟨{I.ok with hd:=λz=>nomatch z},I.os,I.bare,I.base,I.loc,I.cell,I.free,I.freeC,λp c=>I.pin p (by
  rcases Rc.mp c with z | z
  ·rcases Qm.mp z with rfl | z
   ·exact Qk _ m
   ·exact Rq _ z
  ·exact Qk _ z),I.hok,I.len⟩
theorem ay.unmarkP{oe:Obj}(ok:X.Ok)(I:ay (X.markedP e oe) pins σ H s):ay X pins σ H s:=⟨ok,I.os,I.bare,I.base,I.loc,I.cell,I.free,I.freeC,λp c=>I.pin p (by
  rcases Rc.mp c with z | z
  ·exact Rq _ (Ql _ z)
  ·exact Qk _ z),I.hok,I.len⟩
theorem ay.unmark(ok:X.Ok)(I:ay (X.marked e xe) pins σ H s):ay X pins σ H s:=⟨ok,I.os,I.bare,I.base,I.loc,I.cell,I.free,I.freeC,I.pin,I.hok,I.len⟩
theorem jh.type(R:jh X H1 H s1 e C fl s)(M:Yl):RF M s.heap (Wx<|.ref e) C:=by
 obtain⟨_,_,oe,vs,T,c,ts,a0,q1,q2,_⟩:=R.flew;subst q2;exact(Wl q1).andThen .now
theorem Fj(I:ay X pins σ H1 s1)(R:jh X H1 H s1 e C .none s)(m:X.stack=X.env::X.outer)(l:X.env.frame=some X.env.locals)(j:Gl X y)(i:X.mg y=some (.ref D))(h:Sv X.K C (.ref D)=some true)
  (k:∀s',jh X H1 H s1 e C .none s'->Qa (Qd X.prog X.w) (X.A.mark<|some<|.ref e) (execs (b₀::suite) X.env) Q (notedBy (Qd X.prog X.w) (X.A.mark<|some<|.ref e) X.env<|cameBackBy (Qd X.prog X.w) X.A X.env E) s')
  (hd:(y==("__debug__":Str))=false:=by decide) :
  Qa (Qd X.prog X.w) X.A (TF (.ref e) X.env) (λ_ f=>Qa (Qd X.prog X.w) X.A (Vz (.ref e) none) (λ_ d=>Qa (Qd X.prog X.w) X.A (handleBy (.ref e) X.env (.ExceptHandler (some<|.Name y np) none (b₀::suite) hpos::rest)) Q E d) E f) E s:=by
 refine R.note I m l I.ok.frames λu R2=>R2.land I λr c=>?_;refine XF (WW ?_) (by intro q;cases q);refine dM (X:=X.marked e λ_ _=>False) (c.inv I).mark j i ?_ hd;refine(Zt (c.inv I).kIn (c.type _) h).here ?_;refine codeAny_handlers_suite ?_;refine c.land I λp o=>?_;exact k _ o
theorem Fk(I:ay X pins σ H1 s1)(R:jh X H1 H s1 e C .none s)(c:X.env.frame=some X.env.locals)(hn:X.A.handled=none)
  (k:∀s',jh X H1 H s1 e C (SF X.env.locals) s'->E (.ref e) s') :
  Qa (Qd X.prog X.w) (X.A.mark<|some<|.ref e) (exec (.Raise none none pos) X.env) Q (notedBy (Qd X.prog X.w) (X.A.mark<|some<|.ref e) X.env<|cameBackBy (Qd X.prog X.w) X.A X.env E) s:=by
 rw[arm_exec_Raise];refine PZ (R1 ?_);unfold raiseStmt;simp only[evalOpt,af4];refine PZ (V7 ?_);show Qa _ _ (rule "raise.bare" >>= λ_=>_) _ _ s;refine PZ (Uj ?_);obtain⟨r,q,oe,vs,T,oT,ts,a0,q1,q2,Z,h,f,Y,U,O,L,j,i⟩:=R.flew;refine PZ (Ru q1 h f ?_);rw[if_neg (show ¬(Qo T==QN)=true from by simp),c];refine PZ (R.lift I λh' R2=>Xb ?_);show Qa _ _ (TF _ _) _ _ _;refine R2.noteAgain I c ?_;show Qa _ _ (field _ _ >>= λ_=>_) _ _ _;obtain⟨_,_,p,d,x,_,_,_,o,_,_,m,l,_⟩:=R2.flew;refine PZ (Ru o m l ?_);rw[if_neg (show ¬(Qo x==QN)=true from by simp),c];exact R2.lift I λu z=>k _ z
end
section
variable{N:List Str}{qual:Str}{scope:Q8}{f:P3}{cd:P0}{outer:List Env}{s0:P5}{H0:Hp}{E:XK}{H1 H:Hp}{s1 s:P5}{e:P3}{C:P0}
theorem Hz(I:ay (bT (dB P w) P w K mg base N qual scope f cd A outer s0 H0 E) pins σ H1 s1)(R:jh (bT (dB P w) P w K mg base N qual scope f cd A outer s0 H0 E) H1 H s1 e C (SF (bT (dB P w) P w K mg base N qual scope f cd A outer s0 H0 E).env.locals) s)(q:E C none H) :
  (bT (dB P w) P w K mg base N qual scope f cd A outer s0 H0 E).xe (.ref e) s:=by
 have ne:∀b,b∉(bT (dB P w) P w K mg base N qual scope f cd A outer s0 H0 E).ex:=λb z=>nomatch z;show Qa (Qd P w) _ (Wu _<|.ref e) _ _ s;unfold Wu;refine PZ (R.noteAgain I rfl ?_);refine R.land I λh' R2=>?_;have J:=R2.inv I;exact⟨e,C,H,rfl,J.os,J.bare,J.base,J.hok,R2.flew.back λx o z=>I.base.there x o z (ne x),q⟩
end
section
variable{k:Nat}{f:P3}{ps:List Str}{sp:Sp}{dvs:List V}{ds:List P0}{E:XK}{x m:Str}{p pos apos:Pos}{e o:Qv}{ta:TE}{t:TA}
def Nt(X:Cx)(pins:List (P3×Obj))(σ:St)(E:XK)(ev:P0)(s':P5):Prop:=∃H1 H c e C,ev=.ref e/\ay X pins σ H1 c/\jh X H1 H c e C .none s'/\E C none H
theorem HA{Q:VK}(F:bS X.prog X.w X.K X.mg X.base (dB X.prog X.w) k f fd ps sp)(d:a9 k X.A)(hb:cC X.K fd ps ds)(hd:aJ dvs ds)
  (I:ay X pins σ H s) (r:aJ vs us) (h:sp (vs++dvs) H Q E):Qa (Qd X.prog X.w) X.A (call (.ref f) us) (EP X pins σ Q) (Nt X pins σ E) s:=by
 have r2:aJ (vs++dvs) (us++ds):=r.append hd;have i:(us++ds).length=ps.length:=by rw[<-r2.length];exact F.len _ _ _ _ h
 refine SA (Rx (F.run X.A X.stack s H ⟨us,[]⟩ (us++ds) (vs++dvs) Q E d I.env0 (hb s us I.kIn i) r2 h) λr s' c=>?_);cases r with
 | error e=>
  obtain⟨e,C,j,rfl,os,bare,un,hok,F,q⟩:=c;exact⟨H,j,s,e,C,rfl,I,⟨os,bare,un,hok,F⟩,q⟩
 | ok fl=>
  cases fl with
  | ret u=>exact I.after c
  | next=>exact QE c
  | brk=>exact QE c
  | cont=>exact QE c
def PX(X:Cx)(e:Qv)(t:XK->TE):Prop :=
 ∀(pins:List (P3×Obj)) (s:P5) (σ:St) (H:Hp) (Q:VK) (E:XK),ay X pins σ H s->t E σ H Q->Qa (Qd X.prog X.w) X.A (Q0 e X.env) (EP X pins σ Q) (Nt X pins σ E) s
theorem HB(F:bS X.prog X.w X.K X.mg X.base (dB X.prog X.w) k f fd ps sp)(j:a9 k X.A)(C:Gl X x)(l:X.mg x=some (.ref f))(u:QX X.K (.ref f)=true)(hb:cC X.K fd ps ds)(hd:aJ dvs ds)
  (L:PA X.nox (e::es) t) (d:(x==("__debug__":Str))=false:=by decide) (he:hE9 X e es:=by nofun) (c:hP9 X pos es:=by nofun) :
  PX X (.Call (.Name x p) (e::es) [] pos) (λE=>kh sp dvs E t):=by
 intro pins s σ H Q E I h;refine Re (dM I C l ?_ d);refine Sk (h₀:=X.base) I.ok.mod.kin u (QS (L pos pins s σ H _ (I.wish _) h) (λus O i=>de i λvs H1 I1 r q=>⟨I1.unwish.kIn,?_⟩) λ_ _ z=>z.elim) he c;exact HA F j hb hd I1.unwish r q
end
section
variable{k:Nat}{f C:P3}{ps:List Str}{sp:Sp}{dvs:List V}{ds:List P0}{x m:Str}{p pos apos:Pos}{e o:Qv}{ta:TE}{t:TA}
end
section
variable{pins more:List (P3×Obj)}{H1 H:Hp}{s1 s:P5}{e:P3}{C fl:P0}
theorem ay.drop(I:ay X (more++pins) σ H s):ay X pins σ H s :=
 ⟨I.ok,I.os,I.bare,I.base,I.loc,I.cell,I.free,I.freeC,λp c=>I.pin p (by
  rcases Rc.mp c with z | z
  ·exact Rq _ z
  ·exact Qk _ (Qk _ z)),I.hok,I.len⟩
theorem jh.pin(hx:X.ex=[])(I:ay X pins σ H1 s1)(R:jh X H1 H s1 e C fl s):∃oe vs T h ts a0,oe.cls=C/\GX a0 vs/\oe.data=.fields vs/\vs[1]?=some (.ref T)/\T≠e/\h.data=.fields ts/\ts[3]?=some fl/\X.s₀.heap.get? e=none/\X.s₀.heap.get? T=none /\
  (∀p∈X.pn++pins,p.1≠e/\p.1≠T)/\ay X ([(e,oe),(T,h)]++pins) σ H s:=by
 obtain⟨d,l,oe,vs,T,h,ts,a0,q1,q2,q3,x,q5,i,Z,Y,U,f,j⟩:=R.flew;have J:=R.inv I;have fr:∀a,s1.heap.get? a=none->X.s₀.heap.get? a=none:=λa z=>by
  cases y:X.s₀.heap.get? a with
  | none=>rfl
  | some o=>obtain⟨o',u⟩:=I.base.there a o y (by rw[hx];simp);rw[z] at u;cases u
 have O:∀a,s1.heap.get? a=none->a≠X.env.locals:=λa z q=>by
  obtain⟨m,⟨o,es,ep,ho,r⟩,_⟩:=I.loc;rw[<-q,z] at ho;cases ho
 have Q:∀a,s1.heap.get? a=none->a∉X.fs:=λa z q=>by
  obtain⟨_,o,ho,_⟩:=I.funs.mem q;rw[z] at ho;cases ho
 have L:∀a,s1.heap.get? a=none->∀p∈X.pn++pins,p.1≠a:=λa z p c q=>by
  have:=(I.pin p c).1;rw[q,z] at this;cases this
 refine⟨oe,vs,T,h,ts,a0,q2,q3,x,q5,Y,f,j,fr _ d,fr _ i,λp c=>⟨L _ d p c,L _ i p c⟩,⟨J.ok,J.os,J.bare,J.base,J.loc,J.cell,J.free,J.freeC,λp c=>?_,J.hok,J.len⟩⟩;have cs:∀p,p∈X.pn++pins∨p=(e,oe)∨p=(T,h)->s.heap.get? p.1=some p.2/\H p.1=none/\p.1≠X.env.locals/\p.1∉X.fs/\∀v,p.2.data≠.cell v:=λp c=>by
  rcases c with c | rfl | rfl
  ·exact J.pin p c
  ·exact⟨q1,l,O _ d,Q _ d,λv z=>by rw[x] at z;cases z⟩
  ·exact⟨U,Z,O _ i,Q _ i,λv z=>by rw[f] at z;cases z⟩
 refine cs p ?_;rcases Rc.mp c with z | z
 ·exact .inl (Rq _ z)
 ·rcases Rc.mp z with z | z
  ·rcases Qm.mp z with rfl | z
   ·exact .inr (.inl rfl)
   ·rcases Qm.mp z with rfl | z
    ·exact .inr (.inr rfl)
    ·cases z
  ·exact .inl (Qk _ z)
theorem ay.hide{T:P3}{oe O:Obj}(h0:X.s₀.heap.get? e=none)(h1:X.s₀.heap.get? T=none)(Q:∀p∈X.pn++pins,p.1≠e/\p.1≠T)(I:ay X ([(e,oe),(T,O)]++pins) σ H s):ay X pins σ H {s with heap:=Q2 s.heap [e,T]}:=by
 have j:=I.pin (e,oe) (Qk _<|by simp);have x:=I.pin (T,O) (Qk _<|by simp);have J:=I.drop;have get:∀b o,s.heap.get? b=some o->b≠e->b≠T->(Q2 s.heap [e,T]).get? b=some o:=λb o q n1 n2=>Sf _ q (by simp[n1,n2]);have d:∀b o,X.s₀.heap.get? b=some o->b≠e/\b≠T:=λb o q=>⟨λz=>(by rw[z,h0] at q;cases q),λz=>(by rw[z,h1] at q;cases q)⟩
 have h:∀c v,s.heap.IsCell c v->(Q2 s.heap [e,T]).IsCell c v:=λc v ⟨o,ho,hd⟩=>by
  refine⟨o,get c o ho (λz=>?_)<|λz=>?_,hd⟩
  ·rw[z,j.1] at ho;cases ho;exact j.2.2.2.2 _ hd
  ·rw[z,x.1] at ho;cases ho;exact x.2.2.2.2 _ hd
 refine⟨J.ok,J.os,J.bare,⟨λb o q n Z nx=>?_,λb o q n mf nx=>?_,J.base.free,λb o q nx=>?_,J.base.tups,J.base.frzs,J.base.tbls⟩,?_,λy c q=>?_,J.free,J.freeC,λp L=>?_,λb o q=>?_,J.len⟩
 ·exact get b o (J.base.keep b o q n Z nx) (d b o q).1 (d b o q).2
 ·obtain⟨sl,z⟩:=J.base.slot b o q n mf nx;exact⟨sl,get b _ z (d b o q).1 (d b o q).2⟩
 ·obtain⟨Y,z⟩:=J.base.there b o q nx;exact⟨Y,get b _ z (d b o q).1 (d b o q).2⟩
 ·obtain⟨m,⟨o,es,ep,ho,r⟩,l⟩:=J.loc;refine⟨m,⟨o,es,ep,get _ o ho (RO j.2.2.1)<|RO x.2.2.1,r⟩,λi y v a b c=>?_⟩;obtain⟨u,U,lk⟩:=l i y v a b c;refine⟨u,U,?_⟩;rcases lk with lk | ⟨lk,c,a,b⟩
  ·exact .inl lk
  ·exact .inr ⟨lk,c,a,h c _ b⟩
 ·obtain⟨v,q⟩:=J.cell y c q;exact⟨v,h c v q⟩
 ·obtain⟨a,b⟩:=J.pin p L;exact⟨get _ _ a (Q p L).1 (Q p L).2,b⟩
 ·refine(J.hok b o q).stay (λc u hc z=>?_) (λ_ z=>z) λ_ _ z=>z;have f:H c≠none:=by
   rcases hc with rfl | hc
   ·rw[q];simp
   ·rw[hc];simp
  exact get c u z (λz=>f (by rw[z];exact j.2.1)) λz=>f (by rw[z];exact x.2.1)
theorem jh.again{T:P3}{oe c:Obj}{vs ts:Array P0}{a0:P0}(h0:X.s₀.heap.get? e=none)(h1:X.s₀.heap.get? T=none)(u:∀p∈X.pn++pins,p.1≠e/\p.1≠T)(q2:oe.cls=C)(r:GX a0 vs)(m:oe.data=.fields vs)(l:vs[1]?=some (.ref T))(j:T≠e)
  (f:c.data=.fields ts) (d:ts[3]?=some fl) (I:ay X ([(e,oe),(T,c)]++pins) σ H s):∃s1,ay X pins σ H s1/\jh X H H s1 e C fl s:=by
 have h:=I.pin (e,oe) (Qk _<|by simp);have i:=I.pin (T,c) (Qk _<|by simp);refine⟨_,I.hide h0 h1 u,rfl,I.bare,⟨λb o q n x nx=>Rz _ q,λb o q n L nx=>⟨o.slots,Rz _ q⟩,λb o q n nx=>n,λb o q nx=>⟨o,Rz _ q⟩,λ_ _ z=>z,λ_ _ _ z=>z,λb ps z=>⟨#[],by rw[Array.append_empty];exact z⟩⟩,I.hok,
  RA _ (by simp),h.2.1,oe,vs,T,c,ts,a0,h.1,q2,r,m,l,RA _<|by simp,i.2.1,j,i.1,f,d⟩
end
section
variable{N:List Str}{qual:Str}{scope:Q8}{f:P3}{cd:P0}{outer:List Env}{s0:P5}{H0:Hp}{E:XK}
 {x y:Str} {i:Nat} {ec eu:Qv} {t:XK->TE} {tu:TE} {D:P3} {xp np apos upos rpos hpos pos:Pos}
def Nu(K:P7)(D:P3)(E:XK)(i:Nat)(t:XK->TE)(tu:TE):TS:=λB σ H=>t (λC _ d=>Sv K C (.ref D)=some true/\tu σ d λ_ c=>E C none c) σ H λv H1=>B.nx (σ.set i<|some v) H1
theorem HC(hN:N.Nodup)(hi:N[i]?=some x)(hx:dJ scope x)
  (he:PX (bT (dB P w) P w K mg base N qual scope f cd A outer s0 H0 E) ec t) (hu:∀e oe,Ct oe->PE ((bT (dB P w) P w K mg base N qual scope f cd A outer s0 H0 E).markedP e oe) eu tu)
  (hg:Gl (bT (dB P w) P w K mg base N qual scope f cd A outer s0 H0 E) y) (hm:mg y=some (.ref D))
  (hs:RX ec (some<|.Name x xp) apos.line (bT (dB P w) P w K mg base N qual scope f cd A outer s0 H0 E).env=pure false:=by nofun)
  (l:RX eu none upos.line (bT (dB P w) P w K mg base N qual scope f cd A outer s0 H0 E).env=pure false:=by nofun) (hd:(y==("__debug__":Str))=false:=by decide) :
  PS (bT (dB P w) P w K mg base N qual scope f cd A outer s0 H0 E) (.Try [.Assign [.Name x xp] ec apos] [.ExceptHandler (some<|.Name y np) none [.Expr eu upos,.Raise none none rpos] hpos] [] [] pos) (Nu K D E i t tu):=by
 intro pins s σ H B I h;refine Y2 (SD<|VW (QS (he pins s σ H _ _ I h) (λv L d=>de d λz H1 I1 O q1=>?_) λev L d=>?_) hs)
 ·exact gm I1 hN hi hx O (λu I2=>SQ (SQ ⟨_,H1,I2,q1⟩)) (.inl rfl)
 ·obtain⟨H1,H2,u,e,C,rfl,I1,R,q1,q2⟩:=d;refine Fj I1 R rfl rfl hg hm q1 (λs' R'=>?_) hd;obtain⟨oe,vs,T,oT,ts,a0,p1,o,m,p4,p5,p6,Z,Y,U,j,I5⟩:=R'.pin rfl I1;refine SD (QS (zu (hu e oe ⟨vs,m,o.2⟩) l _ s' σ H2 {nx:=λ_ q=>E C none q,rt:=λ_ _=>False} (I5.markP<|by simp) q2) (λfl s4 c=>?_) λ_ _ z=>z.elim);cases fl with
  | next=>
   obtain⟨r,q,I6,Q⟩:=c;obtain⟨s7,p,R7⟩:=jh.again Y U j p1 o m p4 p5 p6 Z (I6.unmarkP I1.ok);exact SD (Fk p R7 rfl (I1.ok.hd rfl) λs' R8=>Hz p R8 Q)
  | ret v=>obtain⟨_,_,_,_,_,z⟩:=c;exact z.elim
  | brk=>obtain⟨_,_,_,z⟩:=c;exact z.elim
  | cont=>obtain⟨_,_,_,z⟩:=c;exact z.elim
end
theorem bS.to1{CX:kP}{k:Nat}{f:P3}{ps:List Str}{sp:Sp}(F:bS P w K mg base eT k f fd ps sp):bS P w K mg base CX k f fd ps sp :=
 ⟨F.len,λA outer s H args us vs Q E d he hb c hs=>Rx (F.run A outer s H args us vs Q E d he hb c hs) λr s' h=>by
  cases r with
  | error e=>exact(show False from h).elim
  | ok fl=>cases fl<;>exact h⟩
theorem PS.nox{t:TS}(h:PS X.nox st t):PS X st t:=λpins s σ H D I c=>
 QS (h pins s σ H D (I.wish _) c) (λ_ _ q=>q.unwish) λ_ _ z=>QE z
theorem Fun.ok1{CX:kP}{x qual:Str}{f:P3}{N ps:List Str}{k:Nat}{sp:Sp}(F:Fun K x qual st f fd)(S:aj N ps (ae st))(len:∀vs H Q E,sp vs H Q E->vs.length=ps.length)
  (hbody:∀(c:P0) (A:RN) (outer:List Env) (s:P5) (H:Hp) (vs:List V) (Q:VK) (E:XK),a9 k (A.deeper<|Su qual (ae st) s.heap.objs.size f c)->sp vs H Q E ->
   ∃t,gC (bT CX P w K mg base N qual (ae st) f c A outer s H E) (aW st) t/\t {nx:=λ_ j=>Q .non j,rt:=Q} (fw N vs) H):bS P w K mg base CX (k+1) f fd ps sp:=by
 obtain⟨o,m,kV,doc,l,p,c,ct,osl,rfl,lk,h⟩:=F.ex;exact zB lk h S len λA outer s H vs Q E i d=>hbody c A outer s H vs Q E i d
end L2
namespace RB
open PySem PySem.Spec PyProof.Rows L2
section
theorem vn{CX:kP}{x qual:Str}{d:P3}{N ps:List Str}{k n:Nat}{b:BS}(F:Fun K x qual st d fd)(S:aj N ps (ae st))(hn:ps.length=n:=by decide)(j:ps.length≤N.length:=by decide)
  (hbody:∀(c:P0) (A:RN) (outer:List Env) (s:P5) (H:Hp) (E:XK),a9 k (A.deeper<|Su qual (ae st) s.heap.objs.size d c)->gC (bT CX P w K mg base N qual (ae st) d c A outer s H E) (aW st) (dw ⟨gy,E⟩ b)) :
  bS P w K mg base CX (k+1) d fd ps (kW gy n<|bQ N.length b):=by
 refine F.ok1 S (λvs H Q E h=>?_) (λc A outer s H vs Q E f h=>?_)
 ·obtain⟨_,_,_,_,_,_,_,_,_,i,_⟩:=h;rw[i,hn]
 ·exact qg (CX:=CX) (A:=A) (outer:=outer) (s:=s) j hn h (hbody c A outer s H E f)
end
theorem gN.refl:gN F y ρ H y ρ H:=aB.refl.to0
theorem gN.mo{y f:Option Int}{ρ d:List P3}{H H1:Hp}(a:gN F y ρ H f d H1):Mo y ρ H f d H1:=⟨a.y,λ{i c} h=>by
 obtain⟨r,rfl⟩:=a.pre;obtain⟨j,e⟩:=P9.mp h;rw[RG j];exact h,a.tup⟩
section
variable{y y1:Option Int}{ρ ρ1:List P3}{H H1:Hp}
theorem bF.mono0(a:gN F y ρ H y1 ρ1 H1){xs:dJ}{vs:L2.St}(h:bF g F y ρ H xs vs):bF g F y1 ρ1 H1 xs vs :=
 ⟨aV (λx v q=>by
  cases x with
  | none=>trivial
  | some x=>cases v with
   | none=>exact q
   | some v=>exact aT.monoM a.mo (av:=x) q) h.v,h.e.mono0 a⟩
def Lp(c:Nat):BS:=λ_ σ S=>σ.ke c .non S
theorem Fl{x z:Str}{c:Nat}{j m i f}(u:X.calm=true)(fl:O8 X g.E)(p:X.mg x=some (.ref<|g.xc c))(I:U4 X.K (g.xc c) O7 "ValueError.__new__" = true)(q:Gl X x:=by nofun)
  (hd:(x==("__debug__":Str))=false:=by decide):PS X (.Raise (some<|.Call (.Name x m) [.Constant (.str z) j f] [] i) none pos) (dw g<|Lp c) :=
 PS.imp (λD σ H o=>eO o λF y ρ S l d C r h _=>r.e y ρ S H c .non none gN.refl C rfl h) (Fi u fl q p I hd)
end
theorem d8.reE{E c:XK}:∀{o:AO} {ho:HO},d8 F y ρ H ⟨gy,E⟩ o ho->d8 F y ρ H ⟨gy,c⟩ o ho
 | .lst _,_,h=>h
 | .dk _,_,h=>h
 | .dt _,_,h=>h
 | .ins _ _,_,h=>h
 | .fz _,_,⟨ob,u,e,h⟩=>⟨ob,u,e,d8.reE h⟩
theorem aI.reE{E d:XK}{S:aM}(C:aI ⟨gy,E⟩ F y ρ S H):aI ⟨gy,d⟩ F y ρ S H :=
 ⟨C.n,C.sym,C.pos,C.nd,λi a h=>(C.at_ i a h).imp λo ⟨ho,a,b,c⟩=>⟨ho,a,b,d8.reE c⟩,C.own,C.fe,C.ol,C.J,⟨C.fl.1,C.fl.2,C.fl.3,C.fl.4,C.fl.5,C.fl.6,C.fl.7⟩⟩
section
variable{N:List Str}{qual:Str}{scope:Q8}{f:P3}{cd:P0}{outer:List Env}{s0:P5}{H0:Hp}{E:XK} 
 {x y z:Str} {i k n:Nat} {eu e:Qv} {D:P3} {xp np apos upos rpos hpos pos p cpos:Pos} {br:BA} {bu:BE} {b:BF}
def Nv(n:Nat)(f:BF)(br:BA)(i:Nat)(bu:BE):BS:=λd σ S=>br σ S λxs S1=>nJ n f xs S1 (λv h=>d.nx (Bz σ i v) h) λc av h=>match av with
 | .non=>bu σ h λ_ j=>σ.ke c .non j
 | _=>false
theorem HE(hN:N.Nodup)(hi:N[i]?=some x)(hx:L2.dJ scope x)(c:gI P w K mg base gy (dB P w) z k n b)(hr:a9 k (bT (dB P w) P w K mg base N qual scope f cd A outer s0 H0 E).A)
  (ha:PA (bT (dB P w) P w K mg base N qual scope f cd A outer s0 H0 E).nox (e::es) (iY ⟨gy,E⟩ br)) (hu:∀e oe,Ct oe->PE ((bT (dB P w) P w K mg base N qual scope f cd A outer s0 H0 E).markedP e oe) eu (up ⟨gy,E⟩ bu))
  (hm:mg y=some (.ref D)) (hD:∀c,Sv K (.ref<|gy.xc c) (.ref D)=some true)
  (hg:Gl (bT (dB P w) P w K mg base N qual scope f cd A outer s0 H0 E) y:=by nofun) (hz:Gl (bT (dB P w) P w K mg base N qual scope f cd A outer s0 H0 E) z:=by nofun)
  (hs:RX (.Call (.Name z p) (e::es) [] cpos) (some<|.Name x xp) apos.line (bT (dB P w) P w K mg base N qual scope f cd A outer s0 H0 E).env=pure false:=by nofun)
  (U:RX eu none upos.line (bT (dB P w) P w K mg base N qual scope f cd A outer s0 H0 E).env=pure false:=by nofun) (hd:(y==("__debug__":Str))=false:=by decide) (hdz:(z==("__debug__":Str))=false:=by decide)
  (he:Qy (e::es) (bT (dB P w) P w K mg base N qual scope f cd A outer s0 H0 E).env=(false,Q0 e (bT (dB P w) P w K mg base N qual scope f cd A outer s0 H0 E).env)::Qy es (bT (dB P w) P w K mg base N qual scope f cd A outer s0 H0 E).env:=by nofun)
  (Y:(Sr cpos<|Qy es (bT (dB P w) P w K mg base N qual scope f cd A outer s0 H0 E).env).any (·.1)=false:=by nofun) :
  PS (bT (dB P w) P w K mg base N qual scope f cd A outer s0 H0 E) (.Try [.Assign [.Name x xp] (.Call (.Name z p) (e::es) [] cpos) apos] [.ExceptHandler (some<|.Name y np) none [.Expr eu upos,.Raise none none rpos] hpos] [] [] pos) (dw ⟨gy,E⟩<|Nv n b br i bu):=by
 obtain⟨fa,fd,ps,hn,Fo,Z,l,hb⟩:=c;refine PS.imp (λB σ H z9=>?_) (HC hN hi hx (HB Fo hr hz Z l hb .nil ha hdz he Y) hu hg hm hs U hd);obtain⟨F,y,ρ,S,o,d,C,r,h,p1,p2,p3,p4⟩:=z9;refine bn C r h λy1 I S1 H1 m xs st C1 Q rx h1=>?_;unfold nJ at h1;cases q:Qn m.length n with
 | false=>simp only[q] at h1;cases h1
 | true=>
  simp only[q] at h1;rw[Sz];refine⟨F,y1,I,S1,m,_,_,C1.reE,rx,by rw[<-aP rx];exact Qh q,h1,λL ρ2 S2 H2 av v j C2 rv l=>?_,λL ρ2 S2 H2 cc av dd j C2 hX l=>?_⟩
  ·exact p1 L ρ2 S2 H2 _ _ (st.trans j) C2.reE (c9 (Q.mono j) rv) l
  ·dsimp only at l;split at l
   ·refine⟨hD cc,F,L,ρ2,S2,o,_,C2.reE,Q.mono0 j,l,λy3 u S3 H3 av3 v3 O C3 rv3 hk3=>?_⟩;exact Q.e y3 u S3 H3 cc .non none (j.trans O.to0) C3 rfl hk3
   ·cases l
end
end RB
namespace L2
open PySem PySem.Spec PyProof.Rows
def wide(H:Hp)(l:List Env)(h:QO):QO:=Q2 h (LV h H++g8 l)
section
theorem md{l:List Env}{h:QO}{b:P3}{o:Obj}(e:h.get? b=some o)(n:H b=none)(c:b∉g8 l):(wide H l h).get? b=some o:=by
 refine Sf _ e λm=>?_;rcases Rc.mp m with m | m
 ·have q:(H b).isSome=true:=(Vi.mp m).2;rw[n] at q;cases q
 ·exact c m
theorem HF{l:List Env}{h:QO}{b:P3}{o:Obj}(e:(wide H l h).get? b=some o):h.get? b=some o/\H b=none:=by
 have c:h.get? b=some o:=Rz _ e;refine⟨c,?_⟩;cases q:H b with
 | none=>rfl
 | some x=>
  have d:b∈LV h H++g8 l:=Rq _ (Vi.mpr ⟨WY.mpr<|Qc c,by simp[q]⟩);have z:(wide H l h).get? b=none:=RA _ d;rw[z] at e;cases e
theorem ay.notFr(I:ay X pins σ H s){b:P3}{o:Obj}(e:X.base.get? b=some o):b∉g8 X.stack:=λm=>by
 have:=(I.stack.mem m).1;rw[e] at this;cases this
theorem ay.more(I:ay X pins σ H s):∀b o,X.base.get? b=some o->(wide H X.stack s.heap).get? b=some o:=λb o e=>md (I.bs b o e).1 (I.bs b o e).2 (I.notFr e)
theorem ay.env1(I:ay X pins σ H s):jl X.prog X.w X.K X.mg (wide H X.stack s.heap) X.A X.stack s H :=
 ⟨I.ok.frames,⟨I.mod.kin.keeps I.more,I.mod.glob.keeps I.more,let ⟨c,a,b⟩:=I.mod.blt;⟨c,a.keeps I.more,b⟩,I.mod.nolimit.keeps I.more⟩,λb o e=>HF e,Yr<|WX _ _,iN I.stack λx d=>Qk _ d,I.stkFree,I.hok,I.bare⟩
end
structure f7(k:Nat)(A:RN):Prop where
 dp:A.depth+3*k+5<Te
 un:A.units+16*k+200<R0
theorem a9.toM{k:Nat}(r:a9 k A):f7 k A:=⟨r.dp,r.un⟩
theorem a9.mark{k:Nat}(r:a9 k A)(h:Option P0):f7 k (A.mark h):=⟨r.dp,r.un⟩
theorem f7.mono{j k:Nat}(r:f7 k A)(h:j≤k):f7 j A:=⟨by have:=r.dp;omega,by have:=r.un;omega⟩
theorem f7.depth{k:Nat}(r:f7 k A):A.depth<Te:=by have:=r.dp;omega
theorem f7.deeper{k:Nat}(r:f7 (k+1) A)(env:Env):f7 k (A.deeper env) :=
 ⟨by have:=r.dp;show A.depth+1+3*k+5<_;omega,by have:=r.un;show A.units+3+16*k+200<_;omega⟩
structure Fm(P:QK)(w:Q4)(K:P7)(mg:Str->Option P0)(base:QO)(CX:kP)(k:Nat)(f:P3)(fd:U6)(ps:List Str)(sp:Sp):Prop where
 len:∀vs H Q E,sp vs H Q E->vs.length=ps.length
 run:∀(A:RN) (outer:List Env) (s:P5) (H:Hp) (args:Args) (us:List P0) (vs:List V) (Q:VK) (E:XK),f7 k A->JB base A->jl P w K mg base A outer s H->Xn s fd args (ps.zip us)->aJ vs us->sp vs H Q E ->
  Tk (Qd P w) A (.call (.ref f) args) (CR CX outer P w H s Q E) s
@[reducible] def xm(CX:kP)(P:QK)(w:Q4)(K:P7)(mg:Str->Option P0)(base:QO)(N:List Str)(qual:Str)(scope:Q8)(f:P3)(cd:P0)(A:RN)(outer:List Env)(s:P5)(H:Hp)(E:XK):Cx :=
 {bT CX P w K mg base N qual scope f cd A outer s H E with calm:=false}
theorem za{CX:kP}{N ps:List Str}{qual:Str}{scope:Q8}{f:P3}{cd:P0}{outer:List Env}{s d:P5}{E:XK} 
  (S:aj N ps scope) (c:jl P w K mg base A outer s H) (h:vs.length=ps.length) (r:aJ vs us)
  (x:InCallC s s.heap.objs.size (Y8 (Su qual scope s.heap.objs.size f cd).kindOf (ps.zip us) λ_=>none) (Xo (s.heap.objs.size+1) scope.names []) (Y9 (Su qual scope s.heap.objs.size f cd).kindOf (ps.zip us) λ_=>none) d) :
  ay (xm CX P w K mg base N qual scope f cd A outer s H E) [] (fw N vs) H d:=by
 have i:jl P w K mg base {A with handled:=none} outer s H:=⟨c.frames,c.mod,c.bs,c.bsz,c.funs,c.frf,c.hok,c.bare⟩
 have I:=sN (CX:=CX) (qual:=qual) (f:=f) (cd:=cd) (E:=E) S (A:={A with handled:=none}) rfl i h r x;exact⟨{I.ok with hd:=λz=>(nomatch z),frames:=U9 c.frames},I.os,I.bare,I.base,I.loc,I.cell,I.free,I.freeC,I.pin,I.hok,I.len⟩
theorem Lq{CX:kP}{k:Nat}{x qual:Str}{f:P3}{N ps:List Str}{sp:Sp}(F:Fun K x qual st f fd)(S:aj N ps (ae st))(len:∀vs H Q E,sp vs H Q E->vs.length=ps.length)
  (hbody:∀(c:P0) (A:RN) (outer:List Env) (s:P5) (H:Hp) (vs:List V) (Q:VK) (E:XK),f7 k (A.deeper<|Su qual (ae st) s.heap.objs.size f c)->JB base (A.deeper<|Su qual (ae st) s.heap.objs.size f c)->sp vs H Q E ->
   ∃t,gC (xm CX P w K mg base N qual (ae st) f c A outer s H E) (aW st) t/\t {nx:=λ_ h=>Q .non h,rt:=Q} (fw N vs) H):Fm P w K mg base CX (k+1) f fd ps sp:=by
 obtain⟨oc,od,kV,doc,pm,an,c,ct,osl,rfl,lk,z⟩:=F.ex;refine⟨len,λA outer s H args us vs Q E L hn l hb r j=>?_⟩;have Z:=len _ _ _ _ j;have O:K.In s.heap:=l.mod.kin.keeps λb o e=>(l.bs b o e).1;have p:s.heap.NoLimit:=l.mod.nolimit.keeps λb o e=>(l.bs b o e).1;have i:∀y∈ps.zip us,(ae st).names.lookup y.1=some .local∨((ae st).names.lookup y.1=some .cell/\((Xo (s.heap.objs.size+1) (ae st).names []).lookup y.1).isSome=true):=λ⟨n,v⟩ U=>by
  rcases S.par n (Vm U).1 with q | q
  ·exact .inl q
  ·exact .inr ⟨q,UA _ _ _<|.inl q⟩
 refine WP L.depth (O _ _ lk) rfl S.co S.gen rfl (X5 O z) (hb _ _ _ _ ?_);refine VH S.kind i λenv he C x=>?_;subst he;refine⟨p.keeps x.toInCall.keep,codeAny_func ?_⟩;obtain⟨t,ht,Y⟩:=hbody c A outer s H vs Q E (L.deeper _) hn j;have I:ay (xm CX P w K mg base N qual (ae st) f c A outer s H E) [] (fw N vs) H C:=za S l Z r x;refine QS (ht [] C (fw N vs) H _ I Y) (λfl s' hs=>?_) λe s' hs=>hs;have fin:∀{d:St} {h:Hp} {v:V} {u:P0},ay (xm CX P w K mg base N qual (ae st) f c A outer s H E) [] d h s'->aN v u->Q v h->CE outer P w H s Q u s' :=
  λ{d h v u} J m q=>⟨v,h,J.os,J.bare,J.base,J.hok,m,q⟩
 cases fl with
 | ret u=>
  obtain⟨v,d,h,J,m,q⟩:=hs;exact fin J m q
 | next=>
  obtain⟨d,h,J,q⟩:=hs;exact fin (v:=V.non) (u:=QN) J rfl q
 | brk=>
  obtain⟨_,_,_,q⟩:=hs;exact QE q
 | cont=>
  obtain⟨_,_,_,q⟩:=hs;exact QE q
section
variable{k:Nat}{f C:P3}{ps:List Str}{sp:Sp}{dvs:List V}{ds:List P0}{E:XK}{m:Str}{pos apos:Pos}{e o:Qv}{ta:TE}{t:TA}
theorem Fp{pl:Sem Bool}(he:PE X o ta)(c:oP X.K C)(U:uz X.K C m f)(F:∀d,(∀b o,X.base.get? b=some o->d.get? b=some o)->Fm X.prog X.w X.K X.mg d eT k f fd ps sp)(hn:∃e oe,X.A.handled=some (.ref e)/\(e,oe)∈X.pn/\Ct oe)(hr:f7 k X.A)(hb:cC X.K fd ps ds)(hd:aJ dvs ds)(ha:PA X (e::es) t)
  (z:hE9 X e es:=by nofun) (L:hP9 X pos es:=by nofun)
  (ht:Q0 (.Call (.Attribute o m apos) (e::es) [] pos) X.env=(do
   let O <-Q0 o X.env
   SI apos.atName
   let (f,first) <-SJ [O] (TC O m pl)
   U8 pos f first (Sr pos<|Qy (e::es) X.env) (Sb pos<|Rh [] X.env)):=by nofun) :
  PE X (.Call (.Attribute o m apos) (e::es) [] pos) (zA C m sp dvs E ta t):=by
 intro pins s σ H Q I h;refine TH (pl:=pl) (bv (he pins s σ H _ I h) λu Z j=>?_) ht;obtain⟨x,H1,I1,rx,a,dx,fs,ex,ea,l,q⟩:=j;subst ex;obtain rfl:u=Qo a:=rx;refine iE I1 ea c U l ?_;refine Sk (first:=[.ref a]) (h₀:=X.base) I.ok.mod.kin U.kp (bv (ha pos pins Z σ H1 _ I1 q) λus p j=>de j λvs Y I2 r q2=>⟨I2.kIn,?_⟩) z L;have r2:aJ (.ref a::vs++dvs) (.ref a::us++ds):=(show aJ (V.ref a::vs) (Qo a::us) from .cons rfl r).append hd;have F:=F _ I2.more;have hl:(.ref a::us++ds).length=ps.length:=by rw[<-r2.length];exact F.len _ _ _ _ q2
 obtain⟨e,oe,n1,n2,n3⟩:=hn;obtain⟨p1,p2,p3,p4,_⟩:=I2.pin (e,oe) (Rq _ n2);have hh:JB (wide Y X.stack p.heap) X.A:=.inr ⟨e,oe,n1,md p1 p2 λm=>(Qm.mp<|I2.stkSub e m).elim p3 p4,n3⟩;refine SA (Rx (F.run X.A X.stack p Y ⟨.ref a::us,[]⟩ (.ref a::us++ds) (.ref a::vs++dvs) Q E hr hh I2.env1 (hb p (.ref a::us) I2.kIn hl) r2 q2) λr s' i=>?_);cases r with
 | error e=>exact(show False from i).elim
 | ok fl=>
  cases fl with
  | ret u=>exact I2.after i
  | next=>exact QE i
  | brk=>exact QE i
  | cont=>exact QE i
end
end L2
namespace RB
open PySem PySem.Spec PyProof.Rows L2
def never(f:BF):BF:=λc S k _=>f c S k λ_ _ _=>false
section
variable{k n:Nat}{f:BF}
theorem gG.reE{E l:XK}{d:AV->aM->Bool}{Q:VK}(p:gG ⟨gy,E⟩ F y ρ H d Q):gG ⟨gy,l⟩ F y ρ H d Q:=λh c i j av v st C=>p h c i j av v st C.reE
theorem xn{Q:VK}{E:XK}:kW gy n (never f) vs H Q E->kW gy n f vs H Q λ_ _ _=>False:=by
 rintro ⟨F,y,ρ,S,c,d,ke,C,r,i,h,p,_⟩;exact⟨F,y,ρ,S,c,d,λ_ _ _=>false,C.reE,r,i,h,p.reE,λ_ _ _ _ _ _ _ _ _ _ z=>by cases z⟩
theorem bS.never{c:P3}{ps:List Str}(F:bS P w K mg base (dB P w) k c fd ps (kW gy n f)):bS P w K mg base eT k c fd ps (kW gy n<|never f) :=
 ⟨λvs H Q E h=>F.len vs H Q _ (xn h),λA outer s H args us vs Q E i he hb d hs=>Rx (F.run A outer s H args us vs Q (λ_ _ _=>False) i he hb d<|xn hs) λr s' h=>by
  cases r with
  | error e=>obtain⟨_,_,_,_,_,_,_,_,_,q⟩:=h;exact q.elim
  | ok fl=>cases fl<;>exact h⟩
theorem Cu{x:Str}(c:gI P w K mg base gy (dB P w) x k n f):gI P w K mg base gy eT x k n (never f):=let ⟨d,fd,ps,a,F,b⟩:=c;⟨d,fd,ps,a,bS.never F,b⟩
theorem d5{x:Str}{c:Nat}{h:List AV}(M:mV P w K mg base gy (dB P w) c x k n h f):mV P w K mg base gy eT c x k n h (never f):=let ⟨i,fd,ps,j,d,a,F,b⟩:=M;⟨i,fd,ps,j,d,a,bS.never F,b⟩
theorem jS{CX:kP}{x:Str}(c:gI P w K mg base gy eT x k n f):gI P w K mg base gy CX x k n f:=let ⟨d,fd,ps,a,F,b⟩:=c;⟨d,fd,ps,a,F.to1,b⟩
def Fq(P:QK)(w:Q4)(K:P7)(mg:Str->Option P0)(base:QO)(gy:Gy)(c:Nat)(m:Str)(k n:Nat)(f:BF):Prop :=
 ∃h fd ps,ps.length=n/\(∀d,(∀b o,base.get? b=some o->d.get? b=some o)->Fm P w K mg d eT k h fd ps (kW gy n f))/\uz K (gy.cl c) m h/\cC K fd ps []
abbrev Pa(P:QK)(w:Q4)(K:P7)(mg:Str->Option P0)(base:QO)(gy:Gy)(N:List Str)(q:Str)(st:SK)(k:Nat)(b:BS)(d:P3):Prop:=∀{c:P0} {A:RN} {outer:List Env} {s:P5} {H:Hp} {E:XK},f7 k (A.deeper<|Su q (ae st) s.heap.objs.size d c)->JB base (A.deeper<|Su q (ae st) s.heap.objs.size d c)->gC (xm eT P w K mg base N q (ae st) d c A outer s H E).nox (aW st) (dw ⟨gy,E⟩ b)
theorem Nw{c:Nat}{x q:Str}{N ps:List Str}{b:BS}(D:tW K (gy.cl c) x q st)(S:aj N ps (ae st))(hb:L5 x q st ps)
  (hbody:∀{d},(∀b o,base.get? b=some o->d.get? b=some o)->∀{f},Pa P w K mg d gy N q st k b f) (hn:ps.length=n:=by decide) (u:ps.length≤N.length:=by decide) :
  Fq P w K mg base gy c x (k+1) n (bQ N.length b):=by
 obtain⟨z,fd,F,j⟩:=D;refine⟨z,fd,ps,hn,λd p=>Lq F S (λvs H Q E h=>?_) (λC A outer s H vs Q E l i h=>?_),j,F.binds λ_ _ _ _ _ _ us h=>hb us h⟩
 ·obtain⟨_,_,_,_,_,_,_,_,_,r,_⟩:=h;rw[r,hn]
 ·obtain⟨t,ht,m⟩:=qg (CX:=eT) (A:=A) (outer:=outer) (s:=s) u hn h (hbody p l i);exact⟨t,ht.nox,m⟩
end
section
variable{k k' n:Nat}{f:BF}{m:Str}{pos apos:Pos}{e o:Qv}{ba:BE}{br:BA}
theorem PR{pl:Sem Bool}{c:Nat}(M:Fq X.prog X.w X.K X.mg X.base g.toGy c m k n f)(x:oP X.K (g.cl c))(u:∃e oe,X.A.handled=some (.ref e)/\(e,oe)∈X.pn/\Ct oe)(p:f7 k' X.A)(ho:PE X o (up g ba))(z:PA X (e::es) (iY g br))(r:k≤k':=by decide)(q:∀i∈kU,bd[i]?≠some m:=by decide +kernel)
  (d:hE9 X e es:=by nofun) (h:hP9 X pos es:=by nofun)
  (ht:Q0 (.Call (.Attribute o m apos) (e::es) [] pos) X.env=(do
   let j <-Q0 o X.env
   SI apos.atName
   let (f,first) <-SJ [j] (TC j m pl)
   U8 pos f first (Sr pos<|Qy (e::es) X.env) (Sb pos<|Rh [] X.env)):=by nofun) :
  PE X (.Call (.Attribute o m apos) (e::es) [] pos) (up g<|cj c n [] f ba br):=by
 obtain⟨C,fd,ps,hn,F,l,hb⟩:=M;exact PE.imp (qh q λ_ _ _ _=>.nil) (Fp ho x l F u (p.mono r) hb .nil z d h ht)
theorem Fq.met{c:Nat}(M:Fq P w K mg base gy c m k n f):mV P w K mg base gy eT c m k n [] f:=by
 obtain⟨i,fd,ps,hn,F,h,hb⟩:=M;have F:=F base λ_ _ e=>e;exact⟨i,fd,ps,[],[],hn,⟨F.len,λA outer s H args us vs Q E d=>F.run A outer s H args us vs Q E d.toM (.inl d.hd)⟩,h,hb,.nil,λ_ _ _ _=>.nil⟩
end
end RB
namespace L2
open PySem PySem.Spec PyProof.Rows
section
variable{H1 H:Hp}{s1 s:P5}{e D:P3}{C fl fl':P0}{Q:Flow->P5->Prop}{y n:Str}{np hpos:Pos}{b₀:SK}{suite:List SK}{rest:List ExceptHandler}
theorem Fr(I:ay X pins σ H1 s1)(R:jh X H1 H s1 e C .none s)(u:X.stack=X.env::X.outer)(r:X.env.frame=some X.env.locals)(p:Gl X y)(o:X.mg y=some (.ref D))(m:Sv X.K C (.ref D)=some true)
  (k:∀s',jh X H1 H s1 e C .none s'->Qa (Qd X.prog X.w) (X.A.mark<|some<|.ref e) (YN X.env n<|.ref e) (λ_ d=>Qa (Qd X.prog X.w) (X.A.mark<|some<|.ref e) (execs (b₀::suite) X.env)
   (λf c=>Qa (Qd X.prog X.w) X.A (do WZ X.env n .none;Xk X.env n hpos) (λ_ l=>Q f l) E c) (λ_ _=>False) d) (λ_ _=>False) s')
  (hd:(y==("__debug__":Str))=false:=by decide) :
  Qa (Qd X.prog X.w) X.A (TF (.ref e) X.env) (λ_ d=>Qa (Qd X.prog X.w) X.A (Vz (.ref e) none) (λ_ c=>Qa (Qd X.prog X.w) X.A (handleBy (.ref e) X.env (.ExceptHandler (some<|.Name y np) (some n) (b₀::suite) hpos::rest)) Q E c) E d) E s:=by
 refine R.note I u r I.ok.frames λj R2=>R2.land I λi h=>?_;refine XF (WW ?_) (by intro q;cases q);refine dM (X:=X.marked e λ_ _=>False) (h.inv I).mark p o ?_ hd;refine(Zt (h.inv I).kIn (h.type _) m).here ?_;refine codeAny_handlers_suite_as ?_;refine h.land I λL x=>?_;refine QS (k _ x) (λ_ d j=>?_) λ_ _ z=>z.elim;exact QS j (λf c i=>i) λ_ _ z=>z.elim
theorem HG{M:Yl}{j:Nat}{Q:Unit->P5->Prop}(I:ay X pins σ H s)(hN:X.N.Nodup)(Y:X.N[j]?=some n)(hl:X.env.kindOf n=some .local)
  (h:∀s',ay X pins (σ.set j none) H s'->Q () s'):Qa M A (do WZ X.env n .none;Xk X.env n hpos) Q E s:=by
 obtain⟨m,hn,O⟩:=id I.loc;refine wpAny_nameGoes_keeps hl hn (by rw[I.ok.kind];rfl) λh' v L hs=>h _ ?_;obtain⟨oL,_,_,hoL,_⟩:=id hn;have u:j<σ.length:=by rw[I.len];exact(P9.mp Y).1
 refine⟨I.ok,I.os,I.bare,⟨λb o e n hb r=>?_,λb o e n hb r=>?_,I.base.free,λb o e r=>?_,I.base.tups,I.base.frzs,I.base.tbls⟩,⟨_,L,λi y Z l x e3=>?_⟩,λy c e=>?_,I.free,I.freeC,λp hp=>?_,λb ob e=>?_,by simpa using I.len⟩
 ·exact(hs.2 b<|Qp<|Qw (Qc e) I.ok.above).trans (I.base.keep b o e n hb r)
 ·obtain⟨sl,l⟩:=I.base.slot b o e n hb r;exact⟨sl,(hs.2 b<|Qp<|Qw (Qc e) I.ok.above).trans l⟩
 ·obtain⟨o',l⟩:=I.base.there b o e r;exact⟨o',(hs.2 b<|Qp<|Qw (Qc e) I.ok.above).trans l⟩
 ·by_cases f:i=j
  ·subst f;rw[Ti u] at x;cases x
  ·rw[TQ (RO f)] at x;obtain⟨u',r',q⟩:=O i y Z l x e3;refine⟨u',r',?_⟩;rcases q with ⟨k,e⟩ | ⟨k,c,e,z⟩
   ·refine .inl ⟨k,?_⟩;have:y≠n:=λe=>f (pz hN l<|e▸Y);simp[this,e]
   ·exact .inr ⟨k,c,e,z.sameBut hs<|I.cne y c e⟩
 ·obtain⟨U,z⟩:=I.cell y c e;exact⟨U,z.sameBut hs<|I.cne y c e⟩
 ·obtain⟨e,n,ne,nf,d⟩:=I.pin p hp;exact⟨(hs.2 p.1 ne).trans e,n,ne,nf,d⟩
 ·refine(I.hok b ob e).stay (λc U hc q=>(hs.2 c ?_).trans q) (λ_ q=>q) λ_ _ q=>q;rintro rfl;rcases hc with rfl | hc
  ·rw[I.free] at e;cases e
  ·rw[I.free] at hc;cases hc
end
section
variable{k:Nat}{f C:P3}{ps:List Str}{sp:Sp}{dvs:List V}{ds:List P0}{x m:Str}{p pos apos:Pos}{e o:Qv}{ta:XK->TE}{t:XK->TA}
end
end L2
namespace RB
open PySem PySem.Spec PyProof.Rows L2
def zc(t:Tr):Nat->Bool
 | 0=>true
 | n+1=>match t.get n with
  | some (.fz _)=>false
  | _=>zc t n
theorem xo{t:Tr}:∀{n i:Nat},zc t n=true->i<n->∀o,t.get i≠some (.fz o)
 | 0,_,_,h,_=>absurd h (WN _)
 | n+1,i,e,h,o=>λq=>by
  unfold zc at e;by_cases z:i=n
  ·subst z;rw[q] at e;cases e
  ·split at e
   ·cases e
   ·exact xo e (by omega) o q
theorem Fs{y j:Option Int}{ρ d:List P3}{H H1:Hp}{S:aM}(C:aI g F y ρ S H)(r:zc S.t S.n=true)(own:∀b o u,F.own b->H b=some (.frz o u)->H1 b=some (.frz o u))(a:gN F y ρ H j d H1):aB F y ρ H j d H1 :=
 ⟨a.y,a.pre,a.new,a.keep,a.tup,a.live,λb o u h=>by
  by_cases m:b∈ρ
  ·obtain⟨i,l⟩:=Vc m;obtain⟨q,ho,I,p,f⟩:=C.at_ i b l;rw[h] at p;cases p;have x:i<S.n:=by rw[C.n];exact(P9.mp l).1
   cases q with
   | lst xs=>obtain⟨_,z,_⟩:=f;cases z
   | dk xs=>obtain⟨_,z,_⟩:=f;cases z
   | dt xs=>obtain⟨_,z,_⟩:=f;cases z
   | ins c fs=>obtain⟨_,_,⟨_,z,_⟩,_⟩:=f;cases z
   | fz o=>exact absurd I (xo r x o)
  ·by_cases w:F.own b
   ·exact own b o u w h
   ·exact a.keep b _ h m w⟩
section
variable{k n:Nat}{f:BF}{m:Str}{ec eo e:Qv}{ba:BE}{br:BA}
end
end RB
namespace L2
open PySem PySem.Spec PyProof.Rows PySem.W
section
variable{σ:L2.St}
theorem ay.adopt{a:P3}{o:HO}(I:ay X pins σ H s)(h0:X.s₀.heap.get? a=none)(hn:H a=none)(j:a≠X.env.locals)(l:∀x c,X.env.cells.lookup x=some c->c≠a)(i:∀p∈X.pn++pins,p.1≠a)(new:bD X.prog X.w (upd H a o) s.heap a o):ay X pins σ (upd H a o) s:=by
 have ne:∀{b u},H b=some u->b≠a:=λ{b u} e z=>by rw[z,hn] at e;cases e
 refine⟨I.ok,I.os,I.bare,⟨I.base.keep,I.base.slot,λb d e n nx=>?_,I.base.there,λb xs e=>?_,λb d u e=>?_,λb ps e=>?_⟩,I.loc,I.cell,?_,λx c e=>?_,λp f=>?_,λb ob e=>?_,I.len⟩
 ·rw[al λz=>by rw[z,h0] at e;cases e];exact I.base.free b d e n nx
 ·have:=I.base.tups b xs e;rw[al (ne this)];exact this
 ·have:=I.base.frzs b d u e;rw[al (ne this)];exact this
 ·obtain⟨m,z⟩:=I.base.tbls b ps e;exact⟨m,by rw[al (ne z)];exact z⟩
 ·rw[al (RO j)];exact I.free
 ·rw[al (l x c e)];exact I.freeC x c e
 ·obtain⟨q1,q2,h⟩:=I.pin p f;exact⟨q1,by rw[al (i p f)];exact q2,h⟩
 ·by_cases z:b=a
  ·subst z;rw[aA] at e;cases e;exact new
  ·rw[al z] at e;exact(I.hok b ob e).stay (λ_ _ _ q=>q) (λc q=>by rw[al (ne q)];exact q) λc xs q=>by rw[al (ne q)];exact q
end
end L2
namespace RB
open PySem PySem.Spec PyProof.Rows L2
section
variable{S:aM}
end
section
variable{o:Qv}{ba:BE}{p pos apos cpos:Pos}
end
end RB
namespace RB
open PySem L2
def nR(t r:P3)(H c:Hp):Prop:=∀b o,H b=some o->b≠t->b≠r->c b=some o
def cz(c:Int)(r:P3):List (bj×V):=[(TJ "count",V.int c),(TJ "rests",V.ref r)]
theorem PU:¬(("rests":Str) = "count"):=by decide +kernel
theorem Pv:¬(("count":Str) = "rests"):=by decide +kernel
theorem jT(c:Int)(r:P3):c7 (cz c r) (TJ "count")=some (.int c):=by simp[cz,c7]
theorem jU(c:Int)(r:P3):c7 (cz c r) (TJ "rests")=some (.ref r):=by simp[cz,c7,Pv]
theorem Cv(c x:Int)(r:P3):df (cz c r) (TJ "count") (.int x)=cz x r:=by simp[cz,df,PU]
structure nS(kvs:List (bj×V)):Prop where
 nd:(kvs.map (·.1)).Nodup
 kv:∀p∈kvs,∃i j:Int,p=(Ug i,V.int j)/\0≤i/\i<64
structure li(H:Hp)(t r:P3):Prop where
 ne:t≠r
 tw:∃c,H t=some (.dK<|cz c r)
 rs:∃kvs,H r=some (.dK kvs)/\nS kvs
theorem li.notL{t r:P3}(T:li H t r){a:P3}{o:HO}(h:H a=some o)(n:∀kvs,o≠.dK kvs):a≠t/\a≠r:=by
 obtain⟨_,⟨c,h1⟩,kvs,d,_⟩:=T;exact⟨λe=>by subst e;rw[h1] at h;cases h;exact n _ rfl,λe=>by subst e;rw[d] at h;cases h;exact n _ rfl⟩
theorem nR.sq{H c:Hp}{t r a:P3}(e:nR t r H c)(T:li H t r)(h:ie K H a xs):ie K c a xs:=by
 rcases h with (h | ⟨o,h⟩) | h
 ·exact .inl (.inl<|e _ _ h (T.notL h λ_ z=>nomatch z).1 (T.notL h λ_ z=>nomatch z).2)
 ·exact .inl (.inr ⟨o,e _ _ h (T.notL h λ_ z=>nomatch z).1 (T.notL h λ_ z=>nomatch z).2⟩)
 ·exact .inr h
theorem AK:∀(n:Nat) (l:List Nat),l.Nodup->(∀x∈l,x<n)->l.length≤n
 | 0,l,_,h=>by
  cases l with
  | nil=>simp
  | cons x l=>exact absurd (h x Qj) (WN _)
 | n+1,l,nd,h=>by
  have h1:(l.erase n).Nodup:=nd.erase n;have f:=AK n (l.erase n) h1 λx c=>by
   have:=(List.Nodup.mem_erase_iff nd).mp c;have:=h x this.2;omega
  have d:=List.length_erase (a:=n) (l:=l);split at d<;>omega
def Lr:bj×V->Nat
 | (.inl i,_)=>i.toNat
 | _=>0
theorem nS.len{kvs:List (bj×V)}(R:nS kvs):kvs.length≤64:=by
 have h:=AK 64 (kvs.map Lr) ?_ ?_
 ·simpa using h
 ·have nd:=R.nd;rw[List.Nodup,V1] at nd ⊢;refine nd.imp_of_mem λ{p q} c l ne e=>?_;obtain⟨i,j,rfl,h1,m⟩:=R.kv p c;obtain⟨d,o,rfl,u,r⟩:=R.kv q l;simp[Lr] at e;have:i=d:=by omega
  subst this;exact ne rfl
 ·intro x f;obtain⟨p,c,rfl⟩:=RS.mp f;obtain⟨i,j,rfl,h1,m⟩:=R.kv p c;simp[Lr];omega
theorem nS.val{kvs:List (bj×V)}(R:nS kvs){k:bj}{v:V}(h:c7 kvs k=some v):∃j:Int,v=.int j:=by
 unfold c7 at h;rw[Tl] at h;obtain⟨p,c,rfl⟩:=h;obtain⟨i,j,rfl,_⟩:=R.kv p (List.mem_of_find?_eq_some c);exact⟨j,rfl⟩
theorem nS.put{kvs:List (bj×V)}(R:nS kvs){i j:Int}(h1:0≤i)(l:i<64):nS (df kvs (.inl i)<|.int j):=by
 unfold df;split
 ·refine⟨?_,λp hp=>?_⟩
  ·have e:(kvs.map λkv=>if kv.1=(Ug i:bj) then(kv.1,V.int j) else kv).map (·.1)=kvs.map (·.1):=by
    rw[TZ];apply Vs;intro p _;simp only[Function.comp_apply];split<;>rfl
   rw[e];exact R.nd
  ·obtain⟨q,c,rfl⟩:=RS.mp hp;split
   ·obtain⟨a,b,rfl,h,f⟩:=R.kv q c;exact⟨a,j,rfl,h,f⟩
   ·exact R.kv q c
 ·rename_i d;refine⟨?_,λp hp=>?_⟩
  ·rw[Vo];refine zP R.nd λm=>d ?_;obtain⟨q,c,e⟩:=RS.mp m;exact List.any_eq_true.mpr ⟨q,c,decide_eq_true e⟩
  ·rcases Rc.mp hp with hp | hp
   ·exact R.kv p hp
   ·simp at hp;exact⟨i,j,hp,h1,l⟩
section
def m8(K:P7):Sp:=λvs H Q _=>∃a ns t r m,vs=[.ref a,.ref t,.int m]/\ie K H a (TB V.int ns)/\ns.length≤63/\li H t r/\0<m/\m≤1000000 /\
 ∀x c,0≤x->x<m->li c t r->nR t r H c->Q (.int x) c
theorem bZ(x m:Int)(h:0<m):0≤x%m/\x%m<m:=⟨Int.emod_nonneg _<|by omega,Int.emod_lt_of_pos _ h⟩
theorem fJ:aj ["_law_script","_law_town","_law_many","_law_at","_law_rest","_law_number"] ["_law_script","_law_town","_law_many"] (ae<|aH 104):=⟨rfl,rfl,rfl,by decide +kernel,rfl,by decide +kernel,by decide +kernel⟩
theorem HH(d:cO K mg "_law_draw" (aH 104))(M:Mods mg):Jc P w K mg base "_law_draw" 1 ["_law_script","_law_town","_law_many"] (m8 K):=by
 refine d.ok fJ (λvs H Q E h=>?_) (λ_ _ _ _ _ _ us hl=>match us,hl with | [_,_,_],_=>rfl) (λf cdv A outer s H vs Q E hr h=>?_)
 ·obtain⟨a,ns,t,r,m,rfl,_⟩:=h;rfl
 ·obtain⟨a,ns,t,r,m,rfl,hS,hns,T,I,hm2,k⟩:=h;have Z:=dC hr;apply Tt;apply T4
  ·(conv=>arg 2;whnf)
   with_reducible exact(cX (wj Z (pv 1) g9 (fu fR (ju Z (pv 1) g9<|by with_unfolding_all exact(λ_ _=>rfl)) cW)<|by nofun)
   (cX (kM (i:=3) fJ.nd (by nofun) (by with_unfolding_all exact(UG rfl))<|pB (v1 (pv 0)<|by with_unfolding_all exact(λ_=>rfl)) (fu mB (ju Z (pv 1) g9<|by with_unfolding_all exact(λ_ _=>rfl))<|ii lG (by nofun) M.len Se<|cg (pv 0) d9) cW)
   (cX (kM (i:=4) fJ.nd (by nofun) (by with_unfolding_all exact(UG rfl))<|Bv Z (ju Z (pv 1) g9<|by with_unfolding_all exact(λ_ _=>rfl)) (pv 3) (pB (v1 (pv 0)<|by with_unfolding_all exact(λ_=>rfl)) (IY zK (pv 0) (pv 3)<|by with_unfolding_all exact(λ_ _=>rfl)) cW)<|by with_unfolding_all exact⟨rfl,rfl,rfl,rfl⟩)
   (cX (IS (uy IV (pv 4) (fu Dm cW cW)<|by with_unfolding_all exact(Dp _)) (cX (wj Z (ju Z (pv 1) g9<|by with_unfolding_all exact(λ_ _=>rfl)) (pv 3) (fu ux (pv 4)<|pv 2)<|by nofun)
   (oM<|ut<|fu mB (pv 4)<|pv 2)) zt)
   (cX (kM (i:=5) fJ.nd (by nofun) (by with_unfolding_all exact(UG rfl))<|fu mB (fu fR (pv 4)<|fu pF cW<|ju Z (pv 1) g9<|by with_unfolding_all exact(λ_ _=>rfl)) cW)
   (cX (kM (i:=5) fJ.nd (by nofun) (by with_unfolding_all exact(UG rfl))<|fu mB (fu Dm (pv 5) cW) cW)
   (oM<|ut<|fu mB (fu ux (fu mB (fu fR (fu pF (fu ux (pv 5) cW) cW)<|pv 5) cW) cW)<|pv 2)))))))
  have e0:L2.fw ["_law_script","_law_town","_law_many","_law_at","_law_rest","_law_number"] [.ref a,.ref t,.int m]=[some (.ref a),some (.ref t),some (.int m),none,none,none]:=rfl;rw[e0];obtain⟨ne,⟨c,ht⟩,kvs,hk,R⟩:=id T;have hl2:(cz c r).length<Qf:=bX (by simp[cz])
  -- town["count"]=town["count"]+1
  simp only[uH,zU,Bx,Jf,Sx,Uv,Wm,bP,pY,D4,zV,wl,List.set_cons_succ,List.set_cons_zero,GG,Bw,yk,DZ,oR,D1,nI,ym,Kt,Kv,D3,zW,lM,cJ ht,jT,pX,Cv];refine⟨hl2,?_⟩;have s1:nR t r H (upd H t<|.dK<|cz (c+1) r):=λb o h n1 n2=>by
   rw[al n1];exact h
  generalize hH1:upd H t (.dK<|cz (c+1) r)=H1 at s1;have q:H1 t=some (.dK<|cz (c+1) r):=by rw[<-hH1];exact aA
  have O:H1 r=some (.dK kvs):=by rw[<-hH1,al ne.symm];exact hk
  have C:=s1.sq T hS;have T1:li H1 t r:=⟨ne,⟨_,q⟩,kvs,O,R⟩
  have l:∀(i z:Int),∃j:Int,(c7 kvs<|Ug i).getD (V.int z)=V.int j:=λi z=>by
   cases e:c7 kvs (Ug i:bj) with
   | none=>exact⟨z,rfl⟩
   | some v=>obtain⟨j,rfl⟩:=R.val e;exact⟨j,rfl⟩
  have hl64:kvs.length<Qf:=bX (Rg R.len<|by decide);have L:∀(i j:Int),0≤i->i<64->li (upd H1 r<|.dK<|df kvs (.inl i)<|.int j) t r/\nR t r H (upd H1 r<|.dK<|df kvs (.inl i)<|.int j):=λi j h0 h1=>by
   refine⟨⟨ne,⟨_,by rw[al ne];exact q⟩,_,aA,R.put h0 h1⟩,λb o h n1 n2=>?_⟩;rw[al n2];exact s1 b o h n1 n2
  refine⟨!(ns.map V.int).isEmpty,.inl ⟨_,C,rfl⟩,?_⟩;cases hns0:ns with
  | nil=>
   rw[hns0] at C;simp only[UD,Y3,U5,Qt,cJ q,bP,jU,cJ O,if_false];refine⟨!(([]:List Int).map V.int).isEmpty,.inl ⟨_,C,rfl⟩,?_⟩;simp only[UD,Y3,U5,Qt,if_false];obtain⟨rest,u⟩:=l 0 0;rw[u];have h0:(0:Int)≤0:=by decide
   have h1:(0:Int)<64:=by decide
   simp only[nI,pX,D0];refine⟨⟨by decide,by decide,by decide⟩,?_⟩;by_cases hb:(10:Int) ^ Y4 18≤rest
   ·simp only[hb,decide_true,cJ q,bP,jU,pY,cJ O,lM,oR,yk,uH,Sx,Uv,Wm,nI,if_true];exact⟨⟨I,by omega⟩,hl64,I,k _ _ (bZ _ _ I).1 (bZ _ _ I).2 (L _ _ h0 h1).1 (L _ _ h0 h1).2⟩
   ·simp only[hb,decide_false,Qt,cJ q,bP,jT,nI,pX,if_false];refine⟨.inl ⟨by decide,by decide⟩,by decide,?_⟩;generalize hx:(rest+104729*(c+1))%4294967291=x;have x0:0≤x/\x<4294967291:=by rw[<-hx];exact bZ _ _ (by decide)
    refine⟨⟨by decide,by decide,by omega⟩,by decide,?_⟩;generalize hy:x ^ Y4 5%4294967279=y;have y0:0≤y/\y<4294967279:=by rw[<-hy];exact bZ _ _ (by decide)
    refine⟨⟨by decide,by decide⟩,.inr ⟨by decide,by decide⟩,by decide,⟨by decide,by decide⟩,I,k _ _ (bZ _ _ I).1 (bZ _ _ I).2 T1 s1⟩
  | cons Y p=>
   rw[hns0] at C hns;simp only[Qx,YK,Z1,cJ q,bP,jT,nI,lM,if_true];refine⟨a,_,rfl,.inl C,?_⟩;have hlen:((TB V.int (Y::p)).length:Int)=((Y::p).length:Int):=by simp
   rw[hlen];have hlp:(0:Int)<((Y::p).length:Int):=by simp only[Rm];omega
   refine⟨hlp,?_⟩;have U:=bZ (c+1) _ hlp;generalize hatx:(c+1)%((Y::p).length:Int)=at' at U;have h0:0≤at':=U.1;have h1:at' < 64:=by have:=U.2;simp at this hns;omega
   simp only[jU,bP,cJ O];refine⟨!((Y::p).map V.int).isEmpty,.inl ⟨_,C,rfl⟩,?_⟩;simp only[Qx,YK,Z1,if_true];obtain⟨j,rfl⟩:=Wn h0;have hj:j<(Y::p).length:=by have:=U.2;omega
   refine⟨a,_,_,.int<|(Y::p)[j],rfl,rfl,C,zI<|by rw[QZ,QA hj];rfl,?_⟩;simp only[cJ O,bP];obtain⟨rest,u⟩:=l (j:Int) ((Y::p)[j]);rw[u];simp only[nI,pX,D0];refine⟨⟨by decide,by decide,by decide⟩,?_⟩;by_cases hb:(10:Int) ^ Y4 18≤rest
   ·simp only[hb,decide_true,cJ q,bP,jU,pY,cJ O,lM,oR,yk,uH,Sx,Uv,Wm,nI,if_true];exact⟨⟨I,by omega⟩,hl64,I,k _ _ (bZ _ _ I).1 (bZ _ _ I).2 (L _ _ h0 h1).1 (L _ _ h0 h1).2⟩
   ·simp only[hb,decide_false,Qt,cJ q,bP,jT,nI,pX,if_false];refine⟨.inl ⟨by decide,by decide⟩,by decide,?_⟩;generalize hx:(rest+104729*(c+1))%4294967291=x;have x0:0≤x/\x<4294967291:=by rw[<-hx];exact bZ _ _ (by decide)
    refine⟨⟨by decide,by decide,by omega⟩,by decide,?_⟩;generalize hy:x ^ Y4 5%4294967279=y;have y0:0≤y/\y<4294967279:=by rw[<-hy];exact bZ _ _ (by decide)
    refine⟨⟨by decide,by decide⟩,.inr ⟨by decide,by decide⟩,by decide,⟨by decide,by decide⟩,I,k _ _ (bZ _ _ I).1 (bZ _ _ I).2 T1 s1⟩
def AL:Sp:=λvs H Q _=>vs=[]/\∀t r c,li c t r->Km H c->H t=none->H r=none->Q (.ref t) c
theorem vp:aj [] [] (ae<|aH 105):=⟨rfl,rfl,rfl,by decide +kernel,rfl,by decide +kernel,by decide +kernel⟩
theorem Ft(d:cO K mg "_law_begun" (aH 105))(M:Mods mg):Jc P w K mg base "_law_begun" 1 [] AL:=by
 refine d.ok vp (λvs H Q E h=>?_) (λ_ _ _ _ _ _ us l=>match us,l with | [],_=>rfl) (λf m A outer s H vs Q E r h=>?_)
 ·obtain⟨rfl,_⟩:=h;rfl
 ·obtain⟨rfl,k⟩:=h;apply Tt;apply T4
  ·(conv=>arg 2;whnf)
   with_reducible exact(oM<|ut<|zO (pN g9 cW<|pN g9 wb zN) (by nofun) (by nofun) (by simp)<|by decide)
  simp only[oR];intro p j;simp only[pM];simp only[Jf];intro q hq;have c:q≠p:=λe=>by subst e;rw[aA] at hq;cases hq
  have i:H q=none:=by rw[<-hq,al c]
  refine⟨by rw[al c.symm];exact aA,cz 0 q,rfl,by show 2≤15;decide,?_⟩;have e:dR [] (cz 0 q)=cz 0 q:=by simp[dR,cz,df,Pv]
  rw[e];refine k p q _ ⟨c.symm,⟨0,aA⟩,[],by rw[al c];exact aA,⟨Tf,λ_ h=>by simp at h⟩⟩ ?_ j i;intro b o h;rw[al (cV h j),al (cV h i),al (cV h j)];exact h
end
end RB
namespace RB
open PySem PySem.Spec PyProof.Rows L2
def tZ(K:P7)(F:Fx):Prop:=∃a ns t r,F.ext 11=.ref a/\F.ext 12=.ref t/\F.own t/\F.own r /\
 (∀H,F.J H->ie K H a (TB V.int ns)/\ns.length≤63/\li H t r)/\∀H c,F.J H->li c t r->nR t r H c->F.J c
def Fu(k:AV->aM->Bool)(S:aM):Nat->Bool
 | 0=>true
 | n+1=>match Fu k S n with
  | true=>k (.int false (.ofNat n)<|.ofNat n) S
  | false=>false
def HI(S:aM):aM:=⟨S.n,true,S.t⟩
def nU(r:BA):BE:=λσ S k=>r σ S λxs S1=>match xs with
 | [.ext i,.ext j,.int false (.ofNat lo) (.ofNat c)]=>match Qn i 11&&Qn j 12&&Qn lo c with
  | true=>match RZ lo 10 with
   | true=>match RZ 0 lo with
    | true=>Fu k S1 lo
    | false=>false
   | false=>match S1.sym with
    | true=>false
    | false=>match QV lo 1000 with
     | true=>match k (.int false 0 0) S1 with
      | true=>k (.int true 0 0) (HI S1)
      | false=>false
     | false=>false
  | false=>false
 | _=>false
section
theorem AM{k:AV->aM->Bool}{S:aM}:∀{n:Nat},Fu k S n=true->∀i,i<n->k (.int false (.ofNat i)<|.ofNat i) S=true
 | 0,_,i,c=>absurd c (WN _)
 | n+1,h,i,c=>by
  unfold Fu at h;cases q:Fu k S n with
  | false=>rw[q] at h;cases h
  | true=>
   rw[q] at h;rcases ad3 i n with z | z
   ·exact AM q i z
   ·have:i=n:=by omega
    subst this;exact h
theorem Fv{br:BA}(hd:∀F,g.dr F->tZ K F):∀σ H Q,up g (nU br) σ H Q->kh (m8 K) [] E0 (iY g br) σ H Q:=λσ H Q hx=>eO hx λF y ρ S σa k C r h p=>
 bn C r h λY f S1 H1 axs xs st C1 r1 L h1=>by
  split at h1
  ·rename_i i j lo hi;split at h1
   ·rename_i q;simp only[Qq] at q;have ei:=Qh q.1.1;have ej:=Qh q.1.2;have el:=Qh q.2;subst ei ej el;obtain⟨a,ns,t,Z,e1,e2,ot,orr,fj,re⟩:=hd F C1.fl.dr;obtain⟨x0,_,rfl,r0,L⟩:=CZ L;obtain⟨x1,_,rfl,r2,L⟩:=CZ L;obtain⟨x2,_,rfl,r3,L⟩:=CZ L;cases L;have e3:x0=.ref a:=(show x0=F.ext 11 from r0).trans e1;have e4:x1=.ref t:=(show x1=F.ext 12 from r2).trans e2;obtain⟨z,rfl,b1,b2⟩:=r3;have e5:z=VA lo:=by omega
    subst e3 e4 e5;obtain⟨sq,hn,T⟩:=fj H1 C1.J
    -- what a draw leaves
    have nt:∀c∈f,c≠t/\c≠Z:=λc hc=>⟨λz=>C1.own c hc (by rw[z];exact ot),λz=>C1.own c hc (by rw[z];exact orr)⟩
    have fin:∀(x:Int) (d:Hp) (m:Option Int) (U:aM) (av:AV),li d t Z->nR t Z H1 d->(∀z,Y=some z->m=some z)->U.n=S1.n->U.t=S1.t->U.sym=m.isSome->(∀z,m=some z->1≤z)->aT F m f d av (.int x)->k av U=true->Q (.int x) d:=λx d m U av O l hy sn stt ss sp ra hk=>by
     have kt:∀b vs,H1 b=some (.tup vs)->d b=some (.tup vs):=λb vs q=>l b _ q (T.notL q λ_ z=>nomatch z).1 (T.notL q λ_ z=>nomatch z).2;have I:aB F Y f H1 m f d:=by
      refine⟨hy,⟨[],by simp⟩,λ_ h=>.inl h,λb o q n w=>l b o q (λz=>w (by rw[z];exact ot)) (λz=>w (by rw[z];exact orr)),kt,λb q=>?_,λb o u q=>l b _ q (T.notL q λ_ z=>nomatch z).1 (T.notL q λ_ z=>nomatch z).2⟩;cases e:H1 b with
      | none=>rfl
      | some o=>
       obtain⟨_,⟨c,t1⟩,kvs,t2,_⟩:=O;by_cases z1:b=t
       ·rw[z1,t1] at q;cases q
       ·by_cases z2:b=Z
        ·rw[z2,t2] at q;cases q
        ·rw[l b o e z1 z2] at q;cases q
     have C2:aI g F m f U d:=by
      refine⟨by rw[sn];exact C1.n,ss,sp,C1.nd,λi c ec=>?_,C1.own,C1.fe,λb w q=>C1.ol b w (I.live b q),re H1 d C1.J O l,C1.fl⟩;obtain⟨o,ho,h1,h2,h3⟩:=C1.at_ i c ec;have:=nt c (QB ec);exact⟨o,ho,by rw[stt];exact h1,l c ho h2 this.1 this.2,d8.mono I h3⟩
     exact p m f U d av _ (st.trans I) C2 ra hk
    split at h1
    ·rename_i ql;split at h1
     ·rename_i q0;have q0:0+1≤lo:=bA q0;have ql:lo+1≤10:=bA ql;refine⟨a,ns,t,Z,VA lo,rfl,sq,hn,T,?_,?_,λx d x0 x1 O l=>?_⟩
      ·show(0:Int)<(lo:Int);omega
      ·show(lo:Int)≤1000000;omega
      ·obtain⟨n,rfl⟩:=Wn x0;have hlt:n<lo:=by
        have:(n:Int)<(lo:Int):=x1;omega
       exact fin _ d Y S1 (.int false (.ofNat n)<|.ofNat n) O l (λ_ h=>h) rfl rfl C1.sym C1.pos ⟨_,rfl,Rr _,Rr _⟩ (AM h1 n hlt)
     ·cases h1
    ·rename_i ql;have ql:¬lo<10:=λz=>by
      have:RZ lo 10=true:=by simp[Nat.blt_eq];exact z
      rw[this] at ql;cases ql
     split at h1
     ·cases h1
     ·rename_i qs;split at h1
      ·rename_i qm;have qm:=bA qm;split at h1
       ·rename_i h0;refine⟨a,ns,t,Z,VA lo,rfl,sq,hn,T,?_,?_,λx d x0 x1 O l=>?_⟩
        ·show(0:Int)<(lo:Int);omega
        ·show(lo:Int)≤1000000;omega
        ·by_cases z:x=0
         ·subst z;exact fin 0 d Y S1 (.int false 0 0) O l (λ_ h=>h) rfl rfl C1.sym C1.pos ⟨0,rfl,Rr _,Rr _⟩ h0
         ·have hy:Y=none:=by
           have:=C1.sym;rw[qs] at this;cases Y with
           | none=>rfl
           | some _=>cases this
          refine fin x d (some x) (HI S1) (.int true 0 0) O l (λw hw=>by rw[hy] at hw;cases hw) rfl rfl rfl (λw hw=>by cases hw;omega) ⟨x,x,rfl,rfl,by omega,by omega⟩ h1
       ·cases h1
      ·cases h1
   ·cases h1
  ·cases h1
theorem ph{e:Qv}{p pos:Pos}{br:BA}(c:Jc X.prog X.w X.K X.mg X.base "_law_draw" 1 ["_law_script","_law_town","_law_many"] (m8 X.K))(hd:∀F,g.dr F->tZ X.K F)(f:a9 1 X.A)(i:PA X (e::es) (iY g br))(h:Gl X "_law_draw":=by nofun)
  (he:hE9 X e es:=by nofun) (d:hP9 X pos es:=by nofun):PE X (.Call (.Name "_law_draw" p) (e::es) [] pos) (up g<|nU br) :=
 PE.imp (Fv hd) (DU c f i h (by decide) he d)
end
def Pb(r:BA):BE:=λσ S k=>r σ S λxs S1=>match xs with
 | [.ext i,.ext j,.int false (.ofNat lo) (.ofNat c)]=>match Qn i 11&&Qn j 12&&Qn lo c with
  | true=>match RZ 0 lo&&QV lo 1000 with
   | true=>k (.int false 0<|VA<|lo - 1) S1
   | false=>false
  | false=>false
 | _=>false
section
def Nx:AV->AV->aM->(AV->aM->Bool)->Bool:=λa b S k=>match a,b with
 | .int s lo f,.int s' c d=>match BB s lo f s' c d with
  | some b=>k (.bl b) S
  | none=>match k (.bl true) S with
   | true=>k (.bl false) S
   | false=>false
 | _,_=>false
theorem HJ:io g (xW λi j=>.bl (decide<|i<j)) Nx:=by
 intro F y ρ S H x z ax o k Q C l f h p;cases ax with
 | int s lo m=>cases o with
  | int s' c d=>
   obtain⟨i,rfl,b1⟩:=aZ.mp l;obtain⟨j,rfl,b2⟩:=aZ.mp f;refine⟨i,j,rfl,rfl,?_⟩;dsimp only;unfold Nx at h;dsimp only at h;cases e:BB s lo m s' c d with
   | some b=>
    rw[e] at h;rw[kZ C.pos b1 b2 e];exact p.here C (av:=.bl b) rfl h
   | none=>
    rw[e] at h;dsimp only at h;split at h
    ·rename_i h0;by_cases q:i<j
     ·rw[decide_eq_true q];exact p.here C (av:=.bl true) rfl h0
     ·rw[decide_eq_false q];exact p.here C (av:=.bl false) rfl h
    ·cases h
  | _=>cases h
 | _=>cases h
end
def xq(K:P7)(F:Fx):Prop:=tZ K F/\∀H c,F.J H->F.J c->∀b o u,F.own b->H b=some (.frz o u)->c b=some (.frz o u)
section
variable{k n:Nat}
abbrev Ls(P:QK)(w:Q4)(K:P7)(mg:Str->Option P0)(base:QO)(gy:Gy)(N:List Str)(x:Str)(st:SK)(k:Nat)(b:BS)(f:P3):Prop:=∀{c:P0} {A:RN} {outer:List Env} {s:P5} {H:Hp} {E:XK},a9 k (A.deeper<|Su x (ae st) s.heap.objs.size f c)->(A.deeper<|Su x (ae st) s.heap.objs.size f c).units+1<R0 ->
 gC (bT (dB P w) P w K mg base N x (ae st) f c A outer s H E) (aW st) (dw ⟨gy,E⟩ b)
theorem AN{x:Str}{N ps:List Str}{b:BS}(d:cO K mg x st)(S:aj N ps (ae st))(hb:L5 x x st ps)(hbody:∀{f},Ls P w K mg base gy N x st k b f)(hn:ps.length=n:=by decide)(j:ps.length≤N.length:=by decide) :
  gI P w K mg base gy (dB P w) x (k+1) n (bQ N.length b):=by
 obtain⟨f,fd,F,i⟩:=d;exact⟨f,fd,ps,hn,vn F S hn j λl A outer s H E c=>hbody c (dC c),i,F.kp,F.binds λ_ _ _ _ _ _ us h=>hb us h⟩
theorem JC{c:Nat}{x q:Str}{N ps:List Str}{b:BS}(D:tW K (gy.cl c) x q st)(S:aj N ps (ae st))(hb:L5 x q st ps)(hbody:∀{f},Ls P w K mg base gy N q st k b f)(hn:ps.length=n:=by decide)(j:ps.length≤N.length:=by decide) :
  mV P w K mg base gy (dB P w) c x (k+1) n [] (bQ N.length b):=by
 obtain⟨f,fd,F,i⟩:=D;exact⟨f,fd,ps,[],[],hn,vn F S hn j λl A outer s H E d=>hbody d (dC d),i,F.binds λ_ _ _ _ _ _ us h=>hb us h,.nil,λ_ _ _ _=>.nil⟩
def Fw(P:QK)(w:Q4)(K:P7)(mg:Str->Option P0)(base:QO)(gy:Gy)(k n:Nat)(fs:List (Option BF)):Prop :=
 ∀j f,Hw fs j=some f->j<11/\∃fd ps,ps.length=n/\bS P w K mg base (dB P w) k (gy.fe j) fd ps (kW gy n f)/\QX K (.ref<|gy.fe j)=true/\cC K fd ps []
theorem iO{x:Str}{h:Nat}{f:BF}{a:P3}(c:gI P w K mg base gy (dB P w) x k n f)(i:mg x=some (.ref a))(j:k≤h):∃fd ps,ps.length=n/\bS P w K mg base (dB P w) h a fd ps (kW gy n f)/\QX K (.ref a)=true/\cC K fd ps []:=by
 obtain⟨l,fd,ps,hn,F,d,kp,hb⟩:=c;have e:=i.symm.trans d;cases e;exact⟨fd,ps,hn,F.mono j,kp,hb⟩
end
section
variable{ba:BE}{br:BA}{p pos:Pos}{e o:Qv}{m x:Str}{k k' n:Nat}{f:BF}
theorem Cw{kk:Nat}{fs:List (Option BF)}(hn:PE X (.Name x p) (up g ba))(T:Fw X.prog X.w X.K X.mg X.base g.toGy kk n fs)(hr:a9 kk X.A)(hx:ck (dB X.prog X.w) X g.E)(ha:PA X (e::es) (iY g br))
  (he:hE9 X e es:=by nofun) (hpl:hP9 X pos es:=by nofun):PE X (.Call (.Name x p) (e::es) [] pos) (up g<|Lh n fs ba br):=by
 rintro pins s σ H Q I ⟨F,y,ρ,S,d,k,C,r,h,pp⟩;refine Re (bv (hn pins s σ H (λv H1=>∃j f i c S1,v=.ref (g.fe j)/\Hw fs j=some f/\aB F y ρ H i c H1/\aI g F i c S1 H1/\bF g F i c H1 d σ/\br d S1 (λxs S2=>nJ n f xs S2 k d.ke)=true) I<|ar C r h λi c S1 H1 ax x st C1 Y rx h1=>?_) λu s1 L=>?_)
 ·split at h1
  ·rename_i j;split at h1
   ·rename_i f q;have:=(T j f q).1;exact⟨j,f,i,c,S1,by rw[<-C1.fe j this];exact rx,q,st,C1,Y,h1⟩
   ·cases h1
  ·cases h1
 ·obtain⟨v,H1,I1,rv,j,f,i,c,S1,ev,ej,st1,C1,Y,h1⟩:=L;subst ev;obtain rfl:u=Qo (g.fe j):=rv;obtain⟨_,fd,ps,hps,Fn,hk,hb⟩:=T j f ej;refine Sk (h₀:=X.base) I.ok.mod.kin hk (bv (ha pos pins s1 σ H1 (λvs H2=>kW g.toGy n f vs H2 Q g.E) I1<|bn C1 Y h1 λy2 ρ2 S2 H2 axs xs O C2 r2 l z=>?_) λus s2 L=>de L λvs H2 I2 U q=>⟨I2.kIn,?_⟩) he hpl
  ·unfold nJ at z;cases Z:Qn axs.length n with
   | false=>simp only[Z] at z;cases z
   | true=>
    simp only[Z] at z;exact⟨F,y2,ρ2,S2,_,k,d.ke,C2,l,by rw[<-aP l];exact Qh Z,z,pp.mono<|st1.trans O,r2.e⟩
  ·exact pH Fn hr hb .nil hx I2 U (by rw[Sz];exact q)
theorem Pw{pl:Sem Bool}{d:Pos}{c:Nat}{q:List AV}(M:mV X.prog X.w X.K X.mg X.base g.toGy (dB X.prog X.w) c m k n q f)(H:oP X.K (g.cl c))(u:a9 k' X.A)(r:ck (dB X.prog X.w) X g.E)(ho:PE X o (up g ba))(I:PA X (e::es) (iY g br))(C:k≤k':=by decide)(z:∀i∈kU,bd[i]?≠some m:=by decide +kernel)
  (h:hE9 X e es:=by nofun) (j:hP9 X pos es:=by nofun)
  (ht:Q0 (.Call (.Attribute o m d) (e::es) [] pos) X.env=(do
   let l <-Q0 o X.env
   SI d.atName
   let (f,first) <-SJ [l] (TC l m pl)
   U8 pos f first (Sr pos<|Qy (e::es) X.env) (Sb pos<|Rh [] X.env)):=by nofun) :
  PE X (.Call (.Attribute o m d) (e::es) [] pos) (up g<|cj c n q f ba br):=Ai M H z (u.mono C) r ho I h j ht
end
def Pc(r:BA):BE:=λσ S k=>r σ S λxs S1=>match xs with
 | [.ext i,.ext j,.int false (.ofNat lo) (.ofNat c)]=>match Qn i 11&&Qn j 12&&Qn lo c with
  | true=>match RZ 1 lo&&QV lo 1000 with
   | true=>match k (.int false 0 0) S1 with
    | true=>k (.int false 1<|VA<|lo - 1) S1
    | false=>false
   | false=>false
  | false=>false
 | _=>false
section
end
def zd(r:BA):BE:=λσ S k=>r σ S λxs S1=>match xs with
 | [.ext i,.ext j,.int false (.ofNat lo) (.ofNat c)]=>match Qn i 11&&Qn j 12&&Qn lo c with
  | true=>match RZ 0 lo&&QV lo 10000&&not S1.sym with
   | true=>k (.int true (.negSucc 0)<|.negSucc 0) (HI S1)
   | false=>false
  | false=>false
 | _=>false
section
theorem Cy{br:BA}(hd:∀F,g.dr F->tZ K F):∀σ H Q,up g (zd br) σ H Q->kh (m8 K) [] E0 (iY g br) σ H Q:=λσ H Q hx=>eO hx λF y ρ S σa k C r h p=>
 bn C r h λZ d S1 H1 axs xs st C1 r1 L h1=>by
  split at h1
  ·rename_i i j lo hi;split at h1
   ·rename_i q;simp only[Qq] at q;have ei:=Qh q.1.1;have ej:=Qh q.1.2;have el:=Qh q.2;subst ei ej el;obtain⟨a,ns,t,U,e1,e2,ot,Y,fj,re⟩:=hd F C1.fl.dr;obtain⟨x0,_,rfl,r0,L⟩:=CZ L;obtain⟨x1,_,rfl,r2,L⟩:=CZ L;obtain⟨x2,_,rfl,r3,L⟩:=CZ L;cases L;have e3:x0=.ref a:=(show x0=F.ext 11 from r0).trans e1;have e4:x1=.ref t:=(show x1=F.ext 12 from r2).trans e2;obtain⟨z,rfl,b1,b2⟩:=r3;have e5:z=VA lo:=by omega
    subst e3 e4 e5;obtain⟨sq,hn,T⟩:=fj H1 C1.J
    -- what a draw leaves
    have nt:∀c∈d,c≠t/\c≠U:=λc hc=>⟨λz=>C1.own c hc (by rw[z];exact ot),λz=>C1.own c hc (by rw[z];exact Y)⟩
    have fin:∀(x:Int) (f:Hp) (l:Option Int) (O:aM) (av:AV),li f t U->nR t U H1 f->(∀z,Z=some z->l=some z)->O.n=S1.n->O.t=S1.t->O.sym=l.isSome->(∀z,l=some z->1≤z)->aT F l d f av (.int x)->k av O=true->Q (.int x) f:=λx f l O av T2 m hy sn stt ss sp ra hk=>by
     have kt:∀b vs,H1 b=some (.tup vs)->f b=some (.tup vs):=λb vs q=>m b _ q (T.notL q λ_ z=>nomatch z).1 (T.notL q λ_ z=>nomatch z).2;have I:aB F Z d H1 l d f:=by
      refine⟨hy,⟨[],by simp⟩,λ_ h=>.inl h,λb o q n w=>m b o q (λz=>w (by rw[z];exact ot)) (λz=>w (by rw[z];exact Y)),kt,λb q=>?_,λb o u q=>m b _ q (T.notL q λ_ z=>nomatch z).1 (T.notL q λ_ z=>nomatch z).2⟩;cases e:H1 b with
      | none=>rfl
      | some o=>
       obtain⟨_,⟨c,t1⟩,kvs,t2,_⟩:=T2;by_cases z1:b=t
       ·rw[z1,t1] at q;cases q
       ·by_cases z2:b=U
        ·rw[z2,t2] at q;cases q
        ·rw[m b o e z1 z2] at q;cases q
     have C2:aI g F l d O f:=by
      refine⟨by rw[sn];exact C1.n,ss,sp,C1.nd,λi c ec=>?_,C1.own,C1.fe,λb w q=>C1.ol b w (I.live b q),re H1 f C1.J T2 m,C1.fl⟩;obtain⟨o,ho,h1,h2,h3⟩:=C1.at_ i c ec;have:=nt c (QB ec);exact⟨o,ho,by rw[stt];exact h1,m c ho h2 this.1 this.2,d8.mono I h3⟩
     exact p l d O f av _ (st.trans I) C2 ra hk
    split at h1
    ·rename_i q0;simp only[Qq] at q0;have q1:0+1≤lo:=bA q0.1.1;have q2:lo≤10000:=bA q0.1.2;refine⟨a,ns,t,U,VA lo,rfl,sq,hn,T,?_,?_,λx f x0 x1 T2 m=>?_⟩
     ·show(0:Int)<(lo:Int);omega
     ·show(lo:Int)≤1000000;omega
     ·have hy:Z=none:=by
       have:=C1.sym;have q3:S1.sym=false:=by simpa using q0.2
       rw[q3] at this;cases Z with
       | none=>rfl
       | some _=>cases this
      refine fin x f (some<|x+1) (HI S1) (.int true (.negSucc 0)<|.negSucc 0) T2 m (λw hw=>by rw[hy] at hw;cases hw) rfl rfl rfl (λw hw=>by cases hw;omega) ⟨x+1,x,rfl,rfl,by omega,by omega⟩ h1
    ·cases h1
   ·cases h1
  ·cases h1
theorem Fy{e:Qv}{p pos:Pos}{br:BA}(c:Jc X.prog X.w X.K X.mg X.base "_law_draw" 1 ["_law_script","_law_town","_law_many"] (m8 X.K))(hd:∀F,g.dr F->tZ X.K F)(f:a9 1 X.A)(i:PA X (e::es) (iY g br))(h:Gl X "_law_draw":=by nofun)
  (he:hE9 X e es:=by nofun) (d:hP9 X pos es:=by nofun):PE X (.Call (.Name "_law_draw" p) (e::es) [] pos) (up g<|zd br) :=
 PE.imp (Cy hd) (DU c f i h (by decide) he d)
end
section
def JD:List AV->aM->(AV->aM->Bool)->Bool:=λxs S k=>match xs with
 | [.int false lo f,.int false c d]=>k (.int false (rP lo c)<|rP f d) S
 | [.int true lo f,.int true c d]=>k (.int true (rP lo c)<|rP f d) S
 | [.int false lo f,.int true c d]=>match dq f (c+1) with
  | true=>k (.int true c d) S
  | false=>false
 | [.int true lo f,.int false c d]=>match dq d (lo+1) with
  | true=>k (.int true lo f) S
  | false=>false
 | _=>false
theorem qC:mK g yo JD:=by
 intro F y ρ S H xs I k Q C l h p;unfold JD at h;split at h
 ·cases l with | cons r t=>cases t with | cons d t'=>cases t' with | nil=>
  obtain⟨i,rfl,z,u⟩:=r;obtain⟨j,rfl,o,m⟩:=d;show Q (.int<|if j > i then j else i) H;refine p.here C (av:=.int false _ _) ⟨_,rfl,?_⟩ h;rw[oZ,oZ];split<;>constructor<;>omega
 ·cases l with | cons r t=>cases t with | cons d t'=>cases t' with | nil=>
  obtain⟨x,i,e,rfl,z,u⟩:=r;obtain⟨f,j,c,rfl,o,m⟩:=d;rw[e] at c;cases c;show Q (.int<|if j > i then j else i) H;refine p.here C (av:=.int true _ _) ⟨x,_,e,rfl,?_⟩ h;rw[oZ,oZ];split<;>constructor<;>omega
 ·split at h
  ·rename_i q;rw[bi] at q;cases l with | cons r t=>cases t with | cons d t'=>cases t' with | nil=>
   obtain⟨i,rfl,z,u⟩:=r;obtain⟨f,j,c,rfl,o,m⟩:=d;have:=C.pos _ c;show Q (.int<|if j > i then j else i) H;refine p.here C (av:=.int true _ _) ⟨f,_,c,rfl,?_⟩ h;split<;>constructor<;>omega
  ·cases h
 ·split at h
  ·rename_i q;rw[bi] at q;cases l with | cons r t=>cases t with | cons d t'=>cases t' with | nil=>
   obtain⟨f,i,c,rfl,z,u⟩:=r;obtain⟨j,rfl,o,m⟩:=d;have:=C.pos _ c;show Q (.int<|if j > i then j else i) H;refine p.here C (av:=.int true _ _) ⟨f,_,c,rfl,?_⟩ h;split<;>constructor<;>omega
  ·cases h
 ·cases h
end
def xr:AV->Bool
 | .ref _=>false
 | .tc h t=>match xr h with
  | true=>xr t
  | false=>false
 | _=>true
section
variable{y y1:Option Int}{ρ ρ1 ρ2:List P3}{H H1:Hp}{S:aM}
theorem m9:∀{av:AV},xr av=true->(∀v,aT F y ρ H av v->aT F y ρ2 H av v)/\∀vs,rM F y ρ H av vs->rM F y ρ2 H av vs
 | .non,_=>⟨λ_ h=>h,λ_ h=>h⟩
 | .bl _,_=>⟨λ_ h=>h,λ_ h=>h⟩
 | .int false _ _,_=>⟨λ_ h=>h,λ_ h=>h⟩
 | .int true _ _,_=>⟨λ_ h=>h,λ_ h=>h⟩
 | .str _,_=>⟨λ_ h=>h,λ_ h=>h⟩
 | .ext _,_=>⟨λ_ h=>h,λ_ h=>h⟩
 | .tn,_=>⟨λ_ h=>h,λ_ h=>h⟩
 | .ref _,h=>nomatch h
 | .tc a t,h=>by
  unfold xr at h;split at h
  ·rename_i q;have h1:=m9 (av:=a) q;have i:=m9 (av:=t) h;exact⟨λv ⟨b,w,f,e,l,d,c⟩=>⟨b,w,f,e,l,h1.1 w d,i.2 f c⟩,λvs ⟨w,r,e,d,c⟩=>⟨w,r,e,h1.1 w d,i.2 r c⟩⟩
  ·cases h
def qD:List AV->Bool
 | []=>true
 | a::r=>match xr a with
  | true=>qD r
  | false=>false
theorem qE:∀{c:List AV} {vs:List V},qD c=true->aQ F y ρ H c vs->aQ F y ρ2 H c vs
 | _,_,_,.nil=>.nil
 | _,_,h,.cons p q=>by
  unfold qD at h;split at h
  ·rename_i z;exact .cons ((m9 z).1 _ p) (qE h q)
  ·cases h
theorem aI.none(C:aI g F y ρ S H):aI g F y [] ⟨0,S.sym,.lf⟩ H :=
 ⟨rfl,C.sym,C.pos,Tf,λi a e=>by simp at e,λ_ h=>(nomatch h),C.fe,C.ol,C.J,C.fl⟩
theorem aB.wide(st:aB F y [] H y ρ1 H1):aB F y ρ H y ρ H1 :=
 ⟨λ_ h=>h,⟨[],by simp⟩,λ_ h=>.inl h,λb o h n w=>st.keep b o h (λz=>nomatch z) w,st.tup,st.live,st.frz⟩
theorem aI.wide(C:aI g F y ρ S H)(st:aB F y [] H y ρ1 H1)(j:F.J H1):aI g F y ρ S H1:=by
 have d:aB F y ρ H y ρ H1:=st.wide;refine⟨C.n,C.sym,C.pos,C.nd,λi c f=>?_,C.own,C.fe,λb w q=>C.ol b w (st.live b q),j,C.fl⟩;obtain⟨o,ho,h1,l,h⟩:=C.at_ i c f;exact⟨o,ho,h1,st.keep c ho l (λz=>nomatch z)<|C.own c<|QB f,d8.mono d h⟩
end
def Oj:Bool->Bool->Bool
 | true,true=>true
 | false,false=>true
 | _,_=>false
theorem Fz:∀{a b:Bool},Oj a b=true->a=b
 | true,true,_=>rfl
 | false,false,_=>rfl
def Px(f:BF)(c:List AV):BF:=λ_ S k _=>match qD c with
 | true=>match f c ⟨0,S.sym,.lf⟩ (λv S1=>match v with | .tn=>Oj S1.sym S.sym | _=>false) (λ_ _ _=>false) with
  | true=>k .tn S
  | false=>false
 | false=>false
section
variable{k n:Nat}{f:BF}
def Lu(f:BF):BF:=λc S k ke=>match qD c with
 | true=>match f c ⟨0,S.sym,.lf⟩ (λv S1=>match v with | .tn=>Oj S1.sym S.sym | _=>false) (λ_ _ _=>false) with
  | true=>k .tn S
  | false=>f c S k ke
 | false=>f c S k ke
theorem AQ{Q:VK}{E:XK}:kW gy n (Lu f) vs H Q E->kW gy n f vs H Q E:=by
 rintro ⟨F,y,ρ,S,c,m,ke,C,r,j,h,p,l⟩;unfold Lu at h;split at h
 ·rename_i I;split at h
  ·rename_i L;refine⟨F,y,[],_,_,_,_,C.none,qE I r,j,L,λi u S1 H1 av v st C1 x d=>?_,λ_ _ _ _ _ _ _ _ _ _ z=>by cases z⟩;dsimp only at d;split at d
   ·have q:=(C1.sym.symm.trans<|Fz d).trans C.sym;have O:i=y:=by
     cases o:y with
     | none=>rw[o] at q;cases i with
      | none=>rfl
      | some z=>cases q
     | some z=>exact st.y z o
    subst O;exact p i ρ S H1 .tn v st.wide (C.wide st C1.J) x h
   ·cases d
  ·exact⟨F,y,ρ,S,c,m,ke,C,r,j,h,p,l⟩
 ·exact⟨F,y,ρ,S,c,m,ke,C,r,j,h,p,l⟩
theorem xt{CX:kP}{x:Str}(c:gI P w K mg base gy CX x k n f):gI P w K mg base gy CX x k n (Lu f):=let ⟨j,fd,ps,a,F,b⟩:=c
 ⟨j,fd,ps,a,⟨λvs H Q E h=>F.len vs H Q E (AQ h),λA outer s H args us vs Q E i he hb d hs=>F.run A outer s H args us vs Q E i he hb d (AQ hs)⟩,b⟩
end
def JE:BE:=λ_ _ _=>false
theorem FA{e:Qv}:PE X e (up g JE):=λ_ _ _ _ _ _ ⟨_,_,_,_,_,_,_,_,h,_⟩=>by cases h
section
variable{y y1:Option Int}{ρ ρ1 ρ2:List P3}{H H1:Hp}{S:aM}
end
end RB
namespace L2
open PySem PySem.Spec PyProof.Rows
section
theorem Lv{c:Type}{e h:P3}{oe oh:Obj}{vs:Array P0}{Q:c->P5->Prop}{P:P0->P5->Prop}(f:A.handled=some (.ref h))(ho:s.heap.get? h=some oh)(i:Ct oh)(he:s.heap.get? e=some oe)(hd:oe.data=.fields vs)(hz:2<vs.size)(ne:h≠e)
  (k:P (.ref e) {s with heap:=s.heap.update e (ac0 (·.setIfInBounds 2 (.ref h)))}):Qa (Qd prog w) A (ZS (.ref e):Sem c) Q P s:=by
 obtain⟨m,l,d⟩:=i;unfold ZS;refine PZ (V7 ?_);rw[f];dsimp only;rw[if_pos (show(Qo h !=Qo e)=true by simpa using ne)];have j:YE ac2 "proto.unchain" = some Sd.«proto.unchain»:=Y0 (by kernel_rfl);refine PZ (QG<|ZZ<|Tz j ?_);unfold Sd.«proto.unchain»;dsimp only;refine PZ (Ru ho l d ?_);rw[if_pos (by decide)];refine P2 ?_;unfold updateField;refine PZ (PZ<|wpAny_load he ?_);rw[hd];dsimp only;rw[if_pos hz];exact wpAny_update he (Xb k)
theorem CC{it t:P3}{i:Nat}{items:Array P0}{Q:Option P0->P5->Prop}(hb:∀b o,base.get? b=some o->s.heap.get? b=some o)(u:base.get? it=none)(hn:JB base A)(c:IsTupIter s.heap it t i)(ht:WF s.heap t items)(p:items[i]?=none)
  (hQ:∀h',Xa it s.heap h'->Q none {s with heap:=h'}):Qa (Qd prog w) A (Vj<|.ref it) Q E s:=by
 rcases hn with hn | ⟨h,oh,hn,d,H⟩
 ·exact next_tuple_end hn c ht p hQ
 obtain⟨o,ho,L,hd⟩:=id c;obtain⟨ol,f,_,I,l⟩:=ht;have r:=hb _ _ d;have j:h≠it:=λz=>by rw[z,u] at d;cases d
 unfold Vj;refine PZ (S8<|RY (name:=P4 "__next__") c.typeIs XG<|Ro XG c.typeIs entry_tupleiter_next ?_<|args_tupleiter_next _);show Qa _ _ (field (.ref it) 0 >>= _) _ _ s;refine PZ (Ru ho hd (x:=.ref t) rfl ?_);show Qa _ _ (if (Qo t==QN)=true then _ else _) _ _ s;rw[if_neg (show ¬((Qo t==QN)=true) from Qr)];show Qa _ _ (field (.ref it) 1 >>= _) _ _ s;refine PZ (Ru ho hd (x:=.int i 0) rfl ?_);show Qa _ _ (seqItems? (.ref t) >>= _) _ _ s;refine PZ (wpAny_seqItems f l ?_);simp only[TM,p];refine PZ (Uj<|PZ<|TV ho hd (by simp) ?_);show Qa _ _ (ZR (.type "StopIteration") [] >>= _) _ _ _;refine PZ ?_;simp only[ZR,newTuple];refine PZ (QT ?_<|by size_fits);refine PZ (m:=TW _ _) (Vd (a:=QN) (by first | rfl | (simp only[TW];rfl)) ?_);refine QT ?_ (by size_fits);refine Lv (h:=h) (oh:=oh) (oe:=_) (vs:=_) hn (P1 _<|P1 _<|(QC _ _<|RO j).trans r) H (he:=P8 _ rfl) (hd:=rfl) ?_ ?_ ?_
 ·rw[Array.size_append];exact Qw (show 2<6 by decide) (Nat.le_add_right _ _)
 ·refine Qp ?_;rw[Ss,Wg];exact Sw (Qc r)
 ·refine PZ (UZ (T:="StopIteration") (b:=true) ⟨_,RJ _ (P8 _ rfl)<|UP<|VP rfl _,YJ _ _⟩ Xd ?_);refine P2 (hQ _ λb o n q=>?_);have C:=Qc q;rw[QC _ _ (Tj<|by rw[Ss,Wg];exact Sw C)];exact P1 _ (P1 _<|(QC _ _<|RO n).trans q)
theorem HK{t:P3}{items:Array P0}{c:List (Bool×(P0->Sem Unit))}{Q:Unit->P5->Prop}(hb:∀b o,base.get? b=some o->s.heap.get? b=some o)(hn:JB base A)(ht:WF s.heap t items)(j:c.length=items.size)(hs:c.findIdx? (·.1)=none)
  (h:∀h',Xa s.heap.objs.size s.heap h'->Qa (Qd prog w) A (V3 (c.map (·.2)) items.toList) Q E {s with heap:=h'}):Qa (Qd prog w) A (unpack (.ref t) c) Q E s:=by
 have d:t≠s.heap.objs.size:=by obtain⟨o,ho,_⟩:=ht;exact Qp (Qc ho)
 unfold unpack;rw[j,hs];refine PZ (QG ?_);unfold unpackItems notIterableAtAll;refine PZ (PZ<|WJ ht.typeIs slot_tuple_iter.lookup<|P2 ?_);simp only[Qt,if_false];refine PZ (QG<|iter_tuple ht<|PZ<|QG<|draw_tuple d items.size 0 _ _ ⟨_,P8 _ rfl,rfl,rfl⟩ (ht.push _) (by omega) λh1 i f=>?_);rw[show List.take items.size (List.drop 0 items.toList)=items.toList by rw[List.drop_zero];exact UH (by simp),if_neg (by simp)];refine PZ (QG<|CC (base:=base) (λb o q=>?_) ?_ hn i ((ht.push _).extBut f.extBut d) (by simp) λl m=>?_)
 ·have:=hb b o q;exact f.extBut b o (Qp<|Qc this) (P1 _ this)
 ·cases q:base.get? s.heap.objs.size with
  | none=>rfl
  | some o=>exact absurd (Qc<|hb _ _ q) (RL _)
 ·simp only[Ye,Qt,if_false];exact P2 (h l λb o n q=>m b o n (f.extBut b o n<|P1 _ q))
end
section
theorem HL{k:Nat}{t:CY}{n:Nat}(l:JB X.base X.A)(h:xL X es t)(hn:(RT es X.env).length=n)(d:(RT es X.env).findIdx? (·.1)=none):PG X (.Tuple es k pos) (JY X.K n t):=by
 intro pins s σ H v u Q I r c;obtain⟨a,xs,m,j,hl,c⟩:=c;subst m;cases r;obtain⟨its,f,ht,hz⟩:=I.tuple j;rw[assign_Tuple];refine PZ (R1<|HK I.bk l ht (by simp[hn,<-hl,f.length]) d λh' i=>?_);have I1:ay X pins σ H {s with heap:=h'}:=I.kept (t':=s.toks) λb o e=>i b o (Qp<|Qc e) e;exact h pins _ σ H xs _ Q I1 (by simpa using f) c
end
end L2
namespace RB
open PySem PySem.Spec PyProof.Rows L2
theorem HM{u:G5}{k n:Nat}(i:JB X.base X.A)(h:xL X es (yG g sl u))(hn:(RT es X.env).length=n:=by nofun)(c:(RT es X.env).findIdx? (·.1)=none:=by nofun):PG X (.Tuple es k pos) (mz g sl<|qf n u) :=
 Af λpins s σ H v w Q I r d=>by
  obtain⟨xs,e,f,q⟩:=dE d;obtain⟨a,rfl,_,hs⟩:=jt (K:=X.K) e;exact HL i h hn c pins s σ H _ w Q I r ⟨a,xs,rfl,hs,f,q⟩
end RB
namespace L2
open PySem PySem.Spec PyProof.Rows
@[reducible] def Lw(CX:kP)(P:QK)(w:Q4)(K:P7)(mg:Str->Option P0)(base:QO)(N:List Str)(qual:Str)(scope:Q8)(f:P3)(cd:P0)(cl:List (Str×P3))(A:RN)(outer:List Env)(s:P5)(H:Hp)(E:XK):Cx where
 prog:=P
 w:=w
 K:=K
 mg:=mg
 base:=base
 A:=A.deeper (SX qual scope s.heap.objs.size f cd cl)
 N:=N
 s₀:=s
 H₀:=H
 env:=SX qual scope s.heap.objs.size f cd cl
 outer:=outer
 stack:=SX qual scope s.heap.objs.size f cd cl::outer
 ex:=[]
 calm:=true
 fn:=λ_=>false
 pn:=[]
 xe:=λe s'=>Qa (Qd P w) (A.deeper<|SX qual scope s.heap.objs.size f cd cl) (Wu (SX qual scope s.heap.objs.size f cd cl) e) (λ_ c=>CX outer H s E e c) (λd c=>CX outer H s E d c) s'
section
variable{N:List Str}{qual:Str}{scope:Q8}{f:P3}{cd:P0}{cl:List (Str×P3)}{outer:List Env}{s0 s:P5}{H0 H:Hp}{E:XK}
theorem vq:ck (dB P w) (Lw (dB P w) P w K mg base N qual scope f cd cl A outer s0 H0 E) E:=by
 rintro pins σ H s ev s' I ⟨e,C,H1,he,os,bare,un,hok,F,q⟩;subst he;have ne:∀b,b∉(Lw (dB P w) P w K mg base N qual scope f cd cl A outer s0 H0 E).ex:=λb z=>nomatch z;obtain⟨h,g,d,t,c⟩:=s';obtain rfl:c=s.os:=os;have J:=I.call (h':=h) (g':=g) (d':=d) (t':=t) (ch:=[]) un hok bare (λb z=>absurd z (by simp));refine Ff (base:=base) (h0:=s0.heap) (H:=H1) J.ok.frames rfl J.stack (λx o z=>J.base.there x o z (ne x)) J.tracked (F.back λx o z=>I.base.there x o z (ne x)) λh' a=>?_;obtain⟨un,hok⟩:=J.aft rfl a;exact⟨e,C,H1,rfl,J.os,J.bare,un,hok,a.flew,q⟩
structure xu(base:QO)(f:P3)(qual:Str)(params:TD)(body:Qv)(scope:Q8)(cl:List (Str×P3))(c':P3)(N:List Str)(cap:St):Prop where
 obj:∃pm ctv,base.get? f=some (Tw "<lambda>" qual params body scope cl pm c' ctv)
 cell:∀x c,cl.lookup x=some c->∃v,base.IsCell c v
 inj:∀x y c,cl.lookup x=some c->cl.lookup y=some c->x=y
 has:∀x,scope.names.lookup x=some .free->∃c,cl.lookup x=some c
 caps:∀(i:Nat) (x:Str) (v:V),N[i]?=some x->cap[i]?=some (some v)->JO scope x->∃u c,aN v u/\scope.names.lookup x=some .free/\cl.lookup x=some c/\base.IsCell c (some u)
 len:cap.length=N.length
theorem HN{CX:kP}{k:Nat}{c':P3}{params:TD}{body:Qv}{C:St}{t:XK->TE}{Q:VK}(L:xu base f qual params body scope cl c' N C)
  (hk:scope.kind=.function) (hco:scope.isCoroutine=false) (Z:scope.isGenerator=false) (m:∀x∈scope.names,x.2≠.cell) (hb:∀pm ctv,Tu (TU "<lambda>" qual params body scope cl pm (.ref c') ctv) ⟨[],[]⟩=pure [])
  (hbody:a9 k (A.deeper<|SX qual scope s.heap.objs.size f (.ref c') cl)->PE (Lw CX P w K mg base N qual scope f (.ref c') cl A outer s H E) body (t E))
  (hr:a9 (k+1) A) (l:jl P w K mg base A outer s H) (hc:H c'=some (fZ c' qual)) (h:t E C H Q):Tk (Qd P w) A (.call (.ref f) ⟨[],[]⟩) (CR CX outer P w H s Q E) s:=by
 obtain⟨pm,ctv,ho⟩:=L.obj;have lim:s.heap.NoLimit:=l.mod.nolimit.keeps λb o e=>(l.bs b o e).1;refine W7 hr.depth (l.bs _ _ ho).1 rfl hco Z rfl (l.hok c' _ hc).1 ?_;rw[hb];refine P2 (Va m (λx hx=>nomatch hx) (λh₁ hns Y=>⟨lim.fresh _ Y,?_⟩) hk);show Tk _ _ (.expr body<|SX qual scope s.heap.objs.size f (.ref c') cl) _ _;have j:∀b o,s.heap.get? b=some o->h₁.get? b=some o:=λb o e=>Y.extBut b o (Qp<|Qc e) (P1 _ e);have U:∀c v,base.IsCell c v->h₁.IsCell c v:=λc v ⟨o,e,d⟩=>⟨o,j _ _ (l.bs _ _ e).1,d⟩
 have fz:∀c v,base.IsCell c v->H c=none:=λc v ⟨o,e,d⟩=>(l.bs _ _ e).2;have O:∀b:P3,b∉(Lw CX P w K mg base N qual scope f (.ref c') cl A outer s H E).ex:=λb z=>absurd (show b∈([]:List P3) from z) (by simp);have I:ay (Lw CX P w K mg base N qual scope f (.ref c') cl A outer s H E) [] C H {s with heap:=h₁,toks:=s.toks+([]:List (Str×P0)).length}:=by
  refine⟨⟨l.mod,hk,rfl,rfl,Qi _,L.inj,λy hy=>?_,λy c z _=>(nomatch z),λ_=>hr.hd,U9 l.frames,.inr ⟨rfl,rfl⟩,λb z=>absurd z (O b),l.bs,l.bsz,λb _ _=>O b,λb z=>absurd z (O b),l.funs,l.frf⟩,
   rfl,l.bare,Un.kept j,⟨_,hns,λi y v h1 h2 h3=>?_⟩,λy c h=>?_,l.hok.fresh<|Qi _,λy c h=>?_,λp hp=>absurd (show p∈([]:List (P3×Obj)) from hp) (by simp),l.hok.kept j,L.len⟩
  ·have hy:scope.names.lookup y=some .cell∨scope.names.lookup y=some .free:=hy;rcases hy with hy | hy
   ·exact absurd rfl (m _<|Sg hy)
   ·exact L.has y hy
  ·obtain⟨u,c,r,k1,k2,k3⟩:=L.caps i y v h1 h2 h3;exact⟨u,r,.inr ⟨.inr k1,c,k2,U _ _ k3⟩⟩
  ·obtain⟨v,z⟩:=L.cell y c h;exact⟨v,U _ _ z⟩
  ·obtain⟨v,z⟩:=L.cell y c h;exact fz _ _ z
 refine W8 (QS (hbody (hr.deeper _) [] _ C H Q I h) (λu s' z9=>de z9 λv H' J r q=>?_) λe s' z=>z);exact⟨v,H',J.os,J.bare,J.base,J.hok,r,q⟩
end
theorem ze{a b c f:P0}(l:List P0)(h:TriplesOk l)(e:Ut pos (l++[a,b,c])=some f):Ut pos l=some f∨f=c:=by
 fun_induction TriplesOk l with
 | case1=>
  simp only[Zu] at e;unfold Ut at e;split at e
  ·rename_i q;cases q;split at e
   ·cases e;exact .inr rfl
   ·cases e
  ·cases e
 | case2 a t b u x rest i=>
  simp only[YW,Ut] at e ⊢;split at e
  ·rename_i d;rw[if_pos d];exact .inl e
  ·rename_i d;rw[if_neg d];exact i h e
 | case3 l h1 j=>exact h.elim
section
variable{c P:P3}{qual:Str}
theorem ay.tab{c':P3}{ps j more:Array P0}{g:QO}{tk:Nat}(I:ay X pins σ H s)(d:H P=some (.tbl ps))(U:j=ps++more)(C:oS P s.heap g)(hP:g.get? P=some (SZ j))(L:g.CodeRec (.ref c') qual)
  (Z:(s.heap.get? c'=none/\H c'=none)∨H c'=some (fZ c' qual)) :
  ∃i,i P=some (.tbl j)/\i c'=some (fZ c' qual)/\(∀b o,b≠P->H b=some o->i b=some o)/\(∀b,b≠P->b≠c'->i b=H b)/\ay X pins σ i {s with heap:=g,toks:=tk}:=by
 have x:∀b o,H b=some o->(∀ps,o≠.tbl ps)->b≠P:=λb o e n z=>by rw[z,d] at e;cases e;exact n _ rfl
 have Q:c'≠P:=λz=>by
  rcases Z with ⟨_,n⟩ | n
  ·rw[z,d] at n;cases n
  ·rw[z,d] at n;cases n
 generalize hH:upd (upd H P<|.tbl j) c' (fZ c' qual)=i;have gc:i c'=some (fZ c' qual):=by rw[<-hH];exact aA
 have gP:i P=some (.tbl j):=by rw[<-hH,al Q.symm];exact aA
 have go:∀b,b≠P->b≠c'->i b=H b:=λb n1 n2=>by rw[<-hH,al n2,al n1]
 have same:∀b o,b≠P->H b=some o->i b=some o:=λb o n e=>by
  by_cases h:b=c'
  ·rcases Z with ⟨_,n'⟩ | n'
   ·rw[h,n'] at e;cases e
   ·rw[h,n'] at e;rw[h,gc];exact e
  ·rw[go b n h];exact e
 refine⟨i,gP,gc,same,go,?_⟩;show ay X pins σ i {s with heap:=g,gens:=s.gens,drawn:=s.drawn,toks:=tk};refine I.step (ch:=[]) (λ_ z=>nomatch z) (λb o _ _ _ e n=>C b o (λz=>by rw[z,d] at n;cases n) e) (λb o _ _ _ e n=>⟨o.slots,C b o (λz=>by rw[z,d] at n;cases n) e⟩)
  (λb o _ e n=>?_) (λb o _ e=>?_) (λb xs e=>same b _ (x b _ e λ_ z=>by cases z) e) (λb o u e=>same b _ (x b _ e λ_ z=>by cases z) e) (λb qs e=>?_) (λm hm=>?_) (λb o e=>?_) I.bare
 ·by_cases h:b=c'
  ·rcases Z with ⟨n',_⟩ | n'
   ·rw[h,n'] at e;cases e
   ·rw[h,n'] at n;cases n
  ·by_cases f:b=P
   ·rw[f,d] at n;cases n
   ·rw[go b f h];exact n
 ·by_cases f:b=P
  ·rw[f];exact⟨_,hP⟩
  ·exact⟨o,C b o f e⟩
 ·by_cases f:b=P
  ·rw[f,d] at e;cases e;exact⟨more,by rw[f,gP,U]⟩
  ·exact⟨#[],by rw[same b _ f e];simp⟩
 ·obtain⟨o,es,ep,ho,r⟩:=hm;exact⟨o,es,ep,C _ o (λz=>by have:=I.free;rw[z,d] at this;cases this) ho,r⟩
 ·by_cases h:b=c'
  ·rw[h,gc] at e;cases e;rw[h];refine⟨L,?_,?_⟩
   ·obtain⟨c2,O,_,_,e2,p,_⟩:=L;cases e2;exact⟨O,p⟩
   ·rintro h4 h5 ⟨c2,O,vs,tt,e2,p,r⟩ Y;cases e2;exact⟨_,O,vs,tt,rfl,Y O p,r⟩
  ·by_cases f:b=P
   ·rw[f,gP] at e;cases e;rw[f];exact hP
   ·rw[go b f h] at e;refine(I.hok b o e).stay (λl u hb' q=>C l u ?_ q) (λl q=>?_) λl zs q=>?_
    ·rcases hb' with rfl | e2
     ·exact f
     ·exact x l _ e2 λ_ z=>by cases z
    ·exact same l _ (x l _ q λ_ z=>by cases z) q
    ·exact same l _ (x l _ q λ_ z=>by cases z) q
theorem FC{Q:P0->P5->Prop}{d:TD}{j:Qv}{i:Q8}{Y:Pos}{cl:List (Str×P3)}(L:D7 X.K X.mg c P)(hB:X.base.BuiltinsAt X.mg P)(p:X.env.code=.ref c)(I:ay X pins σ H s)(hT:iX H P (X.env.qual++"<lambda>"))
  (hdef:ZQ d X.env=([],[])) (hcl:WA i X.env=pure cl)
  (k:∀f c' pm l H1 g tk,ay X pins σ H1 {s with heap:=g,toks:=tk}->iX H1 P (X.env.qual++"<lambda>")->(∀b o,b≠P->H b=some o->H1 b=some o)->H1 c'=some (fZ c'<|X.env.qual++"<lambda>") ->
   g.get? f=some (Tw "<lambda>" (X.env.qual++"<lambda>") d j i cl pm c' l)->s.heap.get? f=none->H1 f=none->Q (.ref f) {s with heap:=g,toks:=tk}) :
  Qa (Qd X.prog X.w) X.A (Q0 (.Lambda d j i Y) X.env) Q E s:=by
 obtain⟨ps,hP,h3,x⟩:=hT;have r:s.heap.get? P=some (SZ ps):=I.hok P _ hP;have hbA:s.heap.BuiltinsAt X.mg P:=by
  obtain⟨bm,ob,b1,b2,b3,b4,b5,b6⟩:=hB;exact⟨bm,ob,b1,b2,b3,b4,I.bk _ _ b5,b6⟩
 have hgl:X.env.globals=QF:=I.ok.glob;have hns:s.heap.Ns QF X.mg:=I.mod.glob.keeps I.bk;refine YV hdef ?_;have O:∀b,s.heap.get? b=none->H b=none:=λb z=>by
  cases q:H b with
  | none=>rfl
  | some o=>obtain⟨u,hu⟩:=(I.hok b o q).some;rw[z] at hu;cases hu
 cases hn:Ut Y ps.toList with
 | none=>
  refine V6 (mg:=X.mg) hcl hgl hns p (L.hd _ I.kIn) r h3 hn L.ng hbA λc' l g tk hx1 hge hlt m htb=>?_;have fr:s.heap.get? c'=none:=Sq hge;have h3':TriplesOk (ps++#[SF Y.line,SF Y.col,.ref c']).toList:=by simpa[SF] using TriplesOk.snoc h3
  obtain⟨H3,gP,gc,same,go,J⟩:=I.tab (c':=c') (tk:=tk) (qual:=X.env.qual++"<lambda>") hP rfl (λb o n e=>P1 _ (hx1 b o n e)) (P1 (h:=g) (Tw "<lambda>" (X.env.qual++"<lambda>") d j i cl ((X.mg "__name__").getD .none) c' l) htb) (m.push _) (.inl ⟨fr,O _ fr⟩);have hsz:s.heap.objs.size≤g.objs.size:=Rg hge (R9 hlt);refine k _ c' _ l H3 _ tk J ⟨_,gP,h3',λpos cv e=>?_⟩ same gc (P8 _ rfl) (Sq hsz) ?_
  ·rw[Array.toList_append] at e;rcases ze _ h3 e with e | rfl
   ·obtain⟨c2,e2,C⟩:=x pos cv e;exact⟨c2,e2,same _ _ (λz=>by rw[z,hP] at C;cases C) C⟩
   ·exact⟨c',rfl,gc⟩
  ·have:s.heap.get? g.objs.size=none:=Sq hsz;rw[go _ (λz=>by rw[z,r] at this;cases this) (Tj hlt)];exact O _ this
 | some cv=>
  obtain⟨c',rfl,Z⟩:=x Y cv hn;refine Vw (mg:=X.mg) hcl hgl hns p (L.hd _ I.kIn) r h3 hn hbA λl g tk hk1 hsz=>?_;have m:s.heap.CodeRec (.ref c') (X.env.qual++"<lambda>"):=(I.hok c' _ Z).1;obtain⟨H3,gP,gc,same,go,J⟩:=I.tab (c':=c') (tk:=tk) (more:=#[]) (qual:=X.env.qual++"<lambda>") hP (by simp) (λb o n e=>P1 _ (hk1 b o e)) (P1 (h:=g) (Tw "<lambda>" (X.env.qual++"<lambda>") d j i cl ((X.mg "__name__").getD .none) c' l)<|hk1 _ _ r) ((m.keeps hk1).push _) (.inr Z);have U:s.heap.get? g.objs.size=none:=Sq hsz;have nf:g.objs.size≠P:=λz=>by rw[z,r] at U;cases U
  have nc:g.objs.size≠c':=λz=>by
   obtain⟨c2,oc,_,_,e2,hoc,_⟩:=m;cases e2;rw[z,hoc] at U;cases U
  refine k _ c' _ l H3 _ tk J ⟨_,gP,h3,λpos cv e=>?_⟩ same gc (P8 _ rfl) U (by rw[go _ nf nc];exact O _ U);obtain⟨c2,e2,C⟩:=x pos cv e;exact⟨c2,e2,same _ _ (λz=>by rw[z,hP] at C;cases C) C⟩
end
section
theorem Lx{x:Str}{i k:Nat}{p pos:Pos}{f c':P3}{qual:Str}{params:TD}{body:Qv}{scope:Q8}{cl:List (Str×P3)}{N:List Str}{l:St}{t:XK->TE}(hi:X.N[i]?=some x)(hv:JO X.env.scope x)(L:xu X.base f qual params body scope cl c' N l)
  (hk:scope.kind=.function) (o:scope.isCoroutine=false) (h:scope.isGenerator=false) (c:∀x∈scope.names,x.2≠.cell) (hb:∀Y j,Tu (TU "<lambda>" qual params body scope cl Y (.ref c') j) ⟨[],[]⟩=pure [])
  (hbody:∀(s:P5) (H:Hp) (E:XK),a9 k (X.A.deeper<|SX qual scope s.heap.objs.size f (.ref c') cl)->PE (Lw (dB X.prog X.w) X.prog X.w X.K X.mg X.base N qual scope f (.ref c') cl X.A X.stack s H E) body (t E))
  (hr:a9 (k+1) X.A) (hd:(x==("__debug__":Str))=false:=by decide) (O:(x==("__classdict__":Str))=false:=by decide) :
  PX X (.Call (.Name x p) [] [] pos) (λE σ H Q=>σ[i]?=some (some<|.ref f)/\H c'=some (fZ c' qual)/\t E l H Q):=by
 rintro pins s σ H Q E I ⟨h1,h2,h3⟩;refine Re (QS (xO (X:=X.nox) hi hv hd O pins s σ H (λv H1=>v=.ref f/\H1=H) (I.wish _) ⟨_,h1,rfl,rfl⟩) (λu U Z=>?_) λ_ _ z=>z.elim);obtain⟨v,H1,I1,rv,ev,eh⟩:=Z;subst ev eh;obtain rfl:u=Qo f:=rv;have m:=I1.unwish;obtain⟨Y,j,ho⟩:=L.obj;refine PySem.W.callWith_F0 ⟨_,_,_,_,m.bk _ _ ho⟩ (SA<|Rx (HN L hk o h c hb (hbody U H1 E) hr m.env0 h2 h3) λr s' d=>?_);cases r with
 | error e=>
  obtain⟨e,C,H',rfl,os,bare,un,hok,F,q⟩:=d;exact⟨H1,H',U,e,C,rfl,m,⟨os,bare,un,hok,F⟩,q⟩
 | ok fl=>
  cases fl with
  | ret u=>exact m.after d
  | next=>exact QE d
  | brk=>exact QE d
  | cont=>exact QE d
def nh(e:P3)(C:P0):HO:=.ext λh=>∃o,h.get? e=some o/\o.cls=C
theorem HP{t:XK->TE}{ec:Qv}{fo ke y n:Str}{iv j:Nat}{D:P3}{fp kp np f ap l i tp:Pos}(hX:X.stack=X.env::X.outer)(hf:X.env.frame=some X.env.locals)(hex:X.ex=[])(hpn:X.pn=[])(hN:X.N.Nodup)
  (hiv:X.N[iv]?=some ke) (L:X.N[j]?=some n) (hv:X.env.scope.names.lookup ke=some .local) (hn:X.env.scope.names.lookup n=some .local) (Y:iv≠j) (he:PX X ec t)
  (hg:Gl X y) (hm:X.mg y=some (.ref D))
  (hs1:RX ec (some<|.Name fo fp) ap.line X.env=pure false) (hs2:RX (.Name n f) (some<|.Name ke kp) l.line X.env=pure false)
  (hd:(y==("__debug__":Str))=false:=by decide) (hdn:(n==("__debug__":Str))=false:=by decide) (hcn:(n==("__classdict__":Str))=false:=by decide) :
  PS X (.Try [.Assign [.Name fo fp] ec ap] [.ExceptHandler (some<|.Name y np) (some n) [.Assign [.Name ke kp] (.Name n f) l] i] [] [] tp)
   (λB σ H=>t (λC _ m=>Sv X.K C (.ref D)=some true/\∀e,m e=none->B.nx ((σ.set iv<|some<|.ref e).set j none) (upd m e<|nh e C)) σ H λ_ _=>False):=by
 intro pins s σ H B I h;refine Y2 (SD<|VW (QS (he pins s _ _ _ _ I h) (λu s2 ⟨_,_,_,_,z⟩=>z.elim) λev s2 z9=>?_) hs1);obtain⟨H1,m,s3,e,C,hev,I3,R,q1,q2⟩:=z9;subst hev;refine Fr I3 R hX hf hg hm q1 (λs' R'=>?_) hd;obtain⟨oe,vs,T,oT,ts,a0,p1,p2,p3,p4,p5,p6,p7,p8,p9,U,I5⟩:=R'.pin hex I3;have hjl:j<σ.length:=by have:=I3.len;have h2:=(P9.mp L).1;omega
 refine gm (X:=X.marked e λ_ _=>False) I5.mark hN L (.inl hn) (v:=.ref e) rfl (λs6 I6=>?_) (.inr hn);refine SD (bv (kM (X:=X.marked e λ_ _=>False) hN hiv (.inl hv) (xO L (.inl hn) hdn hcn) hs2 (.inr hv) _ s6 _ m {nx:=λQ H'=>Q=((σ.set j<|some<|.ref e).set iv (some<|.ref e))/\H'=m,rt:=λ_ _=>False} I6 ?_) λfl s7 r=>?_)
 ·exact⟨.ref e,Ti hjl,rfl,rfl⟩
 ·cases fl with
  | next=>
   obtain⟨_,H7,I7,rfl,rfl⟩:=r;refine SQ (HG (I7.unmark I3.ok) hN L hn λs8 O=>?_);have d:=O.pin (e,oe) (Qk _<|by simp);have Z:((σ.set j<|some<|V.ref e).set iv (some<|V.ref e)).set j none=(σ.set iv<|some<|.ref e).set j none:=by
    rw[aa6 _ _ (RO Y),List.set_set]
   rw[Z] at O;have I9:=(O.drop).adopt (o:=nh e C) p8 d.2.1 d.2.2.1 (λx c q z=>?_) (λp hp=>(U p hp).1) ⟨⟨oe,d.1,p1⟩,⟨oe,d.1⟩,λh1 h2 ⟨o,e1,e2⟩ k=>⟨o,k o e1,e2⟩⟩
   ·exact⟨_,_,I9,q2 e d.2.1⟩
   ·obtain⟨v,o,ho,hdd⟩:=O.cell x c q;rw[z,d.1] at ho;cases ho;exact d.2.2.2.2 _ hdd
  | ret u=>obtain⟨_,_,_,_,_,z⟩:=r;exact z.elim
  | brk=>obtain⟨_,_,_,z⟩:=r;exact z.elim
  | cont=>obtain⟨_,_,_,z⟩:=r;exact z.elim
end
def AR(ix:List Nat)(σ:St):St:=jW (ix.map some) σ
theorem xv{ix:List Nat}:AR ix σ=ix.map λj=>σ[j]?.join:=by
 unfold AR jW;rw[TZ];rfl
def xw(env:Env)(xs:List Str):List (Str×P3):=xs.map λx=>(x,(env.cells.lookup x).getD 0)
theorem ni{env:Env}{x:Str}{c:P3}:∀{xs:List Str},(xw env xs).lookup x=some c->x∈xs/\c=(env.cells.lookup x).getD 0
 | [],h=>nomatch h
 | y::r,h=>by
  unfold xw at h;rw[Qx,Rb] at h;split at h
  ·rename_i q;have:x=y:=by simpa using q
   subst this;cases h;exact⟨Qj,rfl⟩
  ·exact⟨Ql _ (ni h).1,(ni h).2⟩
theorem qF{env:Env}{x:Str}:∀{xs:List Str},x∈xs->(xw env xs).lookup x=some ((env.cells.lookup x).getD 0)
 | y::r,h=>by
  unfold xw;rw[Qx,Rb];by_cases z:x=y
  ·subst z;simp
  ·have:(x==y)=false:=by simpa using z
   rw[this];exact qF ((Qm.mp h).resolve_left z)
def Ly(P:P3)(qual:Str)(ix:List Nat)(sp:P3->P3->St->Sp):TE:=λσ H Q=>iX H P qual/\∀f c' H1,iX H1 P qual->H1 c'=some (fZ c' qual)->(∀b o,b≠P->H b=some o->H1 b=some o)->sp f c' (AR ix σ) [.ref f] H1 Q E0
section
variable{c P fa:P3}{k:Nat}{x a0:Str}{xs:List Str}{ix:List Nat}{lparams:TD}{lbody:Qv}{lscope:Q8}{p lp pos:Pos}{sp:P3->P3->St->Sp}
theorem lj(L:D7 X.K X.mg c P)(hB:X.base.BuiltinsAt X.mg P)(C:X.env.code=.ref c)(hfn:∀x,X.fn x=true)(hx:(xs.map λx=>X.env.scope.names.lookup x)=xs.map λ_=>some U3)(hfr:∀x∈xs,lscope.names.lookup x=some .free)(hfx:∀q∈lscope.names,q.2=.free->q.1∈xs)(U:ix.map (λj=>X.N[j]?)=xs.map some)
  (hh:∀l f c' cap,(∀b o,X.base.get? b=some o->l.get? b=some o)->xu l f (X.env.qual++"<lambda>") lparams lbody lscope (xw X.env xs) c' xs cap->bS X.prog X.w X.K X.mg l eT k fa fd [a0] (sp f c' cap))
  (hr:a9 k X.A) (hm:X.mg x=some (.ref fa)) (hk:QX X.K (.ref fa)=true) (hb:cC X.K fd [a0] []) (hg:Gl X x:=by nofun)
  (Y:ZQ lparams X.env=([],[]):=by nofun) (hcl:WA lscope X.env=pure (xw X.env xs):=by nofun) (hdb:(x==("__debug__":Str))=false:=by decide)
  (he:Qy [.Lambda lparams lbody lscope lp] X.env=(false,Q0 (.Lambda lparams lbody lscope lp) X.env)::Qy [] X.env:=by nofun) (hpl:(Sr pos<|Qy [] X.env).any (·.1)=false:=by nofun) :
  PE X (.Call (.Name x p) [.Lambda lparams lbody lscope lp] [] pos) (Ly P (X.env.qual++"<lambda>") ix sp):=by
 rintro pins s σ H Q I ⟨hT,h⟩;have hx:=List.map_inj_left.mp hx;refine Re (dM I hg hm ?_ hdb);refine Sk (h₀:=X.base) I.ok.mod.kin hk ?_ he hpl;rw[he];refine Sj ?_;refine FC L hB C I hT Y hcl λf c' pm ctv H1 g tk I1 hT1 same gc hf fr hn=>?_;refine TL ⟨I1.kIn,?_⟩;have cab:∀x c,X.env.cells.lookup x=some c->c∉g8 X.stack:=λx c e m=>by
  rcases Qm.mp (I.stkSub c m) with z | z
  ·exact I.cne x c e z
  ·obtain⟨_,o,ho,_⟩:=I.ok.funs.mem z;exact absurd (Qw (Qc ho)<|I.ok.cab x c (hfn x) e) (RL _)
 have has:∀x∈xs,∃c,X.env.cells.lookup x=some c:=λx m=>I.ok.has x (.inl<|hx x m);have look:∀x c,(xw X.env xs).lookup x=some c->X.env.cells.lookup x=some c:=λx c e=>by
  obtain⟨m,rfl⟩:=ni e;obtain⟨c,q⟩:=has x m;rw[q];rfl
 have cell:∀x c,X.env.cells.lookup x=some c->∀v,g.IsCell c v->(wide H1 X.stack g).IsCell c v:=λx c e v ⟨o,ho,d⟩=>⟨o,md ho (I1.freeC x c e)<|cab x c e,d⟩
 have hl:ix.length=xs.length:=by have:=congrArg Za U;simpa using this
 have LA:xu (wide H1 X.stack g) f (X.env.qual++"<lambda>") lparams lbody lscope (xw X.env xs) c' xs (AR ix σ):=by
  refine⟨⟨pm,ctv,md hf hn λm=>?_⟩,λx c e=>?_,λx y c Z e2=>I.ok.inj x y c (look x c Z) (look y c e2),λx e=>?_,λi x v Z e2 e3=>?_,by simp[xv,hl]⟩
  ·obtain⟨_,o,ho,_⟩:=I.stack.mem m;rw[fr] at ho;cases ho
  ·obtain⟨v,z⟩:=I1.cell x c (look x c e);exact⟨v,cell x c (look x c e) v z⟩
  ·have m:=hfx _ (Sg e) rfl;exact⟨_,qF m⟩
  ·have hi:i<ix.length:=by rw[hl];exact(P9.mp Z).1
   have e4:(ix.map λj=>X.N[j]?)[i]?=some (some x):=by rw[U,QZ,Z];rfl
   rw[QZ,QA hi] at e4;have e5:X.N[ix[i]]?=some x:=Qu e4;rw[xv,QZ,QA hi] at e2;have e6:σ[ix[i]]?=some (some v):=by
    have:σ[ix[i]]?.join=some v:=Qu e2;cases q:σ[ix[i]]? with
    | none=>rw[q] at this;cases this
    | some w=>rw[q] at this;exact congrArg some this
   have mx:=QB Z;obtain⟨m,_,hl'⟩:=I1.loc;obtain⟨u,r,lk⟩:=hl' _ x v e5 e6 (.inr<|.inl<|hx x mx);rcases lk with ⟨k1,_⟩ | ⟨_,c,k2,k3⟩
   ·have:some U3=some .local:=(hx x mx).symm.trans k1;cases this
   ·exact⟨u,c,r,hfr x mx,by rw[qF mx,k2];rfl,cell x c k2 _ k3⟩
 have F:=hh _ f c' _ I1.more LA;refine SA (Rx (F.run X.A X.stack _ H1 ⟨[.ref f],[]⟩ [.ref f] [.ref f] Q E0 hr I1.env1 (hb _ [.ref f] I1.kIn rfl) (.cons rfl .nil)<|h f c' H1 hT1 gc same) λr s' O=>?_);cases r with
 | error e=>exact(show False from O).elim
 | ok fl=>
  cases fl with
  | ret u=>exact I1.after O
  | next=>exact QE O
  | brk=>exact QE O
  | cont=>exact QE O
end
end L2
namespace RB
open PySem PySem.Spec PyProof.Rows L2
def Py(F:Fx)(e:P3)(C:P0):Fx where
 ext:=λj=>if j=30 then .ref e else F.ext j
 own:=F.own
 J:=λH=>F.J H/\H e=some (nh e C)
 st:=λH c ⟨a,b⟩ k=>⟨F.st H c a k,k e _ (.inr ⟨_,rfl⟩) b⟩
@[reducible] def HQ(gy:Gy)(c:Nat):Gy:={gy with dr:=λF=>∃e,F.ext 30=.ref e/\∀H,F.J H->H e=some (nh e<|.ref<|gy.xc c)}
theorem Lz{E m:XK}{c:Nat}{e:P3}(L:GK ⟨gy,E⟩ F):GK ⟨HQ gy c,m⟩ (Py F e<|.ref<|gy.xc c):=by
 refine⟨⟨e,rfl,λH j=>j.2⟩,L.own,λH j=>L.lam H j.1,λH l j f k=>⟨L.re H l j.1 f k,k e _ (λz=>?_) j.2⟩,L.ownL,λi d H j=>L.lamL i d H j.1,λi d H l j f k=>⟨L.reL i d H l j.1 f k,k e _ (λz=>?_) j.2⟩⟩
 ·obtain⟨ps,h,_⟩:=L.lam H j.1;rw[<-show e=gy.tT from z,j.2] at h;cases h
 ·obtain⟨ps,h,_⟩:=L.lamL i d H j.1;rw[<-show e=gy.tl i from z,j.2] at h;cases h
def qG:AV->Bool
 | .ref _=>false
 | .ext _=>false
 | .tc h t=>match qG h with
  | true=>qG t
  | false=>false
 | _=>true
theorem nj{F F2:Fx}{y:Option Int}{ρ ρ2:List P3}{H:Hp}:∀{av:AV},qG av=true->(∀v,aT F y ρ H av v->aT F2 y ρ2 H av v)/\∀vs,rM F y ρ H av vs->rM F2 y ρ2 H av vs
 | .non,_=>⟨λ_ h=>h,λ_ h=>h⟩
 | .bl _,_=>⟨λ_ h=>h,λ_ h=>h⟩
 | .int false _ _,_=>⟨λ_ h=>h,λ_ h=>h⟩
 | .int true _ _,_=>⟨λ_ h=>h,λ_ h=>h⟩
 | .str _,_=>⟨λ_ h=>h,λ_ h=>h⟩
 | .tn,_=>⟨λ_ h=>h,λ_ h=>h⟩
 | .ext _,h=>nomatch h
 | .ref _,h=>nomatch h
 | .tc a t,h=>by
  unfold qG at h;split at h
  ·rename_i q;have h1:=nj (F:=F) (F2:=F2) (y:=y) (ρ:=ρ) (ρ2:=ρ2) (H:=H) (av:=a) q;have i:=nj (F:=F) (F2:=F2) (y:=y) (ρ:=ρ) (ρ2:=ρ2) (H:=H) (av:=t) h;exact⟨λv ⟨b,w,f,e,l,d,c⟩=>⟨b,w,f,e,l,h1.1 w d,i.2 f c⟩,λvs ⟨w,r,e,d,c⟩=>⟨w,r,e,h1.1 w d,i.2 r c⟩⟩
  ·cases h
def Ol(d:Nat->BS)(k:AV->aM->Bool):KE:=λc av S=>match av with
 | .non=>d c ⟨λ_ _=>false,λv S1=>match qG v with
   | true=>match Oj S1.sym S.sym with
    | true=>k v S
    | false=>false
   | false=>false,λ_ _=>false,λ_ _=>false⟩ ⟨[none,some (.ext 30),some .non,none,none],λ_ _ _=>false⟩ ⟨0,S.sym,.lf⟩
 | _=>false
def nq(c:Nat->BS)(ix:List Nat)(bl:BE):BE:=λσ S k=>match zc S.t S.n with
 | true=>bl ⟨M3 σ.v<|ix.map some,Ol c k⟩ S λ_ _=>false
 | false=>false
def pi(gy:Gy)(qual:Str)(d:Nat->BS)(bl:BE)(f c':P3)(c:L2.St):Sp:=λvs H Q _=>vs=[.ref f]/\H c'=some (fZ c' qual)/\∃F y ρ S av k,aI ⟨gy,E0⟩ F y ρ S H/\gp F y ρ H av c/\zc S.t S.n=true/\bl ⟨av,Ol d k⟩ S (λ_ _=>false)=true/\gG ⟨gy,E0⟩ F y ρ H k Q
section
variable{S:aM}{bR:Nat->BS}{k:AV->aM->Bool}{Q:VK}
theorem zf(C:aI ⟨gy,E0⟩ F y ρ S H){c:Nat}{e:P3}(he:H e=none){d:rD}{σ:L2.St}(x:∃a b,σ=[a,some (.ref e),some .non,b,none])(h:Ol bR k c .non S=true)(p:gG ⟨gy,E0⟩ F y ρ H k Q)(hd:d.rt=Q):dw ⟨HQ gy c,E0⟩ (bR c) d σ (upd H e<|nh e<|.ref<|gy.xc c):=by
 obtain⟨a,b,rfl⟩:=x;subst hd;have ne:∀b o,H b=some o->b≠e:=λb o q z=>by rw[z,he] at q;cases q
 have J1:F.J (upd H e<|nh e<|.ref<|gy.xc c):=F.st _ _ C.J λb o _ q=>by rw[al (ne b o q)];exact q
 refine⟨Py F e<|.ref<|gy.xc c,y,[],⟨0,S.sym,.lf⟩,_,_,⟨rfl,C.sym,C.pos,Tf,λi a e=>by simp at e,λ_ h=>(nomatch h),λi U=>?_,λb w q=>?_,⟨J1,aA⟩,Lz C.fl⟩,⟨?_,λ_ _ _ _ _ _ _ _ _ _ z=>(by cases z)⟩,h,λ_ _ _ _ _ _ _ _ _ z=>(by cases z),λf r S1 H1 av v st C1 O j=>?_,λ_ _ _ _ _ _ _ _ _ z=>(by cases z),λ_ _ _ _ _ _ _ _ _ z=>by cases z⟩
 ·show(if i=30 then V.ref e else F.ext i)=_;rw[if_neg (by omega)];exact C.fe i U
 ·by_cases z:b=e
  ·subst z;rw[aA] at q;cases q
  ·rw[al z] at q;exact C.ol b w q
 ·refine .cons trivial (.cons ?_<|.cons rfl<|.cons trivial<|.cons trivial .nil);rfl
 ·dsimp only at j;split at j
  ·rename_i pl;split at j
   ·rename_i Z;have L:=(C1.sym.symm.trans<|Fz Z).trans C.sym;have Y:f=y:=by
     cases I:y with
     | none=>rw[I] at L;cases f with
      | none=>rfl
      | some z=>cases L
     | some z=>exact st.y z I
    subst Y;have m:aB F f [] H f r H1:=by
     have l:aB F f [] H f [] (upd H e<|nh e<|.ref<|gy.xc c):=aB.lay he;exact⟨λ_ h=>h,st.pre,λa h=>(st.new a h).imp id λz=>l.live a z,λb o q n w=>st.keep b o (l.keep b o q n w) n w,λb vs q=>st.tup b vs (l.tup b vs q),λb q=>l.live b (st.live b q),λb o u q=>st.frz b o u (l.frz b o u q)⟩
    exact p f ρ S H1 av v m.wide (C.wide m C1.J.1) ((nj pl).1 v O) j
   ·cases j
  ·cases j
end
section
variable{bR:Nat->BS}{bl:BE}{ix:List Nat}{e:Qv}
theorem CD{i:Nat}(l:i<3):∀σ H Q,up g (nq bR ix bl) σ H Q->Ly (g.tl i) (g.tq i) ix (pi g.toGy (g.tq i) bR bl) σ H Q:=λσ H Q Z=>eO Z λF y ρ S U k C r h p=>by
 unfold nq at h;cases m:zc S.t S.n with
 | false=>rw[m] at h;cases h
 | true=>
  rw[m] at h;have L:=C.fl.lamL i l H C.J;refine⟨L,λf c' H1 d gc same=>?_⟩;obtain⟨ps,hP,_⟩:=L;obtain⟨Y,x,_⟩:=id d;have I:∀b o,H b=some o->(∀ps,o≠.tbl ps)->b≠g.tl i:=λb o q n z=>by rw[z,hP] at q;cases q;exact n _ rfl
  have st:aB F y ρ H y ρ H1:=by
   refine⟨λ_ h=>h,⟨[],by simp⟩,λ_ h=>.inl h,λb o q n w=>same b o (λz=>w (by rw[z];exact C.fl.ownL i l)) q,λb vs q=>same b _ (I b _ q λ_ z=>nomatch z) q,λb q=>?_,λb o u q=>same b _ (I b _ q λ_ z=>nomatch z) q⟩;cases q2:H b with
   | none=>rfl
   | some o=>
    by_cases z:b=g.tl i
    ·rw[z,x] at q;cases q
    ·rw[same b o z q2] at q;cases q
  have C1:aI g F y ρ S H1:=by
   refine⟨C.n,C.sym,C.pos,C.nd,λj c O=>?_,C.own,C.fe,λb w q=>C.ol b w (st.live b q),C.fl.reL i l H H1 C.J d same,C.fl⟩;obtain⟨o,ho,h1,h2,h3⟩:=C.at_ j c O;exact⟨o,ho,h1,same c ho (λz=>C.own c (QB O) (by rw[z];exact C.fl.ownL i l)) h2,d8.mono st h3⟩
  exact⟨rfl,gc,F,y,ρ,S,_,k,C1.reE,uT (gp.mono st r.v) _,m,h,(p.mono st).reE⟩
theorem qH{i:Nat}{q:Str}(d:i<3)(c:g.tq i=q)(h:PE X e (Ly (g.tl i) q ix<|pi g.toGy q bR bl)):PE X e (up g<|nq bR ix bl):=by
 subst c;exact PE.imp (CD d) h
end
end RB
namespace L2
open PySem PySem.Spec PySem.Calls PyProof.Rows PySem.Builtin PySem.Builtin.ObjectAttr PySem.Builtin.Getset_descriptor
structure FD(K:P7)(D:P3):Prop where
 ga:Q3 K (.ref D) "__getattribute__" = some (some<|.builtin "BaseException.__getattribute__")
 no:Q3 K (.ref D) "__getattr__" = some none
 bx:XM K D (.type "BaseException")=some true
 cls:(XU K D).isSome=true
 at_:Q3 K (.ref D) "__class__" = some (some<|.builtin "object.__class__")
 sp:Ys K (.builtin "object.__class__") "__get__" = some (some<|.builtin "getset_descriptor.__get__")
 tk:Zf K (.builtin "object.__class__")=some true
 mro:XM K D (.type "object")=some true
section
variable{x C D:P3}{Q:P0->P5->Prop}
theorem Pz{M:Yl}{h:QO}(X:K.In h)(e:(XU K C).isSome=true):RF M h (isType<|.ref C) true:=by
 unfold XU at e;split at e
 ·rename_i ho;intro f c d s' k q;unfold isType loadHead;exact PZ (ZC (k _ _<|X _ _ ho)<|P2 q)
 ·cases e
theorem FE{Q:Option P0->P5->Prop}(N:FD K D)(X:K.In s.heap)(T:∀M,RF M s.heap (Wx<|.ref x) (.ref D))(h:Q (some<|.ref D) {s with toks:=s.toks+1}):Qa (Qd prog w) A (getAttr? (.ref x) "__class__") Q E s:=by
 obtain⟨j,g,d,t,os⟩:=s;have T0:=T (Qd prog w);have lf:RF (Qd prog w) j (find (.ref x) (.ref D) "__class__") (.bind (.builtin "getset_descriptor.__get__")<|.builtin "object.__class__") :=
  (TR X N.at_).andThen ((PySem.W.looks_specialIn X N.sp).andThen ((show RF _ j (dataDescriptor? (some _)<|some _) (some (_,_)) from(PySem.W.looks_takesIn X N.tk).andThen .now).andThen (af9 .now)))
 have i:(ac1 "BaseException.__getattribute__"==ac1 "object.__getattribute__")=false:=by decide +kernel
 unfold getAttr? getAttrBy? getAttrBy;refine PZ (wpAny_mkText<|PZ<|S8<|QG<|PZ<|T0.at<|PZ<|(TR X N.ga).at ?_);dsimp only;rw[i];simp only[ZH,Qt,if_false];unfold getAttrByItsOwn;show Qa _ _ (ZF (.ref D) "__getattr__" >>= _) _ _ _;refine PZ ((TR X N.no).at ?_);refine PZ (S8<|QG ?_);show Qa _ _ (Z2 _ _ _) _ _ _;unfold Z2;have FB:=F.attr_ValueError;refine PZ (Vd (FB.ga.bind<|.ref x) ?_);refine SA (Vg FB.ga.plain F.entry_bexc_ga ?_);have l:builtinKind "BaseException.__getattribute__" = some .slot:=by decide +kernel
 have c:splitId "BaseException.__getattribute__" = some ("BaseException","__getattribute__"):=by decide +kernel
 have f:=F.args_bexc_ga (.ref x) (.str "__class__" t);have m:=XH (M:=Qd prog w) X N.bx;simp only[YZ,l,c];refine PZ ((show RF _ j (Yh (.ref x)<|.type "BaseException") true from T0.andThen m).at ?_);rw[if_neg (by decide)];refine Vd f ?_;unfold Sd.«object.__getattribute__»;refine PZ (P2 ?_);refine PZ (P2 ?_);refine PZ (T0.at<|PZ<|lf.at ?_);refine PZ (QG<|SA ?_);refine Vg Yi.plain PySem.W.KF.entry_gs (Yi.check _ _ _ _ _ _ _ _ PySem.W.KF.type_class (PySem.W.KF.args_gs _ _ _) ?_);unfold Sd.«getset_descriptor.__get__» descrGet;rw[PySem.W.dga_obj];refine PZ (P2 ?_);unfold descrGetter descrCheckInstance descrNameAndClass;have o:=XH (M:=Qd prog w) X N.mro;unfold Yh;simp only[PySem.W.KF.owner_class]
 repeat lk
 refine⟨Yg _<|by decide +kernel,Tz PySem.W.KF.entry_class ?_⟩;unfold Sd.«object.__class__» shownTypeOf;repeat lk
 exact h
theorem LB(N:FD K D)(X:K.In s.heap)(T:∀M,RF M s.heap (Wx<|.ref x) (.ref D))(e:Rl K D C=true)(h:Q (.bool false) {s with toks:=s.toks+1}):Qa (Qd prog w) A (call (.builtin "isinstance") [.ref x,.ref C]) Q E s:=by
 unfold Rl at e;simp only[Qq,beq_iff_eq] at e;obtain⟨⟨⟨p,o⟩,m⟩,l⟩:=e;refine Zv (S:=λ_ R s=>(K.In s.heap/\∀M,RF M s.heap (Wx<|.ref x) (.ref D))/\R (.ok<|.ret<|.bool false) {s with toks:=s.toks+1}) (λf c _ _ s hs=>Y5 ?_ (by intro q;cases q)) ⟨⟨X,T⟩,h⟩;obtain⟨⟨X,T⟩,h⟩:=hs;obtain⟨j,g,d,t,os⟩:=s;have i:=T (Qd f c);have LS:=XI (M:=Qd f c) X l;unfold Sd.«isinstance.nested»;refine PZ (i.at ?_);rw[if_neg λq=>of_decide_eq_true p (Value.ref.inj<|beq_iff_eq.mp q)];refine PZ ((PySem.W.looks_typeIn X m).at ?_);rw[if_pos (by decide)];k_delta "plainIsInstance";refine PZ (PZ<|(Pz X o).at ?_);simp only[U5,Qt,if_false];refine PZ ((show RF _ j (Yh (.ref x)<|.ref C) false from i.andThen LS).at ?_);simp only[Qt,if_false];refine PZ (FE N X T ?_);refine PZ ((Pz (C:=D) X N.cls).at ?_);simp only[U5,Qt,if_false];exact PZ (Uj<|LS.at<|P2 h)
end
end L2
namespace L2
open PySem PySem.Spec PySem.Calls PyProof.Rows
theorem ll{h f:Type}{R:h->f->Prop}:∀{a b:List h} {c d:List f},Paired R a c->Paired R b d->Paired R (a++b) (c++d)
 | _,_,_,_,.nil,q=>q
 | _,_,_,_,.cons r p,q=>.cons r (ll p q)
section
def Pd(K:P7)(Cz:P3):List V->Hp->VK->Prop:=λvs H Q=>∃e D,vs=[.ref e,.ref Cz]/\H e=some (nh e<|.ref D)/\((YL K (.ref D) Cz=true/\Q (.bl true) H)∨(FD K D/\Rl K D Cz=true/\Q (.bl false) H))
theorem FF{Cz:P3}:cZ X (.builtin "isinstance") (Pd X.K Cz):=by
 rintro pins s σ H xs us Q I r ⟨e,D,i,he,h⟩;subst i;obtain⟨u,v,rfl,d,c⟩:=v4 r;cases d;cases c;obtain⟨⟨o,ho,f⟩,_⟩:=I.hok e _ he;have T:∀M,RF M s.heap (Wx<|.ref e) (.ref D):=λM=>f▸(Wl ho).andThen .now;rcases h with ⟨h1,q⟩ | ⟨N,h1,q⟩
 ·exact PySem.W.isi_call I.kIn T h1 (by intro z;cases z) ⟨.bl true,H,I,rfl,q⟩
 ·exact LB N I.kIn T h1 ⟨.bl false,H,I.tok _,rfl,q⟩
def Pe(K:P7)(T:String):List V->Hp->VK->Prop:=λvs H Q=>∃e D,vs=[.ref e,.ty T]/\H e=some (nh e<|.ref D)/\XV K (.ref D) (.type T)=some true/\Q (.bl true) H
theorem FG{T:String}(z:Wx (.type T)=pure (.type "type")):cZ X (.builtin "isinstance") (Pe X.K T):=by
 rintro pins s σ H xs us Q I r ⟨e,D,C,he,hs,q⟩;subst C;obtain⟨u,v,rfl,m,l⟩:=v4 r;cases m;cases l;obtain⟨⟨o,ho,x⟩,_⟩:=I.hok e _ he;have T0:∀M,RF M s.heap (Wx<|.ref e) (.ref D):=λM=>x▸(Wl ho).andThen .now;refine Zv (S:=λ_ R s=>(X.K.In s.heap/\∀M,RF M s.heap (Wx<|.ref e) (.ref D))/\R (.ok<|.ret<|.bool true) s) (λi f _ _ s c=>Y5 ?_ (by intro q;cases q)) ⟨⟨I.kIn,T0⟩,⟨.bl true,H,I,rfl,q⟩⟩;obtain⟨⟨U,L⟩,h⟩:=c;obtain⟨p,g,d,t,os⟩:=s;have j:=L (Qd i f);have O:=XI (M:=Qd i f) U hs;unfold Sd.«isinstance.nested»;refine PZ (j.at ?_);rw[if_neg λq=>by cases(beq_iff_eq.mp q)];rw[z];refine PZ (P2 ?_);rw[if_pos (by decide)];k_delta "plainIsInstance";refine PZ (PZ<|P2 (a:=true) ?_);simp only[U5,Qt,if_false];refine PZ ((show RF _ p (Yh (.ref e)<|.type T) true from j.andThen O).at ?_);simp only[if_true];exact P2 (P2 h)
def Ny:V->List V->Hp->VK->Prop:=λx vs H Q=>∃d o ks ms,x=.ref d/\vs=[.ref o]/\d≠o/\H d=some (.dK ks)/\H o=some (.dK ms)/\((ks++ms).map (·.1)).Nodup/\ks.length+ms.length≤Qf/\Q .non (upd H d<|.dK<|ks++ms)
theorem nu:OA X "dict.update" Ny:=by
 rintro pins s σ H x vs v us Q I C L ⟨d,o,ks,ms,e1,Z,ne,hd,ho,nd,hz,q⟩;subst e1 Z;cases C;obtain⟨u,rfl,O⟩:=L.one;cases O;obtain⟨z,m,i,f,dd⟩:=pL I.hok hd;obtain⟨z2,l,vo,c,p⟩:=pL I.hok ho;have kk:∀{ks:List (bj×V)} {vs:List (bj×P0)},KV ks vs->ks.map (·.1)=vs.map (·.1):=λ{ks vs} r=>by
  induction r with
  | nil=>rfl
  | cons a _ U=>rw[Qx,Qx,U,a.1]
 have j:((i++vo).map (·.1)).Nodup:=by rw[Vo,<-kk f,<-kk c,<-Vo];exact nd
 refine TX S9 dd.typeIs PySem.F.entry_dict_update (PySem.F.args_dict_update_2 _ _) (meets_dict_update (aY X.prog X.w) d o ne l) ⟨i,vo,dd,p,by rw[<-QP f,<-QP c];exact hz,λh' h _ hs=>?_⟩;rw[merged_append_of_fresh i vo j] at h;have he:∃q,h'.get? d=some q:=let ⟨q,_,_,Y,_⟩:=h;⟨q,Y⟩;exact⟨.non,_,jP I (by rw[hd];exact RU) hs he<|uB (by rw[Ri];exact hz) m (ll f c) h,rfl,q⟩
end
end L2
namespace RB
open PySem PySem.Spec PyProof.Rows L2
section
variable{e a n:Qv}{ba:BE}{br:BA}
def CG(g:Gx)(c:Nat):Prop:=∀F,g.dr F->∃e,F.ext 30=.ref e/\∀H,F.J H->H e=some (nh e<|.ref<|g.xc c)
def j5(b:Bool)(a:BE):BE:=λσ S k=>a σ S λx S1=>match x with
 | .ext i=>match Qn i 30 with
  | true=>k (.bl b) S1
  | false=>false
 | _=>false
theorem vt{σ:L2.St}{Q:VK}{b:Bool}{c:Nat}(hd:CG g c):up g (j5 b ba) σ H Q->up g ba σ H λx H1=>∃e,x=.ref e/\H1 e=some (nh e<|.ref<|g.xc c)/\Q (.bl b) H1:=λ⟨F,y,ρ,S,f,k,C,r,h,p⟩=>
 ar C r h λj d S1 H1 ax x st C1 z l h1=>by
  split at h1
  ·rename_i i;split at h1
   ·rename_i q;have m:=Qh q;subst m;obtain⟨e,u,o⟩:=hd F C1.fl.dr;exact⟨e,(show x=F.ext 30 from l).trans u,o H1 C1.J,p j d S1 H1 (.bl b) _ st C1 rfl h1⟩
   ·cases h1
  ·cases h1
theorem hV{p d:Pos}{z:Str}{Cz:P3}{b:Bool}{c:Nat}(hd:CG g c)(Y:Gl X "isinstance")(L:X.mg "isinstance" = none)(Z:PE X e (up g ba))(m:Gl X z)(l:X.mg z=some (.ref Cz))(hb:(b=true/\YL X.K (.ref<|g.xc c) Cz=true)∨(b=false/\FD X.K (g.xc c)/\Rl X.K (g.xc c) Cz=true))(hz:(z==("__debug__":Str))=false:=by decide)
  (he:Qy [e,.Name z d] X.env=(false,Q0 e X.env)::Qy [.Name z d] X.env:=by nofun) (o:Qy [.Name z d] X.env=(false,Q0 (.Name z d) X.env)::Qy [] X.env:=by nofun) (j:(Sr pos<|Qy [.Name z d] X.env).any (·.1)=false:=by nofun):PE X (.Call (.Name "isinstance" p) [e,.Name z d] [] pos) (up g<|j5 b ba):=by
 refine PE.imp (λσ H Q h=>?_) (ii (FF (Cz:=Cz)) Y L eU (cg Z (cg (zr (v:=.ref Cz) m l rfl hz) d9 o) he) (by decide) (by decide) he j);have h':=vt hd h;obtain⟨F,y,ρ,S,f,k,C,r,U,p⟩:=h';refine⟨F,y,ρ,S,f,k,C,r,U,λx i S1 H1 av v st C1 I O=>?_⟩;obtain⟨e,rfl,u,q⟩:=p x i S1 H1 av v st C1 I O;refine⟨e,g.xc c,rfl,u,?_⟩;rcases hb with ⟨rfl,hb⟩ | ⟨rfl,hb⟩
 ·exact .inl ⟨hb,q⟩
 ·exact .inr ⟨hb.1,hb.2,q⟩
theorem LC{p d:Pos}{c:Nat}(hd:CG g c)(U:Gl X "isinstance")(I:X.mg "isinstance" = none)(Y:PE X e (up g ba))(m:Gl X "ValueError")(l:X.mg "ValueError" = none)(hb:XV X.K (.ref<|g.xc c) (.type "ValueError")=some true)
  (he:Qy [e,.Name "ValueError" d] X.env=(false,Q0 e X.env)::Qy [.Name "ValueError" d] X.env:=by nofun) (o:Qy [.Name "ValueError" d] X.env=(false,Q0 (.Name "ValueError" d) X.env)::Qy [] X.env:=by nofun) (j:(Sr pos<|Qy [.Name "ValueError" d] X.env).any (·.1)=false:=by nofun):PE X (.Call (.Name "isinstance" p) [e,.Name "ValueError" d] [] pos) (up g<|j5 true ba):=by
 have bt:Q9 "ValueError" = some (.type "ValueError"):=by decide +kernel
 refine PE.imp (λσ H Q h=>?_) (ii (FG (T:="ValueError")<|by kernel_rfl) U I eU (cg Y (cg (oK (v:=.ty "ValueError") m l bt rfl) d9 o) he) (by decide) (by decide) he j);obtain⟨F,y,ρ,S,f,k,C,r,O,p⟩:=vt hd h;refine⟨F,y,ρ,S,f,k,C,r,O,λx i S1 H1 av v st C1 z L=>?_⟩;obtain⟨e,rfl,u,q⟩:=p x i S1 H1 av v st C1 z L;exact⟨e,g.xc c,rfl,u,hb,q⟩
theorem HR{c:Nat}(hd:CG g c)(h:PT X (.Compare a [.Is] [n] pos) (tB<|Da<|up g ba)):PT X (.Compare a [.Is] [n] pos) (fP g<|bB<|j5 false ba) :=
 PT.imp (fB λσ H Q h=>by
  obtain⟨F,y,ρ,S,d,k,C,r,m,p⟩:=vt hd h;refine⟨F,y,ρ,S,d,k,C,r,m,λi f S1 H1 av v st C1 j l=>?_⟩;obtain⟨e,rfl,_,q⟩:=p i f S1 H1 av v st C1 j l;exact q) h
def HS(i:Nat):List Nat->Bool
 | []=>false
 | j::r=>match Qn i j with
  | true=>true
  | false=>HS i r
def Om:List (AV×AV)->List Nat->Bool
 | [],_=>true
 | (.str i,_)::r,seen=>match HS i seen with
  | true=>false
  | false=>Om r (i::seen)
 | _::_,_=>false
theorem AS{i:Nat}:∀{l:List Nat},i∈l->HS i l=true
 | j::r,h=>by
  unfold HS;rcases Qm.mp h with rfl | h
  ·rw[ad4]
  ·split
   ·rfl
   ·exact AS h
theorem FH{F:Fx}{y:Option Int}{ρ:List P3}{H:Hp}:∀{kvs:List (AV×AV)} {ks:List (bj×V)} {seen:List Nat},Om kvs seen=true->Paired (λp q=>gF p.1 q.1/\aT F y ρ H p.2 q.2) kvs ks->(ks.map (·.1)).Nodup/\∀q∈ks,∃i x,i∉seen/\bd[i]?=some x/\q.1=.inr x
 | _,_,_,_,.nil=>⟨Tf,λ_ h=>nomatch h⟩
 | (I,O)::r,(k,v)::t,seen,h,.cons ⟨L,Q⟩ p=>by
  cases I with
  | str i=>
   unfold Om at h;split at h
   ·cases h
   ·rename_i nm;obtain⟨x,u,o⟩:=L;obtain⟨C,f⟩:=FH h p;refine⟨?_,λq hq=>?_⟩
    ·rw[Qx,RQ];refine⟨λm=>?_,C⟩;obtain⟨q,hq,e⟩:=RS.mp m;obtain⟨j,z,d,c,l⟩:=f q hq;rw[e,o] at l;cases l;exact d (by rw[dU c u];exact Qj)
    ·rcases Qm.mp hq with rfl | hq
     ·exact⟨i,x,λm=>(by rw[AS m] at nm;cases nm),u,o⟩
     ·obtain⟨j,z,d,c⟩:=f q hq;exact⟨j,z,λm=>d (Ql _ m),c⟩
  | _=>cases h
def Nz(S:aM):AV->Option (List<|AV×AV)
 | .ref n=>match S.t.get n with
  | some (.dk kvs)=>some kvs
  | _=>none
 | _=>none
def HU(a b:BE):BE:=λσ S k=>a σ S λx S1=>match x with
 | .ref n=>match Nz S1 (.ref n) with
  | some _=>b σ S1 λz c=>match z,Nz c (.ref n),Nz c z with
   | .ref m,some ks,some ms=>match Qn n m with
    | true=>false
    | false=>match Om (ks++ms) [] with
     | true=>match QV (ks++ms).length 900 with
      | true=>k .non (c.set n<|.dk<|ks++ms)
      | false=>false
     | false=>false
   | _,_,_=>false
  | none=>false
 | _=>false
theorem zg{S:aM}(C:aI g F y ρ S H){n:Nat}{x:V}(d:aT F y ρ H (.ref n) x){ks:List (AV×AV)}(h:Nz S (.ref n)=some ks):∃a vs,x=.ref a/\ρ[n]?=some a/\H a=some (.dK vs)/\Paired (λp q=>gF p.1 q.1/\aT F y ρ H p.2 q.2) ks vs:=by
 obtain⟨a,c,rfl⟩:=d;obtain⟨o,ho,h1,i,f⟩:=C.at_ n a c;unfold Nz at h;dsimp only at h;rw[h1] at h;cases o with
 | dk kvs=>
  cases h;obtain⟨vs,rfl,p⟩:=f;exact⟨a,vs,rfl,c,i,p⟩
 | _=>cases h
theorem zh{bb:BE}(h:PE X e (Oa K "dict" Ny (up g ba) (j9 (up g bb) mF))):PE X e (up g<|HU ba bb):=by
 refine PE.imp (λσ H Q ⟨F,y,ρ,S,σa,k,C,r,h,p⟩=>ar C r h λy1 ρ1 S1 H1 ax x st C1 r1 U h1=>?_) h;split at h1
 ·rename_i n;split at h1
  ·rename_i q;obtain⟨a,vs,rfl,hρ,hH,_⟩:=zg C1 U q;refine⟨.inr<|.inr<|.inl ⟨rfl,.inl ⟨vs,hH⟩⟩,ar C1 r1 h1 λL ρ2 S2 H2 az z j I r2 rz d=>?_⟩;split at d
   ·rename_i m ks ms q1 q2;split at d
    ·cases d
    ·rename_i nb;split at d
     ·rename_i nd;split at d
      ·rename_i lz;obtain⟨a',vs',e',c,f,Y⟩:=zg I (aT.mono j U) q1;cases e';obtain⟨b,ws,rfl,u,O,l⟩:=zg I rz q2;have Z:=ll Y l;obtain⟨n1,_⟩:=FH nd Z;have hl:vs'.length+ws.length=(ks++ms).length:=by rw[Ri,QP Y,QP l]
       refine⟨a,b,vs',ws,rfl,rfl,λz=>?_,f,O,n1,?_,?_⟩
       ·subst z;rw[jQ I.nd c u,ad4] at nb;cases nb
       ·rw[hl];exact R9 (bX<|Rg (bA lz)<|by decide)
       ·have i:aB F L ρ2 H2 L ρ2 (upd H2 a<|.dK<|vs'++ws):=aB.set I c f;exact p L ρ2 _ _ .non .non ((st.trans j).trans i) (I.set c f (o:=.dk (ks++ms)) (ho:=.dK (vs'++ws)) (ob:=⟨_,rfl,aV (λ_ _ q=>⟨q.1,aT.mono i q.2⟩) Z⟩)) rfl d
      ·cases d
     ·cases d
   ·cases d
  ·cases h1
 ·cases h1
end
end RB
namespace L2
open PySem PySem.Spec PySem.Calls PyProof.Rows
def LD(n:Nat):It:=⟨λi _=>i<n,λi H x c=>c=H/\x=.int ((n:Int) - i),λi _=>n≤i⟩
theorem CH{C:Qv}(it:P3)(n:Nat):vX P w K C (LD n) [it] it (λi h=>W1 h it ((n:Int)+(i:Nat)*(-1)) ((n:Int) - (i:Nat)) (-1)) where
 mem:=by simp
 obj:=λi h st b hb=>by
  obtain rfl:b=it:=by simpa using hb
  exact⟨_,st,λv z=>nomatch (show ad8 _=Data.cell v from z)⟩
 keep:=λi h h' st k=>k it (by simp) _ st
 item:=by
  intro X hP f m l i pins s σ H E I d st j;subst hP f m;obtain⟨x,u,_,r,q,p⟩:=d it (by simp);refine(ad9 (prog:=X.prog) (w:=X.w) (I.ok.hd l) it n (-1) n).item i s _ _ j st λv h' tk O c L=>?_;obtain⟨t,rfl⟩:=O;have I1:ay X pins σ H {s with heap:=h',toks:=tk}:=I.turned (λb o hb e=>L b o (by simpa using hb) e) x u r q p;exact⟨_,rfl,vY (s:={s with heap:=h',toks:=tk}) (n:="range_iterator") c rfl rfl (by decide) ⟨.int<|n - i,H,I1,⟨t,by rw[Int.mul_neg,ae0];rfl⟩,⟨rfl,rfl⟩,c,λb hb=>(d b hb).1⟩⟩
 done:=by
  intro X hP f m l i pins s σ H E I d st j;subst hP f m;obtain⟨x,u,_,r,q,p⟩:=d it (by simp);exact Wp (I.ok.hd l) st (by have:n≤i:=j;omega) λh' Q=>⟨rfl,I.turned (t':=s.toks) (λb o hb e=>Q b o hb e) x u r q p⟩
 self:=λ_ _ _ _ _ st h=>Wq st h
theorem qI(n:Nat)(hn:n<9):ae8 n 0 (-1)=true/\Up n 0 (-1)=n/\Builtin.divisionGoesByPylong (0 - n) (-1)=false:=by
 refine⟨?_,?_,Ws<|by decide⟩
 ·match n,hn with
  | 0,_ | 1,_ | 2,_ | 3,_ | 4,_ | 5,_ | 6,_ | 7,_ | 8,_=>decide +kernel
 ·match n,hn with
  | 0,_ | 1,_ | 2,_ | 3,_ | 4,_ | 5,_ | 6,_ | 7,_ | 8,_=>decide +kernel
theorem HV{c:Qv}{R:It->Hp->Prop}{n:Nat}{t u v:Tok}{tk:Nat}(I:ay X pins σ H s)(hn:n<9)
  (q:R (LD n) H):Qa (Qd X.prog X.w) X.A (W0<|.ref s.heap.objs.size) (Os X pins σ c R) E {s with heap:=s.heap.push {cls:=.type "range",data:=.fields #[.int n t,.int 0 u,.int (-1) v]},toks:=tk}:=by
 obtain⟨i,h,_⟩:=qI n hn;refine X4 (ae1 ..) i ?_;have I1:ay X pins σ H {s with heap:=s.heap.push {cls:=.type "range",data:=.fields #[.int n t,.int 0 u,.int (-1) v]},toks:=tk}:=I.kept λb o e=>P1 _ e;refine⟨_,[(s.heap.push {cls:=.type "range",data:=.fields #[.int n t,.int 0 u,.int (-1) v]}).objs.size],_,_,H,rfl,I1.kept (t':=tk) λb o e=>P1 _ e,CH _ n,?_,λb hb=>?_,q⟩
 ·show W1 _ _ ((n:Int)+((0:Nat):Int)*(-1)) ((n:Int) - ((0:Nat):Int)) (-1);have f:(n:Int)+((0:Nat):Int)*(-1)=n:=by simp
  have d:(n:Int) - ((0:Nat):Int)=Up n 0 (-1):=by rw[h];simp
  rw[f,d];exact P8 _ rfl
 ·obtain rfl:b=(s.heap.push {cls:=.type "range",data:=.fields #[.int n t,.int 0 u,.int (-1) v]}).objs.size:=by simpa using hb
  exact I1.fpOk (Qi _) (I1.hok.fresh<|Qi _)
def JF(c:TA):TI:=λσ H R=>c σ H λvs H1=>∃n:Nat,vs=[.int n,.int 0,.int (-1)]/\n<9/\R (LD n) H1
theorem HW{l a b c:Qv}{i:TA}{p pos:Pos}(x:Gl X "range")(u:X.mg "range" = none)(z:PA X [a,b,c] i)(hs:Qy [a,b,c] X.env=(false,Q0 a X.env)::Qy [b,c] X.env:=by nofun)(f:(Sr pos<|Qy [b,c] X.env).any (·.1)=false:=by nofun) :
  PI X l (.Call (.Name "range" p) [a,b,c] [] pos) (JF i):=by
 intro pins s σ H R I h;refine Call_ (kK I x u boot_range<|TK (bv (z pos pins s σ H _ I h) λus C j=>?_) hs f);obtain⟨vs,H1,I1,d,n,e,hn,q⟩:=j;subst e;cases d with | cons r0 r=>cases r with | cons d r=>cases r with | cons o r=>
 cases r;obtain⟨t,rfl⟩:=r0;obtain⟨t',rfl⟩:=d;obtain⟨m,rfl⟩:=o;exact call_range_3 (by decide) (HV I1 hn q) (.inl (qI n hn).2.2)
end L2
namespace RB
open PySem PySem.Spec PyProof.Rows L2
section
variable{tg a:Qv}{br:BA}
def t7:Nat->List AV
 | 0=>[]
 | n+1=>.int false (.ofNat<|n+1) (.ofNat<|n+1)::t7 n
theorem t8:∀{n i:Nat} {av:AV},(t7 n)[i]?=some av->i<n/\av=.int false (.ofNat<|n - i) (.ofNat<|n - i)
 | 0,i,av,h=>by simp[t7] at h
 | n+1,0,av,h=>by cases h;exact⟨YB _,rfl⟩
 | n+1,i+1,av,h=>by
  obtain⟨a,b⟩:=t8 (n:=n) (i:=i) h;exact⟨by omega,by rw[b,show n+1 - (i+1)=n - i by omega]⟩
theorem t9:∀{n i:Nat},(t7 n)[i]?=none->n≤i
 | 0,i,h=>Ra _
 | n+1,0,h=>nomatch h
 | n+1,i+1,h=>Nat.succ_le_succ (t9 (n:=n) (i:=i) h)
def FI(a:BA):BI:=λσ S k=>a σ S λxs S1=>match xs with
 | [.int false (.ofNat lo) (.ofNat c),.int false (.ofNat 0) (.ofNat 0),.int false (.negSucc 0) (.negSucc 0)]=>match Qn lo c&&RZ lo 9 with
  | true=>k (.tup<|t7 lo) S1
  | false=>false
 | _=>false
theorem HX(h:PI X tg a (JF<|iY g br)):PI X tg a (C8 g<|FI br):=by
 refine PI.imp (λσ H R I=>eO I λF y ρ S l k C r h p=>bn C r h λm d S1 H1 Q xs st C1 r1 c h1=>?_) h;split at h1
 ·rename_i lo hi;split at h1
  ·rename_i q;simp only[Qq] at q;have e:=Qh q.1;subst e;obtain⟨_,_,rfl,⟨z,j,b1,b2⟩,c⟩:=CZ c;obtain⟨_,_,rfl,⟨u,f,b3,b4⟩,c⟩:=CZ c;obtain⟨_,_,rfl,⟨v,O,b5,b6⟩,c⟩:=CZ c;cases c;have L:z=(lo:Int):=Vp b2 b1;have eu:u=0:=Vp b4 b3;have ev:v = -1:=Vp b6 b5;subst j f O L eu ev;refine⟨lo,rfl,bA q.2,p m d S1 H1 (.tup<|t7 lo) _ st C1 ⟨λy2 ρ2 S2 H2 i o Z=>⟨λav e=>?_,λe=>t9 (Qu e)⟩⟩ h1⟩;obtain⟨Y,U⟩:=t8 (Qu e);refine⟨Y,λx H' ⟨j,f⟩=>?_⟩;subst j f U;exact⟨.refl,Z,_,rfl,by show((lo - i:Nat):Int)≤_;omega,by show _≤((lo - i:Nat):Int);omega⟩
  ·cases h1
 ·cases h1
def FJ(n:Nat)(br:BA):BE:=λσ S k=>br σ S λxs S1=>match xs,S1.sym with
 | [.bl _],true=>k (.bl true) S1
 | _,_=>false
def km(f:BF):Prop:=∀b,f [.bl b] ⟨0,true,.lf⟩ (λv S1=>match v with | .bl true=>S1.sym | _=>false) (λ_ _ _=>false)=true
theorem HY{f:BF}(r:km f){S:aM}{E:XK}{k:AV->aM->Bool}{Q:VK}{b:Bool}{v:V}(C:aI ⟨gy,E⟩ F y ρ S H)(hs:S.sym=true)(q:aT F y ρ H (.bl b) v)(h:k (.bl true) S=true)(p:gG ⟨gy,E⟩ F y ρ H k Q):kW gy 1 f [v] H Q E:=by
 have C0:=C.none;rw[hs] at C0;refine⟨F,y,[],_,[.bl b],_,_,C0,.cons q .nil,rfl,r b,λd m S1 H1 av o st C1 i c=>?_,λ_ _ _ _ _ _ _ _ _ _ z=>(by cases z)⟩;dsimp only at c;split at c
 ·have x:d.isSome=true:=C1.sym.symm.trans c;have l:y.isSome=true:=C.sym.symm.trans hs;have u:d=y:=by
   cases j:y with
   | none=>rw[j] at l;cases l
   | some z=>exact st.y z j
  subst u;exact p d ρ S H1 (.bl true) o st.wide (C.wide st C1.J) i h
 ·cases c
theorem AT{x:Str}{k m:Nat}{f:BF}{p pos:Pos}{e:Qv}(c:gI X.prog X.w X.K X.mg X.base g.toGy eT x k 1 f)(U:km f)(z:a9 m X.A)(Y:PA X [e] (iY g br))(L:k≤m:=by decide)(O:Gl X x:=by nofun)(l:(x==("__debug__":Str))=false:=by decide)
  (he:Qy [e] X.env=(false,Q0 e X.env)::Qy [] X.env:=by nofun) (i:(Sr pos<|Qy [] X.env).any (·.1)=false:=by nofun):PE X (.Call (.Name x p) [e] [] pos) (up g<|FJ 1 br):=by
 obtain⟨fa,fd,ps,hn,Fo,I,j,hb⟩:=c;refine PE.imp (λσ H Q u=>eO u λF y ρ S o k C r h p=>bn C r h λy1 q S1 H1 Z xs st C1 r1 d h1=>?_) (uA Fo (z.mono L) O I j hb .nil (dy (g:=g)) Y l he i);split at h1
 ·rename_i b hs;obtain⟨v,_,rfl,r0,d⟩:=CZ d;cases d;exact HY U C1 hs r0 h1 (p.mono st)
 ·cases h1
end
end RB
namespace L2
open PySem PySem.Spec PyProof.Rows
theorem PV{k:Nat}(r:f7 k A):A.units+1<R0:=by have:=r.un;omega
theorem xx{base c:QO}{T:P3}(h:∀b o,base.get? b=some o->c.get? b=some o)(b:base.BuiltinsAt mg T):c.BuiltinsAt mg T:=by
 obtain⟨bm,ob,b1,b2,b3,b4,b5,b6⟩:=b;exact⟨bm,ob,b1,b2,b3,b4,h _ _ b5,b6⟩
end L2
namespace RB
open PySem PySem.Spec PyProof.Rows L2
abbrev FK(gy:Gy):Prop:=∀F,gy.dr F->∀H c,F.J H->F.J c->∀b o u,F.own b->H b=some (.frz o u)->c b=some (.frz o u)
section
variable{k n:Nat}{f:BF}
theorem fc{x:Str}{c d:Nat}{ks:List Str}{tpl:List uU}(M:yL P w K mg base gy (dB P w) c x k n d ks tpl f):yL P w K mg base gy eT c x k n d ks tpl (never f):=let ⟨h,fd,ps,a,F,b⟩:=M;⟨h,fd,ps,a,bS.never F,b⟩
theorem NA{x q:Str}{N ps:List Str}{b:BS}{c:P3}(F:Fun K x q st c fd)(S:aj N ps (ae st))(hbody:Ls P w K mg base gy N q st k b c)(hn:ps.length=n:=by decide)(h:ps.length≤N.length:=by decide) :
  bS P w K mg base (dB P w) (k+1) c fd ps (kW gy n<|bQ N.length b):=vn F S hn h λi A outer s H E d=>hbody d (dC d)
end
theorem FL{qual:Str}{I:Nat->BS}{bl:BE}{f c' D:P3}{l:L2.St}{H H0:Hp}{Q:VK}{E:XK}{B:rD}{σ:L2.St}(j:FK gy)(hD:∀c,Sv K (.ref<|gy.xc c) (.ref D)=some true)(hB:B.rt=Q)(m:∀e,∃a b,(σ.set 1<|some<|.ref e).set 3 none=[a,some (.ref e),some .non,b,none])
  (h:pi gy qual I bl f c' l vs H0 Q E) {p:P3} {o:HO} (u:H0 p=none) (hH:H=upd H0 p o):H c'=some (fZ c' qual) /\
   up ⟨gy,λC _ U=>Sv K C (.ref D)=some true/\∀e,U e=none->∃c,dw ⟨HQ gy c,E0⟩ (I c) B ((σ.set 1<|some<|.ref e).set 3 none)<|upd U e<|nh e C⟩ bl l H λ_ _=>False:=by
 subst hH;obtain⟨_,x,F,y,ρ,S,av,k,C,r,Z,hb,q⟩:=h;have i:aB F y ρ H0 y ρ (upd H0 p o):=aB.lay u;have C:=C.lay (o:=o) u;have q:=q.mono i;refine⟨by rw[al λz=>by rw[z,u] at x;cases x];exact x,F,y,ρ,S,⟨av,Ol I k⟩,_,C.reE,⟨gp.mono i r,λy1 Y S1 H1 c L d st C1 hX O=>?_⟩,hb,λ_ _ _ _ _ _ _ _ _ z=>(by cases z)⟩;cases L with
 | non=>exact⟨hD c,λe he=>⟨c,zf C1.reE he (m e) O (q.mono<|Fs C Z (j F C.fl.dr _ H1 C.J C1.J) st) hB⟩⟩
 | _=>cases O
theorem HZ{es:List SK}{t:Nat->TS}(h:∀c,gC X es (t c)):gC X es (λB σ H=>∃c,t c B σ H):=λpins s σ H B I ⟨c,q⟩=>h c pins s σ H B I q
end RB
namespace L2
open PySem PySem.Spec PyProof.Rows
def JG:List V->Hp->VK->Prop:=λvs H Q=>∃l ns M,vs=[.ref l]/\H l=some (.lst<|TB V.int ns)/\M∈ns/\(∀a∈ns,M≤a)/\Q (.int M) H
theorem CI(Z:X.calm=true):cZ X (.builtin "min") JG:=by
 rintro pins s σ H xs us Q I r ⟨l,ns,M,e1,O,o,f,q⟩;subst e1;obtain⟨u,rfl,C⟩:=iW r;cases C;obtain⟨its,z,pl,_⟩:=I.list (.inl<|.inl O);have hi:=yb z;obtain⟨ys,e⟩:=hi.allInts.items;have c:ns=ys.toList.map (·.1):=by rw[<-hi.numsOf,<-nums_intItems,<-e]
 have hsz:0<ys.size:=by
  have p:0<ns.length:=List.length_pos_of_mem o;rw[c,QI,QL] at p;exact p
 have d:=pl.isList;rw[e] at d;refine min_intList (I.ok.hd Z) d hsz λv h' tk L U=>?_;obtain⟨t,rfl⟩:=intItems_at L;obtain⟨h1,x⟩:=argBest_lt (numAt ys) (ys.size - 1);generalize hm:numAt ys (argBest (λi j=>decide (numAt ys i<numAt ys j))<|ys.size - 1)=m at x;have m1:m∈ns:=by rw[c,<-hm,numAt_eq];exact getD_mem (by rw[QI,QL];omega)
 have m2:∀a∈ns,m≤a:=λa h=>by
  rw[c] at h;obtain⟨j,Y,rfl⟩:=mem_getD h;rw[QI,QL] at Y;rw[<-numAt_eq];exact x j (by omega)
 have:M=m:=Vp (f m m1) (m2 M o);subst this;exact⟨.int M,H,I.kept U,⟨t,rfl⟩,q⟩
end L2
namespace RB
open PySem PySem.Spec PyProof.Rows L2
def FM:List AV->Option Int
 | [.int false lo c]=>match dq lo c&&dq c lo with
  | true=>some lo
  | false=>none
 | .int false lo c::r=>match dq lo c&&dq c lo,FM r with
  | true,some m=>some (match dq lo m with
   | true=>lo
   | false=>m)
  | _,_=>none
 | _=>none
theorem Ig:∀{ys:List AV} {vs:List V} {m:Int},FM ys=some m->aQ F y ρ H ys vs->∃ns,vs=TB V.int ns/\m∈ns/\∀a∈ns,m≤a:=by
 intro ys
 induction ys with
 | nil=>intro vs m h;cases h
 | cons x r l=>
  intro vs m h j;cases j with | cons r0 f=>
  cases x with
  | int b lo C=>
   cases b with
   | true=>cases r<;>cases h
   | false=>
    obtain⟨z,rfl,b1,b2⟩:=r0;cases r with
    | nil=>
     unfold FM at h;split at h
     ·rename_i q;simp only[Qq,bi] at q;cases h;cases f;have:z=m:=by omega
      subst this;exact⟨[z],rfl,Rj.mpr rfl,λa ha=>by rw[Rj.mp ha];exact Rr _⟩
     ·cases h
    | cons p u=>
     unfold FM at h;split at h
     ·rename_i m2 q q2;simp only[Qq,bi] at q;obtain⟨ns,e,h1,i⟩:=l q2 f;have o:z=lo:=by omega
      subst o;refine⟨z::ns,by rw[e];rfl,?_⟩;have d:=Qu h;cases c:dq z m2 with
      | true=>
       rw[c] at d;obtain rfl:z=m:=d;exact⟨Qj,λa ha=>by
        rcases Qm.mp ha with rfl | ha
        ·exact Rr _
        ·exact Int.le_trans (bi.mp c) (i a ha)⟩
      | false=>
       rw[c] at d;obtain rfl:m2=m:=d;have:¬z≤m2:=λw=>by rw[bi.mpr w] at c;cases c
       exact⟨Ql _ h1,λa ha=>by
        rcases Qm.mp ha with rfl | ha
        ·omega
        ·exact i a ha⟩
     ·cases h
  | _=>cases r<;>cases h
def JH:List AV->aM->(AV->aM->Bool)->Bool:=λxs S k=>match xs with
 | [x]=>match iJ S x with
  | some ys=>match FM ys with
   | some m=>k (.int false m m) S
   | none=>false
  | none=>false
 | _=>false
theorem FN:mK g JG JH:=by
 intro F y ρ S H xs j k Q C c h p;unfold JH at h;split at h
 ·split at h
  ·rename_i ys q;split at h
   ·rename_i m q2;cases c with | cons r0 t=>cases t with | nil=>
    obtain⟨n,a,vs,rfl,rfl,_,f,d⟩:=cG C r0 q;obtain⟨ns,rfl,h1,i⟩:=Ig q2 d;exact⟨a,ns,m,rfl,f,h1,i,p.here C (av:=.int false m m) ⟨m,rfl,Rr _,Rr _⟩ h⟩
   ·cases h
  ·cases h
 ·cases h
theorem CJ{ba:BE}(fuel:Nat)(i:Nat){t:BG}{l:BT}{m:BE}(f:∀j∈sl,ix[j]?=some none)(h:PS X st (jj (F6 ix (tm X.H₀<|up g ba) (mz g sl t) (fP g l)<|up g m)<|fY i)):PS X st (dw g<|gH (BZ fuel true ix ba t l m)<|a8 i) :=
 PS.imp (λD σ H I=>yr I λF y ρ S o d C r h p _=>Ao fuel f σ H _ (ar C r h λq c S1 H1 ax x st C1 z u h1=>p q c S1 H1 _ _ st C1 (c9 z u) h1)) (PS.thaw h)
structure Wr0(P:QK)(w:Q4)(K:P7)(mg:Str->Option P0)(gy:Gy):Prop where
 d_is_whole:cO K mg "is_whole" (aH 17)
 d_is_stretch:cO K mg "is_stretch" (aH 18)
 d_reaches:cO K mg "reaches" (aH 25)
 d_earlier_end:cO K mg "earlier_end" (aH 26)
 d_later_end:cO K mg "later_end" (aH 27)
 d_meets:cO K mg "meets" (aH 23)
 d_gaps_of:cO K mg "gaps_of" (aH 24)
 d_both:cO K mg "both" (aH 22)
 d_without:cO K mg "without" (aH 21)
 d_joined:cO K mg "joined" (aH 20)
 d_is_key:cO K mg "is_key" (aH 33)
 d_check_task:cO K mg "check_task" (aH 34)
 d_check_awake:cO K mg "check_awake" (aH 35)
 d_check_file:cO K mg "check_file" (aH 36)
 d_check_mode:cO K mg "check_mode" (aH 37)
 d_check_kind:cO K mg "check_kind" (aH 38)
 d_check_by:cO K mg "check_by" (aH 39)
 d_check_stretch:cO K mg "check_stretch" (aH 41)
 d_mark_at:cO K mg "mark_at" (aH 42)
 d_mark_of:cO K mg "mark_of" (aH 43)
 d_awake_mark:cO K mg "awake_mark" (aH 44)
 d_ask_entry:cO K mg "ask_entry" (aH 46)
 d_lock_order:cO K mg "lock_order" (aH 48)
 d_lock_rows:cO K mg "lock_rows" (aH 49)
 d_told_locks:cO K mg "told_locks" (aH 50)
 d_told_asks:cO K mg "told_asks" (aH 52)
 d_ask_of:cO K mg "ask_of" (aH 53)
 d_clash:cO K mg "clash" (aH 54)
 d_blocking_stretches:cO K mg "blocking_stretches" (aH 55)
 d_blocking_locks:cO K mg "blocking_locks" (aH 57)
 d_asks_are_against:cO K mg "asks_are_against" (aH 58)
 d_blocking_asks:cO K mg "blocking_asks" (aH 59)
 d_is_blocked:cO K mg "is_blocked" (aH 60)
 d_first_blocker:cO K mg "first_blocker" (aH 61)
 d_keep_lots:cO K mg "keep_lots" (aH 62)
 d_free_cells:cO K mg "free_cells" (aH 63)
 d_take:cO K mg "take" (aH 64)
 d_wake:cO K mg "wake" (aH 67)
 d_tasks_behind:cO K mg "tasks_behind" (aH 68)
 d_needs_of:cO K mg "needs_of" (aH 69)
 d_can_go:cO K mg "can_go" (aH 70)
 d_stuck_asks:cO K mg "stuck_asks" (aH 71)
 d_fall_asleep:cO K mg "fall_asleep" (aH 66)
 d_give_up_stuck:cO K mg "give_up_stuck" (aH 72)
 d_first_unblocked:cO K mg "first_unblocked" (aH 73)
 d_grant:cO K mg "grant" (aH 74)
 d_settle:cO K mg "settle" (aH 75)
 d_new_handle:cO K mg "new_handle" (aH 78)
 d_add_user:cO K mg "add_user" (aH 79)
 d_lead:cO K mg "lead" (aH 80)
 d_lose_user:cO K mg "lose_user" (aH 81)
 d_shut:cO K mg "shut" (aH 82)
 d_end_task:cO K mg "end_task" (aH 83)
 d_take_or_wait:cO K mg "take_or_wait" (aH 84)
 d_do_begin:cO K mg "do_begin" (aH 85)
 d_do_attach:cO K mg "do_attach" (aH 86)
 d_do_close:cO K mg "do_close" (aH 88)
 d_do_fork:cO K mg "do_fork" (aH 89)
 d_do_end:cO K mg "do_end" (aH 90)
 d_do_lock:cO K mg "do_lock" (aH 91)
 d_do_unlock:cO K mg "do_unlock" (aH 92)
 d_do_deed:cO K mg "do_deed" (aH 97)
 d_ending_order:cO K mg "ending_order" (aH 98)
 d__law_draw:cO K mg "_law_draw" (aH 104)
 d__law_begun:cO K mg "_law_begun" (aH 105)
 d__law_class:cO K mg "_law_class" (aH 106)
 d__law_heard:cO K mg "_law_heard" (aH 107)
 d__law_tasks:cO K mg "_law_tasks" (aH 108)
 d_lot_of:∃c,D9 K mg "lot_of" (aH 19) c/\Sm K c gy.tT=true
 d__law_upgrades:∃c,D9 K mg "_law_upgrades" (aH 109) c/\Sm K c (gy.tl 1)=true
 d__law_marks:∃c,D9 K mg "_law_marks" (aH 110) c/\Sm K c (gy.tl 2)=true
 t_Tables_put:tW K (gy.cl 0) "put" "Tables.put" (aq (aH 100) 1)
 t_Tables_drop:tW K (gy.cl 0) "drop" "Tables.drop" (aq (aH 100) 2)
 t_Tables_fresh:tW K (gy.cl 0) "fresh" "Tables.fresh" (aq (aH 100) 4)
 t_Tables_undo_to:tW K (gy.cl 0) "undo_to" "Tables.undo_to" (aq (aH 100) 3)
 t_Desk_perform:tW K (gy.cl 1) "perform" "Desk.perform" (aq (aH 102) 1)
 t_Desk_do:tW K (gy.cl 1) "do" "Desk.do" (aq (aH 102) 2)
 t_Desk_begin:tW K (gy.cl 1) "begin" "Desk.begin" (aq (aH 102) 3)
 t_Desk_close:tW K (gy.cl 1) "close" "Desk.close" (aq (aH 102) 6)
 t_Desk_fork:tW K (gy.cl 1) "fork" "Desk.fork" (aq (aH 102) 7)
 t_Desk_end:tW K (gy.cl 1) "end" "Desk.end" (aq (aH 102) 8)
 t_Desk_is_asleep:tW K (gy.cl 1) "is_asleep" "Desk.is_asleep" (aq (aH 102) 17)
 t_Desk_asks:tW K (gy.cl 1) "asks" "Desk.asks" (aq (aH 102) 22)
 t_Desk_outcome:tW K (gy.cl 1) "outcome" "Desk.outcome" (aq (aH 102) 23)
 t_Desk_why:tW K (gy.cl 1) "why" "Desk.why" (aq (aH 102) 24)
 t_Desk_ending:tW K (gy.cl 1) "ending" "Desk.ending" (aq (aH 102) 25)
 t_Desk_locks:tW K (gy.cl 1) "locks" "Desk.locks" (aq (aH 102) 19)
 t_Desk_attach:∃h t,rZ K (gy.cl 1) "attach" "Desk.attach" (aq (aH 102) 4) #[⟨h,.str "mode" t,.str "both" 1274⟩]
 t_Desk_lock:∃h t h1 t1,rZ K (gy.cl 1) "lock" "Desk.lock" (aq (aH 102) 9) #[⟨h,.str "by" t,.str "task" 1322⟩,⟨h1,.str "wait" t1,.bool false⟩]
 t_Desk_unlock:∃h t,rZ K (gy.cl 1) "unlock" "Desk.unlock" (aq (aH 102) 10) #[⟨h,.str "by" t,.str "task" 1338⟩]
 i_Tables:Nl K (gy.cl 0) "Tables.__init__" (aq (aH 100) 0)
 i_Desk:Nl K (gy.cl 1) "Desk.__init__" (aq (aH 102) 0)
 g_Tables:mg "Tables" = some (.ref<|gy.cl 0)
 g_Desk:mg "Desk" = some (.ref<|gy.cl 1)
 g_do_begin:mg "do_begin" = some (.ref<|gy.fe 0)
 g_do_attach:mg "do_attach" = some (.ref<|gy.fe 1)
 g_do_close:mg "do_close" = some (.ref<|gy.fe 3)
 g_do_fork:mg "do_fork" = some (.ref<|gy.fe 4)
 g_do_end:mg "do_end" = some (.ref<|gy.fe 5)
 g_do_lock:mg "do_lock" = some (.ref<|gy.fe 6)
 g_do_unlock:mg "do_unlock" = some (.ref<|gy.fe 7)
 M:M5 mg
 G:jf K gy
 T:PQ P w K mg gy
 hP:gy.tP=vh
 hQ:gy.tQ=o9
 nT:QF≠gy.tT
 nTl:∀i,QF≠gy.tl i
 q0:gy.tq 0=(("law":Str)++".<locals>.")++"<lambda>"
 q1:gy.tq 1=(("_law_upgrades":Str)++".<locals>.")++"<lambda>"
 q2:gy.tq 2=(("_law_marks":Str)++".<locals>.")++"<lambda>"
 e_Lock:∃D,mg "LockError" = some (.ref D)/\∀c,Sv K (.ref<|gy.xc c) (.ref D)=some true
 e_Stuck:mg "Stuck" = some (.ref<|gy.xc 0)
 e_new:U4 K (gy.xc 0) O7 "ValueError.__new__" = true
 e_is:∀c,YL K (.ref<|gy.xc c) (gy.xc 0)=true
 n_is:∀c,FD K (gy.xc c)
 x_VE:mg "ValueError" = none
 x_sub:∀c,XV K (.ref<|gy.xc c) (.type "ValueError")=some true
 x_Asleep:∃C,mg "Asleep" = some (.ref C)/\∀c,Rl K (gy.xc c) C=true
 x_Awake:∃C,mg "Awake" = some (.ref C)/\∀c,Rl K (gy.xc c) C=true
 x_BadKind:∃C,mg "BadKind" = some (.ref C)/\∀c,Rl K (gy.xc c) C=true
 x_BadMode:∃C,mg "BadMode" = some (.ref C)/\∀c,Rl K (gy.xc c) C=true
 x_BadStretch:∃C,mg "BadStretch" = some (.ref C)/\∀c,Rl K (gy.xc c) C=true
 x_Held:∃C,mg "Held" = some (.ref C)/\∀c,Rl K (gy.xc c) C=true
 x_NoFile:∃C,mg "NoFile" = some (.ref C)/\∀c,Rl K (gy.xc c) C=true
 x_NoHandle:∃C,mg "NoHandle" = some (.ref C)/\∀c,Rl K (gy.xc c) C=true
 x_NoTask:∃C,mg "NoTask" = some (.ref C)/\∀c,Rl K (gy.xc c) C=true
structure Wr(P:QK)(w:Q4)(K:P7)(mg:Str->Option P0)(base:QO)(gy:Gy):Prop extends Wr0 P w K mg gy where
 hB:base.BuiltinsAt mg gy.tT
 hBl:∀i,i<3->base.BuiltinsAt mg (gy.tl i)
section
abbrev Wr.cal(_:Wr P w K mg base gy)(x:Str)(k n:Nat)(b:BF):Prop:=gI P w K mg base gy eT x k n b
abbrev Wr.met(_:Wr P w K mg base gy)(c:Nat)(x:Str)(k n:Nat)(d:List AV)(b:BF):Prop:=mV P w K mg base gy eT c x k n d b
theorem Wr.more{c:QO}(W:Wr P w K mg base gy)(h:∀b o,base.get? b=some o->c.get? b=some o):Wr P w K mg c gy:=⟨W.toWr0,xx h W.hB,λi d=>xx h (W.hBl i d)⟩
theorem Wr.reE(W:Wr P w K mg base gy)(c:Nat):Wr P w K mg base (HQ gy c):=⟨⟨W.d_is_whole,W.d_is_stretch,W.d_reaches,W.d_earlier_end,W.d_later_end,W.d_meets,W.d_gaps_of,W.d_both,W.d_without,W.d_joined,W.d_is_key,W.d_check_task,W.d_check_awake,W.d_check_file,W.d_check_mode,W.d_check_kind,W.d_check_by,W.d_check_stretch,W.d_mark_at,W.d_mark_of,W.d_awake_mark,W.d_ask_entry,W.d_lock_order,W.d_lock_rows,W.d_told_locks,W.d_told_asks,W.d_ask_of,W.d_clash,W.d_blocking_stretches,W.d_blocking_locks,W.d_asks_are_against,W.d_blocking_asks,W.d_is_blocked,W.d_first_blocker,W.d_keep_lots,W.d_free_cells,W.d_take,W.d_wake,W.d_tasks_behind,W.d_needs_of,W.d_can_go,W.d_stuck_asks,W.d_fall_asleep,W.d_give_up_stuck,W.d_first_unblocked,W.d_grant,W.d_settle,W.d_new_handle,W.d_add_user,W.d_lead,W.d_lose_user,W.d_shut,W.d_end_task,W.d_take_or_wait,W.d_do_begin,W.d_do_attach,W.d_do_close,W.d_do_fork,W.d_do_end,W.d_do_lock,W.d_do_unlock,W.d_do_deed,W.d_ending_order,W.d__law_draw,W.d__law_begun,W.d__law_class,W.d__law_heard,W.d__law_tasks,W.d_lot_of,W.d__law_upgrades,W.d__law_marks,W.t_Tables_put,W.t_Tables_drop,W.t_Tables_fresh,W.t_Tables_undo_to,W.t_Desk_perform,W.t_Desk_do,W.t_Desk_begin,W.t_Desk_close,W.t_Desk_fork,W.t_Desk_end,W.t_Desk_is_asleep,W.t_Desk_asks,W.t_Desk_outcome,W.t_Desk_why,W.t_Desk_ending,W.t_Desk_locks,W.t_Desk_attach,W.t_Desk_lock,W.t_Desk_unlock,W.i_Tables,W.i_Desk,W.g_Tables,W.g_Desk,W.g_do_begin,W.g_do_attach,W.g_do_close,W.g_do_fork,W.g_do_end,W.g_do_lock,W.g_do_unlock,W.M,⟨W.G.cls,W.G.na_files,W.G.na_fair,W.G.na_given,W.G.na_leads,W.G.na_opened,W.G.na_held,W.G.na_whole,W.G.na_waiting,W.G.na_asleep,W.G.na_outcomes,W.G.na_changes,W.G.na_tables,W.G.na_past,W.G.na_future⟩,⟨W.T.g_KINDS,W.T.g_HOLDERS,W.T.g_MODES,W.T.g_WRONG_MODES,W.T.g_DEEDS⟩,W.hP,W.hQ,W.nT,W.nTl,W.q0,W.q1,W.q2,W.e_Lock,W.e_Stuck,W.e_new,W.e_is,W.n_is,W.x_VE,W.x_sub,W.x_Asleep,W.x_Awake,W.x_BadKind,W.x_BadMode,W.x_BadStretch,W.x_Held,W.x_NoFile,W.x_NoHandle,W.x_NoTask⟩,W.hB,W.hBl⟩
end
abbrev XX(T:∀{r:QK} {q:Q4} {p:P7} {o:Str->Option P0} {m:QO} {l:Gy},Wr r q p o m l->BF->Prop):={b:BF // ∀{j:QK} {i:Q4} {h:P7} {f:Str->Option P0} {d:QO} {c:Gy} (W:Wr j i h f d c),T W b}
section
variable(W:Wr P w K mg base gy)
local macro_rules | `(tactic| apply $t:term) => `(tactic| ((conv => arg 2;whnf);with_reducible refine $t))
local macro_rules | `(tactic| rfl) => `(tactic| with_unfolding_all exact rfl)
local macro_rules | `(tactic| trivial) => `(tactic| with_unfolding_all (first | exact Or.inl rfl | exact Or.inr rfl | exact Dp _ | exact (fun _ _ => rfl) | exact (fun _ => rfl) | exact ⟨rfl, rfl, rfl, rfl⟩))
theorem xy:aj ["thing"] ["thing"] (ae<|aH 17):=cp
def iP:XX λW b=>W.cal "is_whole" 1 1 b:=⟨bQ 1 _,λW=>bH W.d_is_whole xy (b1 λ_=>rfl) λd c=>by
  apply(ag<|au<|qa (yE .int (by rfl) W.M.isinstance (uv 0)<|oK (v:=.ty "int") (by rfl) W.M.int Br<|by rfl)<|iI<|Ky<|yE .bool (by rfl) W.M.isinstance (uv 0)<|oK (v:=.ty "bool") (by rfl) W.M.bool pV<|by rfl)⟩
theorem hW:aj ["thing","first","end"] ["thing"] (ae<|aH 18):=cp
def vw:XX λW b=>W.cal "is_stretch" 2 1 b:=⟨bQ 3 _,λW=>bH W.d_is_stretch hW (b1 λ_=>rfl) λc d=>by
  apply(af (aX (PW.pt<|gu (gv<|cA<|yE .tuple (by rfl) W.M.isinstance (uv 0)<|oK (v:=.ty "tuple") (by rfl) W.M.tuple bE<|by rfl)<|eV<|a7 jk gw (bo dh f9 (by rfl) W.M.len Se<|aa (uv 0) ad) ai<|by trivial) (ag<|au cK) aO)
   (af (dX<|cY (uv 0)<|bN (n:=2) (by rfl)<|am (ug 1 hW.nd)<|am (ug 2 hW.nd) bf)
   (af (aX (PW.pt<|gu (gv<|cA<|uc (iP.2 W) c<|aa (uv 1) ad)<|eV<|a7 pG mO (uv 1) ai<|by trivial) (ag<|au cK) aO)
   (ag<|au<|Ec (uP<|pA<|cF<|uv 2)<|iI<|qa (uc (iP.2 W) c<|aa (uv 2) ad)<|iI<|iH pG mO (uv 1) (uv 2)<|by trivial))))⟩
theorem zi:aj ["end","cell"] ["end","cell"] (ae<|aH 25):=cp
def ub:XX λW b=>W.cal "reaches" 1 2 b:=⟨bQ 2 _,λW=>bH W.d_reaches zi (b2 λ_ _=>rfl) λd c=>by
  apply(ag<|au<|Ec (uP<|pA<|cF<|uv 0)<|iI<|iH IV KG (uv 0) (uv 1)<|by trivial)⟩
theorem qJ:aj ["one","other"] ["one","other"] (ae<|aH 26):=cp
def kn:XX λW b=>W.cal "earlier_end" 1 2 b:=⟨bQ 2 _,λW=>bH W.d_earlier_end qJ (b2 λ_ _=>rfl) λd c=>by
  apply(af (aX (eg<|cR<|cF<|uv 0) (ag<|au<|uv 1) aO)
   (af (aX (eg<|cR<|cF<|uv 1) (ag<|au<|uv 0) aO)
   (ag<|au<|bo (yq<|by rfl) GZ (by rfl) W.M.min sU<|aa (uv 0)<|aa (uv 1) ad)))⟩
theorem vy:aj ["one","other"] ["one","other"] (ae<|aH 27):=cp
def nV:XX λW b=>W.cal "later_end" 1 2 b:=⟨bQ 2 _,λW=>bH W.d_later_end vy (b2 λ_ _=>rfl) λd c=>by
  apply(af (aX (PW.pt<|gu (eg<|cR<|cF<|uv 0)<|eV<|eg<|cR<|cF<|uv 1) (ag<|au iG) aO)
   (ag<|au<|bo (kT<|by rfl) qC (by rfl) W.M.max mI<|aa (uv 0)<|aa (uv 1) ad))⟩
theorem xz:aj ["one","other","end"] ["one","other"] (ae<|aH 23):=cp
def vz:XX λW b=>W.cal "meets" 2 2 b:=⟨bQ 3 _,λW=>bH W.d_meets xz (b2 λ_ _=>rfl) λc d=>by
  apply(af (ua 2 xz.nd<|uc (kn.2 W) c<|aa (a6 (uv 0) ai<|by trivial)<|aa (a6 (uv 1) ai<|by trivial) ad)
   (ag<|au<|Ec (uP<|pA<|cF<|uv 2)<|iI<|iH pG mO (bo (kT<|by rfl) qC (by rfl) W.M.max mI<|aa (a6 (uv 0) ai<|by trivial)<|aa (a6 (uv 1) ai<|by trivial) ad) (uv 2)<|by trivial))⟩
theorem ff:aj ["lot","rows","start","first","end"] ["lot"] (ae<|aH 24):=cp
def CK:XX λW b=>W.cal "gaps_of" 1 1 b:=⟨bQ 5 _,λW=>bH W.d_gaps_of ff (b1 λ_=>rfl) λd c=>by
  apply(af (ua 1 ff.nd<|dW ad)
   (af (ua 2 ff.nd ai)
   (af (dY 40 QD (by rfl) (cT<|cS<|uv 0) (bN (n:=2) (by rfl)<|am (ug 3 ff.nd)<|am (ug 4 ff.nd) bf) (af (aX (a7 pG HJ (uv 2) (uv 3)<|by trivial) (ag<|ao<|i5 db<|gn QJ Rf Rk (by with_unfolding_all exact c8) (uv 1)<|aa (aD<|aa (uv 2)<|aa (uv 3) ad) ad) aO)
   (af (aX (eg<|cR<|cF<|uv 4) (ag<|au<|bM bK cq (by rfl) W.M.tuple bE<|aa (uv 1) ad) aO)
   (ag<|ua 2 ff.nd<|uv 4))))
   (af (ao<|i5 db<|gn QJ Rf Rk (by with_unfolding_all exact c8) (uv 1)<|aa (aD<|aa (uv 2)<|aa iG ad) ad)
   (ag<|au<|bM bK cq (by rfl) W.M.tuple bE<|aa (uv 1) ad)))))⟩
theorem gT:aj ["one","other","rows","at","beside","left","right","end"] ["one","other"] (ae<|aH 22):=cp
def LE:XX λW b=>W.cal "both" 3 2 b:=⟨bQ 8 _,λW=>bH W.d_both gT (b2 λ_ _=>rfl) λc d=>by
  apply(af (ua 2 gT.nd<|dW ad)
   (af (ua 3 gT.nd ai)
   (af (ua 4 gT.nd ai)
   (af (iu 40 QD (PW.pt<|yu (a7 pG mO (uv 3) (bo dh f9 (by rfl) W.M.len Se<|aa (uv 0) ad)<|by trivial)<|uM<|a7 pG mO (uv 4) (bo dh f9 (by rfl) W.M.len Se<|aa (uv 1) ad)<|by trivial) (af (Ep<|Dh (i:=5) (j:=6) (by rfl) gT.nd (by rfl) (by rfl) (by decide) (by rfl) (by rfl) (aa (a6 (uv 0) (uv 3)<|by trivial)<|aa (a6 (uv 1) (uv 4)<|by trivial) ad)<|by rfl)
   (af (ua 7 gT.nd<|uc (kn.2 W) c<|aa (a6 (uv 5) ai<|by trivial)<|aa (a6 (uv 6) ai<|by trivial) ad)
   (af (aX (cA<|uc (vz.2 W) c<|aa (uv 5)<|aa (uv 6) ad) (ag<|ao<|i5 db<|gn QJ Rf Rk (by with_unfolding_all exact c8) (uv 2)<|aa (aD<|aa (bo (kT<|by rfl) qC (by rfl) W.M.max mI<|aa (a6 (uv 5) ai<|by trivial)<|aa (a6 (uv 6) ai<|by trivial) ad)<|aa (uv 7) ad) ad) aO)
   (ag<|aX (a7 ig eY (a6 (uv 5) ai<|by trivial) (uv 7)<|by trivial) (ag<|yH mQ<|xQ (i:=3) gT.nd (by rfl) (by trivial) ai xR)<|ag<|yH mQ<|xQ (i:=4) gT.nd (by rfl) (by trivial) ai xR)))))
   (ag<|au<|bM bK cq (by rfl) W.M.tuple bE<|aa (uv 2) ad)))))⟩
theorem zj:aj ["one","other"] ["one","other"] (ae<|aH 21):=cp
def ud:XX λW b=>W.cal "without" 4 2 b:=⟨bQ 2 _,λW=>bH W.d_without zj (b2 λ_ _=>rfl) λc d=>by
  apply(ag<|au<|uc (LE.2 W) c<|aa (uv 0)<|aa (uc (CK.2 W) c<|aa (uv 1) ad) ad)⟩
theorem jV:aj ["stretches","rows","first","end"] ["stretches"] (ae<|aH 19):=cp
@[reducible] def CL:BS:=(bJ (gH (yt aK)<|a8 1)
 (bJ (wC 40 (Jq<|u6<|aE 0) (qf 2<|jx (a8 2)<|jx (a8 3) Ae)
 (lR (GM (MX<|aE 1)<|bB<|lQ (nJ 2 ub.1)<|ah (eQ Aa (eQ Aa (aE 1)<|BR<|bI 1)<|bI 1)<|ah (aE 2) aK)
 (Jp (aE 1) (BR<|bI 1)<|dF<|ah (eQ Aa (eQ Aa (aE 1)<|BR<|bI 1)<|bI 0)<|ah (lQ (nJ 2 nV.1)<|ah (eQ Aa (eQ Aa (aE 1)<|BR<|bI 1)<|bI 1)<|ah (aE 3) aK) aK)
 (fF<|L3 uS (aE 1)<|ah (dF<|ah (aE 2)<|ah (aE 3) aK) aK)))
 (je<|KN yC<|ah (aE 1) aK)))
def FO:BF:=bQ 4 CL
theorem CN:W.cal "lot_of" 2 1 FO:=by
 obtain⟨c,d,j⟩:=W.d_lot_of;have l:=pf (mg:=mg) j W.nT;refine vi (n:=1) d jV (hb:=λ_ _ _ _ _ _ us i=>match us,i with | [_],_=>rfl) (hbody:=λf A outer s H E h=>?_);have m:=dC h;apply(af (ua 1 jV.nd<|dW ad)
   (af (dY 40 QD (by rfl) (iM<|f8<|Co W.hP W.hQ<|D8 l W.hB (by rfl) h.depth W.M.sorted<|uv 0) (bN (n:=2) (by rfl)<|am (ug 2 jV.nd)<|am (ug 3 jV.nd) bf)<|ag<|aX (PW.pt<|yu (fT<|dN<|uv 1)<|uM<|cA<|uc (ub.2 W) h<|aa (a6 (a6 (uv 1) (mW ai)<|by trivial) ai<|by trivial)<|aa (uv 2) ad) (ag<|G6 (value:=.Name "" ⟨0,0,0,0⟩)<|cY (aD<|aa (a6 (a6 (uv 1) (mW ai)<|by trivial) ai<|by trivial)<|aa (uc (nV.2 W) h<|aa (a6 (a6 (uv 1) (mW ai)<|by trivial) ai<|by trivial)<|aa (uv 3) ad) ad)<|JZ (uv 1) (mW ai) Dz)<|ag<|ao<|i5 db<|gn QJ Rf Rk (by with_unfolding_all exact c8) (uv 1)<|aa (aD<|aa (uv 2)<|aa (uv 3) ad) ad)
   (ag<|au<|bM bK cq (by rfl) W.M.tuple bE<|aa (uv 1) ad)))
theorem CO:aj ["one","other"] ["one","other"] (ae<|aH 20):=cp
def xA:XX λW b=>W.cal "joined" 3 2 b:=⟨bQ 2 _,λW=>bH W.d_joined CO (b2 λ_ _=>rfl) λc d=>by
  apply(ag<|au<|uc (CN W) c<|aa (cE ef eB (uv 0)<|uv 1) ad)⟩
theorem ln:aj ["self","files","fair"] ["self","files","fair"] (ae<|aq (aH 100) 0):=cp
abbrev hZ:Q8:=r8 [("file",.local)]
theorem fM:aR (ae<|aq (aH 100) 0) ["self","files","fair"] hZ ["file"] [none]:=r9
abbrev h8:Q8:=r8 [("file",.local)]
theorem fN:aR (ae<|aq (aH 100) 0) ["self","files","fair"] h8 ["file"] [none]:=r9
def mh:XX λ{P w K mg base gy} W b=>OX P w K mg base gy eT 0 "Tables" 1 3 b:=⟨bQ 3 _,λW=>O6 W.i_Tables W.g_Tables ln (b3 λ_ _ _=>rfl) λd c=>by
  apply(af (da 31 (by decide +kernel) (by decide) W.G.cls W.G.na_files (uv 0) (uv 1)<|by rfl)
   (af (da 29 (by decide +kernel) (by decide) W.G.cls W.G.na_fair (uv 0) (uv 2)<|by rfl)
   (af (da 35 (by decide +kernel) (by decide) W.G.cls W.G.na_given (uv 0) (ma (cM (aC 66) ai<|cM (aC 45) ai<|cM (aC 3) ai l9) (by rfl) (by rfl) (by simp)<|by decide)<|by rfl)
   (af (da 41 (by decide +kernel) (by decide) W.G.cls W.G.na_leads (uv 0) iq<|by rfl)
   (af (da 54 (by decide +kernel) (by decide) W.G.cls W.G.na_opened (uv 0) iq<|by rfl)
   (af (da 38 (by decide +kernel) (by decide) W.G.cls W.G.na_held (uv 0) (Jx 40 (ix:=[none]) (by decide)<|Jw (by rfl) (by with_unfolding_all exact fM) (cT<|cS<|uv 1) (λ_ _ _ _ _=>(ug 0 fM.nd)) (λ_ _ _ _ _=>cD) (λ_ _ _ _ _=>(uv 0))<|λ_ _ _ _ _=>Ek)<|by rfl)
   (af (da 75 (by decide +kernel) (by decide) W.G.cls W.G.na_whole (uv 0) (Jx 40 (ix:=[none]) (by decide)<|Jw (by rfl) (by with_unfolding_all exact fN) (cT<|cS<|uv 1) (λ_ _ _ _ _=>(ug 0 fN.nd)) (λ_ _ _ _ _=>cD) (λ_ _ _ _ _=>(uv 0))<|λ_ _ _ _ _=>iq)<|by rfl)
   (af (da 73 (by decide +kernel) (by decide) W.G.cls W.G.na_waiting (uv 0) iq<|by rfl)
   (af (da 5 (by decide +kernel) (by decide) W.G.cls W.G.na_asleep (uv 0) iq<|by rfl)
   (af (da 56 (by decide +kernel) (by decide) W.G.cls W.G.na_outcomes (uv 0) iq<|by rfl)
   (ag<|da 19 (by decide +kernel) (by decide) W.G.cls W.G.na_changes (uv 0) (dW ad)<|by rfl)))))))))))⟩
theorem sd:aj ["self","table","key","value"] ["self","table","key","value"] (ae<|aq (aH 100) 1):=cp
def bg:XX λW b=>W.met 0 "put" 1 4 [] b:=⟨bQ 4 _,λW=>mZ W.t_Tables_put sd (b4 λ_ _ _ _=>rfl) λd c=>by
  apply(af (ao<|i5 db<|gn QJ Rf Rk (by with_unfolding_all exact c8) (fb W.G<|uv 0)<|aa (aD<|aa (uv 1)<|aa (uv 2)<|aa (GY c (uv 1) (uv 2)<|by trivial) ad) ad)
   (ag<|oX c (uv 1) (uv 2) (uv 3)<|by rfl))⟩
theorem qK:aj ["self","table","key"] ["self","table","key"] (ae<|aq (aH 100) 2):=cp
def bW:XX λW b=>W.met 0 "drop" 1 3 [] b:=⟨bQ 3 _,λW=>mZ W.t_Tables_drop qK (b3 λ_ _ _=>rfl) λd c=>by
  apply(ag (aX (yB c (uv 2) (uv 1)<|by rfl) (af (ao<|i5 db<|gn QJ Rf Rk (by with_unfolding_all exact c8) (fb W.G<|uv 0)<|aa (aD<|aa (uv 1)<|aa (uv 2)<|aa (aS c (uv 1) (uv 2)<|by trivial) ad) ad)
   (ag<|vf c (uv 1)<|uv 2)) aO))⟩
theorem i6:aj ["self","sort","number"] ["self","sort"] (ae<|aq (aH 100) 4):=cp
def eD:XX λW b=>W.met 0 "fresh" 2 2 [] b:=⟨bQ 3 _,λW=>mZ W.t_Tables_fresh i6 (b2 λ_ _=>rfl) λd c=>by
  apply(af (ua 2 i6.nd<|aS c (qB W.G<|uv 0) (uv 1)<|by trivial)
   (af (ao<|um (bg.2 W) W.G.c0 d (uv 0)<|aa (qB W.G<|uv 0)<|aa (uv 1)<|aa (cE fR fm (uv 2) ai) ad)
   (ag<|au<|uv 2)))⟩
theorem CP:aj ["table","number"] ["table","number"] (ae<|aH 33):=cp
def xB:XX λW b=>W.cal "is_key" 2 2 b:=⟨bQ 2 _,λW=>bH W.d_is_key CP (b2 λ_ _=>rfl) λd c=>by
  apply(ag<|au<|qa (uc (iP.2 W) d<|aa (uv 1) ad)<|iI<|yA c (uv 1) (uv 0)<|by rfl)⟩
theorem sf:aj ["tables","task"] ["tables","task"] (ae<|aH 34):=cp
def gf:XX λW b=>W.cal "check_task" 3 2 b:=⟨bQ 2 _,λW=>bH W.d_check_task sf (b2 λ_ _=>rfl) λc d=>by
  apply(ag<|aX (gv<|cA<|uc (xB.2 W) c<|aa (cf W.G<|uv 0)<|aa (uv 1) ad) (ag ce) aO)⟩
theorem qL:aj ["tables","task"] ["tables","task"] (ae<|aH 35):=cp
def h9:XX λW b=>W.cal "check_awake" 4 2 b:=⟨bQ 2 _,λW=>bH W.d_check_awake qL (b2 λ_ _=>rfl) λd c=>by
  apply(af (ao<|uc (gf.2 W) d<|aa (uv 0)<|aa (uv 1) ad)
   (ag<|aX (yB c (uv 1) (d4 W.G<|uv 0)<|by rfl) (ag ce) aO))⟩
theorem sg:aj ["tables","file"] ["tables","file"] (ae<|aH 36):=cp
def mi:XX λW b=>W.cal "check_file" 1 2 b:=⟨bQ 2 _,λW=>bH W.d_check_file sg (b2 λ_ _=>rfl) λd c=>by
  apply(ag<|aX (a7 sV qd (uv 1) (Fa W.G<|uv 0)<|by rfl) (ag ce) aO)⟩
theorem sh:aj ["mode"] ["mode"] (ae<|aH 37):=cp
def vA:XX λW b=>W.cal "check_mode" 1 1 b:=⟨bQ 1 _,λW=>bH W.d_check_mode sh (b1 λ_=>rfl) λd c=>by
  apply(ag<|aX (vg (by rfl) W.T.g_MODES (uv 0)<|by rfl) (ag ce) aO)⟩
theorem si:aj ["kind"] ["kind"] (ae<|aH 38):=cp
def vB:XX λW b=>W.cal "check_kind" 1 1 b:=⟨bQ 1 _,λW=>bH W.d_check_kind si (b1 λ_=>rfl) λd c=>by
  apply(ag<|aX (vg (by rfl) W.T.g_KINDS (uv 0)<|by rfl) (ag ce) aO)⟩
theorem xC:aj ["by"] ["by"] (ae<|aH 39):=cp
def qM:XX λW b=>W.cal "check_by" 1 1 b:=⟨bQ 1 _,λW=>bH W.d_check_by xC (b1 λ_=>rfl) λd c=>by
  apply(ag<|aX (vg (by rfl) W.T.g_HOLDERS (uv 0)<|by rfl) (ag ce) aO)⟩
theorem nv:aj ["stretch"] ["stretch"] (ae<|aH 41):=cp
def i7:XX λW b=>W.cal "check_stretch" 3 1 b:=⟨bQ 1 _,λW=>bH W.d_check_stretch nv (b1 λ_=>rfl) λc d=>by
  apply(ag<|aX (gv<|cA<|uc (vw.2 W) c<|aa (uv 0) ad) (ag ce) aO)⟩
theorem lq:aj ["tables","task","handle","number","mark"] ["tables","task","handle"] (ae<|aH 42):=cp
def ue:XX λW b=>W.cal "mark_at" 2 3 b:=⟨bQ 5 _,λW=>bH W.d_mark_at lq (b3 λ_ _ _=>rfl) λd c=>by
  apply(af (aX (cA<|uc (iP.2 W) d<|aa (uv 2) ad) (ag<|dY 40 QD (by rfl) (cT<|cS<|aS c (cf W.G<|uv 0) (uv 1)<|by trivial) (bN (n:=2) (by rfl)<|am (ug 3 lq.nd)<|am (ug 4 lq.nd) bf)<|ag<|aX (a7 ig eY (uv 3) (uv 2)<|by trivial) (ag<|au<|uv 4) aO) aO)
   (ag<|au iG))⟩
theorem qN:aj ["tables","task","handle","mark"] ["tables","task","handle"] (ae<|aH 43):=cp
def CQ:XX λW b=>W.cal "mark_of" 4 3 b:=⟨bQ 4 _,λW=>bH W.d_mark_of qN (b3 λ_ _ _=>rfl) λc d=>by
  apply(af (ao<|uc (gf.2 W) c<|aa (uv 0)<|aa (uv 1) ad)
   (af (ua 3 qN.nd<|uc (ue.2 W) c<|aa (uv 0)<|aa (uv 1)<|aa (uv 2) ad)
   (af (aX (eg<|cR<|cF<|uv 3) (ag ce) aO)
   (ag<|au<|uv 3))))⟩
theorem sj:aj ["tables","task","handle"] ["tables","task","handle"] (ae<|aH 44):=cp
def iQ:XX λW b=>W.cal "awake_mark" 5 3 b:=⟨bQ 3 _,λW=>bH W.d_awake_mark sj (b3 λ_ _ _=>rfl) λc d=>by
  apply(af (ao<|uc (h9.2 W) c<|aa (uv 0)<|aa (uv 1) ad)
   (ag<|au<|uc (CQ.2 W) c<|aa (uv 0)<|aa (uv 1)<|aa (uv 2) ad))⟩
theorem vC:aj ["table","number"] ["table","number"] (ae<|aH 46):=cp
def nW:XX λW b=>W.cal "ask_entry" 3 2 b:=⟨bQ 2 _,λW=>bH W.d_ask_entry vC (b2 λ_ _=>rfl) λd c=>by
  apply(af (aX (gv<|cA<|uc (xB.2 W) d<|aa (uv 0)<|aa (uv 1) ad) (ag ce) aO)
   (ag<|au<|aS c (uv 0) (uv 1)<|by trivial))⟩
theorem cP:aj ["row","first","end","kind","by","number"] ["row"] (ae<|aH 48):=cp
def mj:XX λW b=>W.cal "lock_order" 1 1 b:=⟨bQ 6 _,λW=>bH W.d_lock_order cP (b1 λ_=>rfl) λd c=>by
  apply(af (dX<|cY (uv 0)<|bN (n:=5) (by rfl)<|am (ug 1 cP.nd)<|am (ug 2 cP.nd)<|am (ug 3 cP.nd)<|am (ug 4 cP.nd)<|am (ug 5 cP.nd) bf)
   (ag<|au<|aD<|aa (uv 1)<|aa (uP<|pA<|cF<|uv 2)<|aa (fE (eg<|cR<|cF<|uv 2) ai<|uv 2)<|aa (uv 3)<|aa (uv 4)<|aa (uv 5) ad))⟩
theorem eG:aj ["tables","file","rows","holder","shared","alone"] ["tables","file"] (ae<|aH 49):=cp
abbrev lr:Q8:=r8 [("stretch",.local),("holder",.free)]
theorem jz:aR (ae<|aH 49) ["tables","file","rows","holder","shared","alone"] lr ["stretch","holder"] [none,some 3]:=r9
abbrev lu:Q8:=r8 [("stretch",.local),("holder",.free)]
theorem jA:aR (ae<|aH 49) ["tables","file","rows","holder","shared","alone"] lu ["stretch","holder"] [none,some 3]:=r9
def xD:XX λW b=>W.cal "lock_rows" 1 2 b:=⟨bQ 6 _,λW=>bH W.d_lock_rows eG (b2 λ_ _=>rfl) λd c=>by
  apply(af (ua 2 eG.nd<|dW ad)
   (af (An 40 QD (by rfl) (aS c (gS W.G<|uv 0) (uv 1)<|by trivial) (bN (n:=2) (by rfl)<|am (ug 3 eG.nd)<|am (bN (n:=2) (by rfl)<|am (ug 4 eG.nd)<|am (ug 5 eG.nd) bf) bf) (af (ao<|i5 iL<|gn QJ SB Ta (by with_unfolding_all exact jO) (uv 2)<|aa (iw 40 (ix:=[none,some 3]) (by decide)<|gJ (by rfl) (by with_unfolding_all exact jz) (cT<|cS<|uv 4) (λ_ _ _ _ _=>(ug 0 jz.nd)) (λ_ _ _ _ _=>cD)<|λ_ _ _ _ _=>(cE ef eB (cE ef eB (uv 0)<|aD<|aa (aC 63) ad)<|uv 1)) ad)
   (ag<|ao<|i5 iL<|gn QJ SB Ta (by with_unfolding_all exact jO) (uv 2)<|aa (iw 40 (ix:=[none,some 3]) (by decide)<|gJ (by rfl) (by with_unfolding_all exact jA) (cT<|cS<|uv 5) (λ_ _ _ _ _=>(ug 0 jA.nd)) (λ_ _ _ _ _=>cD)<|λ_ _ _ _ _=>(cE ef eB (cE ef eB (uv 0)<|aD<|aa (aC 2) ad)<|uv 1)) ad)))
   (ag<|au<|uv 2)))⟩
theorem sm:aj ["tables","file"] ["tables","file"] (ae<|aH 50):=cp
def vD:XX λW b=>W.cal "told_locks" 4 2 b:=⟨bQ 2 _,λW=>bH W.d_told_locks sm (b2 λ_ _=>rfl) λc d=>by
  apply(ag<|au<|bM bK cq (by rfl) W.M.tuple bE<|aa (tO (mj.2 W) (by rfl) (c.mono<|by decide) W.M.sorted<|uc (xD.2 W) c<|aa (uv 0)<|aa (uv 1) ad) ad)⟩
theorem vE:aj ["tables"] ["tables"] (ae<|aH 52):=cp
abbrev lw:Q8:=r8 [("number",.local),("tables",.free)]
theorem jB:aR (ae<|aH 52) ["tables"] lw ["number","tables"] [none,some 0]:=r9
def xE:XX λW b=>W.cal "told_asks" 1 1 b:=⟨bQ 1 _,λW=>bH W.d_told_asks vE (b1 λ_=>rfl) λd c=>by
  apply(ag<|au<|bM bK cq (by rfl) W.M.tuple bE<|aa (iw 40 (ix:=[none,some 0]) (by decide)<|gJ (by rfl) (by with_unfolding_all exact jB) (iM<|f8<|bo (fI<|by rfl) gz (by rfl) W.M.sorted cy<|aa (bh W.G<|uv 0) ad) (λ_ _ _ _ _=>(ug 0 jB.nd)) (λ_ _ _ _ _=>cD)<|λ_ _ _ _ _=>(aS c (bh W.G<|uv 1) (uv 0)<|by trivial)) ad)⟩
theorem uf:aj ["tables","task","mark","kind","stretch","by","holder"] ["tables","task","mark","kind","stretch","by"] (ae<|aH 53):=cp
def FP:XX λW b=>W.cal "ask_of" 1 6 b:=⟨bQ 7 _,λW=>bH W.d_ask_of uf (b6 λ_ _ _ _ _ _=>rfl) λd c=>by
  apply(af (ua 6 uf.nd<|fE (a7 ig eY (uv 5) (aC 66)<|by trivial) (uv 1)<|uv 2)
   (ag<|au<|aD<|aa (aS c (qB W.G<|uv 0) (aC 3)<|by trivial)<|aa (uv 1)<|aa (a6 (aS c (cu W.G<|uv 0) (uv 2)<|by trivial) ai<|by trivial)<|aa (uv 3)<|aa (uv 4)<|aa (uv 5)<|aa (uv 6) ad))⟩
theorem FQ:aj ["kind","other"] ["kind","other"] (ae<|aH 54):=cp
def AU:XX λW b=>W.cal "clash" 1 2 b:=⟨bQ 2 _,λW=>bH W.d_clash FQ (b2 λ_ _=>rfl) λd c=>by
  apply(ag<|au<|iH yi qd (aC 2) (aD<|aa (uv 0)<|aa (uv 1) ad)<|by rfl)⟩
theorem aF:aj ["tables","ask","number","task","file","kind","stretch","by","holder","rows","other","shared","alone","other_kind","lot"] ["tables","ask"] (ae<|aH 55):=cp
abbrev gg:Q8:=r8 [("part",.local),("meets",.globalImplicit),("other",.free),("other_kind",.free),("stretch",.free)]
theorem d6:aR (ae<|aH 55) ["tables","ask","number","task","file","kind","stretch","by","holder","rows","other","shared","alone","other_kind","lot"] gg ["part","other_kind","other","stretch"] [none,some 13,some 10,some 6]:=r9
def jC:XX λW b=>W.cal "blocking_stretches" 4 2 b:=⟨bQ 15 _,λW=>bH W.d_blocking_stretches aF (b2 λ_ _=>rfl) λc d=>by
  apply(af (dX<|cY (uv 1)<|bN (n:=7) (by rfl)<|am (ug 2 aF.nd)<|am (ug 3 aF.nd)<|am (ug 4 aF.nd)<|am (ug 5 aF.nd)<|am (ug 6 aF.nd)<|am (ug 7 aF.nd)<|am (ug 8 aF.nd) bf)
   (af (ua 9 aF.nd<|dW ad)
   (af (An 40 QD (by rfl) (aS d (gS W.G<|uv 0) (uv 4)<|by trivial) (bN (n:=2) (by rfl)<|am (ug 10 aF.nd)<|am (bN (n:=2) (by rfl)<|am (ug 11 aF.nd)<|am (ug 12 aF.nd) bf) bf)<|ag<|aX (a7 (kR<|rH c) fq (uv 10) (aD<|aa (uv 7)<|aa (uv 8) ad)<|by trivial) (ag<|dY 40 QD (by rfl) (cT<|cS<|aD<|aa (aD<|aa (aC 63)<|aa (uv 11) ad)<|aa (aD<|aa (aC 2)<|aa (uv 12) ad) ad) (bN (n:=2) (by rfl)<|am (ug 13 aF.nd)<|am (ug 14 aF.nd) bf)<|ag<|aX (cA<|uc (AU.2 W) c<|aa (uv 5)<|aa (uv 13) ad) (ag<|ao<|i5 iL<|gn QJ SB Ta (by with_unfolding_all exact jO) (uv 9)<|aa (iw 40 (ix:=[none,some 13,some 10,some 6]) (by decide)<|gJ (by rfl) (by with_unfolding_all exact d6) (cT<|cS<|uv 14) (λ_ _ _ _ _=>(ug 0 d6.nd)) (λ_ _ _ _ _=>(fG<|cA<|uc (vz.2 W) c<|aa (uv 0)<|aa (uv 3) ad))<|λ_ _ _ _ _=>(cE ef eB (cE ef eB (uv 0)<|aD<|aa (uv 1) ad)<|uv 2)) ad) aO) aO)
   (ag<|au<|tO (mj.2 W) (by rfl) (c.mono<|by decide) W.M.sorted<|uv 9))))⟩
theorem ml:aj ["tables","ask"] ["tables","ask"] (ae<|aH 57):=cp
def dj:XX λW b=>W.cal "blocking_locks" 5 2 b:=⟨bQ 2 _,λW=>bH W.d_blocking_locks ml (b2 λ_ _=>rfl) λc d=>by
  apply(af (aX (eg<|cR<|cF<|a6 (uv 1) ai<|by trivial) (ag ce) aO)
   (ag<|au<|uc (jC.2 W) c<|aa (uv 0)<|aa (uv 1) ad))⟩
theorem j6:aj ["one","other"] ["one","other"] (ae<|aH 58):=cp
def lx:XX λW b=>W.cal "asks_are_against" 3 2 b:=⟨bQ 2 _,λW=>bH W.d_asks_are_against j6 (b2 λ_ _=>rfl) λc d=>by
  apply(af (aX (PW.pt<|gu (a7 jk gw (a6 (uv 0) ai<|by trivial) (a6 (uv 1) ai<|by trivial)<|by trivial)<|gu (a7 (yh<|rH c) fq (Ez 5<|v7 zS (uv 0) (zF cW) zE) (Ez 5<|v7 zS (uv 1) (zF cW) zE)<|by trivial)<|eV<|gv<|cA<|uc (AU.2 W) c<|aa (a6 (uv 0) ai<|by trivial)<|aa (a6 (uv 1) ai<|by trivial) ad) (ag<|au cK) aO)
   (af (aX (PW.pt<|gu (eg<|cR<|cF<|a6 (uv 0) ai<|by trivial)<|eV<|eg<|cR<|cF<|a6 (uv 1) ai<|by trivial) (ag<|au<|iH ig eY (a6 (uv 0) ai<|by trivial) (a6 (uv 1) ai<|by trivial)<|by trivial) aO)
   (ag<|au<|uc (vz.2 W) c<|aa (a6 (uv 0) ai<|by trivial)<|aa (a6 (uv 1) ai<|by trivial) ad)))⟩
theorem iA:aj ["tables","ask","elder"] ["tables","ask"] (ae<|aH 59):=cp
abbrev iR:Q8:=r8 [("number",.local),("other",.local),("ask",.free)]
theorem dZ:aR (ae<|aH 59) ["tables","ask","elder"] iR ["number","other","ask"] [none,none,some 1]:=r9
abbrev iS:Q8:=r8 [("other",.local),("asks_are_against",.globalImplicit),("ask",.free)]
theorem gA:aR (ae<|aH 59) ["tables","ask","elder"] iS ["other","ask"] [none,some 1]:=r9
def dO:XX λW b=>W.cal "blocking_asks" 4 2 b:=⟨bQ 3 _,λW=>bH W.d_blocking_asks iA (b2 λ_ _=>rfl) λc d=>by
  apply(af (aX (gv<|fT<|dN<|Hx W.G<|uv 0) (ag<|au<|dW ad) aO)
   (af (B8 40 2 (ix:=[none,none,some 1]) (by decide)<|pQ (by rfl) iA.nd (by rfl) (by rfl) (by with_unfolding_all exact dZ) (wK<|bh W.G<|uv 0) (λ_ _ _ _ _=>(bN (n:=2) (by rfl)<|am (ug 0 dZ.nd)<|am (ug 1 dZ.nd) bf)) (λ_ _ _ _ _=>(fG<|a7 pG mO (uv 0) (a6 (uv 2) ai<|by trivial)<|by trivial))<|λ_ _ _ _ _=>(uv 1))
   (ag<|au<|bo (fI<|by rfl) gz (by rfl) W.M.sorted cy<|aa (iw 40 (ix:=[none,some 1]) (by decide)<|gJ (by rfl) (by with_unfolding_all exact gA) (iM<|f8<|uv 2) (λ_ _ _ _ _=>(ug 0 gA.nd)) (λ_ _ _ _ _=>(fG<|cA<|uc (lx.2 W) c<|aa (uv 0)<|aa (uv 1) ad))<|λ_ _ _ _ _=>(a6 (uv 0) ai<|by trivial)) ad)))⟩
theorem su:aj ["tables","ask"] ["tables","ask"] (ae<|aH 60):=cp
def vF:XX λW b=>W.cal "is_blocked" 6 2 b:=⟨bQ 2 _,λW=>bH W.d_is_blocked su (b2 λ_ _=>rfl) λc d=>by
  apply(ag<|au<|bM yM Ey (by rfl) W.M.bool pV<|aa (K5 (uc (dj.2 W) c<|aa (uv 0)<|aa (uv 1) ad)<|iI<|uc (dO.2 W) c<|aa (uv 0)<|aa (uv 1) ad) ad)⟩
theorem fg:aj ["tables","ask","rows","elder"] ["tables","ask"] (ae<|aH 61):=cp
def oB:XX λW b=>W.cal "first_blocker" 6 2 b:=⟨bQ 4 _,λW=>bH W.d_first_blocker fg (b2 λ_ _=>rfl) λc d=>by
  apply(af (ua 2 fg.nd<|uc (dj.2 W) c<|aa (uv 0)<|aa (uv 1) ad)
   (af (aX (fT<|dN<|uv 2) (ag<|au<|a6 (uv 2) ai<|by trivial) aO)
   (af (ua 3 fg.nd<|uc (dO.2 W) c<|aa (uv 0)<|aa (uv 1) ad)
   (ag<|au<|fE (fT<|dN<|uv 3) (aS d (bh W.G<|uv 0) (a6 (uv 3) ai<|by trivial)<|by trivial) iG))))⟩
theorem vG:aj ["tables","file","holder","shared","alone"] ["tables","file","holder","shared","alone"] (ae<|aH 62):=cp
def nX:XX λW b=>W.cal "keep_lots" 2 5 b:=⟨bQ 5 _,λW=>bH W.d_keep_lots vG (b5 λ_ _ _ _ _=>rfl) λd c=>by
  apply(ag<|aX (PW.pt<|gu (fT<|dN<|uv 3)<|eV<|fT<|dN<|uv 4) (ag<|ao<|um (bg.2 W) W.G.c0 d (uv 0)<|aa (aS c (gS W.G<|uv 0) (uv 1)<|by trivial)<|aa (uv 2)<|aa (aD<|aa (uv 3)<|aa (uv 4) ad) ad)<|ag<|ao<|um (bW.2 W) W.G.c0 d (uv 0)<|aa (aS c (gS W.G<|uv 0) (uv 1)<|by trivial)<|aa (uv 2) ad)⟩
theorem ib:aj ["tables","file","holder","stretch","shared","alone"] ["tables","file","holder","stretch"] (ae<|aH 63):=cp
def mm:XX λW b=>W.cal "free_cells" 5 4 b:=⟨bQ 6 _,λW=>bH W.d_free_cells ib (b4 λ_ _ _ _=>rfl) λc d=>by
  apply(af (dX<|cY (z8 d (aS d (gS W.G<|uv 0) (uv 1)<|by trivial) (uv 2) (aD<|aa (aD ad)<|aa (aD ad) ad)<|by trivial)<|bN (n:=2) (by rfl)<|am (ug 4 ib.nd)<|am (ug 5 ib.nd) bf)
   (ag<|ao<|uc (nX.2 W) c<|aa (uv 0)<|aa (uv 1)<|aa (uv 2)<|aa (uc (xt<|ud.2 W) c<|aa (uv 4)<|aa (aD<|aa (uv 3) ad) ad)<|aa (uc (xt<|ud.2 W) c<|aa (uv 5)<|aa (aD<|aa (uv 3) ad) ad) ad))⟩
theorem dP:aj ["tables","ask","number","task","file","kind","stretch","by","holder","shared","alone"] ["tables","ask"] (ae<|aH 64):=cp
def FR:XX λW b=>W.cal "take" 6 2 b:=⟨bQ 11 _,λW=>bH W.d_take dP (b2 λ_ _=>rfl) λc d=>by
  apply(af (dX<|cY (uv 1)<|bN (n:=7) (by rfl)<|am (ug 2 dP.nd)<|am (ug 3 dP.nd)<|am (ug 4 dP.nd)<|am (ug 5 dP.nd)<|am (ug 6 dP.nd)<|am (ug 7 dP.nd)<|am (ug 8 dP.nd) bf)
   (af (aX (eg<|cR<|cF<|uv 6) (af ce
   (ag ce)) aO)
   (af (ao<|uc (mm.2 W) c<|aa (uv 0)<|aa (uv 4)<|aa (aD<|aa (uv 7)<|aa (uv 8) ad)<|aa (uv 6) ad)
   (af (dX<|cY (z8 d (aS d (gS W.G<|uv 0) (uv 4)<|by trivial) (aD<|aa (uv 7)<|aa (uv 8) ad) (aD<|aa (aD ad)<|aa (aD ad) ad)<|by trivial)<|bN (n:=2) (by rfl)<|am (ug 9 dP.nd)<|am (ug 10 dP.nd) bf)
   (af (aX (a7 ig eY (uv 5) (aC 63)<|by trivial) (ag<|ua 9 dP.nd<|uc (xA.2 W) c<|aa (uv 9)<|aa (aD<|aa (uv 6) ad) ad)<|ag<|ua 10 dP.nd<|uc (xA.2 W) c<|aa (uv 10)<|aa (aD<|aa (uv 6) ad) ad)
   (ag<|ao<|uc (nX.2 W) c<|aa (uv 0)<|aa (uv 4)<|aa (aD<|aa (uv 7)<|aa (uv 8) ad)<|aa (uv 9)<|aa (uv 10) ad))))))⟩
theorem AW:aj ["tables","number","outcome","task"] ["tables","number","outcome"] (ae<|aH 67):=cp
def zk:XX λW b=>W.cal "wake" 2 3 b:=⟨bQ 4 _,λW=>bH W.d_wake AW (b3 λ_ _ _=>rfl) λc d=>by
  apply(af (ua 3 AW.nd<|a6 (aS d (bh W.G<|uv 0) (uv 1)<|by trivial) ai<|by trivial)
   (af (ao<|um (bW.2 W) W.G.c0 c (uv 0)<|aa (bh W.G<|uv 0)<|aa (uv 1) ad)
   (af (ao<|um (bW.2 W) W.G.c0 c (uv 0)<|aa (d4 W.G<|uv 0)<|aa (uv 3) ad)
   (ag<|ao<|um (bg.2 W) W.G.c0 c (uv 0)<|aa (jy W.G<|uv 0)<|aa (uv 1)<|aa (uv 2) ad))))⟩
theorem cw:aj ["tables","row","first","end","kind","by","number"] ["tables","row"] (ae<|aH 68):=cp
def qO:XX λW b=>W.cal "tasks_behind" 1 2 b:=⟨bQ 7 _,λW=>bH W.d_tasks_behind cw (b2 λ_ _=>rfl) λd c=>by
  apply(af (aX (a7 ig eY (bo dh f9 (by rfl) W.M.len Se<|aa (uv 1) ad) ai<|by trivial) (ag<|au<|a6 (aS c (cu W.G<|uv 0) (a6 (uv 1) ai<|by trivial)<|by trivial) ai<|by trivial) aO)
   (af (dX<|cY (uv 1)<|bN (n:=5) (by rfl)<|am (ug 2 cw.nd)<|am (ug 3 cw.nd)<|am (ug 4 cw.nd)<|am (ug 5 cw.nd)<|am (ug 6 cw.nd) bf)
   (ag<|au<|fE (a7 ig eY (uv 5) (aC 66)<|by trivial) (aD<|aa (uv 6) ad)<|a6 (aS c (cu W.G<|uv 0) (uv 6)<|by trivial) ai<|by trivial)))⟩
theorem nY:aj ["tables","ask","needs"] ["tables","ask"] (ae<|aH 69):=cp
abbrev mn:Q8:=r8 [("row",.local),("tasks_behind",.globalImplicit),("tables",.free)]
theorem kq:aR (ae<|aH 69) ["tables","ask","needs"] mn ["row","tables"] [none,some 0]:=r9
abbrev mq:Q8:=r8 [("number",.local),("tables",.free)]
theorem kr:aR (ae<|aH 69) ["tables","ask","needs"] mq ["number","tables"] [none,some 0]:=r9
def zl:XX λW b=>W.cal "needs_of" 6 2 b:=⟨bQ 3 _,λW=>bH W.d_needs_of nY (b2 λ_ _=>rfl) λc d=>by
  apply(af (Et 40 2 (ix:=[none,some 0]) (by decide)<|pQ (by rfl) nY.nd (by rfl) (by rfl) (by with_unfolding_all exact kq) (iM<|f8<|uc (dj.2 W) c<|aa (uv 0)<|aa (uv 1) ad) (λ_ _ _ _ _=>(ug 0 kq.nd)) (λ_ _ _ _ _=>cD)<|λ_ _ _ _ _=>(uc (qO.2 W) c<|aa (uv 1)<|aa (uv 0) ad))
   (af (ao<|i5 iL<|gn QJ SB Ta (by with_unfolding_all exact jO) (uv 2)<|aa (iw 40 (ix:=[none,some 0]) (by decide)<|gJ (by rfl) (by with_unfolding_all exact kr) (iM<|f8<|uc (dO.2 W) c<|aa (uv 0)<|aa (uv 1) ad) (λ_ _ _ _ _=>(ug 0 kr.nd)) (λ_ _ _ _ _=>cD)<|λ_ _ _ _ _=>(aD<|aa (a6 (aS d (bh W.G<|uv 1) (uv 0)<|by trivial) ai<|by trivial) ad)) ad)
   (ag<|au<|uv 2)))⟩
theorem CS:aj ["needs","free"] ["needs","free"] (ae<|aH 70):=cp
abbrev i8:Q8:=r8 [("tasks",.local),("any",.globalImplicit),("free",.free)]
theorem nZ:aR (ae<|aH 70) ["needs","free"] i8 ["tasks","free"] [none,some 1]:=r9
abbrev oC:Q8:=r8 [("task",.local),("free",.free)]
theorem n9:aR i8 ["tasks","free"] oC ["task","free"] [none,some 1]:=r9
def FS:XX λW b=>W.cal "can_go" 1 2 b:=⟨bQ 2 _,λW=>bH W.d_can_go CS (b2 λ_ _=>rfl) λd c=>by
  apply(ag<|au<|bo (BQ<|by rfl) Ha (by rfl) W.M.all BN<|aa (iw 40 (ix:=[none,some 1]) (by decide)<|gJ (by rfl) (by with_unfolding_all exact nZ) (iM<|f8<|uv 0) (λ_ _ _ _ _=>(ug 0 nZ.nd)) (λ_ _ _ _ _=>cD)<|λ_ _ _ _ _=>(bo (BO<|by rfl) G9 (by rfl) W.M.any BM<|aa (iw 40 (ix:=[none,some 1]) (by decide)<|gJ (by rfl) (by with_unfolding_all exact aR.re n9) (cT<|cS<|uv 0) (λ_ _ _ _ _=>(ug 0 n9.nd)) (λ_ _ _ _ _=>cD)<|λ_ _ _ _ _=>(yA c (uv 0) (uv 1)<|by rfl)) ad)) ad)⟩
theorem cB:aj ["tables","free","left","found","number"] ["tables"] (ae<|aH 71):=cp
abbrev j7:Q8:=r8 [("task",.local),("tables",.free)]
theorem i9:aR (ae<|aH 71) ["tables","free","left","found","number"] j7 ["task","tables"] [none,some 0]:=r9
abbrev j8:Q8:=r8 [("number",.local),("needs_of",.globalImplicit),("tables",.free)]
theorem ja:aR (ae<|aH 71) ["tables","free","left","found","number"] j8 ["number","tables"] [none,some 0]:=r9
def iT:XX λW b=>W.cal "stuck_asks" 7 1 b:=⟨bQ 5 _,λW=>bH W.d_stuck_asks cB (b1 λ_=>rfl) λd c=>by
  apply(af (Ca 40 1 (ix:=[none,some 0]) (by decide)<|wQ (by rfl) cB.nd (by rfl) (by rfl) (by with_unfolding_all exact i9) (uZ<|cf W.G<|uv 0) (λ_ _ _ _ _=>(ug 0 i9.nd)) (λ_ _ _ _ _=>(fG<|sZ c (uv 0) (d4 W.G<|uv 1)<|by rfl)) (λ_ _ _ _ _=>(uv 0))<|λ_ _ _ _ _=>cK)
   (af (EH 40 2 (ix:=[none,some 0]) (by decide)<|wQ (by rfl) cB.nd (by rfl) (by rfl) (by with_unfolding_all exact ja) (iM<|f8<|bo (fI<|by rfl) gz (by rfl) W.M.sorted cy<|aa (bh W.G<|uv 0) ad) (λ_ _ _ _ _=>(ug 0 ja.nd)) (λ_ _ _ _ _=>cD) (λ_ _ _ _ _=>(uv 0))<|λ_ _ _ _ _=>(uc (zl.2 W) d<|aa (uv 1)<|aa (aS c (bh W.G<|uv 1) (uv 0)<|by trivial) ad))
   (af (ua 3 cB.nd cK)
   (af (iu 40 QD (fT<|dN<|uv 3) (af (ua 3 cB.nd cK)
   (ag (dY 40 QD (by rfl) (iM<|f8<|bM (qw<|by rfl) tM (by rfl) W.M.list pU<|aa (uv 2) ad) (ug 4 cB.nd) (ag (aX (cA<|uc (FS.2 W) d<|aa (aS c (uv 2) (uv 4)<|by trivial)<|aa (uv 1) ad) (af (oX c (uv 1) (a6 (aS c (bh W.G<|uv 0) (uv 4)<|by trivial) ai<|by trivial) cK<|by rfl)
   (af (vf c (uv 2)<|uv 4)
   (ag<|ua 3 cB.nd cK))) aO))))))
   (ag<|au<|bM (qw<|by rfl) tM (by rfl) W.M.list pU<|aa (uv 2) ad)))))⟩
theorem jD:aj ["tables","ask","number"] ["tables","ask"] (ae<|aH 66):=cp
def sv:XX λ{P w K mg base gy} W b=>gI P w K mg base gy (dB P w) "fall_asleep" 8 2 b:=⟨bQ 3 _,λW=>AN W.d_fall_asleep jD (b2 λ_ _=>rfl) λd f=>by
  apply(af (PS.nox<|ua 2 jD.nd<|um (eD.2 W) W.G.c0 d (uv 0)<|aa (aC 3) ad)
   (af (PS.nox<|ao<|um (bg.2 W) W.G.c0 d (uv 0)<|aa (bh W.G<|uv 0)<|aa (uv 2)<|aa (uv 1) ad)
   (af (PS.nox<|ao<|um (bg.2 W) W.G.c0 d (uv 0)<|aa (d4 W.G<|uv 0)<|aa (a6 (uv 1) ai<|by trivial)<|aa (uv 2) ad)
   (af (PS.nox<|ao<|um (bg.2 W) W.G.c0 d (uv 0)<|aa (jy W.G<|uv 0)<|aa (uv 2)<|aa (aC 74) ad)
   (af (aX (a7 yi qd (uv 2) (uc (iT.2 W) d<|aa (uv 0) ad)<|by rfl) (ag<|Fl (c:=0) (by rfl) O9 W.e_Stuck W.e_new) aO)
   (ag<|PS.nox<|au<|uv 2))))))⟩
theorem fh:aj ["tables","stuck"] ["tables"] (ae<|aH 72):=cp
def oE:XX λW b=>W.cal "give_up_stuck" 8 1 b:=⟨bQ 2 _,λW=>bH W.d_give_up_stuck fh (b1 λ_=>rfl) λc d=>by
  apply(af (ua 1 fh.nd<|uc (iT.2 W) c<|aa (uv 0) ad)
   (ag (iu 40 QD (fT<|dN<|uv 1) (af (ao<|uc (zk.2 W) c<|aa (uv 0)<|aa (a6 (uv 1) (mW ai)<|by trivial)<|aa (aC 64) ad)
   (ag<|ua 1 fh.nd<|uc (iT.2 W) c<|aa (uv 0) ad)))))⟩
theorem gB:aj ["tables","number"] ["tables"] (ae<|aH 73):=cp
def gU:XX λW b=>W.cal "first_unblocked" 7 1 b:=⟨bQ 2 _,λW=>bH W.d_first_unblocked gB (b1 λ_=>rfl) λd c=>by
  apply(af (dY 40 QD (by rfl) (iM<|f8<|bo (fI<|by rfl) gz (by rfl) W.M.sorted cy<|aa (bh W.G<|uv 0) ad) (ug 1 gB.nd)<|ag<|aX (gv<|cA<|uc (vF.2 W) d<|aa (uv 0)<|aa (aS c (bh W.G<|uv 0) (uv 1)<|by trivial) ad) (ag<|au<|uv 1) aO)
   (ag<|au iG))⟩
theorem qP:aj ["tables","number"] ["tables"] (ae<|aH 74):=cp
def Ih:XX λW b=>W.cal "grant" 8 1 b:=⟨bQ 2 _,λW=>bH W.d_grant qP (b1 λ_=>rfl) λc d=>by
  apply(af (ua 1 qP.nd<|uc (gU.2 W) c<|aa (uv 0) ad)
   (ag (iu 40 QD (GW<|cR<|Ga<|uv 1) (af (ao<|uc (FR.2 W) c<|aa (uv 0)<|aa (aS d (bh W.G<|uv 0) (uv 1)<|by trivial) ad)
   (af (ao<|uc (zk.2 W) c<|aa (uv 0)<|aa (uv 1)<|aa (aC 36) ad)
   (ag<|ua 1 qP.nd<|uc (gU.2 W) c<|aa (uv 0) ad))))))⟩
theorem CT:aj ["tables"] ["tables"] (ae<|aH 75):=cp
def FT:XX λW b=>W.cal "settle" 9 1 b:=⟨bQ 1 _,λW=>bH W.d_settle CT (b1 λ_=>rfl) λc d=>by
  apply(ag (aX (fT<|dN<|bh W.G<|uv 0) (af (ao<|uc (oE.2 W) c<|aa (uv 0) ad)
   (ag<|ao<|uc (Ih.2 W) c<|aa (uv 0) ad)) aO))⟩
theorem dI:aj ["tables","task","number","handle","mark"] ["tables","task"] (ae<|aH 78):=cp
def vH:XX λW b=>W.cal "new_handle" 1 2 b:=⟨bQ 5 _,λW=>bH W.d_new_handle dI (b2 λ_ _=>rfl) λd c=>by
  apply(af (ua 2 dI.nd ai)
   (af (dY 40 QD (by rfl) (cT<|cS<|aS c (cf W.G<|uv 0) (uv 1)<|by trivial) (bN (n:=2) (by rfl)<|am (ug 3 dI.nd)<|am (ug 4 dI.nd) bf)<|ag<|aX (a7 ig eY (uv 3) (uv 2)<|by trivial) (ag<|yH mQ<|xQ (i:=2) dI.nd (by rfl) (by trivial) ai xR) aO)
   (ag<|au<|uv 2)))⟩
theorem gW:aj ["tables","mark","task","file","mode","users"] ["tables","mark","task"] (ae<|aH 79):=cp
def qQ:XX λW b=>W.cal "add_user" 2 3 b:=⟨bQ 6 _,λW=>bH W.d_add_user gW (b3 λ_ _ _=>rfl) λd c=>by
  apply(af (dX<|cY (aS c (cu W.G<|uv 0) (uv 1)<|by trivial)<|bN (n:=3) (by rfl)<|am (ug 3 gW.nd)<|am (ug 4 gW.nd)<|am (ug 5 gW.nd) bf)
   (ag<|ao<|um (bg.2 W) W.G.c0 d (uv 0)<|aa (cu W.G<|uv 0)<|aa (uv 1)<|aa (aD<|aa (uv 3)<|aa (uv 4)<|aa (bM bK cq (by rfl) W.M.tuple bE<|aa (y8<|ii (yZ<|by rfl) (by rfl) W.M.sorted cy<|cg (sO (Ck<|by rfl) (by rfl) W.M.set Bs<|cg (cE ef eB (uv 5)<|aD<|aa (uv 2) ad) d9) d9) ad) ad) ad))⟩
theorem AX:aj ["tables","task","handle","mark","pairs"] ["tables","task","handle","mark"] (ae<|aH 80):=cp
def LF:XX λW b=>W.cal "lead" 3 4 b:=⟨bQ 5 _,λW=>bH W.d_lead AX (b4 λ_ _ _ _=>rfl) λc d=>by
  apply(af (ua 4 AX.nd<|cE ef eB (aS d (cf W.G<|uv 0) (uv 1)<|by trivial)<|aD<|aa (aD<|aa (uv 2)<|aa (uv 3) ad) ad)
   (af (ao<|um (bg.2 W) W.G.c0 c (uv 0)<|aa (cf W.G<|uv 0)<|aa (uv 1)<|aa (bM bK cq (by rfl) W.M.tuple bE<|aa (bo (fI<|by rfl) gz (by rfl) W.M.sorted cy<|aa (uv 4) ad) ad) ad)
   (ag<|ao<|uc (qQ.2 W) c<|aa (uv 0)<|aa (uv 3)<|aa (uv 1) ad)))⟩
theorem eJ:aj ["tables","mark","task","file","mode","users","left"] ["tables","mark","task"] (ae<|aH 81):=cp
abbrev ly:Q8:=r8 [("user",.local),("task",.free)]
theorem jE:aR (ae<|aH 81) ["tables","mark","task","file","mode","users","left"] ly ["user","task"] [none,some 2]:=r9
def xF:XX λW b=>W.cal "lose_user" 2 3 b:=⟨bQ 7 _,λW=>bH W.d_lose_user eJ (b3 λ_ _ _=>rfl) λc d=>by
  apply(af (dX<|cY (aS d (cu W.G<|uv 0) (uv 1)<|by trivial)<|bN (n:=3) (by rfl)<|am (ug 3 eJ.nd)<|am (ug 4 eJ.nd)<|am (ug 5 eJ.nd) bf)
   (af (ua 6 eJ.nd<|bM bK cq (by rfl) W.M.tuple bE<|aa (iw 40 (ix:=[none,some 2]) (by decide)<|gJ (by rfl) (by with_unfolding_all exact jE) (cT<|cS<|uv 5) (λ_ _ _ _ _=>(ug 0 jE.nd)) (λ_ _ _ _ _=>(fG<|a7 jk gw (uv 0) (uv 1)<|by trivial))<|λ_ _ _ _ _=>(uv 0)) ad)
   (af (aX (fT<|dN<|uv 6) (af (ao<|um (bg.2 W) W.G.c0 c (uv 0)<|aa (cu W.G<|uv 0)<|aa (uv 1)<|aa (aD<|aa (uv 3)<|aa (uv 4)<|aa (uv 6) ad) ad)
   (ag GQ)) aO)
   (af (ao<|um (bW.2 W) W.G.c0 c (uv 0)<|aa (cu W.G<|uv 0)<|aa (uv 1) ad)
   (af (ao<|um (bW.2 W) W.G.c0 c (uv 0)<|aa (aS d (gS W.G<|uv 0) (uv 3)<|by trivial)<|aa (aD<|aa (aC 45)<|aa (uv 1) ad) ad)
   (ag<|ao<|um (bW.2 W) W.G.c0 c (uv 0)<|aa (aS d (Fb W.G<|uv 0) (uv 3)<|by trivial)<|aa (uv 1) ad))))))⟩
theorem pj:aj ["tables","task","handle","mark","file","left"] ["tables","task","handle"] (ae<|aH 82):=cp
abbrev sw:Q8:=r8 [("pair",.local),("handle",.free)]
theorem uh:aR (ae<|aH 82) ["tables","task","handle","mark","file","left"] sw ["pair","handle"] [none,some 2]:=r9
abbrev sy:Q8:=r8 [("pair",.local)]
theorem ui:aR (ae<|aH 82) ["tables","task","handle","mark","file","left"] sy ["pair"] [none]:=r9
def FU:XX λW b=>W.cal "shut" 3 3 b:=⟨bQ 6 _,λW=>bH W.d_shut pj (b3 λ_ _ _=>rfl) λc d=>by
  apply(af (ua 3 pj.nd<|uc (ue.2 W) c<|aa (uv 0)<|aa (uv 1)<|aa (uv 2) ad)
   (af (ua 4 pj.nd<|a6 (aS d (cu W.G<|uv 0) (uv 3)<|by trivial) ai<|by trivial)
   (af (ua 5 pj.nd<|bM bK cq (by rfl) W.M.tuple bE<|aa (iw 40 (ix:=[none,some 2]) (by decide)<|gJ (by rfl) (by with_unfolding_all exact uh) (cT<|cS<|aS d (cf W.G<|uv 0) (uv 1)<|by trivial) (λ_ _ _ _ _=>(ug 0 uh.nd)) (λ_ _ _ _ _=>(fG<|a7 jk gw (a6 (uv 0) ai<|by trivial) (uv 1)<|by trivial))<|λ_ _ _ _ _=>(uv 0)) ad)
   (af (ao<|um (bg.2 W) W.G.c0 c (uv 0)<|aa (cf W.G<|uv 0)<|aa (uv 1)<|aa (uv 5) ad)
   (af (ao<|um (bW.2 W) W.G.c0 c (uv 0)<|aa (aS d (gS W.G<|uv 0) (uv 4)<|by trivial)<|aa (aD<|aa (aC 66)<|aa (uv 1) ad) ad)
   (ag<|aX (a7 sV qd (uv 3) (iw 40 (ix:=[none]) (by decide)<|gJ (by rfl) (by with_unfolding_all exact ui) (cT<|cS<|uv 5) (λ_ _ _ _ _=>(ug 0 ui.nd)) (λ_ _ _ _ _=>cD)<|λ_ _ _ _ _=>(a6 (uv 0) ai<|by trivial))<|by rfl) (ag<|ao<|uc (xF.2 W) c<|aa (uv 0)<|aa (uv 3)<|aa (uv 1) ad) aO))))))⟩
theorem gY:aj ["tables","task","pairs","handle","mark"] ["tables","task"] (ae<|aH 83):=cp
def zm:XX λW b=>W.cal "end_task" 4 2 b:=⟨bQ 5 _,λW=>bH W.d_end_task gY (b2 λ_ _=>rfl) λd c=>by
  apply(af (aX (yB c (uv 1) (d4 W.G<|uv 0)<|by rfl) (ag<|ao<|uc (zk.2 W) d<|aa (uv 0)<|aa (aS c (d4 W.G<|uv 0) (uv 1)<|by trivial)<|aa (aC 27) ad) aO)
   (af (ua 2 gY.nd<|aS c (cf W.G<|uv 0) (uv 1)<|by trivial)
   (af (dY 40 QD (by rfl) (cT<|cS<|uv 2) (bN (n:=2) (by rfl)<|am (ug 3 gY.nd)<|am (ug 4 gY.nd) bf)<|ag<|ao<|uc (FU.2 W) d<|aa (uv 0)<|aa (uv 1)<|aa (uv 3) ad)
   (ag<|ao<|um (bW.2 W) W.G.c0 d (uv 0)<|aa (cf W.G<|uv 0)<|aa (uv 1) ad))))⟩
theorem jb:aj ["tables","ask","wait","blocker"] ["tables","ask","wait"] (ae<|aH 84):=cp
def qR:XX λ{P w K mg base gy} W b=>gI P w K mg base gy (dB P w) "take_or_wait" 9 3 b:=⟨bQ 4 _,λW=>AN W.d_take_or_wait jb (b3 λ_ _ _=>rfl) λc d=>by
  apply(af (PS.nox<|ua 3 jb.nd<|uc (oB.2 W) c<|aa (uv 0)<|aa (uv 1) ad)
   (af (PS.nox (aX (eg<|cR<|cF<|uv 3) (af (ao<|uc (FR.2 W) c<|aa (uv 0)<|aa (uv 1) ad)
   (ag<|au iG)) aO))
   (af (PS.nox<|aX (gv<|fT<|dN<|uv 2) (ag ce) aO)
   (af (PS.nox<|aX (eg<|cR<|cF<|a6 (uv 1) ai<|by trivial) (ag ce) aO)
   (ag<|au<|yK (sv.2 W) (c.mono<|by decide) jR<|aa (uv 0)<|aa (uv 1) ad)))))⟩
theorem oa:aj ["tables","values","task"] ["tables","values"] (ae<|aH 85):=cp
def qS:XX λW b=>W.cal "do_begin" 3 2 b:=⟨bQ 3 _,λW=>bH W.d_do_begin oa (b2 λ_ _=>rfl) λc d=>by
  apply(af (ua 2 oa.nd<|um (eD.2 W) W.G.c0 c (uv 0)<|aa (aC 66) ad)
   (af (ao<|um (bg.2 W) W.G.c0 c (uv 0)<|aa (cf W.G<|uv 0)<|aa (uv 2)<|aa (aD ad) ad)
   (ag<|au<|uv 2)))⟩
theorem dl:aj ["tables","values","task","file","mode","mark","handle"] ["tables","values"] (ae<|aH 86):=cp
def og:XX λW b=>W.cal "do_attach" 5 2 b:=⟨bQ 7 _,λW=>bH W.d_do_attach dl (b2 λ_ _=>rfl) λc d=>by
  apply(af (dX<|cY (uv 1)<|bN (n:=3) (by rfl)<|am (ug 2 dl.nd)<|am (ug 3 dl.nd)<|am (ug 4 dl.nd) bf)
   (af (ao<|uc (h9.2 W) c<|aa (uv 0)<|aa (uv 2) ad)
   (af (ao<|uc (vA.2 W) c<|aa (uv 4) ad)
   (af (ao<|uc (mi.2 W) c<|aa (uv 0)<|aa (uv 3) ad)
   (af (ua 5 dl.nd<|um (eD.2 W) W.G.c0 c (uv 0)<|aa (aC 45) ad)
   (af (ua 6 dl.nd<|uc (vH.2 W) c<|aa (uv 0)<|aa (uv 2) ad)
   (af (ao<|um (bg.2 W) W.G.c0 c (uv 0)<|aa (cu W.G<|uv 0)<|aa (uv 5)<|aa (aD<|aa (uv 3)<|aa (uv 4)<|aa (aD ad) ad) ad)
   (af (ao<|uc (LF.2 W) c<|aa (uv 0)<|aa (uv 2)<|aa (uv 6)<|aa (uv 5) ad)
   (ag<|au<|uv 6)))))))))⟩
theorem jF:aj ["tables","values","task","handle"] ["tables","values"] (ae<|aH 88):=cp
def qT:XX λW b=>W.cal "do_close" 6 2 b:=⟨bQ 4 _,λW=>bH W.d_do_close jF (b2 λ_ _=>rfl) λc d=>by
  apply(af (dX<|cY (uv 1)<|bN (n:=2) (by rfl)<|am (ug 2 jF.nd)<|am (ug 3 jF.nd) bf)
   (af (ao<|uc (iQ.2 W) c<|aa (uv 0)<|aa (uv 2)<|aa (uv 3) ad)
   (ag<|ao<|uc (FU.2 W) c<|aa (uv 0)<|aa (uv 2)<|aa (uv 3) ad)))⟩
theorem fi:aj ["tables","values","task","child","pairs","handle","mark"] ["tables","values"] (ae<|aH 89):=cp
def uj:XX λW b=>W.cal "do_fork" 5 2 b:=⟨bQ 7 _,λW=>bH W.d_do_fork fi (b2 λ_ _=>rfl) λc d=>by
  apply(af (ua 2 fi.nd<|a6 (uv 1) ai<|by trivial)
   (af (ao<|uc (h9.2 W) c<|aa (uv 0)<|aa (uv 2) ad)
   (af (ua 3 fi.nd<|um (eD.2 W) W.G.c0 c (uv 0)<|aa (aC 66) ad)
   (af (ua 4 fi.nd<|aS d (cf W.G<|uv 0) (uv 2)<|by trivial)
   (af (ao<|um (bg.2 W) W.G.c0 c (uv 0)<|aa (cf W.G<|uv 0)<|aa (uv 3)<|aa (uv 4) ad)
   (af (dY 40 QD (by rfl) (cT<|cS<|uv 4) (bN (n:=2) (by rfl)<|am (ug 5 fi.nd)<|am (ug 6 fi.nd) bf)<|ag<|ao<|uc (qQ.2 W) c<|aa (uv 0)<|aa (uv 6)<|aa (uv 3) ad)
   (ag<|au<|uv 3)))))))⟩
theorem uk:aj ["tables","values","task"] ["tables","values"] (ae<|aH 90):=cp
def xG:XX λW b=>W.cal "do_end" 5 2 b:=⟨bQ 3 _,λW=>bH W.d_do_end uk (b2 λ_ _=>rfl) λc d=>by
  apply(af (ua 2 uk.nd<|a6 (uv 1) ai<|by trivial)
   (af (ao<|uc (gf.2 W) c<|aa (uv 0)<|aa (uv 2) ad)
   (ag<|ao<|uc (zm.2 W) c<|aa (uv 0)<|aa (uv 2) ad)))⟩
theorem cH:aj ["tables","values","task","handle","kind","stretch","by","wait","mark","mode"] ["tables","values"] (ae<|aH 91):=cp
def ul:XX λ{P w K mg base gy} W b=>gI P w K mg base gy (dB P w) "do_lock" 10 2 b:=⟨bQ 10 _,λW=>AN W.d_do_lock cH (b2 λ_ _=>rfl) λc d=>by
  apply(af (PS.nox<|dX<|cY (uv 1)<|bN (n:=6) (by rfl)<|am (ug 2 cH.nd)<|am (ug 3 cH.nd)<|am (ug 4 cH.nd)<|am (ug 5 cH.nd)<|am (ug 6 cH.nd)<|am (ug 7 cH.nd) bf)
   (af (PS.nox<|ua 8 cH.nd<|uc (iQ.2 W) c<|aa (uv 0)<|aa (uv 2)<|aa (uv 3) ad)
   (af (PS.nox<|ao<|uc (vB.2 W) c<|aa (uv 4) ad)
   (af (PS.nox<|ao<|uc (qM.2 W) c<|aa (uv 6) ad)
   (af (PS.nox<|ao<|uc (i7.2 W) c<|aa (uv 5) ad)
   (af (PS.nox<|ua 9 cH.nd<|a6 (aS d (cu W.G<|uv 0) (uv 8)<|by trivial) ai<|by trivial)
   (af (PS.nox<|aX (a7 ig eY (uv 9) (AI (by rfl) W.T.g_WRONG_MODES (uv 4)<|by trivial)<|by trivial) (ag ce) aO)
   (ag<|au<|yK (qR.2 W) (c.mono<|by decide) jR<|aa (uv 0)<|aa (uc (FP.2 W) c<|aa (uv 0)<|aa (uv 2)<|aa (uv 8)<|aa (uv 4)<|aa (uv 5)<|aa (uv 6) ad)<|aa (uv 7) ad))))))))⟩
theorem cI:aj ["tables","values","task","handle","stretch","by","mark","holder"] ["tables","values"] (ae<|aH 92):=cp
def oi:XX λW b=>W.cal "do_unlock" 6 2 b:=⟨bQ 8 _,λW=>bH W.d_do_unlock cI (b2 λ_ _=>rfl) λc d=>by
  apply(af (dX<|cY (uv 1)<|bN (n:=4) (by rfl)<|am (ug 2 cI.nd)<|am (ug 3 cI.nd)<|am (ug 4 cI.nd)<|am (ug 5 cI.nd) bf)
   (af (ua 6 cI.nd<|uc (iQ.2 W) c<|aa (uv 0)<|aa (uv 2)<|aa (uv 3) ad)
   (af (ao<|uc (qM.2 W) c<|aa (uv 5) ad)
   (af (ao<|uc (i7.2 W) c<|aa (uv 4) ad)
   (af (ua 7 cI.nd<|aD<|aa (uv 5)<|aa (fE (a7 ig eY (uv 5) (aC 66)<|by trivial) (uv 2)<|uv 6) ad)
   (ag<|ao<|uc (mm.2 W) c<|aa (uv 0)<|aa (a6 (aS d (cu W.G<|uv 0) (uv 6)<|by trivial) ai<|by trivial)<|aa (uv 7)<|aa (uv 4) ad))))))⟩
def LG:List (Option BF):=[some qS.1,some og.1,none,some qT.1,some uj.1,some xG.1,some ul.1,some oi.1,none,none,none]
theorem FV(W:Wr P w K mg base gy):Fw P w K mg base gy 10 2 LG:=by
 intro j f e
 match j,e with
 | 0,e=>cases e;exact⟨by decide,iO (jS<|qS.2 W) W.g_do_begin<|by decide⟩
 | 1,e=>cases e;exact⟨by decide,iO (jS<|og.2 W) W.g_do_attach<|by decide⟩
 | 2,e=>cases e
 | 3,e=>cases e;exact⟨by decide,iO (jS<|qT.2 W) W.g_do_close<|by decide⟩
 | 4,e=>cases e;exact⟨by decide,iO (jS<|uj.2 W) W.g_do_fork<|by decide⟩
 | 5,e=>cases e;exact⟨by decide,iO (jS<|xG.2 W) W.g_do_end<|by decide⟩
 | 6,e=>cases e;exact⟨by decide,iO (ul.2 W) W.g_do_lock<|by decide⟩
 | 7,e=>cases e;exact⟨by decide,iO (jS<|oi.2 W) W.g_do_unlock<|by decide⟩
 | 8,e=>cases e
 | 9,e=>cases e
 | 10,e=>cases e
 | (n+11),e=>cases e
theorem nw:aj ["self","files","fair"] ["self","files","fair"] (ae<|aq (aH 102) 0):=cp
def oF:XX λ{P w K mg base gy} W b=>O5 P w K mg base gy eT 1 "Desk" 3 3 2 ["fair"] [.arg 0] b:=⟨bQ 3 _,λW=>No W.i_Desk W.g_Desk nw (b2 λ_ _=>(b1 λ_=>rfl)) trivial λc d=>by
  apply(af (da 31 (by decide +kernel) (by decide) W.G.cls W.G.na_files (uv 0) (uv 1)<|by rfl)
   (af (da 29 (by decide +kernel) (by decide) W.G.cls W.G.na_fair (uv 0) (uv 2)<|by rfl)
   (af (da 65 (by decide +kernel) (by decide) W.G.cls W.G.na_tables (uv 0) (G8 (by decide) (mh.2 W) (c.mono<|by decide) dy<|aa (uv 1)<|aa (uv 2) ad)<|by rfl)
   (af (da 57 (by decide +kernel) (by decide) W.G.cls W.G.na_past (uv 0) (dW ad)<|by rfl)
   (ag<|da 34 (by decide +kernel) (by decide) W.G.cls W.G.na_future (uv 0) (dW ad)<|by rfl)))))⟩
theorem cU:aj ["self","many","table","key","value"] ["self","many"] (ae<|aq (aH 100) 3):=cp
@[reducible] def mt:BS:=(k6 300 (bB<|eQ Ps (KN Em<|ah (jZ 19<|aE 0) aK)<|aE 1)
 (bJ (gH (L3 KU (jZ 19<|aE 0) aK)<|qf 3<|jx (a8 2)<|jx (a8 3)<|jx (a8 4) Ae)
 (lR (bB<|GV<|aE 4)
 (Jy (aE 2)<|aE 3)
 (Ej (aE 2) (aE 3)<|aE 4))))
def ny:BF:=bQ 5 mt
theorem iB(W:Wr P w K mg base gy):Fq P w K mg base gy 0 "undo_to" 1 2 ny:=by
 refine Nw W.t_Tables_undo_to cU (b2 λ_ _=>rfl) λ{c} hb {f j A outer s H E} h i=>?_;have W:=W.more hb;have d:=PV h;apply(ag (iu 300 QD (a7 Mw KB (bo dh f9 (by rfl) W.M.len Se<|aa (fb W.G<|uv 0) ad) (uv 1)<|by trivial) (af (dX<|cY (KS G4<|Ke QJ X8 PySem.F.type_list_pop (by with_unfolding_all exact Kf)<|fb W.G<|uv 0)<|HM (n:=3) i<|am (ug 2 cU.nd)<|am (ug 3 cU.nd)<|am (ug 4 cU.nd) bf)
   (ag<|aX (eg<|cR<|cF<|uv 4) (ag<|vf d (uv 2)<|uv 3)<|ag<|oX d (uv 2) (uv 3) (uv 4)<|by rfl))))
theorem lA:aj ["tables","word","values","deed","told"] ["tables","word","values"] (ae<|aH 97):=cp
def uo:XX λ{P w K mg base gy} W b=>gI P w K mg base gy (dB P w) "do_deed" 11 3 b:=⟨bQ 5 _,λW=>AN W.d_do_deed lA (b3 λ_ _ _=>rfl) λc d=>by
  apply(af (PS.nox<|ua 3 lA.nd<|AI (by rfl) W.T.g_DEEDS (uv 1)<|by trivial)
   (af (ua 4 lA.nd<|Cw (uv 3) (FV W) (c.mono<|by decide) jR<|aa (uv 0)<|aa (uv 2) ad)
   (af (PS.nox<|ao<|uc (FT.2 W) c<|aa (uv 0) ad)
   (ag<|PS.nox<|au<|uv 4))))⟩
theorem dQ:aj ["tables","start","order","task"] ["tables"] (ae<|aH 98):=cp
abbrev jg:Q8:=r8 [("number",.local),("tables",.free)]
theorem gZ:aR (ae<|aH 98) ["tables","start","order","task"] jg ["number","tables"] [none,some 0]:=r9
def qU:XX λW b=>W.cal "ending_order" 12 1 b:=⟨bQ 4 _,λW=>bH W.d_ending_order dQ (b1 λ_=>rfl) λc d=>by
  apply(af (ua 1 dQ.nd<|bo dh f9 (by rfl) W.M.len Se<|aa (fb W.G<|uv 0) ad)
   (af (ua 2 dQ.nd<|dW ad)
   (af (iu 40 QD (fT<|dN<|cf W.G<|uv 0) (af (ua 3 dQ.nd<|bo (CI<|by rfl) FN (by rfl) W.M.min sU<|aa (K8 40 (ix:=[none,some 0]) (by decide)<|gJ (by rfl) (by with_unfolding_all exact gZ) (uZ<|cf W.G<|uv 0) (λ_ _ _ _ _=>(ug 0 gZ.nd)) (λ_ _ _ _ _=>(fG<|sZ d (uv 0) (d4 W.G<|uv 1)<|by rfl))<|λ_ _ _ _ _=>(uv 0)) ad)
   (af (ao<|uc (Cu<|uo.2 W) c<|aa (uv 0)<|aa (aC 26)<|aa (aD<|aa (uv 3) ad) ad)
   (ag<|ao<|i5 db<|gn QJ Rf Rk (by with_unfolding_all exact c8) (uv 2)<|aa (uv 3) ad))))
   (af (ao<|um (iB W).met W.G.c0 c (uv 0) (aa (uv 1) ad))
   (ag<|au<|bM bK cq (by rfl) W.M.tuple bE<|aa (uv 2) ad)))))⟩
theorem fV:aj ["self","word","values","start","told"] ["self","word","values"] (ae<|aq (aH 102) 1):=cp
def qV:XX λ{P w K mg base gy} W b=>mV P w K mg base gy (dB P w) 1 "perform" 12 3 [] b:=⟨bQ 5 _,λW=>JC W.t_Desk_perform fV (b3 λ_ _ _=>rfl) λc d=>by
  apply(af (PS.nox<|ua 3 fV.nd<|bo dh f9 (by rfl) W.M.len Se<|aa (fb W.G<|bY W.G<|uv 0) ad)
   (af (HE (i:=4) fV.nd (by rfl) (by trivial) (uo.2 W) (c.mono<|by decide) (aa (bY W.G<|uv 0)<|aa (uv 1)<|aa (uv 2) ad) (λe oe ho=>PR (iB W) W.G.c0 ⟨e,oe,(by rfl),Qj,ho⟩ (c.mark _) (bY W.G<|uv 0) (aa (uv 3) ad)) W.e_Lock.choose_spec.1 W.e_Lock.choose_spec.2)
   (af (PS.nox<|ao<|i5 db<|gn QJ Rf Rk (by with_unfolding_all exact c8) (Hy W.G<|uv 0)<|aa (aD<|aa (uv 1)<|aa (uv 2)<|aa (uv 3) ad) ad)
   (ag<|PS.nox<|au<|uv 4))))⟩
theorem qW:aj ["self","word","values","told"] ["self","word","values"] (ae<|aq (aH 102) 2):=cp
def fk:XX λ{P w K mg base gy} W b=>mV P w K mg base gy (dB P w) 1 "do" 13 3 [] b:=⟨bQ 4 _,λW=>JC W.t_Desk_do qW (b3 λ_ _ _=>rfl) λc d=>by
  apply(af (ua 3 qW.nd<|Pw (qV.2 W) W.G.c1 c jR (uv 0)<|aa (uv 1)<|aa (uv 2) ad)
   (af (PS.nox<|da 34 (by decide +kernel) (by decide) W.G.cls W.G.na_future (uv 0) (dW ad)<|by rfl)
   (ag<|PS.nox<|au<|uv 3)))⟩
theorem sA:aj ["self"] ["self"] (ae<|aq (aH 102) 3):=cp
def vJ:XX λW b=>W.met 1 "begin" 14 1 [] b:=⟨bQ 1 _,λW=>mZ W.t_Desk_begin sA (b1 λ_=>rfl) λc d=>by
  apply(ag<|au<|um (d5<|fk.2 W) W.G.c1 c (uv 0)<|aa (aC 13)<|aa (aD ad) ad)⟩
theorem qX:aj ["self","task","file","mode"] ["self","task","file","mode"] (ae<|aq (aH 102) 4):=cp
def kG:XX λ{P w K mg base gy} W b=>∀{c fd} (F:Fun K "attach" "Desk.attach" (aq (aH 102) 4) c fd),bS P w K mg base eT 14 c fd ["self","task","file","mode"] (kW gy 4 b):=⟨bQ 4 _,λ{_ _ _ _ _ _} W {_ _} F=>E9 F qX λd f=>by
  apply(ag<|au<|um (d5<|fk.2 W) W.G.c1 d (uv 0)<|aa (aC 6)<|aa (aD<|aa (uv 1)<|aa (uv 2)<|aa (uv 3) ad) ad)⟩
theorem sB:W.met 1 "attach" 14 4 [.str 15] kG.1:=by
 obtain⟨h,t,f,o,doc,l,p,j,ct,kc,m,ep,ks,F,d,lk⟩:=W.t_Desk_attach;refine⟨f,_,_,[.str "both" 1274],[.str "both"],rfl,kG.2 W F,d,λs us X i=>?_,.cons ⟨_,rfl⟩ .nil,λ_ _ _ _=>.cons ⟨_,rfl,rfl⟩ .nil⟩;obtain⟨a,b,c,rfl⟩:=l3 (us:=us) (by simpa using i);exact T5 X λS=>(gk lk).trans rfl
theorem sC:aj ["self","task","handle"] ["self","task","handle"] (ae<|aq (aH 102) 6):=cp
def gh:XX λW b=>W.met 1 "close" 14 3 [] b:=⟨bQ 3 _,λW=>mZ W.t_Desk_close sC (b3 λ_ _ _=>rfl) λc d=>by
  apply(ag<|ao<|um (d5<|fk.2 W) W.G.c1 c (uv 0)<|aa (aC 20)<|aa (aD<|aa (uv 1)<|aa (uv 2) ad) ad)⟩
theorem vK:aj ["self","task"] ["self","task"] (ae<|aq (aH 102) 7):=cp
def g6:XX λW b=>W.met 1 "fork" 14 2 [] b:=⟨bQ 2 _,λW=>mZ W.t_Desk_fork vK (b2 λ_ _=>rfl) λc d=>by
  apply(ag<|au<|um (d5<|fk.2 W) W.G.c1 c (uv 0)<|aa (aC 32)<|aa (aD<|aa (uv 1) ad) ad)⟩
theorem xH:aj ["self","task"] ["self","task"] (ae<|aq (aH 102) 8):=cp
def qY:XX λW b=>W.met 1 "end" 14 2 [] b:=⟨bQ 2 _,λW=>mZ W.t_Desk_end xH (b2 λ_ _=>rfl) λc d=>by
  apply(ag<|ao<|um (d5<|fk.2 W) W.G.c1 c (uv 0)<|aa (aC 26)<|aa (aD<|aa (uv 1) ad) ad)⟩
theorem vL:aj ["self","task","handle","kind","stretch","by","wait"] ["self","task","handle","kind","stretch","by","wait"] (ae<|aq (aH 102) 9):=cp
def aU:XX λ{P w K mg base gy} W b=>∀{c fd} (F:Fun K "lock" "Desk.lock" (aq (aH 102) 9) c fd),bS P w K mg base (dB P w) 14 c fd ["self","task","handle","kind","stretch","by","wait"] (kW gy 7 b):=⟨bQ 7 _,λ{_ _ _ _ _ _} W {_ _} F=>NA F vL λd f=>by
  apply(ag<|au<|Pw (fk.2 W) W.G.c1 d jR (uv 0)<|aa (aC 42)<|aa (aD<|aa (uv 1)<|aa (uv 2)<|aa (uv 3)<|aa (uv 4)<|aa (uv 5)<|aa (uv 6) ad) ad)⟩
theorem xI(W:Wr P w K mg base gy):mV P w K mg base gy (dB P w) 1 "lock" 14 7 [.str 66,.bl false] aU.1:=by
 obtain⟨h,t,h1,m,f,q,doc,o,r,l,ct,kc,p,ep,ks,F,i,lk⟩:=W.t_Desk_lock;refine⟨f,_,_,[.str "task" 1322,.bool false],[.str "task",.bl false],rfl,aU.2 W F,i,λs us X j=>?_,.cons ⟨_,rfl⟩<|.cons rfl .nil,λ_ _ _ _=>.cons ⟨_,rfl,rfl⟩ (.cons rfl .nil)⟩;obtain⟨a,b,c,d,e,rfl⟩:=l5 (us:=us) (by simpa using j);exact T5 X λS=>(gk lk).trans ((gk lk).trans rfl)
theorem xJ(W:Wr P w K mg base gy):yL P w K mg base gy (dB P w) 1 "lock" 14 7 5 ["by"] [.arg 0,.dfl (.bl false) (.bl false) (.bool false)] aU.1:=by
 obtain⟨h,t,h1,p,f,u,doc,q,x,m,ct,kc,r,ep,ks,F,i,lk⟩:=W.t_Desk_lock;refine⟨f,_,_,rfl,aU.2 W F,i,λs us o X l j=>?_,λ_ _ _ _=>rfl,rfl,trivial⟩;obtain⟨a,b,c,d,e,rfl⟩:=l5 l;obtain⟨z,rfl⟩:=l1 j;exact T5 X λS=>(gk lk).trans rfl
theorem jG(W:Wr P w K mg base gy):yL P w K mg base gy (dB P w) 1 "lock" 14 7 5 ["wait"] [.dfl (.str 66) (.str "task") (.str "task" 1322),.arg 0] aU.1:=by
 obtain⟨h,t,h1,p,f,u,doc,q,x,m,ct,kc,r,ep,ks,F,i,lk⟩:=W.t_Desk_lock;refine⟨f,_,_,rfl,aU.2 W F,i,λs us o X l j=>?_,λ_ _ _ _=>⟨_,rfl,rfl⟩,⟨_,rfl⟩,trivial⟩;obtain⟨a,b,c,d,e,rfl⟩:=l5 l;obtain⟨z,rfl⟩:=l1 j;exact T5 X λS=>(gk lk).trans rfl
theorem xK(W:Wr P w K mg base gy):yL P w K mg base gy (dB P w) 1 "lock" 14 7 5 ["by","wait"] [.arg 0,.arg 1] aU.1:=by
 obtain⟨h,t,h1,i,f,m,doc,j,o,d,ct,kc,l,ep,ks,F,c,lk⟩:=W.t_Desk_lock;exact⟨f,_,_,rfl,aU.2 W F,c,F.kwbinds<|b5 λ_ _ _ _ _=>b2 λ_ _=>rfl,trivial⟩
theorem qZ:aj ["self","task","handle","stretch","by"] ["self","task","handle","stretch","by"] (ae<|aq (aH 102) 10):=cp
def cQ:XX λ{P w K mg base gy} W b=>∀{c fd} (F:Fun K "unlock" "Desk.unlock" (aq (aH 102) 10) c fd),bS P w K mg base eT 14 c fd ["self","task","handle","stretch","by"] (kW gy 5 b):=⟨bQ 5 _,λ{_ _ _ _ _ _} W {_ _} F=>E9 F qZ λd f=>by
  apply(ag<|ao<|um (d5<|fk.2 W) W.G.c1 d (uv 0)<|aa (aC 71)<|aa (aD<|aa (uv 1)<|aa (uv 2)<|aa (uv 3)<|aa (uv 4) ad) ad)⟩
theorem sE:W.met 1 "unlock" 14 5 [.str 66] cQ.1:=by
 obtain⟨h,t,f,p,doc,m,q,l,ct,kc,o,ep,ks,F,i,lk⟩:=W.t_Desk_unlock;refine⟨f,_,_,[.str "task" 1338],[.str "task"],rfl,cQ.2 W F,i,λs us X j=>?_,.cons ⟨_,rfl⟩ .nil,λ_ _ _ _=>.cons ⟨_,rfl,rfl⟩ .nil⟩;obtain⟨a,b,c,d,rfl⟩:=l4 (us:=us) (by simpa using j);exact T5 X λS=>(gk lk).trans rfl
theorem CU(W:Wr P w K mg base gy):yL P w K mg base gy eT 1 "unlock" 14 5 4 ["by"] [.arg 0] cQ.1:=by
 obtain⟨h,t,f,l,doc,i,m,d,ct,kc,j,ep,ks,F,c,lk⟩:=W.t_Desk_unlock;exact⟨f,_,_,rfl,cQ.2 W F,c,F.kwbinds<|b4 λ_ _ _ _=>b1 λ_=>rfl,trivial⟩
theorem mv:aj ["self","task"] ["self","task"] (ae<|aq (aH 102) 17):=cp
def a5:XX λW b=>W.met 1 "is_asleep" 4 2 [] b:=⟨bQ 2 _,λW=>mZ W.t_Desk_is_asleep mv (b2 λ_ _=>rfl) λd c=>by
  apply(af (ao<|uc (gf.2 W) d<|aa (bY W.G<|uv 0)<|aa (uv 1) ad)
   (ag<|au<|yA c (uv 1) (d4 W.G<|bY W.G<|uv 0)<|by rfl))⟩
theorem vM:aj ["self"] ["self"] (ae<|aq (aH 102) 22):=cp
def g7:XX λW b=>W.met 1 "asks" 2 1 [] b:=⟨bQ 1 _,λW=>mZ W.t_Desk_asks vM (b1 λ_=>rfl) λc d=>by
  apply(ag<|au<|uc (xE.2 W) c<|aa (bY W.G<|uv 0) ad)⟩
theorem oG:aj ["self","number"] ["self","number"] (ae<|aq (aH 102) 23):=cp
def bq:XX λW b=>W.met 1 "outcome" 4 2 [] b:=⟨bQ 2 _,λW=>mZ W.t_Desk_outcome oG (b2 λ_ _=>rfl) λc d=>by
  apply(ag<|au<|uc (nW.2 W) c<|aa (jy W.G<|bY W.G<|uv 0)<|aa (uv 1) ad)⟩
theorem oj:aj ["self","number","ask"] ["self","number"] (ae<|aq (aH 102) 24):=cp
def rc:XX λW b=>W.met 1 "why" 6 2 [] b:=⟨bQ 3 _,λW=>mZ W.t_Desk_why oj (b2 λ_ _=>rfl) λc d=>by
  apply(af (ua 2 oj.nd<|uc (nW.2 W) c<|aa (bh W.G<|bY W.G<|uv 0)<|aa (uv 1) ad)
   (ag<|au<|bM bK cq (by rfl) W.M.tuple bE<|aa (cE GF En (uc (dj.2 W) c<|aa (bY W.G<|uv 0)<|aa (uv 2) ad)<|uc (dO.2 W) c<|aa (bY W.G<|uv 0)<|aa (uv 2) ad) ad))⟩
theorem rf:aj ["self"] ["self"] (ae<|aq (aH 102) 25):=cp
def kH:XX λW b=>W.met 1 "ending" 13 1 [] b:=⟨bQ 1 _,λW=>mZ W.t_Desk_ending rf (b1 λ_=>rfl) λc d=>by
  apply(ag<|au<|uc (qU.2 W) c<|aa (bY W.G<|uv 0) ad)⟩
theorem sF:aj ["self","file"] ["self","file"] (ae<|aq (aH 102) 19):=cp
def mw:XX λW b=>W.met 1 "locks" 5 2 [] b:=⟨bQ 2 _,λW=>mZ W.t_Desk_locks sF (b2 λ_ _=>rfl) λc d=>by
  apply(af (ao<|uc (mi.2 W) c<|aa (bY W.G<|uv 0)<|aa (uv 1) ad)
   (ag<|au<|uc (vD.2 W) c<|aa (bY W.G<|uv 0)<|aa (uv 1) ad))⟩
theorem iU:aj ["_law_kept","_law_some","_law_found"] ["_law_kept"] (ae<|aH 106):=cp
abbrev lB:Q8:=r8 [("_law_word",.local),("_law_some",.free)]
theorem jH:aR (ae<|aH 106) ["_law_kept","_law_some","_law_found"] lB ["_law_word","_law_some"] [none,some 1]:=r9
@[reducible] def vN:BS:=(bJ (gH (xh<|hU (bC<|.str 51) (j5 false<|aE 0)<|hU (bC<|.str 5) (j5 false<|aE 0)<|hU (bC<|.str 38) (j5 false<|aE 0) wJ)<|a8 1)
 (bJ (fF<|HU (aE 1)<|xh<|hU (bC<|.str 7) (j5 false<|aE 0)<|hU (bC<|.str 49) (j5 false<|aE 0) wJ)
 (bJ (fF<|HU (aE 1)<|xh<|hU (bC<|.str 48) (j5 false<|aE 0)<|hU (bC<|.str 11) (j5 false<|aE 0) wJ)
 (bJ (fF<|HU (aE 1)<|xh<|hU (bC<|.str 10) (j5 false<|aE 0)<|hU (bC<|.str 12) (j5 false<|aE 0) wJ)
 (bJ (Ej (aE 1) (bC<|.str 64)<|j5 true<|aE 0)
 (bJ (gH (BZ 40 true [none,some 1] (aE 1) (a8 0) (bB<|Jl (aE 1)<|aE 0)<|aE 0)<|a8 2)
 (je<|Od (GM (bB<|eQ Oe (KN Em<|ah (aE 2) aK)<|bI 1)<|bB<|j5 true<|aE 0) (eQ Aa (aE 2)<|bI 0)<|bC<|.str 39)))))))
def om:BF:=bQ 3 vN
theorem vO(W:Wr P w K mg base gy)(c:Nat):gI P w K mg base (HQ gy c) eT "_law_class" 1 1 om:=by
 have W:=W.reE c;refine bH W.d__law_class iU (b1 λ_=>rfl) λ{f j A outer s H E} l i=>?_;have d:CG ⟨HQ gy c,E⟩ c:=λF h=>h;apply(af (ua 1 iU.nd<|ma (cM (aC 51) (hV (b:=false) d (by rfl) W.M.isinstance (uv 0) (by rfl) W.x_NoTask.choose_spec.1<|.inr ⟨(by rfl),W.n_is _,W.x_NoTask.choose_spec.2 _⟩)<|cM (aC 5) (hV (b:=false) d (by rfl) W.M.isinstance (uv 0) (by rfl) W.x_Asleep.choose_spec.1<|.inr ⟨(by rfl),W.n_is _,W.x_Asleep.choose_spec.2 _⟩)<|cM (aC 38) (hV (b:=false) d (by rfl) W.M.isinstance (uv 0) (by rfl) W.x_Held.choose_spec.1<|.inr ⟨(by rfl),W.n_is _,W.x_Held.choose_spec.2 _⟩) l9) (by rfl) (by rfl) (by simp)<|by decide)
   (af (ao<|zh<|gn Ry S9 Uf nu (uv 1)<|cg (ma (cM (aC 7) (hV (b:=false) d (by rfl) W.M.isinstance (uv 0) (by rfl) W.x_Awake.choose_spec.1<|.inr ⟨(by rfl),W.n_is _,W.x_Awake.choose_spec.2 _⟩)<|cM (aC 49) (hV (b:=false) d (by rfl) W.M.isinstance (uv 0) (by rfl) W.x_NoHandle.choose_spec.1<|.inr ⟨(by rfl),W.n_is _,W.x_NoHandle.choose_spec.2 _⟩) l9) (by rfl) (by rfl) (by simp)<|by decide) d9)
   (af (ao<|zh<|gn Ry S9 Uf nu (uv 1)<|cg (ma (cM (aC 48) (hV (b:=false) d (by rfl) W.M.isinstance (uv 0) (by rfl) W.x_NoFile.choose_spec.1<|.inr ⟨(by rfl),W.n_is _,W.x_NoFile.choose_spec.2 _⟩)<|cM (aC 11) (hV (b:=false) d (by rfl) W.M.isinstance (uv 0) (by rfl) W.x_BadMode.choose_spec.1<|.inr ⟨(by rfl),W.n_is _,W.x_BadMode.choose_spec.2 _⟩) l9) (by rfl) (by rfl) (by simp)<|by decide) d9)
   (af (ao<|zh<|gn Ry S9 Uf nu (uv 1)<|cg (ma (cM (aC 10) (hV (b:=false) d (by rfl) W.M.isinstance (uv 0) (by rfl) W.x_BadKind.choose_spec.1<|.inr ⟨(by rfl),W.n_is _,W.x_BadKind.choose_spec.2 _⟩)<|cM (aC 12) (hV (b:=false) d (by rfl) W.M.isinstance (uv 0) (by rfl) W.x_BadStretch.choose_spec.1<|.inr ⟨(by rfl),W.n_is _,W.x_BadStretch.choose_spec.2 _⟩) l9) (by rfl) (by rfl) (by simp)<|by decide) d9)
   (af (oX i (uv 1) (aC 64) (hV (b:=true) d (by rfl) W.M.isinstance (uv 0) (by rfl) W.e_Stuck<|.inl ⟨(by rfl),W.e_is _⟩)<|by rfl)
   (af (CJ 40 2 (by decide)<|pQ (by rfl) iU.nd (by rfl) (by rfl) (by with_unfolding_all exact jH) (uZ<|uv 1) (λ_ _ _ _ _=>(ug 0 jH.nd)) (λ_ _ _ _ _=>(fG<|cA<|aS i (uv 1) (uv 0)<|by trivial))<|λ_ _ _ _ _=>(uv 0))
   (ag<|au<|fE (PW.pt<|yu (a7 ig eY (bo dh f9 (by rfl) W.M.len Se<|aa (uv 2) ad) ai<|by trivial)<|uM<|cA<|LC d (by rfl) W.M.isinstance (uv 0) (by rfl) W.x_VE<|W.x_sub _) (a6 (uv 2) ai<|by trivial)<|aC 39)))))))
theorem eM:aj ["_law_deed","_law_kept","_law_found","e","_law_kind"] ["_law_deed"] (ae<|aH 107):=cp
@[reducible] def kJ:BS:=(bJ (gH (Od (bB<|j5 false<|aE 1) (bC<|.str 68)<|lQ (nJ 1 om)<|ah (aE 1) aK)<|a8 4)
 (je<|Od (bB<|eQ (OV false) (aE 4)<|dF<|ah (bC<|.str 68)<|ah (bC<|.str 38) aK) JE<|dF<|ah (aE 4) aK))
def dn(_:Nat):BS:=kJ
abbrev my(i:Nat):SK:=(aW<|aH 107).getD i (.Pass ⟨0,0,0,0⟩)
theorem sG(W:Wr P w K mg base gy)(c:Nat){f:P3}{d:P0}{outer:List Env}{E:XK}(i:a9 1 (A.deeper<|Su "_law_heard" (ae<|aH 107) s.heap.objs.size f d)):gC (bT eT P w K mg base ["_law_deed","_law_kept","_law_found","e","_law_kind"] "_law_heard" (ae<|aH 107) f d A outer s H E).nox [my 2,my 3] (dw ⟨HQ gy c,E0⟩<|dn c):=by
 have ok:=vO W c;have W:=W.reE c;have j:CG ⟨HQ gy c,E0⟩ c:=λF h=>h;have l:=dC i;show gC _ [my 2,my 3] (dw _ kJ)
 (conv=>arg 2;simp only[my];whnf)
 with_reducible exact(af (ua 4 eM.nd<|fE (HR j<|cR<|cF<|uv 1) (aC 68)<|uc ok i<|aa (uv 1) ad)
   (ag<|au<|fE (a7 yi qd (uv 4) (aD<|aa (aC 68)<|aa (aC 38) ad)<|by rfl) FA<|aD<|aa (uv 4) ad))
abbrev Pf(n:Nat)(P:QK)(w:Q4)(K:P7)(mg:Str->Option P0)(base:QO)(gy:Gy)(xs:List Str)(qual:Str)(scope:Q8)(f c':P3)(cl:List (Str×P3))(body:Qv)(bl:BE):Prop:=∀A outer s H E,a9 n (A.deeper<|SX qual scope s.heap.objs.size f (.ref c') cl)->PE (Lw (dB P w) P w K mg base xs qual scope f (.ref c') cl A outer s H E) body (up ⟨gy,E⟩ bl)
theorem rg(W:Wr P w K mg base gy)(m:FK gy){O:P3}(F:Fun K "_law_heard" "_law_heard" (aH 107) O fd){f c':P3}{qual:Str}{params:TD}{body:Qv}{scope:Q8}{cl:List (Str×P3)}{xs:List Str}{l:L2.St}{bl:BE}(L:xu base f qual params body scope cl c' xs l)
  (hk:scope.kind=.function) (r:scope.isCoroutine=false) (o:scope.isGenerator=false) (d:∀x∈scope.names,x.2≠.cell) (hb:∀Y I,Tu (TU "<lambda>" qual params body scope cl Y (.ref c') I) ⟨[],[]⟩=pure [])
  (hbody:Pf 14 P w K mg base gy xs qual scope f c' cl body bl):bS P w K mg base eT 16 O fd ["_law_deed"] (pi gy qual dn bl f c' l):=by
 refine F.ok eM (λvs H Q E h=>by obtain⟨rfl,_⟩:=h;rfl) (λcdv A outer s H vs Q E hr h=>?_);obtain⟨D,z,u⟩:=W.e_Lock;obtain⟨e1,_⟩:=id h;subst e1;have rest:=HZ λc=>sG W c (E:=E) (H:=H) (outer:=outer) (hr.mono (by decide:1≤15));refine' ⟨Dc (jj (My<|j9 (tC .non)<|j9 (tC .non) mF)<|JY K 2<|Df (fY 1)<|Df (fY 2) Ml)<|Dc (λB σ H=>σ[0]?=some (some<|.ref f)/\H c'=some (fZ c' qual)/\up ⟨gy,λC _ U=>Sv K C (.ref D)=some true/\∀e,U e=none->B.nx ((σ.set 1<|some<|.ref e).set 3 none) (upd U e<|nh e C)⟩ bl l H λ_ _=>False) (λB σ H=>∃c,dw ⟨HQ gy c,E0⟩ (dn c) B σ H),?p,?q⟩
 case p=>
  (conv=>arg 2;whnf)
  exact cX (cY (Dr<|cg xP<|cg xP d9)<|Dg rfl<|pC (uu eM.nd (by nofun)<|by with_unfolding_all exact(UG rfl))<|pC (uu eM.nd (by nofun)<|by with_unfolding_all exact(UG rfl)) zw)
   (cX (HP (iv:=1) (j:=3) rfl rfl rfl rfl eM.nd (by nofun) (by nofun) (by nofun) (by nofun) (by decide) (Lx (i:=0) (k:=14) (t:=λE=>up ⟨gy,E⟩ bl) (by nofun) (by with_unfolding_all exact(UG rfl)) L hk r o d hb (λs H E hr=>hbody _ _ s H E hr)<|hr.mono<|by decide) (by nofun) z (by nofun)<|by nofun) rest)
 case q=>
  refine T4 (by decide) λp Z=>Tt p (Tt [.non,.non]<|T4 rfl<|T4 (ic.of aA)<|T4 rfl<|Tt V.non<|Tt [V.non]<|T4 rfl<|Tt V.non<|Tt []<|T4 rfl<|T4 rfl<|T4 rfl ?_);exact FL (B:={nx:=λ_ H'=>Q .non H',rt:=Q}) (σ:=[some (.ref f),some .non,some .non,none,none]) m u rfl (λe=>⟨_,_,rfl⟩) h Z rfl

theorem iV:aj ["_law_many","_law_fair_so","_law_desk","_law_k"] ["_law_many","_law_fair_so"] (ae<|aH 108):=cp
def d7:XX λW b=>W.cal "_law_tasks" 15 2 b:=⟨bQ 4 _,λW=>bH W.d__law_tasks iV (b2 λ_ _=>rfl) λc d=>by
  apply(af (ua 2 iV.nd<|E6 (by decide) (oF.2 W) (c.mono<|by decide) dy (aa (aD<|aa (aC 0) ad) ad)<|di (uv 1) gx)
   (af (dY 40 QD (by rfl) (o7<|jN (by rfl) W.M.range<|aa (uv 0) ad) (ug 3 iV.nd) (af (ao<|lU (vJ.2 W) W.G.c1 (by decide +kernel) (c.mono<|by decide) dy<|uv 2)
   (ag<|ao<|um (sB W) W.G.c1 c (uv 2)<|aa (uv 3)<|aa (aC 0) ad)))
   (ag<|au<|uv 2)))⟩
theorem fW:aj ["_law_fair_so","_law_desk","_law_due"] ["_law_fair_so"] (ae<|aH 109):=cp
@[reducible] def oH:BS:=(bJ (gH (lQ (nJ 2 d7.1)<|ah (bI 2)<|ah (aE 0) aK)<|a8 1)
 (bJ (fF<|cj 1 7 [.str 66,.bl false] (never aU.1) (aE 1)<|ah (bI 0)<|ah (bI 0)<|ah (bC<|.str 63)<|ah (dF<|ah (bI 5)<|ah (bI 9) aK) aK)
 (bJ (fF<|cj 1 7 [.str 66,.bl false] (never aU.1) (aE 1)<|ah (bI 1)<|ah (bI 0)<|ah (bC<|.str 63)<|ah (dF<|ah (bI 7)<|ah (bC .non) aK) aK)
 (bJ (lR (Ea (bB<|eQ GU (fU 1 7 5 (["wait"]:List Str).length [.dfl (.str 66) (.str "task") (.str "task" 1322),.arg 0] (never aU.1) (aE 1) (ah (bI 0)<|ah (bI 0)<|ah (bC<|.str 2)<|ah (dF<|ah (bI 5)<|ah (bI 9) aK) aK) (ah (bC<|.bl true) aK))<|bI 0)<|bB<|eQ (rS true) (cj 1 2 [] rc.1 (aE 1)<|ah (bI 0) aK)<|dF<|ah (dF<|ah (bI 7)<|ah (bC .non)<|ah (bC<|.str 63)<|ah (bC<|.str 66)<|ah (bI 1) aK) aK)
 (je<|bC<|.bl false)
 iZ)
 (bJ (lR (bB<|eQ (rS true) (nq dn [1]<|fU 1 7 5 (["wait"]:List Str).length [.dfl (.str 66) (.str "task") (.str "task" 1322),.arg 0] aU.1 (aE 0) (ah (bI 1)<|ah (bI 0)<|ah (bC<|.str 2)<|ah (dF<|ah (bI 8)<|ah (bI 9) aK) aK) (ah (bC<|.bl true) aK))<|dF<|ah (bC<|.str 64) aK)
 (je<|bC<|.bl false)
 iZ)
 (bJ (fF<|cj 1 5 [.str 66] cQ.1 (aE 1)<|ah (bI 1)<|ah (bI 0)<|ah (dF<|ah (bI 7)<|ah (bI 9) aK) aK)
 (bJ (gH (dF<|ah (dF<|ah (bI 5)<|ah (bI 9)<|ah (bC<|.str 2)<|ah (bC<|.str 66)<|ah (bI 0) aK)<|ah (dF<|ah (bI 9)<|ah (bC .non)<|ah (bC<|.str 63)<|ah (bC<|.str 66)<|ah (bI 1) aK) aK)<|a8 2)
 (je<|Eb (eQ Oe (cj 1 2 [] bq.1 (aE 1)<|ah (bI 0) aK)<|bC<|.str 36)<|eQ (rS false) (cj 1 2 [] mw.1 (aE 1)<|ah (bC<|.str 0) aK)<|aE 2))))))))
def dc:BF:=bQ 3 oH
theorem oI(W:Wr P w K mg base gy)(l:FK gy):W.cal "_law_upgrades" 17 1 dc:=by
 obtain⟨c,d,u⟩:=W.d__law_upgrades;have z:=pf (mg:=mg) u (W.nTl 1);have hBl:=W.hBl 1 (by decide);obtain⟨I,p,F,m⟩:=W.d__law_heard;have o:cC K p ["_law_deed"] []:=F.binds λ_ _ _ _ _ _ us h=>match us,h with | [_],_=>rfl
 refine vi (n:=1) d fW (hb:=λ_ _ _ _ _ _ us r=>match us,r with | [_],_=>rfl) (hbody:=λf A outer s H E j=>?_);have C:=dC j;apply(af (ua 1 fW.nd<|uc (d7.2 W) j<|aa ai<|aa (uv 0) ad)
   (af (ao<|um (d5<|xI W) W.G.c1 j (uv 1)<|aa ai<|aa ai<|aa (aC 63)<|aa (aD<|aa ai<|aa ai ad) ad)
   (af (ao<|um (d5<|xI W) W.G.c1 j (uv 1)<|aa ai<|aa ai<|aa (aC 63)<|aa (aD<|aa ai<|aa iG ad) ad)
   (af (aX (PW.pt<|gu (a7 jk gw (dH (fc<|jG W) W.G.c1 (by decide +kernel) (j.mono<|by decide) dy (uv 1) (aa ai<|aa ai<|aa (aC 2)<|aa (aD<|aa ai<|aa ai ad) ad)<|di cK gx) ai<|by trivial)<|eV<|a7 (kR<|rH j) fq (um (rc.2 W) W.G.c1 j (uv 1)<|aa ai ad) (aD<|aa (aD<|aa ai<|aa iG<|aa (aC 63)<|aa (aC 66)<|aa ai ad) ad)<|by trivial) (ag<|au cK) aO)
   (af (aX (a7 (kR<|rH j) fq (qH (i:=1) (by decide) W.q1<|lj (xs:=["_law_desk"]) (ix:=[1]) z hBl (by rfl) (by trivial) (by rfl) (by decide +kernel) (by decide +kernel) (by rfl) (λq f c' x hb L=>rg (W.more hb) l F L (by rfl) (by rfl) (by rfl) (by decide +kernel) (by trivial) (λ_ _ _ _ _ j=>(dH (jG<|W.more hb) (W.more hb).G.c1 (by decide +kernel) (j.mono<|by decide) vq (uv 0) (aa ai<|aa ai<|aa (aC 2)<|aa (aD<|aa ai<|aa ai ad) ad) (di cK gx)))) (j.mono<|by decide) m F.kp o) (aD<|aa (aC 64) ad)<|by trivial) (ag<|au cK) aO)
   (af (ao<|um (sE W) W.G.c1 j (uv 1)<|aa ai<|aa ai<|aa (aD<|aa ai<|aa ai ad) ad)
   (af (ua 2 fW.nd<|aD<|aa (aD<|aa ai<|aa ai<|aa (aC 2)<|aa (aC 66)<|aa ai ad)<|aa (aD<|aa ai<|aa iG<|aa (aC 63)<|aa (aC 66)<|aa ai ad) ad)
   (ag<|au<|qa (iH ig eY (um (bq.2 W) W.G.c1 j (uv 1)<|aa ai ad) (aC 36)<|by trivial)<|iI<|iH (yh<|rH j) fq (um (mw.2 W) W.G.c1 j (uv 1)<|aa (aC 0) ad) (uv 2)<|by trivial))))))))
theorem gi:aj ["_law_fair_so","_law_desk","_law_k","_law_task"] ["_law_fair_so"] (ae<|aH 110):=cp
abbrev lC:Q8:=r8 [("_law_number",.local),("_law_desk",.free)]
theorem jI:aR (ae<|aH 110) ["_law_fair_so","_law_desk","_law_k","_law_task"] lC ["_law_number","_law_desk"] [none,some 1]:=r9
abbrev lD:Q8:=r8 [("_law_number",.local),("_law_desk",.free)]
theorem jJ:aR (ae<|aH 110) ["_law_fair_so","_law_desk","_law_k","_law_task"] lD ["_law_number","_law_desk"] [none,some 1]:=r9
@[reducible] def vP:BS:=(bJ (gH (lQ (nJ 2 d7.1)<|ah (bI 1)<|ah (aE 0) aK)<|a8 1)
 (bJ (fF<|fU 1 7 5 (["by"]:List Str).length [.arg 0,.dfl (.bl false) (.bl false) (.bool false)] (never aU.1) (aE 1) (ah (bI 0)<|ah (bI 0)<|ah (bC<|.str 2)<|ah (dF<|ah (bI 0)<|ah (bI 3) aK) aK) (ah (bC<|.str 45) aK))
 (bJ (lR (bB<|eQ (rS true) (nq dn [1]<|fU 1 7 5 (["wait"]:List Str).length [.dfl (.str 66) (.str "task") (.str "task" 1322),.arg 0] aU.1 (aE 0) (ah (bI 0)<|ah (bI 0)<|ah (bC<|.str 63)<|ah (dF<|ah (bI 2)<|ah (bI 3) aK) aK) (ah (bC<|.bl true) aK))<|dF<|ah (bC<|.str 64) aK)
 (je<|bC<|.bl false)
 iZ)
 (bJ (fF<|cj 1 2 [] g6.1 (aE 1)<|ah (bI 0) aK)
 (bJ (lR (Ea (bB<|eQ GU (fU 1 7 5 (["wait"]:List Str).length [.dfl (.str 66) (.str "task") (.str "task" 1322),.arg 0] (never aU.1) (aE 1) (ah (bI 0)<|ah (bI 0)<|ah (bC<|.str 63)<|ah (dF<|ah (bI 2)<|ah (bI 3) aK) aK) (ah (bC<|.bl true) aK))<|bI 0)<|GN<|bB<|cj 1 2 [] a5.1 (aE 1)<|ah (bI 0) aK)
 (je<|bC<|.bl false)
 iZ)
 (bJ (fF<|cj 1 3 [] gh.1 (aE 1)<|ah (bI 1)<|ah (bI 0) aK)
 (bJ (lR (Ea (bB<|eQ GU (cj 1 2 [] bq.1 (aE 1)<|ah (bI 0) aK)<|bC<|.str 64)<|Ea (bB<|cj 1 2 [] a5.1 (aE 1)<|ah (bI 0) aK)<|bB<|eQ (rS true) (cj 1 1 [] g7.1 (aE 1) aK)<|dF aK)
 (je<|bC<|.bl false)
 iZ)
 (bJ (wC 40 (mR<|ah (bI 3) aK) (a8 2)
 (fF<|cj 1 2 [] g6.1 (aE 1)<|ah (bI 0) aK))
 (bJ (wC 40 (Ag<|dF<|ah (bI 0)<|ah (bI 2)<|ah (bI 3) aK) (a8 3)
 (fF<|fU 1 7 5 (["wait"]:List Str).length [.dfl (.str 66) (.str "task") (.str "task" 1322),.arg 0] (never aU.1) (aE 1) (ah (aE 3)<|ah (bI 0)<|ah (bC<|.str 63)<|ah (dF<|ah (bI 0)<|ah (bI 1) aK) aK) (ah (bC<|.bl true) aK)))
 (bJ (fF<|cj 1 3 [] gh.1 (aE 1)<|ah (bI 4)<|ah (bI 0) aK)
 (bJ (lR (Ea (bB<|eQ (rS true) (M4 40 [none,some 1] (Ag<|dF<|ah (bI 1)<|ah (bI 2)<|ah (bI 3) aK) (a8 0) KZ<|cj 1 2 [] bq.1 (aE 1)<|ah (aE 0) aK)<|yt<|ah (bC<|.str 74)<|ah (bC<|.str 74)<|ah (bC<|.str 64) aK)<|bB<|cj 1 2 [] a5.1 (aE 1)<|ah (bI 3) aK)
 (je<|bC<|.bl false)
 iZ)
 (bJ (fF<|fU 1 5 4 (["by"]:List Str).length [.arg 0] cQ.1 (aE 1) (ah (bI 3)<|ah (bI 0)<|ah (dF<|ah (bI 0)<|ah (bI 3) aK) aK) (ah (bC<|.str 45) aK))
 (je<|eQ (rS false) (M4 40 [none,some 1] (Ag<|dF<|ah (bI 1)<|ah (bI 2)<|ah (bI 3) aK) (a8 0) KZ<|cj 1 2 [] bq.1 (aE 1)<|ah (aE 0) aK)<|yt<|ah (bC<|.str 36)<|ah (bC<|.str 36)<|ah (bC<|.str 64) aK)))))))))))))
def fO:BF:=bQ 4 vP
theorem vQ(W:Wr P w K mg base gy)(l:FK gy):W.cal "_law_marks" 17 1 fO:=by
 obtain⟨c,d,u⟩:=W.d__law_marks;have z:=pf (mg:=mg) u (W.nTl 2);have hBl:=W.hBl 2 (by decide);obtain⟨I,p,F,m⟩:=W.d__law_heard;have o:cC K p ["_law_deed"] []:=F.binds λ_ _ _ _ _ _ us h=>match us,h with | [_],_=>rfl
 refine vi (n:=1) d gi (hb:=λ_ _ _ _ _ _ us r=>match us,r with | [_],_=>rfl) (hbody:=λf A outer s H E j=>?_);have C:=dC j;apply(af (ua 1 gi.nd<|uc (d7.2 W) j<|aa ai<|aa (uv 0) ad)
   (af (ao<|dH (fc<|xJ W) W.G.c1 (by decide +kernel) (j.mono<|by decide) dy (uv 1) (aa ai<|aa ai<|aa (aC 2)<|aa (aD<|aa ai<|aa ai ad) ad)<|di (aC 45) gx)
   (af (aX (a7 (kR<|rH j) fq (qH (i:=2) (by decide) W.q2<|lj (xs:=["_law_desk"]) (ix:=[1]) z hBl (by rfl) (by trivial) (by rfl) (by decide +kernel) (by decide +kernel) (by rfl) (λq f c' x hb L=>rg (W.more hb) l F L (by rfl) (by rfl) (by rfl) (by decide +kernel) (by trivial) (λ_ _ _ _ _ j=>(dH (jG<|W.more hb) (W.more hb).G.c1 (by decide +kernel) (j.mono<|by decide) vq (uv 0) (aa ai<|aa ai<|aa (aC 63)<|aa (aD<|aa ai<|aa ai ad) ad) (di cK gx)))) (j.mono<|by decide) m F.kp o) (aD<|aa (aC 64) ad)<|by trivial) (ag<|au cK) aO)
   (af (ao<|um (g6.2 W) W.G.c1 j (uv 1)<|aa ai ad)
   (af (aX (PW.pt<|gu (a7 jk gw (dH (fc<|jG W) W.G.c1 (by decide +kernel) (j.mono<|by decide) dy (uv 1) (aa ai<|aa ai<|aa (aC 63)<|aa (aD<|aa ai<|aa ai ad) ad)<|di cK gx) ai<|by trivial)<|eV<|gv<|cA<|um (a5.2 W) W.G.c1 j (uv 1)<|aa ai ad) (ag<|au cK) aO)
   (af (ao<|um (gh.2 W) W.G.c1 j (uv 1)<|aa ai<|aa ai ad)
   (af (aX (PW.pt<|gu (a7 jk gw (um (bq.2 W) W.G.c1 j (uv 1)<|aa ai ad) (aC 64)<|by trivial)<|gu (cA<|um (a5.2 W) W.G.c1 j (uv 1)<|aa ai ad)<|eV<|a7 (kR<|rH j) fq (lU (g7.2 W) W.G.c1 (by decide +kernel) (j.mono<|by decide) dy<|uv 1) (aD ad)<|by trivial) (ag<|au cK) aO)
   (af (dY 40 QD (by rfl) (o7<|jN (by rfl) W.M.range<|aa ai ad) (ug 2 gi.nd)<|ag<|ao<|um (g6.2 W) W.G.c1 j (uv 1)<|aa ai ad)
   (af (dY 40 QD (by rfl) (cT<|cS<|aD<|aa ai<|aa ai<|aa ai ad) (ug 3 gi.nd)<|ag<|ao<|dH (fc<|jG W) W.G.c1 (by decide +kernel) (j.mono<|by decide) dy (uv 1) (aa (uv 3)<|aa ai<|aa (aC 63)<|aa (aD<|aa ai<|aa ai ad) ad)<|di cK gx)
   (af (ao<|um (gh.2 W) W.G.c1 j (uv 1)<|aa ai<|aa ai ad)
   (af (aX (PW.pt<|gu (a7 (kR<|rH j) fq (iw 40 (by decide)<|gJ (by rfl) (by with_unfolding_all exact jI) (cT<|cS<|aD<|aa ai<|aa ai<|aa ai ad) (λ_ _ _ _ _=>(ug 0 jI.nd)) (λ_ _ _ _ _=>cD)<|λ_ _ _ _ _=>(um (bq.2 W) W.G.c1 j (uv 1)<|aa (uv 0) ad)) (dW<|aa (aC 74)<|aa (aC 74)<|aa (aC 64) ad)<|by trivial)<|eV<|cA<|um (a5.2 W) W.G.c1 j (uv 1)<|aa ai ad) (ag<|au cK) aO)
   (af (ao<|dH (CU W) W.G.c1 (by decide +kernel) (j.mono<|by decide) dy (uv 1) (aa ai<|aa ai<|aa (aD<|aa ai<|aa ai ad) ad)<|di (aC 45) gx)
   (ag<|au<|iH (yh<|rH j) fq (iw 40 (by decide)<|gJ (by rfl) (by with_unfolding_all exact jJ) (cT<|cS<|aD<|aa ai<|aa ai<|aa ai ad) (λ_ _ _ _ _=>(ug 0 jJ.nd)) (λ_ _ _ _ _=>cD)<|λ_ _ _ _ _=>(um (bq.2 W) W.G.c1 j (uv 1)<|aa (uv 0) ad)) (dW<|aa (aC 36)<|aa (aC 36)<|aa (aC 64) ad)<|by trivial)))))))))))))
theorem fX:aj ["_law_script","_law_town","_law_many","_law_fair_so","_law_by_so","_law_desk","_law_far","_law_k","_law_kind","_law_first","_law_last"] ["_law_script"] (ae<|aH 111):=cp
@[reducible] def rh:BS:=(gH (eQ mL (bI 2)<|nU<|ah (aE 0)<|ah (aE 1)<|ah (bI 4) aK)<|a8 2)
@[reducible] def rj:BS:=(gH (eQ Oe (nU<|ah (aE 0)<|ah (aE 1)<|ah (bI 2) aK)<|bI 0)<|a8 3)
@[reducible] def rm:BS:=(gH (eQ Aa (yt<|ah (bC<|.str 66)<|ah (bC<|.str 45) aK)<|nU<|ah (aE 0)<|ah (aE 1)<|ah (bI 2) aK)<|a8 4)
@[reducible] def jK:BS:=(gH (dF<|ah (lQ (nJ 2 d7.1)<|ah (aE 2)<|ah (aE 3) aK)<|ah (zd<|ah (aE 0)<|ah (aE 1)<|ah (bI 5000) aK) aK)<|qf 2<|jx (a8 5)<|jx (a8 6) Ae)
@[reducible] def jL:BS:=(wC 40 (mR<|ah (aE 2) aK) (a8 7)
 (fF<|fU 1 7 5 (["by"]:List Str).length [.arg 0,.dfl (.bl false) (.bl false) (.bool false)] (never aU.1) (aE 5) (ah (aE 7)<|ah (bI 0)<|ah (bC<|.str 2)<|ah (dF<|ah (eQ mL (aE 6)<|eQ BC (bI 10)<|aE 7)<|ah (eQ mL (eQ mL (aE 6)<|eQ BC (bI 10)<|aE 7)<|bI 5) aK) aK) (ah (aE 4) aK)))
@[reducible] def jM:BS:=(wC 40 (mR<|ah (eQ yv (aE 2)<|bI 1) aK) (a8 7)
 (bJ (KW 8 9<|ah (eQ Aa (yt<|ah (bC<|.str 63)<|ah (bC<|.str 2) aK)<|nU<|ah (aE 0)<|ah (aE 1)<|ah (bI 2) aK)<|ah (eQ mL (eQ mL (aE 6)<|eQ BC (bI 10)<|aE 7)<|bI 12) aK)
 (lR (Ea (bB<|eQ GU (fU 1 7 5 (["by","wait"]:List Str).length [.arg 0,.arg 1] (never aU.1) (aE 5) (ah (aE 7)<|ah (bI 0)<|ah (aE 8)<|ah (dF<|ah (aE 9)<|ah (eQ mL (aE 9)<|bI 1) aK) aK) (ah (aE 4)<|ah (bC<|.bl true) aK))<|aE 7)<|GN<|bB<|cj 1 2 [] a5.1 (aE 5)<|ah (aE 7) aK)
 (je<|bC<|.bl false)
 iZ)))
@[reducible] def rq:BS:=(gH (eQ yv (aE 2)<|bI 1)<|a8 10)
@[reducible] def rA:BS:=(lR (bB<|eQ (rS true) (nq dn [10,6,5,4]<|fU 1 7 5 (["by","wait"]:List Str).length [.arg 0,.arg 1] aU.1 (aE 2) (ah (aE 0)<|ah (bI 0)<|ah (bC<|.str 63)<|ah (dF<|ah (aE 1)<|ah (eQ mL (aE 1)<|bI 1) aK) aK) (ah (aE 3)<|ah (bC<|.bl true) aK))<|dF<|ah (bC<|.str 64) aK)
 (je<|bC<|.bl false)
 iZ)
@[reducible] def rB:BS:=(lR (Ea (bB<|eQ GU (KN Em<|ah (cj 1 1 [] g7.1 (aE 5) aK) aK)<|aE 10)<|bB<|eQ GU (eQ Aa (cj 1 1 [] kH.1 (aE 5) aK)<|bI 0)<|aE 10)
 (je<|bC<|.bl false)
 iZ)
@[reducible] def nA:BS:=(wC 40 (FI<|ah (aE 10)<|ah (bI 0)<|ah (BR<|bI 1) aK) (a8 7)
 (bJ (fF<|cj 1 2 [] qY.1 (aE 5)<|ah (aE 7) aK)
 (lR (Ea (bB<|eQ GU (cj 1 2 [] bq.1 (aE 5)<|ah (eQ yv (aE 7)<|bI 1) aK)<|bC<|.str 36)<|bB<|cj 1 2 [] a5.1 (aE 5)<|ah (eQ yv (aE 7)<|bI 1) aK)
 (je<|bC<|.bl false)
 iZ)))
@[reducible] def nB:BS:=(je<|Eb (FJ 1<|ah (aE 3) aK)<|FJ 1<|ah (aE 3) aK)
@[reducible] def zn:BS:=(bJ rh<|bJ rj<|bJ rm<|bJ jK<|bJ jL<|bJ jM<|bJ rq<|bJ rA<|bJ rB<|bJ nA nB)
def cN:Ds:=⟨λ_ _=>false,λv _=>match v with
 | .bl true=>true
 | _=>false,λ_ _=>false,λ_ _=>false⟩
def LH:dJ:=⟨some (.ext 11)::some (.ext 12)::wE 9,λ_ _ _=>false⟩
def FW:Bool:=zn cN LH ⟨0,false,.lf⟩
abbrev oJ(P:QK)(w:Q4)(K:P7)(mg:Str->Option P0)(base:QO)(f:P3)(c:P0)(A:RN)(outer:List Env)(s:P5)(H:Hp)(E:XK):Cx:=(bT eT P w K mg base ["_law_script","_law_town","_law_many","_law_fair_so","_law_by_so","_law_desk","_law_far","_law_k","_law_kind","_law_first","_law_last"] "law" (ae<|aH 111) f c A outer s H E).nox
def du(i:Nat):SK:=(aW<|aH 111).getD i (.Pass ⟨0,0,0,0⟩)
theorem rC(W:Wr P w K mg base gy):Jc P w K mg base "_law_draw" 1 ["_law_script","_law_town","_law_many"] (m8 K):=HH W.d__law_draw W.M.toMods
variable{c:P3}{f:P3}{outer:List Env}{E:XK}(W:Wr P w K mg base gy)(hr:a9 17 (A.deeper (Su "law" (ae (aH 111)) s.heap.objs.size f (.ref c))))(hd:∀F,gy.dr F->tZ K F)(w_own:FK gy)(LK:D7 K mg c (gy.tl 0))(cl_law_upgrades:km dc)(cl_law_marks:km fO)
include W hr hd w_own LK cl_law_upgrades cl_law_marks
theorem NB:PS (oJ P w K mg base f (.ref c) A outer s H E) (du 1) (dw ⟨gy,E⟩ rh):=by
 have d:=dC hr;apply(ua 2 fX.nd<|cE fR fm ai<|ph (rC W) hd (hr.mono<|by decide)<|aa (uv 0)<|aa (uv 1)<|aa ai ad)
theorem NC:PS (oJ P w K mg base f (.ref c) A outer s H E) (du 2) (dw ⟨gy,E⟩ rj):=by
 have d:=dC hr;apply(ua 3 fX.nd<|iH ig eY (ph (rC W) hd (hr.mono<|by decide)<|aa (uv 0)<|aa (uv 1)<|aa ai ad) ai<|by trivial)
theorem ND:PS (oJ P w K mg base f (.ref c) A outer s H E) (du 3) (dw ⟨gy,E⟩ rm):=by
 have d:=dC hr;apply(ua 4 fX.nd<|a6 (dW<|aa (aC 66)<|aa (aC 45) ad) (ph (rC W) hd (hr.mono<|by decide)<|aa (uv 0)<|aa (uv 1)<|aa ai ad)<|by trivial)
theorem NE:PS (oJ P w K mg base f (.ref c) A outer s H E) (du 4) (dw ⟨gy,E⟩ jK):=by
 have d:=dC hr;apply(dX<|cY (aD<|aa (uc (d7.2 W) hr<|aa (uv 2)<|aa (uv 3) ad)<|aa (Fy (rC W) hd (hr.mono<|by decide)<|aa (uv 0)<|aa (uv 1)<|aa ai ad) ad)<|bN (n:=2) (by rfl)<|am (ug 5 fX.nd)<|am (ug 6 fX.nd) bf)
theorem NF:PS (oJ P w K mg base f (.ref c) A outer s H E) (du 5) (dw ⟨gy,E⟩ jL):=by
 have d:=dC hr;apply(dY 40 QD (by rfl) (o7<|jN (by rfl) W.M.range<|aa (uv 2) ad) (ug 7 fX.nd)<|ag<|ao<|dH (fc<|xJ W) W.G.c1 (by decide +kernel) (hr.mono<|by decide) dy (uv 5) (aa (uv 7)<|aa ai<|aa (aC 2)<|aa (aD<|aa (cE fR fm (uv 6)<|cE pF uO ai<|uv 7)<|aa (cE fR fm (cE fR fm (uv 6)<|cE pF uO ai<|uv 7) ai) ad) ad)<|di (uv 4) gx)
theorem NG:PS (oJ P w K mg base f (.ref c) A outer s H E) (du 6) (dw ⟨gy,E⟩ jM):=by
 have d:=dC hr;apply(dY 40 QD (by rfl) (o7<|jN (by rfl) W.M.range<|aa (cE uw oV (uv 2) ai) ad) (ug 7 fX.nd) (af (Ep<|Dh (i:=8) (j:=9) (by rfl) fX.nd (by rfl) (by rfl) (by decide) (by rfl) (by rfl) (aa (a6 (dW<|aa (aC 63)<|aa (aC 2) ad) (ph (rC W) hd (hr.mono<|by decide)<|aa (uv 0)<|aa (uv 1)<|aa ai ad)<|by trivial)<|aa (cE fR fm (cE fR fm (uv 6)<|cE pF uO ai<|uv 7) ai) ad)<|by rfl)
   (ag<|aX (PW.pt<|gu (a7 jk gw (dH (fc<|xK W) W.G.c1 (by decide +kernel) (hr.mono<|by decide) dy (uv 5) (aa (uv 7)<|aa ai<|aa (uv 8)<|aa (aD<|aa (uv 9)<|aa (cE fR fm (uv 9) ai) ad) ad)<|di (uv 4)<|di cK gx) (uv 7)<|by trivial)<|eV<|gv<|cA<|um (a5.2 W) W.G.c1 hr (uv 5)<|aa (uv 7) ad) (ag<|au cK) aO)))
theorem NH:PS (oJ P w K mg base f (.ref c) A outer s H E) (du 7) (dw ⟨gy,E⟩ rq):=by
 have d:=dC hr;apply(ua 10 fX.nd<|cE uw oV (uv 2) ai)
theorem NI:PS (oJ P w K mg base f (.ref c) A outer s H E) (du 8) (dw ⟨gy,E⟩ rA):=by
 have p:=dC hr;have hBl:=W.hBl 0 (by decide);obtain⟨q,l,F,d⟩:=W.d__law_heard;have j:cC K l ["_law_deed"] []:=F.binds λ_ _ _ _ _ _ us h=>match us,h with | [_],_=>rfl
 apply(aX (a7 (kR<|rH hr) fq (qH (i:=0) (by decide) W.q0<|lj (xs:=["_law_last","_law_far","_law_desk","_law_by_so"]) (ix:=[10,6,5,4]) LK hBl (by rfl) (by trivial) (by rfl) (by decide +kernel) (by decide +kernel) (by rfl) (λm f c' o hb L=>rg (W.more hb) w_own F L (by rfl) (by rfl) (by rfl) (by decide +kernel) (by trivial) (λ_ _ _ _ _ hr=>(dH (xK<|W.more hb) (W.more hb).G.c1 (by decide +kernel) (hr.mono<|by decide) vq (uv 2) (aa (uv 0)<|aa ai<|aa (aC 63)<|aa (aD<|aa (uv 1)<|aa (cE fR fm (uv 1) ai) ad) ad) (di (uv 3)<|di cK gx)))) (hr.mono<|by decide) d F.kp j) (aD<|aa (aC 64) ad)<|by trivial) (ag<|au cK) aO)
theorem NJ:PS (oJ P w K mg base f (.ref c) A outer s H E) (du 9) (dw ⟨gy,E⟩ rB):=by
 have d:=dC hr;apply(aX (PW.pt<|gu (a7 jk gw (bo dh f9 (by rfl) W.M.len Se<|aa (lU (g7.2 W) W.G.c1 (by decide +kernel) (hr.mono<|by decide) dy<|uv 5) ad) (uv 10)<|by trivial)<|eV<|a7 jk gw (a6 (lU (kH.2 W) W.G.c1 (by decide +kernel) (hr.mono<|by decide) dy<|uv 5) ai<|by trivial) (uv 10)<|by trivial) (ag<|au cK) aO)
theorem LI:PS (oJ P w K mg base f (.ref c) A outer s H E) (du 10) (dw ⟨gy,E⟩ nA):=by
 have d:=dC hr;apply(dY 40 QD (by rfl) (HX<|HW (by rfl) W.M.range<|aa (uv 10)<|aa ai<|aa (mW ai) ad) (ug 7 fX.nd) (af (ao<|um (qY.2 W) W.G.c1 hr (uv 5)<|aa (uv 7) ad)
   (ag<|aX (PW.pt<|gu (a7 jk gw (um (bq.2 W) W.G.c1 hr (uv 5)<|aa (cE uw oV (uv 7) ai) ad) (aC 36)<|by trivial)<|eV<|cA<|um (a5.2 W) W.G.c1 hr (uv 5)<|aa (cE uw oV (uv 7) ai) ad) (ag<|au cK) aO)))
theorem LJ:PS (oJ P w K mg base f (.ref c) A outer s H E) (du 11) (dw ⟨gy,E⟩ nB):=by
 have d:=dC hr;apply(au<|qa (AT (oI W w_own) cl_law_upgrades hr<|aa (uv 3) ad)<|iI<|AT (vQ W w_own) cl_law_marks hr<|aa (uv 3) ad)
theorem Ii:gC (oJ P w K mg base f (.ref c) A outer s H E) [du 1,du 2,du 3,du 4,du 5,du 6,du 7,du 8,du 9,du 10,du 11] (dw ⟨gy,E⟩ zn) :=
 (af (NB W hr hd w_own LK cl_law_upgrades cl_law_marks)<|af (NC W hr hd w_own LK cl_law_upgrades cl_law_marks)<|af (ND W hr hd w_own LK cl_law_upgrades cl_law_marks)<|af (NE W hr hd w_own LK cl_law_upgrades cl_law_marks)<|af (NF W hr hd w_own LK cl_law_upgrades cl_law_marks)<|af (NG W hr hd w_own LK cl_law_upgrades cl_law_marks)<|af (NH W hr hd w_own LK cl_law_upgrades cl_law_marks)<|af (NI W hr hd w_own LK cl_law_upgrades cl_law_marks)<|af (NJ W hr hd w_own LK cl_law_upgrades cl_law_marks)<|af (LI W hr hd w_own LK cl_law_upgrades cl_law_marks)<|ag<|LJ W hr hd w_own LK cl_law_upgrades cl_law_marks)
end
def LL(gy:Gy)(a t r:P3)(xs:List V)(H1:Hp):Fx where
 ext:=λi=>if i<11 then .ref (gy.fe i) else if i=11 then .ref a else if i=12 then .ref t else .bl true
 own:=λb=>b=t∨b=r∨b=gy.tT∨(b=a/\Rd H1 a (.lst xs))∨∃i,i<3/\b=gy.tl i
 J:=λH=>(Rd H1 a (.lst xs)->H a=H1 a)/\li H t r/\lN H gy.tT gy.tP gy.tQ/\∀i,i<3->iX H (gy.tl i) (gy.tq i)
 st:=λH I ⟨p,m,l,j⟩ k=>by
  refine⟨λz=>?_,?_,?_,λi h=>?_⟩
  ·have e:=p z;rw[<-e];rcases z with z | ⟨o,z⟩
   ·rw[z] at e;rw[e];exact k a _ (.inl<|.inr<|.inr<|.inr<|.inl ⟨rfl,.inl z⟩) e
   ·rw[z] at e;rw[e];exact k a _ (.inl<|.inr<|.inr<|.inr<|.inl ⟨rfl,.inr ⟨o,z⟩⟩) e
  ·obtain⟨ne,⟨c,h1⟩,kvs,f,d⟩:=m;exact⟨ne,⟨c,k _ _ (.inl<|.inl rfl) h1⟩,kvs,k _ _ (.inl<|.inr<|.inl rfl) f,d⟩
  ·obtain⟨ps,h1,f,d⟩:=l;exact⟨ps,k _ _ (.inl<|.inr<|.inr<|.inl rfl) h1,f,d.imp id λ⟨c',d,q⟩=>⟨c',d,k _ _ (.inr ⟨_,rfl⟩) q⟩⟩
  ·obtain⟨ps,h1,f,d⟩:=j i h;exact⟨ps,k _ _ (.inl<|.inr<|.inr<|.inr<|.inr ⟨i,h,rfl⟩) h1,f,λpos C e=>let ⟨c',x,u⟩:=d pos C e;⟨c',x,k _ _ (.inr ⟨_,rfl⟩) u⟩⟩
theorem FX{H i:Hp}{P T:P3}{f:Pos}{q:Str}(h:lN H T f q)(n:T≠P)(hP:∃ps,H P=some (.tbl ps))(s:∀b o,b≠P->H b=some o->i b=some o):lN i T f q:=by
 obtain⟨ps,h1,l,d⟩:=h;obtain⟨qs,j⟩:=hP;exact⟨ps,s _ _ n h1,l,d.imp id λ⟨c',d,c⟩=>⟨c',d,s _ _ (λz=>by rw[z,j] at c;cases c) c⟩⟩
theorem uq{H d:Hp}{P T:P3}{q:Str}(h:iX H T q)(n:T≠P)(hP:∃ps,H P=some (.tbl ps))(s:∀b o,b≠P->H b=some o->d b=some o):iX d T q:=by
 obtain⟨ps,h1,j,i⟩:=h;obtain⟨qs,f⟩:=hP;exact⟨ps,s _ _ n h1,j,λpos m e=>let ⟨c',l,c⟩:=i pos m e;⟨c',l,s _ _ (λz=>by rw[z,f] at c;cases c) c⟩⟩
theorem FY{H1:Hp}{a:P3}{o:HO}(z:Rd H1 a (.lst xs))(e:H1 a=some o):(∀kvs,o≠.dK kvs)/\∀ps,o≠.tbl ps:=by
 rcases z with z | ⟨c,z⟩
 ·rw[z] at e;cases e;exact⟨λ_ w=>(nomatch w),λ_ w=>(nomatch w)⟩
 ·rw[z] at e;cases e;exact⟨λ_ w=>(nomatch w),λ_ w=>(nomatch w)⟩
theorem vR{H1:Hp}{a:P3}(z:Rd H1 a (.lst xs)):∃o,H1 a=some o:=by
 rcases z with z | ⟨c,z⟩
 ·exact⟨_,z⟩
 ·exact⟨_,z⟩
theorem NK{H H1:Hp}{a:P3}(h:ie K H1 a xs)(j:Rd H1 a (.lst xs)->H a=H1 a):ie K H a xs:=by
 rcases h with h | h
 ·have e:=j h;refine .inl ?_;rcases h with h | ⟨o,h⟩
  ·exact .inl (e.trans h)
  ·exact .inr ⟨o,e.trans h⟩
 ·exact .inr h
section
variable{E:XK}{a t r:P3}{ns:List Int}{H1:Hp}
theorem JI{P:P3}{H h:Hp}(hP:∃ps,H P=some (.tbl ps))(l:Rd H1 a (.lst xs)->H a=H1 a)(j:li H t r)(k:∀b o,b≠P->H b=some o->h b=some o):(Rd H1 a (.lst xs)->h a=H1 a)/\li h t r:=by
 obtain⟨ps,h0⟩:=hP;refine⟨λz=>?_,?_⟩
 ·have e:=l z;obtain⟨o,ho⟩:=vR z;have i:=FY z ho;have f:H a=some o:=e.trans ho;rw[ho];exact k a o (λw=>by rw[w,h0] at f;cases f;exact i.2 _ rfl) f
 ·obtain⟨ne,⟨c,h1⟩,kvs,d,m⟩:=j;exact⟨ne,⟨c,k _ _ (λw=>by rw[w,h0] at h1;cases h1) h1⟩,kvs,k _ _ (λw=>by rw[w,h0] at d;cases d) d,m⟩
theorem FZ(Z:ie K H1 a (TB V.int ns))(hn:ns.length≤63):xq K (LL gy a t r (TB V.int ns) H1):=by
 refine⟨⟨a,ns,t,r,rfl,rfl,.inl rfl,.inr<|.inl rfl,λH ⟨j1,d,m⟩=>⟨NK Z j1,hn,d⟩,λH H' ⟨j1,d,m,p⟩ T' j=>⟨λz=>?_,T',?_,λi q=>?_⟩⟩,λH H' ⟨j1,d,m,p⟩ ⟨Y,i2,i3,i4⟩ b o u w h=>?_⟩
 ·have e:=j1 z;obtain⟨o,ho⟩:=vR z;have I:=FY z ho;have C:H a=some o:=e.trans ho;rw[ho];exact j a o C (d.notL C I.1).1 (d.notL C I.1).2
 ·obtain⟨ps,h1,x,l⟩:=m;exact⟨ps,j _ _ h1 (d.notL h1 λ_ z=>nomatch z).1 (d.notL h1 λ_ z=>nomatch z).2,x,l.imp id λ⟨c',l,f⟩=>⟨c',l,j _ _ f (d.notL f λ_ z=>nomatch z).1 (d.notL f λ_ z=>nomatch z).2⟩⟩
 ·obtain⟨ps,h1,x,l⟩:=p i q;exact⟨ps,j _ _ h1 (d.notL h1 λ_ z=>nomatch z).1 (d.notL h1 λ_ z=>nomatch z).2,x,λpos cv e=>let ⟨c',e1,f⟩:=l pos cv e;⟨c',e1,j _ _ f (d.notL f λ_ z=>nomatch z).1 (d.notL f λ_ z=>nomatch z).2⟩⟩
 ·obtain⟨_,⟨c,U⟩,kvs,Q,_⟩:=d;obtain⟨ps,O,_⟩:=m;rcases w with rfl | rfl | rfl | ⟨rfl,z⟩ | ⟨i,q,rfl⟩
  ·rw[U] at h;cases h
  ·rw[Q] at h;cases h
  ·rw[O] at h;cases h
  ·rw[Y z,<-j1 z];exact h
  ·obtain⟨qs,L,_⟩:=p i q;rw[L] at h;cases h
structure AY(gy:Gy):Prop where
 a:∀i,i<3->gy.tl i≠gy.tT
 b:∀i j,i<3->j<3->i≠j->gy.tl i≠gy.tl j
theorem Ij(u:AY gy)(C:ie K H1 a (TB V.int ns))(hn:ns.length≤63)(hd:∀F,xq K F->gy.dr F):GK ⟨gy,E⟩ (LL gy a t r (TB V.int ns) H1):=by
 refine⟨hd _<|FZ C hn,.inr<|.inr<|.inl rfl,λH ⟨m,l,f,d⟩=>f,λH I ⟨m,l,f,d⟩ q k=>?_,λi c=>.inr (.inr<|.inr<|.inr ⟨i,c,rfl⟩),λi c H ⟨m,l,f,d⟩=>d i c,λi c H I ⟨m,l,f,d⟩ q k=>?_⟩
 ·have hP:∃ps,H gy.tT=some (.tbl ps):=let ⟨ps,h,_⟩:=f;⟨ps,h⟩;obtain⟨p,o⟩:=JI hP m l k;exact⟨p,o,q,λi c=>uq (d i c) (u.a i c) hP k⟩
 ·have hP:∃ps,H (gy.tl i)=some (.tbl ps):=let ⟨ps,h,_⟩:=d i c;⟨ps,h⟩;obtain⟨p,o⟩:=JI hP m l k;refine⟨p,o,FX f (λz=>u.a i c z.symm) hP k,λj x=>?_⟩;by_cases z:j=i
  ·subst z;exact q
  ·exact uq (d j x) (u.b j i x c z) hP k
end
def AZ(K:P7)(gy:Gy):Sp:=λvs H Q _=>∃a ns,vs=[.ref a]/\ie K H a (TB V.int ns)/\ns.length≤63/\lN H gy.tT vh o9/\(∀i,i<3->iX H (gy.tl i) (gy.tq i))/\∀c,Q (.bl true) c
section
theorem LM{f c:P3}{oc kV doc O ct:P0}{od Z:Option P3}(W:Wr P w K mg base gy)(hd:gy.dr=xq K)(hA:AY gy)(lk:K.lookup f=some ⟨oc,od,.func<|Q1 "law" "law" (bL<|aH 111) (aW<|aH 111) (ae<|aH 111) .none kV doc O Z (.ref c) ct,osl⟩)(x:RM K (.ref c) "law" = true)(hc:Sm K c (gy.tl 0)=true)(c1:km dc)(c2:km fO)(hb:FW=true) :
  bS P w K mg base eT 18 f (Q1 "law" "law" (bL<|aH 111) (aW<|aH 111) (ae<|aH 111) .none kV doc O Z (.ref c) ct) ["_law_script"] (AZ K gy):=by
 have LK:=pf (mg:=mg) hc (W.nTl 0);refine zB lk x fX (λvs H Q E h=>?_) (λA outer s H vs Q E hr h=>?_)
 ·obtain⟨a,ns,rfl,_⟩:=h;rfl
 ·obtain⟨a,ns,rfl,hS,u,lam,m,k⟩:=h;refine⟨Dc (jj (kh AL [] E0 mF)<|fY 1)<|dw ⟨gy,E⟩ zn,?_,?_⟩
  ·have rest:=Ii (E:=E) (H:=H) (outer:=outer) W hr (λF h=>by rw[hd] at h;exact h.1) (λF h=>by rw[hd] at h;exact h.2) LK c1 c2;have l:=gC.nox rest
   (conv=>arg 2;whnf)
   exact cX (PS.nox<|kM fX.nd (by nofun) (by with_unfolding_all exact(UG rfl))<|GC (Ft W.d__law_begun W.M.toMods)<|hr.mono<|by decide) l
  ·simp only[zU,zV,D2,zW,Zu];refine⟨rfl,λt r H1 T1 s1 Y U=>?_⟩;simp only[wl];have I:ie K H1 a (TB V.int ns):=by
    rcases hS with (h | ⟨o,h⟩) | h
    ·exact .inl (.inl<|s1 _ _ h)
    ·exact .inl (.inr ⟨o,s1 _ _ h⟩)
    ·exact .inr h
   have j:lN H1 gy.tT gy.tP gy.tQ:=by
    rw[W.hP,W.hQ];obtain⟨ps,h1,L,q⟩:=lam;exact⟨ps,s1 _ _ h1,L,q.imp id λ⟨c',q,h4⟩=>⟨c',q,s1 _ _ h4⟩⟩
   have d:∀i,i<3->iX H1 (gy.tl i) (gy.tq i):=λi p=>by
    obtain⟨ps,h1,L,q⟩:=m i p;exact⟨ps,s1 _ _ h1,L,λpos cv e=>let ⟨c',Y,U⟩:=q pos cv e;⟨c',Y,s1 _ _ U⟩⟩
   refine⟨LL gy a t r (TB V.int ns) H1,none,[],⟨0,false,.lf⟩,LH,cN,?_,⟨?_,?_⟩,hb,?_,?_,?_,?_⟩
   ·refine⟨rfl,rfl,λ_ h=>(nomatch h),Tf,λi c e=>by simp at e,λ_ h=>(nomatch h),λi p=>if_pos p,λb w=>?_,⟨λ_=>rfl,T1,j,d⟩,Ij hA I u<|λF h=>by rw[hd];exact h⟩;obtain⟨_,⟨c,t1⟩,kvs,t2,_⟩:=T1;obtain⟨ps,t3,_⟩:=j;rcases w with rfl | rfl | rfl | ⟨rfl,z⟩ | ⟨i,p,rfl⟩
    ·rw[t1];simp
    ·rw[t2];simp
    ·rw[t3];simp
    ·obtain⟨o,ho⟩:=vR z;rw[ho];simp
    ·obtain⟨qs,t4,_⟩:=d i p;rw[t4];simp
   ·exact .cons rfl (.cons rfl<|mU 9)
   ·intro _ _ _ _ _ _ _ _ _ _ h;cases h
   ·intro _ _ _ _ _ _ _ _ _ h;cases h
   ·intro y' ρ' S' H' av v st C rv h;cases av with
    | bl b=>
     cases b with
     | true=>
      cases(show v=.bl true from rv);exact k H'
     | false=>cases h
    | _=>cases h
   ·intro _ _ _ _ _ _ _ _ _ h;cases h
   ·intro _ _ _ _ _ _ _ _ _ h;cases h
end
@[reducible] def LN(K:P7)(T T0 H C C0 C1 x u r q p o m l h f d z:P3):Gy where
 cl:=λc=>match c with
  | 0=>C0
  | _=>C1
 xc:=λ_=>z
 fe:=λj=>match j with
  | 0=>x
  | 1=>u
  | 2=>r
  | 3=>q
  | 4=>p
  | 5=>o
  | 6=>m
  | 7=>l
  | 8=>h
  | 9=>f
  | 10=>d
  | _=>0
 tT:=T
 tP:=vh
 tQ:=o9
 tl:=λi=>match i with
  | 0=>T0
  | 1=>H
  | _=>C
 tq:=λi=>match i with
  | 0=>(("law":Str)++".<locals>.")++"<lambda>"
  | 1=>(("_law_upgrades":Str)++".<locals>.")++"<lambda>"
  | _=>(("_law_marks":Str)++".<locals>.")++"<lambda>"
 dr:=xq K
theorem NL{F:Nat->Prop}(a:F 0)(b:F 1):∀c,c<2->F c
 | 0,_=>a
 | 1,_=>b
theorem LO(a0:gy.tl 0≠gy.tT)(h:gy.tl 1≠gy.tT)(f:gy.tl 2≠gy.tT)(b0:gy.tl 0≠gy.tl 1)(b1:gy.tl 0≠gy.tl 2)(b2:gy.tl 1≠gy.tl 2):AY gy:=⟨λi c=>by
  match i,c with
  | 0,_=>exact a0
  | 1,_=>exact h
  | 2,_=>exact f,λi j c d n=>by
  match i,j,c,d with
  | 0,0,_,_=>exact absurd rfl n
  | 1,1,_,_=>exact absurd rfl n
  | 2,2,_,_=>exact absurd rfl n
  | 0,1,_,_=>exact b0
  | 0,2,_,_=>exact b1
  | 1,2,_,_=>exact b2
  | 1,0,_,_=>exact b0.symm
  | 2,0,_,_=>exact b1.symm
  | 2,1,_,_=>exact b2.symm⟩
theorem NM{F:Nat->Prop}(a:F 0)(b:F 1)(c:F 2):∀i,i<3->F i
 | 0,_=>a
 | 1,_=>b
 | 2,_=>c
theorem NN{C:P3}{h:Int}{t:Tok}(D:rZ K C "attach" "Desk.attach" (aq (aH 102) 4) #[⟨h,.str "mode" t,.str "both" 1274⟩]):∃h t,rZ K C "attach" "Desk.attach" (aq (aH 102) 4) #[⟨h,.str "mode" t,.str "both" 1274⟩]:=⟨h,t,D⟩
theorem NO{C:P3}{h h1:Int}{t c:Tok}(D:rZ K C "lock" "Desk.lock" (aq (aH 102) 9) #[⟨h,.str "by" t,.str "task" 1322⟩,⟨h1,.str "wait" c,.bool false⟩]):∃h t h1 c,rZ K C "lock" "Desk.lock" (aq (aH 102) 9) #[⟨h,.str "by" t,.str "task" 1322⟩,⟨h1,.str "wait" c,.bool false⟩]:=⟨h,t,h1,c,D⟩
theorem NP{C:P3}{h:Int}{t:Tok}(D:rZ K C "unlock" "Desk.unlock" (aq (aH 102) 10) #[⟨h,.str "by" t,.str "task" 1338⟩]):∃h t,rZ K C "unlock" "Desk.unlock" (aq (aH 102) 10) #[⟨h,.str "by" t,.str "task" 1338⟩]:=⟨h,t,D⟩
theorem A0{f:Str}{C0 C1:P3}(a:Q3 K (.ref C0) f=some none)(b:Q3 K (.ref C1) f=some none)(h:gy.cl 0=C0)(d:gy.cl 1=C1):∀c,c<2->b9 K (gy.cl c) f:=by
 subst h d;exact NL a b
theorem Im{l:VR}{h:QO}{o p c:P3}{u kV doc i ct:P0}{r q:Option P3}(X:K.In h)(G:h.Ns QF mg)(d:mg "law" = some (.ref o))(W:Wr0 l.prog w K mg gy)(hd:gy.dr=xq K)(I:AY gy)(H:K.lookup gy.tT=none)(h0:K.lookup (gy.tl 0)=none)(h1:K.lookup (gy.tl 1)=none)(L:K.lookup (gy.tl 2)=none)
  (aL:Vy K QF "law" = some (some<|.ref p)) (x:K.lookup p=some ⟨u,r,.func<|Q1 "law" "law" (bL<|aH 111) (aW<|aH 111) (ae<|aH 111) .none kV doc i q (.ref c) ct,osl⟩) (Y:RM K (.ref c) "law" = true) (j:Sm K c (gy.tl 0)=true) (c1:km dc) (Z:km fO) (hb:FW=true) :
  (∀T∈[gy.tT,gy.tl 0,gy.tl 1,gy.tl 2],K.lookup T=none/\∃c,Sm K c T=true)/\∃fd:U6,(∀(s:P5) (v:P0),Xn s fd ⟨[v],[]⟩ [("_law_script",v)])/\∀base:QO,K.In base->base.Ns QF mg->(∀T∈[gy.tT,gy.tl 0,gy.tl 1,gy.tl 2],base.BuiltinsAt mg T)->bS l.prog w K mg base eT 18 o fd ["_law_script"] (AZ K gy):=by
 have e:=d.symm.trans (QH X G aL);cases e;obtain⟨U,_,C⟩:=W.d_lot_of;obtain⟨Q,_,f⟩:=W.d__law_upgrades;obtain⟨O,_,z⟩:=W.d__law_marks;refine⟨λT m=>?_,Q1 "law" "law" (bL<|aH 111) (aW<|aH 111) (ae<|aH 111) .none kV doc i q (.ref c) ct,λs v=>.of_eq rfl,λbase _ _ hB=>LM ⟨W,hB _<|by simp,NM (hB _<|by simp) (hB _<|by simp)<|hB _<|by simp⟩ hd I x Y j c1 Z hb⟩;simp only[Qm,List.not_mem_nil,or_false] at m;rcases m with rfl | rfl | rfl | rfl
 ·exact⟨H,U,C⟩
 ·exact⟨h0,c,j⟩
 ·exact⟨h1,Q,f⟩
 ·exact⟨L,O,z⟩
theorem F0{a:P3}{ns:List Int}(hP:gy.tP=vh)(hQ:gy.tQ=o9)(c:ns.length≤63)(d:ie K H a (TB V.int ns))(hT:∀T∈[gy.tT,gy.tl 0,gy.tl 1,gy.tl 2],H T=some (.tbl #[])){E:XK}:AZ K gy [.ref a] H (λv _=>v=.bl true) E :=
 have e:∀{T:P3} {q:Str},H T=some (.tbl #[])->iX H T q:=λh=>⟨#[],h,trivial,λpos f e=>(nomatch e)⟩
 ⟨a,ns,rfl,d,c,⟨#[],hT _<|by simp,trivial,.inl rfl⟩,NM (e<|hT _<|by simp) (e<|hT _<|by simp)<|e<|hT _<|by simp,λ_=>rfl⟩
end RB
set_option maxHeartbeats 0
namespace RB
open PySem L2
theorem Pg:km fO:=λb=>by cases b<;>decide +kernel
theorem Ph:km dc:=λb=>by cases b<;>decide +kernel
@[reducible] def F1:BS:=(bJ rq<|bJ rA<|bJ rB<|bJ nA nB)
@[reducible] def eS:BS:=(bJ jK<|bJ jL<|bJ jM F1)
def bO(m:Int)(c:Bool)(d:Nat):dJ:=⟨some (.ext 11)::some (.ext 12)::some (.int false m m)::some (.bl c)::some (.str d)::wE 6,λ_ _ _=>false⟩
def S1:aM:=⟨1,false,.nd .lf (.lst [.str 66,.str 45]) .lf⟩
def gj(a b:Bool):Bool:=match a with
 | true=>b
 | false=>false
theorem ci{a b:Bool}(h1:a=true)(c:b=true):gj a b=true:=by rw[h1,c];rfl
theorem CV(k:BS):bJ rh (bJ rj<|bJ rm k) cN LH ⟨0,false,.lf⟩=(gj (gj (gj (gj (gj (k cN (bO 2 true 66) S1)<|k cN (bO 2 true 45) S1)<|gj (k cN (bO 2 false 66) S1)<|k cN (bO 2 false 45) S1)<|gj (gj (k cN (bO 3 true 66) S1)<|k cN (bO 3 true 45) S1)<|gj (k cN (bO 3 false 66) S1)<|k cN (bO 3 false 45) S1)<|gj (gj (k cN (bO 4 true 66) S1)<|k cN (bO 4 true 45) S1)<|gj (k cN (bO 4 false 66) S1)<|k cN (bO 4 false 45) S1)<|gj (gj (k cN (bO 5 true 66) S1)<|k cN (bO 5 true 45) S1)<|gj (k cN (bO 5 false 66) S1)<|k cN (bO 5 false 45) S1):=by kernel_rfl
def bw(e:BE):BS:=(bJ (KW 8 9<|ah (eQ Aa (yt<|ah (bC<|.str 63)<|ah (bC<|.str 2) aK) e)<|ah (eQ mL (eQ mL (aE 6)<|eQ BC (bI 10)<|aE 7)<|bI 12) aK)
 (lR (Ea (bB<|eQ GU (fU 1 7 5 (["by","wait"]:List Str).length [.arg 0,.arg 1] (never aU.1) (aE 5) (ah (aE 7)<|ah (bI 0)<|ah (aE 8)<|ah (dF<|ah (aE 9)<|ah (eQ mL (aE 9)<|bI 1) aK) aK) (ah (aE 4)<|ah (bC<|.bl true) aK))<|aE 7)<|GN<|bB<|cj 1 2 [] a5.1 (aE 5)<|ah (aE 7) aK)
 (je<|bC<|.bl false)
 iZ))
def bx:BE:=nU (ah (aE 0)<|ah (aE 1)<|ah (bI 2) aK)
def bV(v:Int):BE:=λσ S k=>match bx σ S λ_ _=>true with
 | true=>k (.int false v v) S
 | false=>false
theorem NQ(σ:dJ)(S:aM)(k:AV->aM->Bool):bx σ S k=gj (bV 0 σ S k) (bV 1 σ S k):=by
 unfold bV bx nU ah aE;cases LX σ 0 with
 | none=>rfl
 | some v=>
  dsimp only;cases LX σ 1 with
  | none=>rfl
  | some w=>
   cases v<;>try rfl
   cases w<;>try rfl
   rename_i i j;show(match Qn i 11&&Qn j 12&&true with | true=>gj (k (.int false 0 0) S) (k (.int false 1 1) S) | false=>false)=gj (match (match Qn i 11&&Qn j 12&&true with | true=>true | false=>false) with | true=>k (.int false 0 0) S | false=>false) (match (match Qn i 11&&Qn j 12&&true with | true=>true | false=>false) with | true=>k (.int false 1 1) S | false=>false);cases Qn i 11&&Qn j 12&&true<;>rfl
theorem Io:∃(A:aM->aM) (F:Ds->dJ->aM->AV->aM->Bool),∀e d σ S,bw e d σ S=e σ (A S) (F d σ S):=⟨_,_,λe d σ S=>rfl⟩
def CW(e:BE)(d:Ds)(f:vT)(i:Nat)(h:Nat->dJ->aM->Bool)(σ:dJ)(S:aM):Bool:=match f.nxt i S with
 | some (some x)=>a8 7 x σ S λc j=>bw e ⟨h<|i+1,d.rt,d.nx,h<|i+1⟩ c j
 | some none=>d.nx σ S
 | none=>false
theorem A7(d:Ds)(c:vT)(i:Nat)(f:Nat->dJ->aM->Bool)(σ:dJ)(S:aM):CW bx d c i f σ S=gj (CW (bV 0) d c i f σ S) (CW (bV 1) d c i f σ S):=by
 obtain⟨A,F,h⟩:=Io;unfold CW a8;cases c.nxt i S with
 | none=>rfl
 | some o=>cases o with
  | none=>dsimp only;cases d.nx σ S<;>rfl
  | some x=>dsimp only;rw[h,h,h];exact NQ _ _ _
abbrev KD:=Ds->vT->dJ->aM->Bool
def pre(f:Bool)(b:Nat)(K:KD):Bool:=bJ jK (bJ jL<|bJ (λd σ S=>(mR<|ah (eQ yv (aE 2)<|bI 1) aK) σ S λc S1=>K d c σ S1) F1) cN (bO 5 f b) S1
def one(x:BE)(K:KD):KD:=λd c=>CW x d c 0 λ_=>K d c
def JJ(x:BE):KD:=λd c=>CW x d c 1 (yJ (a8 7) (bw bx) d c 38)
abbrev Cj(F:KD->Bool):Prop:=∀K L,F (λd s σ S=>gj (K d s σ S) (L d s σ S))=gj (F K) (F L)
abbrev Q5(f:Bool)(b:Nat)(x y:Int):Prop:=pre f b (one (bV x)<|JJ<|bV y)=true
theorem PY:jM=λd σ S=>(mR<|ah (eQ yv (aE 2)<|bI 1) aK) σ S λc S1=>one bx (JJ bx) d c σ S1:=by kernel_rfl
theorem A8{f:Bool}{b:Nat}(c:Cj (pre f b))(c0:Cj λK=>pre f b (one (bV 0) K))(c1:Cj λK=>pre f b (one (bV 1) K))(h1:Q5 f b 0 0)(j:Q5 f b 0 1)(i:Q5 f b 1 0)(h:Q5 f b 1 1):eS cN (bO 5 f b) S1=true:=by
 have l:JJ bx=λd s σ S=>gj (JJ (bV 0) d s σ S) (JJ (bV 1) d s σ S):=by
  funext d s σ S;exact A7 ..
 have m:one bx (JJ bx)=λd s σ S=>gj (one (bV 0) (JJ bx) d s σ S) (one (bV 1) (JJ bx) d s σ S):=by
  funext d s σ S;exact A7 ..
 show bJ jK (bJ jL<|bJ jM F1) cN (bO 5 f b) S1=true;rw[PY];refine(congrArg (pre f b) m).trans ((c _ _).trans ?_);rw[l];exact ci ((c0 _ _).trans (ci h1 j)) ((c1 _ _).trans (ci i h))
theorem NR:eS cN (bO 2 true 66) S1=true:=by decide +kernel
theorem NS:eS cN (bO 2 true 45) S1=true:=by decide +kernel
theorem NT:eS cN (bO 2 false 66) S1=true:=by decide +kernel
theorem NU:eS cN (bO 2 false 45) S1=true:=by decide +kernel
theorem NV:eS cN (bO 3 true 66) S1=true:=by decide +kernel
theorem NW:eS cN (bO 3 true 45) S1=true:=by decide +kernel
theorem NX:eS cN (bO 3 false 66) S1=true:=by decide +kernel
theorem NY:eS cN (bO 3 false 45) S1=true:=by decide +kernel
theorem NZ:eS cN (bO 4 true 66) S1=true:=by decide +kernel
theorem N0:eS cN (bO 4 true 45) S1=true:=by decide +kernel
theorem N1:eS cN (bO 4 false 66) S1=true:=by decide +kernel
theorem N2:eS cN (bO 4 false 45) S1=true:=by decide +kernel
theorem LP:Cj (pre true 66):=λK L=>by kernel_rfl
theorem Ip:Cj λK=>pre true 66 (one (bV 0) K):=λK L=>by kernel_rfl
theorem Iq:Cj λK=>pre true 66 (one (bV 1) K):=λK L=>by kernel_rfl
theorem Ir:Q5 true 66 0 0:=by decide +kernel
theorem Iu:Q5 true 66 0 1:=by decide +kernel
theorem Iv:Q5 true 66 1 0:=by decide +kernel
theorem Iw:Q5 true 66 1 1:=by decide +kernel
theorem N3:eS cN (bO 5 true 66) S1=true:=A8 LP Ip Iq Ir Iu Iv Iw
theorem LQ:Cj (pre true 45):=λK L=>by kernel_rfl
theorem Iy:Cj λK=>pre true 45 (one (bV 0) K):=λK L=>by kernel_rfl
theorem Iz:Cj λK=>pre true 45 (one (bV 1) K):=λK L=>by kernel_rfl
theorem IA:Q5 true 45 0 0:=by decide +kernel
theorem IB:Q5 true 45 0 1:=by decide +kernel
theorem IC:Q5 true 45 1 0:=by decide +kernel
theorem ID:Q5 true 45 1 1:=by decide +kernel
theorem N4:eS cN (bO 5 true 45) S1=true:=A8 LQ Iy Iz IA IB IC ID
theorem LR:Cj (pre false 66):=λK L=>by kernel_rfl
theorem IE:Cj λK=>pre false 66 (one (bV 0) K):=λK L=>by kernel_rfl
theorem IF:Cj λK=>pre false 66 (one (bV 1) K):=λK L=>by kernel_rfl
theorem IG:Q5 false 66 0 0:=by decide +kernel
theorem IH:Q5 false 66 0 1:=by decide +kernel
theorem II:Q5 false 66 1 0:=by decide +kernel
theorem IJ:Q5 false 66 1 1:=by decide +kernel
theorem N5:eS cN (bO 5 false 66) S1=true:=A8 LR IE IF IG IH II IJ
theorem LU:Cj (pre false 45):=λK L=>by kernel_rfl
theorem IK:Cj λK=>pre false 45 (one (bV 0) K):=λK L=>by kernel_rfl
theorem IL:Cj λK=>pre false 45 (one (bV 1) K):=λK L=>by kernel_rfl
theorem IM:Q5 false 45 0 0:=by decide +kernel
theorem IN:Q5 false 45 0 1:=by decide +kernel
theorem IO:Q5 false 45 1 0:=by decide +kernel
theorem IP:Q5 false 45 1 1:=by decide +kernel
theorem N6:eS cN (bO 5 false 45) S1=true:=A8 LU IK IL IM IN IO IP
theorem zo:FW=true:=(CV eS).trans (ci (ci (ci (ci (ci NR NS)<|ci NT NU)<|ci (ci NV NW)<|ci NX NY)<|ci (ci NZ N0)<|ci N1 N2)<|ci (ci N3 N4)<|ci N5 N6)
end RB
open PySem PySem.W PyProof.Rows
set_option maxHeartbeats 0 in
theorem PySem.Challenge.cw_lockstretch_k24_stuck_by_hand_holds : PySem.Challenge.rw_lockstretch_k24_stuck_by_hand.Holds := by
 w_on
 refine holds_law OH.said fun said => ?_;refine holds_open (r := QW.row) (q := OH.qv) (loose := OH.ls) (Xt := OH.Xt) (XP := XL OH.qv []) (Yf := OH.Hk.obs) (Ya := OH.Hk.val) (YP := OH.Hk.says) (d := OH.dL) (kwd := []) (N := 20000) OH.left OH.Hk.of OH.Hk.keeps (fun s e => xl_of s (Vb.mp e).1) XL.keeps OH.hd1 OH.hd2 OH.hd3 (fun s e => recFacts_of (Vb.mp e).2) OH.hd4 said OH.hd5 OH.hd6 ?hw ?hc
 case hw => w_witness2
 refine LT.walk_ofT (n := 63) (k := 18) (x := "_law_script") (ts := [213, 1041, 1029, 1036]) (K := OH.KK) (l := QW) (sp := fun w => RB.AZ (OH.KK w.params) (RB.LN (OH.KK w.params) 213 1041 1029 1036 728 990 602 609 616 623 630 637 644 651 658 665 672 171)) rfl (by decide) rfl ⟨rfl, by decide, by decide⟩ (fun w h Y => ⟨PySem.W.km_in_of Y, fun T m => PySem.W.km_tabs_of Y T m⟩) ?F (fun w _ a ns hl hS hT => RB.F0 (gy := RB.LN (OH.KK w.params) 213 1041 1029 1036 728 990 602 609 616 623 630 637 644 651 658 665 672 171) rfl rfl hl hS hT)
 case F=>
  intro w mg fa h KX G hmg
  k_fill
  refine' RB.Im (l := QW) (gy := RB.LN (OH.KK w.params) 213 1041 1029 1036 728 990 602 609 616 623 630 637 644 651 658 665 672 171) KX G hmg (RB.Wr0.mk (RB.aG KX G ?_ ?_ ?_ ?_)
   (RB.aG KX G ?_ ?_ ?_ ?_)
   (RB.aG KX G ?_ ?_ ?_ ?_)
   (RB.aG KX G ?_ ?_ ?_ ?_)
   (RB.aG KX G ?_ ?_ ?_ ?_)
   (RB.aG KX G ?_ ?_ ?_ ?_)
   (RB.aG KX G ?_ ?_ ?_ ?_)
   (RB.aG KX G ?_ ?_ ?_ ?_)
   (RB.aG KX G ?_ ?_ ?_ ?_)
   (RB.aG KX G ?_ ?_ ?_ ?_)
   (RB.aG KX G ?_ ?_ ?_ ?_)
   (RB.aG KX G ?_ ?_ ?_ ?_)
   (RB.aG KX G ?_ ?_ ?_ ?_)
   (RB.aG KX G ?_ ?_ ?_ ?_)
   (RB.aG KX G ?_ ?_ ?_ ?_)
   (RB.aG KX G ?_ ?_ ?_ ?_)
   (RB.aG KX G ?_ ?_ ?_ ?_)
   (RB.aG KX G ?_ ?_ ?_ ?_)
   (RB.aG KX G ?_ ?_ ?_ ?_)
   (RB.aG KX G ?_ ?_ ?_ ?_)
   (RB.aG KX G ?_ ?_ ?_ ?_)
   (RB.aG KX G ?_ ?_ ?_ ?_)
   (RB.aG KX G ?_ ?_ ?_ ?_)
   (RB.aG KX G ?_ ?_ ?_ ?_)
   (RB.aG KX G ?_ ?_ ?_ ?_)
   (RB.aG KX G ?_ ?_ ?_ ?_)
   (RB.aG KX G ?_ ?_ ?_ ?_)
   (RB.aG KX G ?_ ?_ ?_ ?_)
   (RB.aG KX G ?_ ?_ ?_ ?_)
   (RB.aG KX G ?_ ?_ ?_ ?_)
   (RB.aG KX G ?_ ?_ ?_ ?_)
   (RB.aG KX G ?_ ?_ ?_ ?_)
   (RB.aG KX G ?_ ?_ ?_ ?_)
   (RB.aG KX G ?_ ?_ ?_ ?_)
   (RB.aG KX G ?_ ?_ ?_ ?_)
   (RB.aG KX G ?_ ?_ ?_ ?_)
   (RB.aG KX G ?_ ?_ ?_ ?_)
   (RB.aG KX G ?_ ?_ ?_ ?_)
   (RB.aG KX G ?_ ?_ ?_ ?_)
   (RB.aG KX G ?_ ?_ ?_ ?_)
   (RB.aG KX G ?_ ?_ ?_ ?_)
   (RB.aG KX G ?_ ?_ ?_ ?_)
   (RB.aG KX G ?_ ?_ ?_ ?_)
   (RB.aG KX G ?_ ?_ ?_ ?_)
   (RB.aG KX G ?_ ?_ ?_ ?_)
   (RB.aG KX G ?_ ?_ ?_ ?_)
   (RB.aG KX G ?_ ?_ ?_ ?_)
   (RB.aG KX G ?_ ?_ ?_ ?_)
   (RB.aG KX G ?_ ?_ ?_ ?_)
   (RB.aG KX G ?_ ?_ ?_ ?_)
   (RB.aG KX G ?_ ?_ ?_ ?_)
   (RB.aG KX G ?_ ?_ ?_ ?_)
   (RB.aG KX G ?_ ?_ ?_ ?_)
   (RB.aG KX G ?_ ?_ ?_ ?_)
   (RB.aG KX G ?_ ?_ ?_ ?_)
   (RB.aG KX G ?_ ?_ ?_ ?_)
   (RB.aG KX G ?_ ?_ ?_ ?_)
   (RB.aG KX G ?_ ?_ ?_ ?_)
   (RB.aG KX G ?_ ?_ ?_ ?_)
   (RB.aG KX G ?_ ?_ ?_ ?_)
   (RB.aG KX G ?_ ?_ ?_ ?_)
   (RB.aG KX G ?_ ?_ ?_ ?_)
   (RB.aG KX G ?_ ?_ ?_ ?_)
   (RB.aG KX G ?_ ?_ ?_ ?_)
   (RB.aG KX G ?_ ?_ ?_ ?_)
   (RB.aG KX G ?_ ?_ ?_ ?_)
   (RB.aG KX G ?_ ?_ ?_ ?_)
   (RB.aG KX G ?_ ?_ ?_ ?_)
   ⟨_, RB.vj KX G ?_ ?_ ?_ ?_, ?hd_lot_of⟩
   ⟨_, RB.vj KX G ?_ ?_ ?_ ?_, ?hd__law_upgrades⟩
   ⟨_, RB.vj KX G ?_ ?_ ?_ ?_, ?hd__law_marks⟩
   (RB.dz (C := 728) ?_ ?_ ?_ ?_ ?_)
   (RB.dz (C := 728) ?_ ?_ ?_ ?_ ?_)
   (RB.dz (C := 728) ?_ ?_ ?_ ?_ ?_)
   (RB.dz (C := 728) ?_ ?_ ?_ ?_ ?_)
   (RB.dz (C := 990) ?_ ?_ ?_ ?_ ?_)
   (RB.dz (C := 990) ?_ ?_ ?_ ?_ ?_)
   (RB.dz (C := 990) ?_ ?_ ?_ ?_ ?_)
   (RB.dz (C := 990) ?_ ?_ ?_ ?_ ?_)
   (RB.dz (C := 990) ?_ ?_ ?_ ?_ ?_)
   (RB.dz (C := 990) ?_ ?_ ?_ ?_ ?_)
   (RB.dz (C := 990) ?_ ?_ ?_ ?_ ?_)
   (RB.dz (C := 990) ?_ ?_ ?_ ?_ ?_)
   (RB.dz (C := 990) ?_ ?_ ?_ ?_ ?_)
   (RB.dz (C := 990) ?_ ?_ ?_ ?_ ?_)
   (RB.dz (C := 990) ?_ ?_ ?_ ?_ ?_)
   (RB.dz (C := 990) ?_ ?_ ?_ ?_ ?_)
   (RB.NN<|RB.vk (C := 990) ?_ ?_ ?_ ?_ ?_ ?_)
   (RB.NO<|RB.vk (C := 990) ?_ ?_ ?_ ?_ ?_ ?_)
   (RB.NP<|RB.vk (C := 990) ?_ ?_ ?_ ?_ ?_ ?_)
   (RB.E7 (C := 728) ?_ ?_ ?_ ?_ ?_ ?_ ?_)
   (RB.E7 (C := 990) ?_ ?_ ?_ ?_ ?_ ?_ ?_)
   (QH KX G ?g_Tables)
   (QH KX G ?g_Desk)
   (QH KX G ?_)
   (QH KX G ?_)
   (QH KX G ?_)
   (QH KX G ?_)
   (QH KX G ?_)
   (QH KX G ?_)
   (QH KX G ?_)
   ⟨⟨?m_len, ?m_isinstance, ?m_int, ?m_bool, ?m_tuple, ?m_list, ?m_range, ?m_zip, ?m_min, ?m_max, ?m_sorted, ?m_set⟩, ?m_any, ?m_all⟩
   ⟨RB.NL (show L2.oP _ 728 from⟨?_, ?_, ?_, ?_⟩)<|show L2.oP _ 990 from⟨?_, ?_, ?_, ?_⟩, RB.A0 (C0 := 728) (C1 := 990) ?_ ?_ rfl rfl, RB.A0 (C0 := 728) (C1 := 990) ?_ ?_ rfl rfl, RB.A0 (C0 := 728) (C1 := 990) ?_ ?_ rfl rfl, RB.A0 (C0 := 728) (C1 := 990) ?_ ?_ rfl rfl, RB.A0 (C0 := 728) (C1 := 990) ?_ ?_ rfl rfl, RB.A0 (C0 := 728) (C1 := 990) ?_ ?_ rfl rfl, RB.A0 (C0 := 728) (C1 := 990) ?_ ?_ rfl rfl, RB.A0 (C0 := 728) (C1 := 990) ?_ ?_ rfl rfl, RB.A0 (C0 := 728) (C1 := 990) ?_ ?_ rfl rfl, RB.A0 (C0 := 728) (C1 := 990) ?_ ?_ rfl rfl, RB.A0 (C0 := 728) (C1 := 990) ?_ ?_ rfl rfl, RB.A0 (C0 := 728) (C1 := 990) ?_ ?_ rfl rfl, RB.A0 (C0 := 728) (C1 := 990) ?_ ?_ rfl rfl, RB.A0 (C0 := 728) (C1 := 990) ?_ ?_ rfl rfl⟩
   ⟨RB.vm KX G ?_ ?_ ?tc_KINDS ?ts_KINDS ?tp_KINDS,
   RB.vm KX G ?_ ?_ ?tc_HOLDERS ?ts_HOLDERS ?tp_HOLDERS,
   RB.vm KX G ?_ ?_ ?tc_MODES ?ts_MODES ?tp_MODES,
   RB.AJ (es := [("shared", _, .str "write" _), ("alone", _, .str "read" _)]) KX G ?_ ?_ ?te_WM ?tn_WM ?tp_WM,
   RB.AJ (es := [("begin", _, .ref _), ("attach", _, .ref _), ("dup", _, .ref _), ("close", _, .ref _), ("fork", _, .ref _), ("end", _, .ref _), ("lock", _, .ref _), ("unlock", _, .ref _), ("cancel", _, .ref _), ("lock_whole", _, .ref _), ("unlock_whole", _, .ref _)]) KX G ?_ ?_ ?te_DE ?tn_DE ?tp_DE⟩ rfl rfl
   (show QF≠213 by decide)
   (fun i => match i with | 0 => (show QF≠1041 by decide) | 1 => (show QF≠1029 by decide) | _+2 => (show QF≠1036 by decide)) rfl rfl rfl
   ⟨31, QH KX G ?eX, ?eL⟩
   (QH KX G ?eA)
   ?eN
   ?eI
   (fun _ => ⟨?n1, ?n2, ?n3, ?n4, ?n5, ?n6, ?n7, ?n8⟩)
   ?xV
   ?xS
   ⟨56, QH KX G ?ax_Asleep, ?bx_Asleep⟩
   ⟨68, QH KX G ?ax_Awake, ?bx_Awake⟩
   ⟨128, QH KX G ?ax_BadKind, ?bx_BadKind⟩
   ⟨116, QH KX G ?ax_BadMode, ?bx_BadMode⟩
   ⟨140, QH KX G ?ax_BadStretch, ?bx_BadStretch⟩
   ⟨159, QH KX G ?ax_Held, ?bx_Held⟩
   ⟨104, QH KX G ?ax_NoFile, ?bx_NoFile⟩
   ⟨80, QH KX G ?ax_NoHandle, ?bx_NoHandle⟩
   ⟨44, QH KX G ?ax_NoTask, ?bx_NoTask⟩)
   rfl (RB.LO (show(1041 : Nat)≠213 by decide) (show(1029 : Nat)≠213 by decide) (show(1036 : Nat)≠213 by decide) (show(1041 : Nat)≠1029 by decide) (show(1041 : Nat)≠1036 by decide)<|show(1029 : Nat)≠1036 by decide) ?hT ?h0 ?h1 ?h2 ?_ ?_ ?_ ?hcL RB.Ph RB.Pg RB.zo
  (case g_Tables => k_is);(case g_Desk => k_is);(case eA => k_is);(case eX => k_is)
  (case ax_Asleep => k_is);(case bx_Asleep => intro c;first | kernel_rfl | exact rfl)
  (case ax_Awake => k_is);(case bx_Awake => intro c;first | kernel_rfl | exact rfl)
  (case ax_BadKind => k_is);(case bx_BadKind => intro c;first | kernel_rfl | exact rfl)
  (case ax_BadMode => k_is);(case bx_BadMode => intro c;first | kernel_rfl | exact rfl)
  (case ax_BadStretch => k_is);(case bx_BadStretch => intro c;first | kernel_rfl | exact rfl)
  (case ax_Held => k_is);(case bx_Held => intro c;first | kernel_rfl | exact rfl)
  (case ax_NoFile => k_is);(case bx_NoFile => intro c;first | kernel_rfl | exact rfl)
  (case ax_NoHandle => k_is);(case bx_NoHandle => intro c;first | kernel_rfl | exact rfl)
  (case ax_NoTask => k_is);(case bx_NoTask => intro c;first | kernel_rfl | exact rfl)
  (case xV => refine Yj KX G ?_;k_is);(case xS => intro c;first | kernel_rfl | exact rfl)
  (case n1 => first | kernel_rfl | exact rfl)
  (case n2 => first | kernel_rfl | exact rfl)
  (case n3 => first | kernel_rfl | exact rfl)
  (case n4 => first | kernel_rfl | exact rfl)
  (case n5 => first | kernel_rfl | exact rfl)
  (case n6 => first | kernel_rfl | exact rfl)
  (case n7 => first | kernel_rfl | exact rfl)
  (case n8 => first | kernel_rfl | exact rfl)
  all_goals try k_is
  all_goals try k_is
  all_goals try (refine Yj KX G ?_;k_is)
  (case tc_KINDS => exact rfl);(case ts_KINDS => decide);(case tp_KINDS => exact(.cons ⟨_, _, rfl, rfl⟩<|.cons ⟨_, _, rfl, rfl⟩ .nil))
  (case tc_HOLDERS => exact rfl);(case ts_HOLDERS => decide);(case tp_HOLDERS => exact(.cons ⟨_, _, rfl, rfl⟩<|.cons ⟨_, _, rfl, rfl⟩ .nil))
  (case tc_MODES => exact rfl);(case ts_MODES => decide);(case tp_MODES => exact(.cons ⟨_, _, rfl, rfl⟩<|.cons ⟨_, _, rfl, rfl⟩<|.cons ⟨_, _, rfl, rfl⟩ .nil))
  (case te_WM => exact rfl);(case tn_WM => decide +kernel);(case tp_WM => exact(.cons ⟨⟨_, rfl, rfl⟩, ⟨_, _, rfl, rfl⟩⟩<|.cons ⟨⟨_, rfl, rfl⟩, ⟨_, _, rfl, rfl⟩⟩ .nil))
  (case te_DE => exact rfl);(case tn_DE => decide +kernel);(case tp_DE => exact(.cons ⟨⟨_, rfl, rfl⟩, ⟨by decide, rfl⟩⟩<|.cons ⟨⟨_, rfl, rfl⟩, ⟨by decide, rfl⟩⟩<|.cons ⟨⟨_, rfl, rfl⟩, ⟨by decide, rfl⟩⟩<|.cons ⟨⟨_, rfl, rfl⟩, ⟨by decide, rfl⟩⟩<|.cons ⟨⟨_, rfl, rfl⟩, ⟨by decide, rfl⟩⟩<|.cons ⟨⟨_, rfl, rfl⟩, ⟨by decide, rfl⟩⟩<|.cons ⟨⟨_, rfl, rfl⟩, ⟨by decide, rfl⟩⟩<|.cons ⟨⟨_, rfl, rfl⟩, ⟨by decide, rfl⟩⟩<|.cons ⟨⟨_, rfl, rfl⟩, ⟨by decide, rfl⟩⟩<|.cons ⟨⟨_, rfl, rfl⟩, ⟨by decide, rfl⟩⟩<|.cons ⟨⟨_, rfl, rfl⟩, ⟨by decide, rfl⟩⟩ .nil))
  (case eN => first | kernel_rfl | exact rfl);(case eL => intro c;first | kernel_rfl | exact rfl);(case eI => intro c;first | kernel_rfl | exact rfl)
  (case hd_lot_of => first | kernel_rfl | exact rfl);(case hd__law_upgrades => first | kernel_rfl | exact rfl);(case hd__law_marks => first | kernel_rfl | exact rfl);(case hcL => first | kernel_rfl | exact rfl)
  (case hT => first | kernel_rfl | exact rfl);(case h0 => first | kernel_rfl | exact rfl);(case h1 => first | kernel_rfl | exact rfl);(case h2 => first | kernel_rfl | exact rfl)


