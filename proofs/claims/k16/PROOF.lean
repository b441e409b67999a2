import PyProof.Rows.All
import Wide.All
import OpenK.AllK
import Wide.FinOn
import Lean
import PyProof.EqAt
import PyProof.EqKinds
import PyProof.TupleCall
import PyProof.ZipIter
import PyProof.DictItems
import PyProof.DictWalks
import KE.KSortTup
import KE.KDictSum
import PyProof.WalksMore
import PyProof.StationsW
import OpenK.KOwn
import KE.KTryMore
import PyProof.NsDelKeeps
import PyProof.RulesAs
import KE.KItemsList
import KE.KLam
import KE.KNest
import PyProof.ExcInit
import PyProof.InstStoreFacts
import KE.KIsNot
import PyProof.ExcAttrAll.ValueError
import PyProof.DictUpdate
import PyProof.Rows.Range3
import PyProof.Rows.MinMaxN
import PySem.Challenge.RW_lockstretch_k16_refusals
open PySem renaming wpAny_bind->OB,Value->OC,Addr->OD,wpAny_pure->OE,Shared->OI,wpAny->OM,model->OP,sizeLine->OR,starEach->O1,Expr->O4,mainGlobals->Pe,wpAny_mono->Pf,wpAny_holding->Pg,Program->Ph,attributeBase->Pi,Heap->Pk,eval->Pq,World->Py,sizeLine_eq->Pz,wpAny_newObj_type->PB,bootBuiltins->PJ,Scope->PQ,wpAny_Call_Name_kw->PR,keywordEach->PZ,codeAny_mono->Qf,behindInMarks->Qh,wpAny_call_entry->Qi,wpAny_standAt->Qm,swapsWith->Qq,foldedSetIterable->Qu,Around->Qz,backTo->QE,wpAny_call->QF,wpAny_setField_rec->QG,compareOp->QH,backToKw->QI,wpAny_field->QJ,cLine->QK,sysModules->QO,wpAny_truthy_bool->QR,Builtin->QS,mem_of_lookup->QU,tupleKind_room_in1->Q0,wpAny_typeNameOfWhole_itemiter->Q2,wpAny_callSpecial?_slot->Q7,wpAny_execs_cons->Rg,assignEach->Rk,rawInt->Rl,NameKind->Rm,boot_len->Ro,standAt->Rp,holding->Rq,Stmt->Rs,wpAny_typeNameOf_itemiter->Rv,wpAny_execs_nil->Rw,wpAny_passesOwn->Rx,DictEntry->Ry,codeAny_call_builtin->RE,wpAny_attempt->RH,recursionLimit->RM,bindArgs->RN,Arguments->RO,codeAny->RX,wpAny_isOneOf_itemiter->R0,binaryOp->Sb,importedModules->Sc,getMethod->Sf,noteFrame->Sg,wpAny_setState_of->Sl,wpAny_loadPart_at->Sm,call_meetsIn->Sq,wpAny_askSetting->Ss,wpAny_newList->SE,codeAny_builtin->SJ,wpAny_ite_split->SK,IsItemIter->SO,codeAmong->SV,wpAny_of_eq->SW,hashInt->SZ,callWith->Ta,Keyword->Tc,wpAny_evalAll_nil->Td,wpAny_pyIter_slot->Tj,wpAny_dictEntries->Tk,wpAny_fieldsOf->Tl,wpAny_setField->To,plainObj_wpAny_Assign_Attribute->Tq,tupleKind->Tw,wpAny_rule->Tx,treeTable->TF,pickOrder->TL,isInstance->TM,valueAt->TQ,FuncData->TV,wpAny_loadName_local->TW,wpAny_newFunctionEnv->TY,excClassObj->T7,letOwnedTupleGo->T9,getItem->Ui,wpAny_typeOf->Uj,setFlight->Uq,wpAny_evalAll_cons->Ux,wpAny_newFunctionEnv_cells->Uz,closureFor->UE,wpAny_newTuple->UF,firstArgMember->UH,boundAndCalled->UI,intKind->UL,wpAny_Assign_Name->UN,wpAny_pyIter_list->UO,wpAny_Call_method->UQ,wpAny_collect_seq->UR,pyNext->UU,wpAny_comprehension_free->UW,noFill_tuple_add->U2,wpAny_isInstance->U8,checkBuiltinCall->Vc,assign->Vi,leaving->Vk,IsPart->Vl,typeLookup->Vm,typeOf->Vn,wpAny_Assign_Subscript->Vo,relabel->Vq,wpAny_dictEpoch->VB,codeAny_of_tree->VC,wpAny_isTrue_Compare1->VE,codeAny_call_function->VF,wpAny_notOrdered_dict->VJ,builtinLookup_eq_fast->VM,codeAny_handlers_test->VO,bindName->VQ,wpAny_loadPart->VR,subscripted->VS,Params->VU,wpAny_letGo->VX,entryFor_alias->V2,isSubtype_type->V4,wpAny_deleteEach_nil->V6,unbindBehindTheSuite->V8,PassesOwn->Wb,BindsTo->Wd,cellsFrom->We,callerA->Wf,wpAny_loadName_cell->Wh,wpAny_setEntries_of->Ws,wpAny_handleBy_cons->Wu,wpAny_isSubtype_exc->Wv,Model->Wy,assignInOrder->WA,seq_tuple_add->WB,atKey->WD,IsItemIterOut->WE,wpAny_handled->WH,isTrue->WL,wpAny_Name->WM,wpAny_Constant_int->WN,wpAny_pyIter_tuple->WO,wpAny_delItem_slot->WU,defaultsOf->WX,Within->W2,wpAny_assign_Name->W4,wpAny_truthy_list->W6,concat_meets->Xe,wpAny_sequenceKey->Xf,ExcBaseFacts->Xq,wpAny_eqBool_int->Xv,storeName->Xw,pyIter->Xy,wpAny_lookBehind->Xz,pastItsLine_dict->XA,wpAny_getItem_of->XC,wpAny_Dict_empty->XD,Fin->XE,wpAny_Try_except->XM,isinstance_outer->XQ,CmpOp->XT,bindL->XV,bindC->XW,seqIndex_of->XZ,wpAny_throw->X3,wpAny_specialOf->X7,typeLookup_type->Yd,size_of_entries->Yh,getAttrByItsOwn->Yk,call_isinstance->Ym,getAttr->Yn,entryOfKey->Yq,builtinsNs->Yr,GenState->Ys,wpAny_Compare1->Yt,Operator->Yu,wpAny_bindName->Yv,checkCount->YH,isSubtype_stop->YI,entryFor->YJ,setsByText->YR,arm_exec_Raise->YS,refuseLoop_ref->YV,swapsWithSole->Za,swappedStores->Zb,intBits_le_64->Zd,evalPart_none->Zt,comprehension->Zv,plainId_quiet->Zy,signature?_of->Zz,ExceptHandler->ZB,seqIndex?->ZD,raiseStmt->ZH,truthy->ZI,rule->ZK,setAttr->ZL,wpAny_nsSet1->ZM,evalAll->ZN,codeAny_func->ZO,setAddHashed->ZV,OwnTail->ZW,wpAny_mkText->ZX,table->Z9
open PySem.Heap renaming get?_push_of_some->OF,lt_size->OO,get?_push_size->OQ,get?_update_other->Pp,get?_update_ne->P1,get?_none_of_le->Qa,get?_update_self->Qw,SameBut->QA,size_push->RL,MadeExcOf->V9,get?_push_at->Xr,ExtBut->aa3
open PySem.Str renaming ofString->OG
open List renaming size_toArray->OJ,getElem?_eq_some_iff->OL,mem_cons_of_mem->OT,mem_append_right->OV,mem_cons_self->OW,mem_cons->OY,map_cons->O8,mem_of_getElem?->O9,getElem?_eq_getElem->Pd,getElem?_eq_none_iff->Pj,length_map->Ps,getElem?_map->Pv,lookup_cons->PL,mem_append->PN,length_cons->P2,length_append->P3,getD_eq_getElem?_getD->P8,mem_append_left->Qc,mem_singleton->Ql,getElem?_append_left->Qr,nodup_cons->QB,mem_map->QC,all_cons->QM,getElem?_cons_succ->Q8,append_nil->Ra,find?_cons->Rc,filter_cons->Rh,all_eq_true->Ri,lookup->RC,nodup_nil->RP,range->RV,getElem?_set_self->RW,pairwise_cons->R1,getElem?_set_ne->Sn,map_map->Sr,any_cons->Sz,map->SH,getElem?_cons_zero->SY,length_take->TB,getD->TH,getElem?_of_mem->T3,mem_filter->T8,of_mem_zip->Ub,length_nil->Uc,map_append->Ue,filterMap_cons->Uf,map_congr_left->Uh,map_nil->Uk,mem_range->Us,mem_filterMap->Uv,replicate->Uy,getElem?_zip_eq_some->UK,pairwise_map->US,length_drop->U3,eraseIdx_cons_succ->Ve,all_map->Vp,take_of_length_le->Vr,length_singleton->VG,getElem?_eq_none->VH,getElem?_toArray->VI,toList_toArray->Wm,forIn_toArray->WV,nodup_append->Xj,isEmpty_cons->Xp,cons_append->XG,map_snd_zip->XI,mem_flatMap->XJ,isEmpty_nil->XN,length->XY,length_set->X5,forIn_cons->X8,nil_append->Yj,set_comm->Zc
open PySem.W renaming Frag->OK,mg_of->O3,findIn->Pc,keepIn->Pn,fnOf->Pt,hideAll->PM,Looks->P5,hideAll_none->P9,codeIn->Qk,kia_one->Qn,emptyDict->Qv,of_hideAll->QD,exmOne->QT,looks_findIn->QV,callWith_K->QZ,codeHdIn->Q1,instObj->Q9,envX->Rf,kp_binds->Rj,kin_not->RA,tabObj->RG,hideAll_get->RJ,boot_heap->RQ,kla_fn->RS,nsIn->R9,kla_obj->Sd,methodCall_KW->Sh,clsIn->Sx,hasDictIn->S8,isFn->S9,cellsFrom_some->Te,looks_mroIn->Tp,mroIn->Ts,plainGet->Tz,behindTheImports->TD,plainGet_of->Ug,kla_makeFunctionHit->Uo,lookIn->Uw,OpenLaw->UJ,methodObj->UM,specialIn->UP,kla_makeFunction->UX,subIn->U0,handedIn->U1,isIn->Vv,takerIn->Vw,makesIn->Vx,takesIn->Vy,hideAll_size->VP,kla_callFunE->VZ,kla_codeExpr->V0,nsOkIn->V7,looks_clsIn->Wc,findObj_own->Wi,callWith_K0->Wj,codeHd_of_K->Wo,callWith_KW->Wp,looks_subIn->Ww,codeRec_of->WQ,isNs_of_in->WZ,mg_none_of->W1,plainOver->W7,kitx_list->Xa,kitx_dict->Xb,peek->Xo,kla_eval->XF,exm_one->Yi,InstAt->Yw,kitOne->Yy,boot_drawn->YA,namesBound->YB,kas_sort->YK,notCls->YU,set_plain->Zr,staticsOk->ZE
open Nat renaming eq_of_beq_eq_true->ON,beq->OS,le_refl->OU,ne_of_lt->O0,lt_of_lt_of_le->O7,ble->Pr,le_trans->PV,zero_le->PY,lt_succ_self->P6,le_of_ble_eq_true->Qj,lt_irrefl->QL,le_of_lt->QP,blt->QW,lt_succ_of_lt->Sk,ne_of_gt->So,lt_of_le_of_lt->UD,not_lt_zero->VD,rec->Wg,add_le_add_left->Wl,le_of_eq->W8,zero_add->Xg,beq_refl->Xu,le_succ->XU,blt_eq->YL,min_self->ZQ,succ_pos->ZS,div->ZT,lt_or_ge->ZU
open PySem.Value renaming ref->OX,none->Pw,bool->QX,int->RK,isInt->SR,isStrOf->UT,builtin->UZ,str->Wa,type->WK,float->XR,bytes->Z8
open Bool renaming and_eq_true->OZ,false_ne_true->O2,false_eq_true->O5,not_true->TU,and_eq_true_iff->TZ,eq_iff_iff->Ua,rec->UG,and_false->VT,not_not->Xk,not_false->YT
open Option.some renaming inj->O6
open False renaming elim->Pa
open PyProof.Rows renaming seqObj->Pb,slot_tuple_getitem->PD,listUpdate_at->QN,envOfC->Q4,get?_update_seq->Rz,seqEpoch_at->SU,subscriptTail_builtinR->Th,AllBare->TN,IntsAre->TR,listItems_at->Um,assignInOrder_cons->Uu,arrOf->U6,failedOf->U7,call_function_entry_kw->Vs,entry_list_sort->VA,slot_list_sort->VY,callWith_builtin_kwB->V1,entry_tuple_getitem->Wk,wpAny_call_entry_kw->Wn,IsTup->Wx,Constant_none->Wz,subscriptTail->WC,args_tuple_getitem->WR,Subscript_->WS,isTrue_plain->W3,assignInOrder_nil->W5,plain_sorted->Xh,entry_sorted->Xi,callWith_builtin1->XB,kind_sorted->X1,callWith_type1->Yo,ksk_end->Yp,slicePart_none->Yz,ksk_tail->YD,general'->YF,ksk_rest->YG,tupleItemsOf_->Zs,getItem_tuple->Zu,KskOut->ZP,evalArgs_kw2->ZR
open PySem.F renaming plainAttrs_list->Pl,slot_list_append->PU,plainAttrs_dict->P0,type_list_append->P4,slot_dict_itemiterator_next->Qd,slot_dict_get->Qx,slot_dict_update->Qy,type_dict_update->Q3,slot_list_extend->Rb,excBase_ValueError->Rn,slot_dict_delitem->Ru,type_list_extend->RI,entry_dict_get->RZ,called_set->R6,slot_dict_getitem->Sw,args_tuple_add_2->Sy,entry_tuple_add->SS,slot_tuple_add->Tf,args_dict_itemiterator_next_1->Tt,type_dict_get->Tv,entry_dict_itemiterator_next->TK,slot_dict_itemiterator_iter->T4,args_dict_delitem_2->Ul,entry_dict_delitem->UC,args_dict_get_2->U4,args_dict_get_3->U5,slot_dict_items->U9,slot_dict_items_iter->Vu,attr_ValueError->Xs,plain_set_new->Yc,slot_set_iter->Ye,entry_bexc_ga->Yl,args_bexc_ga->YW
open PySem.Paired renaming length->Pm,snoc->X0
open PySem.Obj renaming mapSeq->Po,isFreed_of_fields->VN,data_mapDictKeys->V5,data_mapFields->WY,putSet->YN,mapFields->ZA
open PySem.SetTable renaming below->Pu,fresh->V3,insertAt->Xl,fill->Zx
open Array renaming length_toList->Px,getElem?_eq_some_iff->P7,getElem?_toList->Rr,getElem?_setIfInBounds_ne->Tu,toList_inj->Va,toList_map->Vb,getElem?_eq_none->Vt,find?_toList->WP,forIn_toList->WW,size_push->Yb,size_zip->YE,toList->ZJ,mk->aa2
open PySem.Challenge renaming rw_lockstretch_k16_refusals->PH,pw_lockstretch_k16_refusals->RT
open PySem.PassesOwn renaming never->PP
open PySem.NameKind renaming free->Qo,cell->SD
open Ne renaming symm->Qp
open True renaming intro->Qt
open PySem.Calls renaming spliced_cons->QY,evalArgs_plain->Q5,callWith_builtin->Re,spliced_nil->Sj,Name_function_global->Ut
open Prod renaming fst->Q6
open PySem.Builtin.Slice renaming slicePlaces->Rt,sliceAdjust->Sv,sliceApplied->UA,slicePartIndex->X4,sliceFields->Y7
open Int renaming le_refl->RD,toNat_natCast->Tg,ofNat->Ur,eq_ofNat_of_zero_le->Vh,toNat->XO,negSucc->X2
open PySem.Builtin.Tuple renaming tupleExact->RF,tupleItemsOf->UB
open Prod.mk renaming inj->RU
open Option renaming map_eq_some_iff->RY,isSome_map->Ti,isSome_iff_exists->UV,join_some->Vg,isSome_some->WT,map->ab2
open PySem.pickOrder renaming go->R5
open Exists renaming intro->Sa
open PySem.Builtin.Dict_items renaming ownsTuple->Se,ownedTupleFields->SG,pairFromOwner->Tn,ownedTupleIsFree->WG,newIterator->XH,dictOf->Y8
open Sum renaming inr->Si,inl->SI
open And renaming intro->Su
open PySem.Builtin.List renaming listTooLong->SA,listLengthHint->Up
open PySem.W.Fast renaming te14364793385576792824->SB,te10110043849684766642->SC,te5923862056798008813->SM,te4187177175401517315->SN
open Or renaming inl->SL,inr->VW
open PySem.Code renaming quiet_builtin->SQ,isFrame->Xd,frames->aa1
open PyProof.Rows.F renaming plain_set_update_loop->SX,entry_set_update_loop->Vd
open PySem.SeqAt renaming EqAt->TC
open PyProof.Rows.SortSt renaming mk'->TJ
open PySem.Around renaming frames_deeper->TX,under_plainId->T5,under->Vj
open PySem.Builtin.Dict renaming takeOut->T6,showsAll->VL,dictSlotArgs->Y9,noArgs->aa6
open ForInStep renaming yield->Ud
open PySem.Builtin.Frozenset renaming sizeOf->UY,updateFrom->Yg,newClass->YO
open PySem.W.Looks renaming ld->Vf,here->aa7,tag->ab6
open StateT renaming run_pure->Vz
open PySem.Heap.SameBut renaming update->Wq
open PySem.EntryCells renaming newEntry->Wt
open PySem.Shared renaming TypeIs->WF
open PySem.SeqAt.EqAt renaming int_str->WI,str_int->WJ,same->X6,none_tuple->Z2,bool_tuple->Z3,tuple_none->Z4,tuple_bool->Z5
open PySem.W.KF renaming slot_gs->W0,owner_class->ZY,entry_class->ZZ,type_class->Z6
open PySem.Heap.Ns1 renaming of_empty->W9
open String renaming splitOnAux->Xm,splitOn->YQ
open PySem.SetTable.below renaming go->Xn
open PyProof.Rows.IsTup renaming new->Xx
open Array.Perm renaming refl->X9
open PySem.Within renaming cons->Yx
open PySem.SeqAt.RcNeAt renaming lists_lengths->YC,tuple_list->ZF,list_tuple->ZG,tuples->aa5,lists->ab0
open List.Perm renaming cons->YM
open PySem.EqNone renaming eq_none_none->YX,eq_none_bool->YY,eq_bool_none->YZ,ne_none_none->Y2,ne_none_bool->Y3,ne_bool_none->Y4,eq_none_int->Ze,eq_none_str->Zf,eq_int_none->Zg,eq_str_none->Zi,ne_none_int->Zk,ne_none_str->Zl,ne_int_none->Zm,ne_str_none->Zo
open PySem.EqMixed renaming eq_bool_str->Y0,eq_str_bool->Y1,ne_bool_str->Y5,ne_str_bool->Y6,eq_int_str->Zh,eq_str_int->Zj,ne_int_str->Zn,ne_str_int->Zq
open PySem.SeqAt.RcAt renaming lists_lengths->Zw,tuple_list->Z0,list_tuple->Z1
open List.Nodup renaming mem_erase_iff->ZC
open Sum.inr renaming inj->Z7
open PySem.CmpOp renaming NotIn->aa0
open PySem.Walks renaming tuple->aa4,list->ab1
open PySem.Heap.IsSliceOf renaming new->aa8
open PySem.W.WShape renaming has->aa9
open List.Sublist renaming nodup->ab3,map->ab8
open List.Pairwise renaming nil->ab4,imp->ab5
open PySem.W.WData renaming int->ab7
open PySem.Heap.DictOf renaming new->ab9
set_option Elab.async false
set_option linter.all false
set_option maxRecDepth 100000
variable{pins:List (OD×PySem.Obj)}{E:OC->OI->Prop}{K:OK}{s:OI}{w:Py}{A:Qz}{mg:PySem.Str->Option OC}{P:Ph}{us:List OC}{ix:List (Option Nat)}{pos:PySem.Pos}{prog:Ph}{st:Rs}{es:List O4}{sl:List Nat}{base:Pk}{fd:TV}{ρ:List OD}{y:Option Int}{osl:Array (Option OC)}
local macro_rules | `(tactic| nofun) => `(tactic| with_unfolding_all rfl)
noncomputable section
namespace L2
open PySem PySem.Spec PyProof.Rows
theorem da{d c:Type}{P:Prop}{A B C:d->c->Prop}(h:∃a b,A a b/\B a b/\C a b)(k:∀a b,A a b->B a b->C a b->P):P:=by
 obtain⟨a,b,p,q,r⟩:=h;exact k a b p q r

abbrev bh:=Sum Int Str
def r8:bh->OC->Bool
 | .inl k,v=>SR k v
 | .inr x,v=>UT x v
def KW(w:Py):bh->Int
 | .inl k=>SZ k
 | .inr x=>hashStr w x
theorem cq:∀{k:bh} {v:OC},r8 k v=true->(∃i t,k=SI i/\v=RK i t)∨(∃x t,k=Si x/\v=Wa x t)
 | .inl i,v,h=>by
  obtain⟨t,e⟩:=Value.isInt_shape (k:=i) (v:=v) h;exact .inl ⟨i,t,rfl,e⟩
 | .inr x,v,h=>by
  obtain⟨t,e⟩:=Value.isStrOf_shape (x:=x) (v:=v) h;exact .inr ⟨x,t,rfl,e⟩
theorem AC(i:Int)(t:Tok):r8 (.inl i) (.int i t)=true:=by simp[r8,SR]
theorem AD(x:Str)(t:Tok):r8 (.inr x) (.str x t)=true:=by simp[r8,UT]
theorem II(a b:Int):decide ((SI a:bh)=SI b)=(a==b):=by
 by_cases e:a=b
 ·subst e;simp
 ·have h:¬(SI a:bh)=SI b:=λq=>e (Sum.inl.inj q);rw[decide_eq_false h];exact(beq_eq_false_iff_ne.mpr e).symm
theorem IJ(a b:Str):decide ((Si a:bh)=Si b)=decide (a=b):=by
 by_cases e:a=b
 ·subst e;simp
 ·have h:¬(Si a:bh)=Si b:=λq=>e (Z7 q);rw[decide_eq_false h,decide_eq_false e]
theorem IK(a:Int)(b:Str):decide ((SI a:bh)=Si b)=false:=decide_eq_false (λq=>nomatch q)
theorem IL(a:Str)(b:Int):decide ((Si a:bh)=SI b)=false:=decide_eq_false (λq=>nomatch q)

def aW(prog:Ph)(w:Py):PySem.KeyKind prog w bh where
 is:=r8
 hash:=KW w
 inj:=λv a b g hb=>by
  rcases cq g with ⟨i,t,rfl,rfl⟩ | ⟨x,t,rfl,rfl⟩
  ·rcases cq hb with ⟨j,u,rfl,e⟩ | ⟨y,u,rfl,e⟩
   ·injection e with c _;rw[c]
   ·exact nomatch e
  ·rcases cq hb with ⟨j,u,rfl,e⟩ | ⟨y,u,rfl,e⟩
   ·exact nomatch e
   ·injection e with c _;rw[c]
 byValue:=λk v h=>by
  rcases cq h with ⟨i,t,rfl,rfl⟩ | ⟨x,t,rfl,rfl⟩<;>rfl
 pyHash:=λd h=>by
  rcases cq d with ⟨i,t,rfl,rfl⟩ | ⟨x,t,rfl,rfl⟩
  ·exact wpAny_pyHash_int h
  ·exact wpAny_pyHash_str h
 eqBool:=λf d h=>by
  rcases cq f with ⟨i,t,rfl,rfl⟩ | ⟨x,t,rfl,rfl⟩
  ·rcases cq d with ⟨j,u,rfl,rfl⟩ | ⟨y,u,rfl,rfl⟩
   ·rw[II] at h;exact Xv h
   ·rw[IK] at h;exact WI i t y u _ _ _ _ h
  ·rcases cq d with ⟨j,u,rfl,rfl⟩ | ⟨y,u,rfl,rfl⟩
   ·rw[IL] at h;exact WJ x t j u _ _ _ _ h
   ·rw[IJ] at h;exact wpAny_eqBool_str h
 «strs»:=λk x t v h=>by
  rcases cq h with ⟨i,u,rfl,e⟩ | ⟨y,u,rfl,e⟩
  ·exact nomatch e
  ·injection e with c _;subst c;cases v<;>rfl

theorem vt(prog:Ph)(w:Py)(i:Int)(t:Tok):(aW prog w).is (.inl i) (.int i t)=true:=AC i t
theorem jb(prog:Ph)(w:Py)(x:Str)(t:Tok):(aW prog w).is (.inr x) (.str x t)=true:=AD x t

inductive V where
 | non | bl (b:Bool) | int (i:Int) | str (x:Str) | byt (b:Array UInt8) | flt (b:UInt64) | ref (a:OD) | ty (n:String)
 deriving DecidableEq

def aI:V->OC->Prop
 | .non,u=>u=Pw
 | .bl b,u=>u=QX b
 | .int i,u=>∃t,u=RK i t
 | .str x,u=>∃t,u=Wa x t
 | .byt b,u=>∃t,u=Z8 b t
 | .flt b,u=>∃t,u=XR b t
 | .ref a,u=>u=OX a
 | .ty n,u=>u=WK n

abbrev aK:List V->List OC->Prop:=Paired aI
theorem aK.length{xs:List V}(r:aK xs us):xs.length=us.length:=Pm r
theorem aK.get:∀{xs:List V} {us:List OC} {i:Nat} {x:V},aK xs us->xs[i]?=some x->∃u,us[i]?=some u/\aI x u
 | _,_,_,_,.nil,e=>by simp at e
 | _,_,0,_,.cons r _,e=>by simp at e;subst e;exact⟨_,rfl,r⟩
 | _,_,i+1,x,.cons _ t,e=>by
  obtain⟨u,d,c⟩:=aK.get (i:=i) (x:=x) t (by simpa using e);exact⟨u,by simpa using d,c⟩
theorem aK.set{x:V}{u:OC}(r:aI x u):∀{xs:List V} {us:List OC} (i:Nat),aK xs us->aK (xs.set i x) (us.set i u)
 | _,_,_,.nil=>.nil
 | _,_,0,.cons _ t=>.cons r t
 | _,_,i+1,.cons q t=>.cons q (aK.set r i t)
theorem aK.append:∀{xs ys:List V} {us ws:List OC},aK xs us->aK ys ws->aK (xs++ys) (us++ws)
 | _,_,_,_,.nil,s=>s
 | _,_,_,_,.cons r t,s=>.cons r (aK.append t s)
theorem aK.take:∀{xs:List V} {us:List OC} (n:Nat),aK xs us->aK (xs.take n) (us.take n)
 | _,_,0,_=>.nil
 | _,_,_+1,.nil=>.nil
 | _,_,n+1,.cons r t=>.cons r (aK.take n t)
theorem aK.drop:∀{xs:List V} {us:List OC} (n:Nat),aK xs us->aK (xs.drop n) (us.drop n)
 | _,_,0,r=>r
 | _,_,_+1,.nil=>.nil
 | _,_,n+1,.cons _ t=>aK.drop n t
theorem aK.none_of:∀{xs:List V} {us:List OC} {i:Nat},aK xs us->xs[i]?=none->us[i]?=none:=λ{xs us i} r e=>by
 have d:=r.length;have c:xs.length≤i:=Pj.mp e;exact Pj.mpr (by omega)

def fB:Option V->Option OC->Prop
 | some v,some u=>aI v u
 | none,none=>True
 | _,_=>False
def KV{c:Type}:List (c×V)->List (c×OC)->Prop:=Paired λ(p:c×V) (q:c×OC)=>p.1=q.1/\aI p.2 q.2

def kV:bh->V
 | .inl i=>.int i
 | .inr x=>.str x

inductive HO where
 /-- a list -/
 | lst (xs:List V)
 /-- a tuple (never changes) -/
 | tup (xs:List V)
 /-- a dict whose keys are ints and texts;one whose keys are tuples of ints and texts (the empty one is both) -/
 | dK (kvs:List (bh×V)) | dT (kvs:List (List bh×V))
 /-- a set of ints: its members,its size -/
 | set (S:Int->Bool) (n:Nat)
 /-- an instance of the class at C,its dict at dx,its attributes -/
 | ins (C dx:OD) (fs:List (Str×V))
 /-- the dict of the instance at x -/
 | own (x:OD)
 /-- the dict of an exception -/
 | xd (fs:List (Str×V))
 /-- a bound method,f of x -/
 | met (f x:OD)
 /-- a range object lo,lo+1,.. below hi -/
 | rng (lo hi:Int)
 /-- a thing that is known to the object (the script;a dict while a loop walks it): read,never written while it is so -/
 | frz (o:Obj) (u:HO)
 /-- a code object's Z9 -/
 | tbl (ps:Array OC)
 /-- any other thing,by what is true of its one object (a def of one's own: SetO a S n:=HO.ext λh=>..) -/
 | ext (φ:Pk->Prop)

abbrev Hp:=OD->Option HO
def upd(H:Hp)(a:OD)(o:HO):Hp:=λb=>if b=a then some o else H b
theorem aq{H:Hp}{a:OD}{o:HO}:upd H a o a=some o:=by unfold upd;rw[if_pos rfl]
theorem al{H:Hp}{a b:OD}{o:HO}(h:b≠a):upd H a o b=H b:=by unfold upd;rw[if_neg h]
theorem oo{H:Hp}{a:OD}{o u:HO}:upd (upd H a o) a u=upd H a u:=by
 funext b;unfold upd;split<;>rfl
theorem Hy{H:Hp}{a b:OD}{o u:HO}(h:H a=some o)(h':H b=some u)(d:o≠u):a≠b:=by
 intro e;subst e;rw[h] at h';exact d (O6 h')
theorem cT{H:Hp}{a b:OD}{o:HO}(h:H a=some o)(h':H b=none):a≠b:=by
 intro e;subst e;rw[h] at h';cases h'

section
variable(P:Ph)(w:Py)
def bj(H:Hp)(h:Pk)(a:OD):HO->Prop
 | .lst xs=>xs.length≤OR/\∃(its:List OC) (n:Nat),aK xs its/\h.get? a=some {cls:=.type "list",data:=.seq its.toArray n}
 | .tup xs=>xs.length≤OR/\∃its:List OC,aK xs its/\Wx h a its.toArray
 | .dK kvs=>kvs.length≤OR/\(a==QO)=false/\∃vs,KV kvs vs/\h.DictOf (aW P w) a vs
 | .dT kvs=>kvs.length≤OR/\(a==QO)=false/\∃xs:List (List bh×OD×OC),
   Paired (λ(p:List bh×V) (q:List bh×OD×OC)=>p.1=q.1/\H q.2.1=some (.tup<|p.1.map kV)/\aI p.2 q.2.2) kvs xs /\
   ∃o es ep,h.get? a=some o/\o.ExactDict/\o.data=.dict es ep/\es.toList=xs.map (Yq<|Tw<|aW P w)/\(xs.map (·.1)).Nodup
 | .set S n=>h.SetOf (UL P w) a S n
 | .ins C d fs=>H d=some (.own a)/\fs.length≤1000/\d≠a/\h.get? a=some (Q9 C d) /\
   ∃c,h.Ns1 d c/\(∀f,fB (fs.lookup f) (c f))/\W2 c (fs.map (·.1))
 | .own _=>∃o,h.get? a=some o
 | .xd fs=>∃c,h.Ns1 a c/\∀f,fB (fs.lookup f) (c f)
 | .rng lo l=>∃t u v,h.get? a=some {cls:=.type "range",data:=.fields #[.int lo t,.int l u,.int 1 v]}
 | .frz o u=>h.get? a=some o/\bj H h a u
 | .tbl ps=>h.get? a=some {cls:=.none,data:=.fields ps}
 | .met f x=>h.get? a=some (UM (.ref f)<|.ref x)
 | .ext g=>g h/\(∃o,h.get? a=some o)/\∀j i:Pk,g j->(∀o,j.get? a=some o->i.get? a=some o)->g i
def i6(H:Hp)(h:Pk):Prop:=∀a o,H a=some o->bj P w H h a o
end
section
variable{H H':Hp}{h h':Pk}{a:OD}{o:HO}
theorem bj.lt(x:bj P w H h a o):a<h.objs.size:=by
 cases o with
 | lst xs=>obtain⟨_,_,_,_,e⟩:=x;exact OO e
 | tup xs=>obtain⟨_,_,_,p⟩:=x;exact p.lt
 | dK kvs=>obtain⟨_,_,_,_,o,_,_,e,_⟩:=x;exact OO e
 | dT kvs=>obtain⟨_,_,_,_,o,_,_,e,_⟩:=x;exact OO e
 | set S n=>obtain⟨o,_,_,_,e,_⟩:=x;exact OO e
 | ins C g fs=>obtain⟨_,_,_,e,_⟩:=x;exact OO e
 | own y=>obtain⟨_,e⟩:=x;exact OO e
 | xd fs=>obtain⟨_,⟨_,_,_,e,_⟩,_⟩:=x;exact OO e
 | rng lo d=>obtain⟨_,_,_,e⟩:=x;exact OO e
 | frz ob u=>obtain⟨e,_⟩:=x;exact OO e
 | tbl ps=>exact OO (show h.get? a=some _ from x)
 | met f y=>exact OO (show h.get? a=some _ from x)
 | ext c=>obtain⟨_,⟨_,e⟩,_⟩:=x;exact OO e
theorem Paired.mapP{d c:Type}{F G:d->c->Prop}:∀{l₁:List d} {l₂:List c},Paired F l₁ l₂->(∀a b,F a b->G a b)->Paired G l₁ l₂
 | _,_,.nil,_=>.nil
 | _,_,.cons r t,f=>.cons (f _ _ r) (Paired.mapP t f)
theorem bj.stay(x:bj P w H h a o)(k:∀b u,(b=a∨H b=some (.own a))->h.get? b=some u->h'.get? b=some u)
  (ho:∀b,H b=some (.own a)->H' b=some (.own a)) (ht:∀b xs,H b=some (.tup xs)->H' b=some (.tup xs)):bj P w H' h' a o:=by
 induction o with
 | lst xs=>obtain⟨z,its,n,r,e⟩:=x;exact⟨z,its,n,r,k _ _ (.inl rfl) e⟩
 | tup xs=>obtain⟨z,its,r,ob,e,c⟩:=x;exact⟨z,its,r,ob,k _ _ (.inl rfl) e,c⟩
 | dK kvs=>obtain⟨z,y,vs,r,ob,es,ep,e,c⟩:=x;exact⟨z,y,vs,r,ob,es,ep,k _ _ (.inl rfl) e,c⟩
 | dT kvs=>
  obtain⟨z,y,xs,r,ob,es,ep,e,c⟩:=x;exact⟨z,y,xs,Paired.mapP r λp q z=>⟨z.1,ht _ _ z.2.1,z.2.2⟩,ob,es,ep,k _ _ (.inl rfl) e,c⟩
 | set S n=>obtain⟨ob,es,ep,t,e,c⟩:=x;exact⟨ob,es,ep,t,k _ _ (.inl rfl) e,c⟩
 | ins C L fs=>
  obtain⟨d,z,ne,e,i,⟨g,es,ep,l,c⟩,r⟩:=x;exact⟨ho _ d,z,ne,k _ _ (.inl rfl) e,i,⟨g,es,ep,k _ _ (.inr d) l,c⟩,r⟩
 | own y=>obtain⟨ob,e⟩:=x;exact⟨ob,k _ _ (.inl rfl) e⟩
 | xd fs=>obtain⟨i,⟨g,es,ep,e,c⟩,r⟩:=x;exact⟨i,⟨g,es,ep,k _ _ (.inl rfl) e,c⟩,r⟩
 | rng lo I=>obtain⟨t,u,v,e⟩:=x;exact⟨t,u,v,k _ _ (.inl rfl) e⟩
 | frz ob u j=>obtain⟨e,q⟩:=x;exact⟨k _ _ (.inl rfl) e,j q⟩
 | tbl ps=>
  have e:h.get? a=some {cls:=.none,data:=.fields ps}:=x;show h'.get? a=some {cls:=.none,data:=.fields ps};exact k a _ (.inl rfl) e
 | met f y=>
  have e:h.get? a=some (UM (.ref f)<|.ref y):=x;show h'.get? a=some (UM (.ref f)<|.ref y);exact k a _ (.inl rfl) e
 | ext m=>obtain⟨p,⟨o,e⟩,st⟩:=x;exact⟨st _ _ p λo q=>k _ _ (.inl rfl) q,⟨o,k _ _ (.inl rfl) e⟩,st⟩
theorem i6.lt(x:i6 P w H h)(e:H a=some o):a<h.objs.size:=(x a o e).lt
theorem i6.fresh(x:i6 P w H h)(e:h.objs.size≤a):H a=none:=by
 cases q:H a with
 | none=>rfl
 | some u=>exact absurd (O7 (x.lt q) e) (QL _)
theorem i6.kept(x:i6 P w H h)(k:∀b u,h.get? b=some u->h'.get? b=some u):i6 P w H h':=λa o e=>
 (x a o e).stay (λb u _ q=>k b u q) (λ_ q=>q) λ_ _ q=>q
theorem i6.laid(x:i6 P w H h)(k:∀b u,h.get? b=some u->h'.get? b=some u)(d:h.objs.size≤a)(new:bj P w (upd H a o) h' a o):i6 P w (upd H a o) h':=λb u e=>by
 have hn:=x.fresh d;by_cases hb:b=a
 ·subst hb;rw[aq] at e;cases e;exact new
 ·rw[al hb] at e;exact(x b u e).stay (λc v _ q=>k c v q) (λc q=>by rw[al (cT q hn)];exact q) λc xs q=>by rw[al (cT q hn)];exact q
end
def Rd(H:Hp)(a:OD)(u:HO):Prop:=H a=some u∨∃o,H a=some (.frz o u)
theorem Rd.ok{H:Hp}{h:Pk}{a:OD}{u:HO}(r:Rd H a u)(x:i6 P w H h):bj P w H h a u:=by
 rcases r with r | ⟨o,r⟩
 ·exact x a u r
 ·obtain⟨_,q⟩:=x a _ r;exact q
def KY:Option HO->Prop
 | some (.lst _)=>True
 | some (.dK _)=>True
 | some (.dT _)=>True
 | some (.set _ _)=>True
 | some (.ins _ _ _)=>True
 | some (.ext _)=>True
 | _=>False
section
variable{H:Hp}{h h':Pk}{x e:OD}{o':HO}
theorem i6.write(ok:i6 P w H h)(i:KY (H x))(m:e=x∨H e=some (.own x))(k:∀b u,b≠e->h.get? b=some u->h'.get? b=some u)(j:∃u,h'.get? e=some u)
  (new:bj P w (upd H x o') h' x o'):i6 P w (upd H x o') h':=λb u q=>by
 have f:∀c y,H c=some (.own y)->c≠x:=λc y r z=>by subst z;rw[r] at i;exact i
 have g:∀c xs,H c=some (.tup xs)->c≠x:=λc xs r z=>by subst z;rw[r] at i;exact i
 by_cases hb:b=x
 ·subst hb;rw[aq] at q;cases q;exact new
 ·rw[al hb] at q;by_cases d:b=e
  ·have l:H b=some (.own x):=by
    rcases m with z | z
    ·exact absurd (d.trans z) hb
    ·rw[d];exact z
   rw[q] at l;cases l;obtain⟨v,o⟩:=j;exact⟨v,by rw[d];exact o⟩
  ·refine(ok b u q).stay (λc v hc r=>k c v ?_ r) (λc r=>by rw[al (f c b r)];exact r) λc xs r=>by rw[al (g c xs r)];exact r
   rcases hc with rfl | hc
   ·exact d
   ·rintro rfl;rcases m with z | z
    ·exact f c b hc z
    ·rw[hc] at z;cases z;exact hb rfl
end
structure Un(fs ex:List OD)(H H':Hp)(h h':Pk):Prop where
 keep:∀b o,h.get? b=some o->H b=none->b∉fs->b∉ex->h'.get? b=some o
 slot:∀b o,h.get? b=some o->H b=none->b∈fs->b∉ex->∃sl,h'.get? b=some {o with slots:=sl}
 free:∀b o,h.get? b=some o->H b=none->b∉ex->H' b=none
 there:∀b o,h.get? b=some o->b∉ex->∃o',h'.get? b=some o'
 tups:∀b xs,H b=some (.tup xs)->H' b=some (.tup xs)
 frzs:∀b o u,H b=some (.frz o u)->H' b=some (.frz o u)
 tbls:∀b ps,H b=some (.tbl ps)->∃more,H' b=some (.tbl<|ps++more)
section
variable{fs fs' ex ex':List OD}{H H1 H2:Hp}{h h1 h2 h':Pk}{a x e:OD}{o:HO}
theorem Un.any(u:Un fs ex H H1 h h1){b:OD}{ob:Obj}(q:h.get? b=some ob)(n:H b=none)(c:b∉ex):∃sl,h1.get? b=some {ob with slots:=sl}:=by
 by_cases hb:b∈fs
 ·exact u.slot b ob q n hb c
 ·exact⟨ob.slots,u.keep b ob q n hb c⟩
theorem Un.kept(k:∀b u,h.get? b=some u->h'.get? b=some u):Un fs ex H H h h' :=
 ⟨λb ob q _ _ _=>k b ob q,λb ob q _ _ _=>⟨ob.slots,k b ob q⟩,λ_ _ _ n _=>n,λb ob q _=>⟨ob,k b ob q⟩,λ_ _ q=>q,λ_ _ _ q=>q,λ_ ps q=>⟨#[],by rw[q];simp⟩⟩
theorem Un.refl:Un fs ex H H h h:=Un.kept λ_ _ q=>q
theorem Un.laid(k:∀b u,h.get? b=some u->h'.get? b=some u)(c:h.objs.size≤a)(hn:H a=none):Un fs ex H (upd H a o) h h' where
 keep:=λb u q _ _ _=>k b u q
 slot:=λb u q _ _ _=>⟨u.slots,k b u q⟩
 free:=λb u q n _=>by rw[al (O0<|O7 (OO q) c)];exact n
 there:=λb u q _=>⟨u,k b u q⟩
 tups:=λb xs q=>by rw[al (cT q hn)];exact q
 frzs:=λb u xs q=>by rw[al (cT q hn)];exact q
 tbls:=λb ps q=>⟨#[],by rw[al (cT q hn),q];simp⟩
theorem Un.write(d:KY (H x))(j:e=x∨H e=some (.own x))(k:∀b u,b≠e->h.get? b=some u->h'.get? b=some u)(g:∃u,h'.get? e=some u):Un fs ex H (upd H x o) h h':=by
 have i:∀b,H b=none->b≠x:=λb n z=>by subst z;rw[n] at d;exact d
 have hb:∀b,H b=none->b≠e:=λb n z=>by
  subst z;rcases j with r | r
  ·exact i b n r
  ·rw[n] at r;cases r
 have f:∀b u,H b=some u->¬KY (some u)->b≠x:=λb u q nm z=>by subst z;rw[q] at d;exact nm d
 refine⟨λb u q n _ _=>k b u (hb b n) q,λb u q n _ _=>⟨u.slots,k b u (hb b n) q⟩,λb u q n _=>by rw[al (i b n)];exact n,λb u q _=>?_,
  λb xs q=>by rw[al (f b _ q λz=>z)];exact q,λb u xs q=>by rw[al (f b _ q λz=>z)];exact q,λb ps q=>⟨#[],by rw[al (f b _ q λz=>z),q];simp⟩⟩
 by_cases c:b=e
 ·subst c;exact g
 ·exact⟨u,k b u c q⟩
end
def KJ(h:Pk)(H:Hp):List OD:=(RV h.objs.size).filter λa=>(H a).isSome
def tO(h:Pk)(H:Hp):Pk:=PM h (KJ h H)
theorem AE(h:Pk)(H:Hp):(tO h H).objs.size=h.objs.size:=VP _ _
theorem oP{h:Pk}{H:Hp}{b:OD}{o:Obj}(e:h.get? b=some o)(n:H b=none):(tO h H).get? b=some o :=
 RJ _ e λc=>by
  have q:(H b).isSome=true:=(T8.mp c).2;rw[n] at q;simp at q
theorem FG{h:Pk}{H:Hp}{b:OD}{o:Obj}(e:(tO h H).get? b=some o):h.get? b=some o/\H b=none:=by
 have c:h.get? b=some o:=QD (KJ h H) e;refine⟨c,?_⟩;cases q:H b with
 | none=>rfl
 | some x=>
  have d:b∈KJ h H:=T8.mpr ⟨Us.mpr<|OO c,by simp[q]⟩;have z:(tO h H).get? b=none:=P9 (KJ h H) d;rw[z] at e;cases e

def FH(g h:Pk)(L:OD):List (OD×Obj):=(RV h.objs.size).filterMap λa=>if a=L∨(g.get? a).isSome=true then none else(h.get? a).map λo=>(a,o)
def rest(g h:Pk)(L d:OD):List (OD×Obj):=(FH g h L).filter λp=>decide (p.1≠d)
structure Mod(K:OK)(mg:Str->Option OC)(base:Pk):Prop where
 kin:K.In base
 glob:base.Ns Pe mg
 blt:∃mb,base.Ns Yr mb/\∀x:Str,x≠"__name__" -> mb x=PJ x
 nolimit:base.NoLimit

structure Cx where
 prog:Ph
 w:Py
 K:OK
 mg:Str->Option OC
 base:Pk
 A:Qz
 N:List Str
 s₀:OI
 H₀:Hp
 env:Env
 outer:List Env
 stack:List Env
 ex:List OD
 fn:Str->Bool
 calm:Bool
 pn:List (OD×Obj)
 xe:OC->OI->Prop
def io(l:List Env):List OD:=l.filterMap (·.frame)
abbrev Cx.fs(X:Cx):List OD:=io X.outer

def Hz(c:PQ)(x:Str):Prop:=c.names.lookup x=some .local∨c.names.lookup x=some .cell∨c.names.lookup x=some .free
def er(c:PQ)(x:Str):Prop:=c.names.lookup x=some .local∨c.names.lookup x=some .cell
def M8(env:Env)(h:Pk)(m:Str->Option OC)(x:Str)(u:OC):Prop :=
 (env.kindOf x=some .local/\m x=some u)∨((env.kindOf x=some .cell∨env.kindOf x=some .free)/\∃c,env.cells.lookup x=some c/\h.IsCell c (some u))

structure Cx.Ok(X:Cx):Prop where
 mod:Mod X.K X.mg X.base
 kind:X.env.scope.kind=.function
 glob:X.env.globals=Pe
 blt:X.env.builtins=Yr
 above:X.s₀.heap.objs.size≤X.env.locals
 inj:∀x y c,X.env.cells.lookup x=some c->X.env.cells.lookup y=some c->x=y
 has:∀x,(X.env.kindOf x=some .cell∨X.env.kindOf x=some .free)->∃c,X.env.cells.lookup x=some c
 cab:∀x c,X.fn x=true->X.env.cells.lookup x=some c->X.s₀.heap.objs.size≤c
 hd:X.calm=true->X.A.handled=none
 frames:X.A.frames=some X.stack
 stk:X.stack=X.outer∨(X.stack=X.env::X.outer/\X.env.frame=some X.env.locals)
 exf:∀b∈X.ex,b≠X.env.locals/\∀x c,X.env.cells.lookup x=some c->c≠b
 bs:∀b o,X.base.get? b=some o->X.s₀.heap.get? b=some o/\X.H₀ b=none
 bsz:X.base.objs.size≤X.s₀.heap.objs.size
 noex:∀b o,X.base.get? b=some o->b∉X.ex
 exfs:∀b∈X.ex,b∉X.fs
 funs:X.s₀.heap.FunFrames X.base X.outer
 frf:∀b∈X.fs,X.H₀ b=none

structure ay(X:Cx)(pins:List (OD×Obj))(σ:List (Option V))(H:Hp)(s:OI):Prop where
 ok:X.Ok
 os:s.os=X.s₀.os
 bare:TN s.gens
 base:Un X.fs X.ex X.H₀ H X.s₀.heap s.heap
 loc:∃m,s.heap.Ns X.env.locals m/\∀(i:Nat) (x:Str) (v:V),X.N[i]?=some x->σ[i]?=some (some v)->Hz X.env.scope x->∃u,aI v u/\M8 X.env s.heap m x u
 cell:∀x c,X.env.cells.lookup x=some c->∃v,s.heap.IsCell c v
 free:H X.env.locals=none
 freeC:∀x c,X.env.cells.lookup x=some c->H c=none
 pin:∀p∈X.pn++pins,s.heap.get? p.1=some p.2/\H p.1=none/\p.1≠X.env.locals/\p.1∉X.fs/\∀v,p.2.data≠.cell v
 hok:i6 X.prog X.w H s.heap
 len:σ.length=X.N.length

section
variable{X:Cx}{σ:List (Option V)}{H H':Hp}{h':Pk}
theorem Cx.Ok.nofr(ok:X.Ok){b:OD}{o:Obj}(e:X.base.get? b=some o):b∉X.fs:=λhb=>by
 have:=(ok.funs.mem hb).1;rw[e] at this;cases this
theorem ay.bs(I:ay X pins σ H s):∀b o,X.base.get? b=some o->s.heap.get? b=some o/\H b=none:=λb o e=>
 ⟨I.base.keep b o (I.ok.bs b o e).1 (I.ok.bs b o e).2 (I.ok.nofr e) (I.ok.noex b o e),I.base.free b o (I.ok.bs b o e).1 (I.ok.bs b o e).2 (I.ok.noex b o e)⟩
theorem ay.bk(I:ay X pins σ H s):∀b o,X.base.get? b=some o->s.heap.get? b=some o:=λb o e=>(I.bs b o e).1
theorem ay.mod(I:ay X pins σ H s):Mod X.K X.mg X.base:=I.ok.mod
theorem ay.kIn(I:ay X pins σ H s):X.K.In s.heap:=I.ok.mod.kin.keeps I.bk
theorem ay.lt(I:ay X pins σ H s):X.env.locals<s.heap.objs.size:=let ⟨_,hn,_⟩:=I.loc;hn.lt
theorem ay.sz(I:ay X pins σ H s):X.s₀.heap.objs.size≤s.heap.objs.size:=PV I.ok.above (QP I.lt)
theorem ay.nofs(I:ay X pins σ H s){a:OD}(h:s.heap.objs.size≤a):a∉X.fs:=λhb=>by
 obtain⟨_,o,ho,_⟩:=I.ok.funs.mem hb;exact absurd (O7 (OO ho)<|PV I.sz h) (QL _)
theorem ay.cne(I:ay X pins σ H s):∀x c,X.env.cells.lookup x=some c->c≠X.env.locals:=λx c e z=>by
 obtain⟨v,o,ho,hd⟩:=I.cell x c e;obtain⟨m,⟨g,es,ep,d,f,_⟩,_⟩:=I.loc;rw[z,d] at ho;cases ho;rw[f] at hd;cases hd
theorem ay.funs(I:ay X pins σ H s):s.heap.FunFrames X.base X.outer:=by
 have all:∀(l:List Env),(∀b∈io l,b∈X.fs)->X.s₀.heap.FunFrames X.base l->s.heap.FunFrames X.base l:=by
  intro l
  induction l with
  | nil=>intro _ _;trivial
  | cons env r f=>
   intro hs g;obtain⟨h,⟨L,o,c,hn,ho,hd⟩,hr⟩:=g;have d:L∈X.fs:=hs L (by unfold io;rw[Uf,c];exact OW);obtain⟨sl,e⟩:=I.base.slot L o ho (I.ok.frf L d) d λz=>I.ok.exfs L z d;exact⟨h,⟨L,_,c,hn,e,hd⟩,f (λb hb=>hs b (by unfold io;rw[Uf,c];exact OT _ hb)) hr⟩
 exact all X.outer (λ_ hb=>hb) I.ok.funs

theorem ay.stack(I:ay X pins σ H s):s.heap.FunFrames X.base X.stack:=by
 rcases I.ok.stk with e | ⟨e,c⟩
 ·rw[e];exact I.funs
 ·rw[e];obtain⟨m,hn,_⟩:=I.loc;refine .cons (by rw[I.ok.kind];decide) c hn ?_ I.funs;exact Qa (PV I.ok.bsz I.ok.above)
theorem ay.stkSub(I:ay X pins σ H s):∀b∈io X.stack,b∈X.env.locals::X.fs:=λb hb=>by
 rcases I.ok.stk with e | ⟨e,c⟩
 ·rw[e] at hb;exact OT _ hb
 ·rw[e] at hb;unfold io at hb;rw[Uf,c] at hb;exact hb
theorem ay.stkFree(I:ay X pins σ H s):∀b∈io X.stack,H b=none:=λb hb=>by
 rcases OY.mp (I.stkSub b hb) with e | hb
 ·rw[e];exact I.free
 ·obtain⟨_,o,ho,_⟩:=I.ok.funs.mem hb;exact I.base.free b o ho (I.ok.frf b hb) λz=>I.ok.exfs b z hb

theorem ay.step{g':Array Ys}{t':Nat}{d':Drawn}{ch:List OD}(I:ay X pins σ H s)
  (h:∀b∈ch,(b∈X.ex∨X.s₀.heap.objs.size≤b)/\b≠X.env.locals/\(∀x c,X.env.cells.lookup x=some c->c≠b)/\∀p∈X.pn++pins,p.1≠b)
  (keep:∀b o,b≠X.env.locals->b∉X.fs->b∉ch->s.heap.get? b=some o->H b=none->h'.get? b=some o)
  (slot:∀b o,b≠X.env.locals->b∈X.fs->b∉ch->s.heap.get? b=some o->H b=none->∃sl,h'.get? b=some {o with slots:=sl}) (free:∀b o,b∉ch->s.heap.get? b=some o->H b=none->H' b=none)
  (there:∀b o,b∉ch->s.heap.get? b=some o->∃O,h'.get? b=some O)
  (tups:∀b xs,H b=some (.tup xs)->H' b=some (.tup xs)) (frzs:∀b o u,H b=some (.frz o u)->H' b=some (.frz o u)) (tbls:∀b ps,H b=some (.tbl ps)->∃more,H' b=some (.tbl<|ps++more))
  (ns:∀m,s.heap.Ns X.env.locals m->h'.Ns X.env.locals m) (hok:i6 X.prog X.w H' h') (hg:TN g') :
  ay X pins σ H' {s with heap:=h',gens:=g',drawn:=d',toks:=t'}:=by
 have Q:∀b o,X.s₀.heap.get? b=some o->b≠X.env.locals:=λb o e=>O0 (O7 (OO e) I.ok.above);have C:∀b o,X.s₀.heap.get? b=some o->b∉X.ex->b∉ch:=λb o e f hb=>by
  rcases(h b hb).1 with z | z
  ·exact f z
  ·exact absurd (O7 (OO e) z) (QL _)
 have j:∀x c,X.env.cells.lookup x=some c->∀v,s.heap.IsCell c v->h'.IsCell c v:=λx c e v ⟨o,ho,hd⟩=>by
  have g:c∉ch:=λz=>(h c z).2.2.1 x c e rfl;by_cases hc:c∈X.fs
  ·obtain⟨sl,q⟩:=slot c o (I.cne x c e) hc g ho (I.freeC x c e);exact⟨_,q,hd⟩
  ·exact⟨o,keep c o (I.cne x c e) hc g ho<|I.freeC x c e,hd⟩
 refine⟨I.ok,I.os,hg,⟨λb o e n hb f=>?_,λb o e n hb f=>?_,λb o e n f=>?_,λb o e f=>?_,λb xs e=>tups b xs (I.base.tups b xs e),λb o xs e=>frzs b o xs (I.base.frzs b o xs e),λb ps e=>?_⟩,?_,λx c e=>?_,?_,λx c e=>?_,λp hp=>?_,hok,I.len⟩
 ·exact keep b o (Q b o e) hb (C b o e f) (I.base.keep b o e n hb f) (I.base.free b o e n f)
 ·obtain⟨sl,L⟩:=I.base.slot b o e n hb f;obtain⟨Y,U⟩:=slot b _ (Q b o e) hb (C b o e f) L (I.base.free b o e n f);exact⟨Y,U⟩
 ·obtain⟨O,L⟩:=I.base.there b o e f;exact free b O (C b o e f) L (I.base.free b o e n f)
 ·obtain⟨O,L⟩:=I.base.there b o e f;exact there b O (C b o e f) L
 ·obtain⟨m1,L⟩:=I.base.tbls b ps e;obtain⟨m2,U⟩:=tbls b _ L;exact⟨m1++m2,by rw[U,Array.append_assoc]⟩
 ·obtain⟨m,hn,hl⟩:=I.loc;refine⟨m,ns m hn,λi x v L U e3=>?_⟩;obtain⟨u,r,l⟩:=hl i x v L U e3;refine⟨u,r,?_⟩;rcases l with l | ⟨k,c,e,z⟩
  ·exact .inl l
  ·exact .inr ⟨k,c,e,j x c e _ z⟩
 ·obtain⟨v,z⟩:=I.cell x c e;exact⟨v,j x c e v z⟩
 ·obtain⟨m,⟨o,_,_,ho,_⟩,_⟩:=I.loc;exact free _ o (λz=>(h _ z).2.1 rfl) ho I.free
 ·obtain⟨v,o,ho,hd⟩:=I.cell x c e;exact free c o (λz=>(h c z).2.2.1 x c e rfl) ho (I.freeC x c e)
 ·obtain⟨e,n,ne,Z,d⟩:=I.pin p hp;have g:p.1∉ch:=λz=>(h p.1 z).2.2.2 p hp rfl;exact⟨keep p.1 p.2 ne Z g e n,free p.1 p.2 g e n,ne,Z,d⟩
theorem ay.un{t':Nat}(I:ay X pins σ H s)(u:Un X.fs [] H H' s.heap h')(hok:i6 X.prog X.w H' h'):ay X pins σ H' {s with heap:=h',toks:=t'}:=by
 obtain⟨m,⟨o,es,ep,ho,r⟩,_⟩:=id I.loc;obtain⟨sl,i⟩:=u.any ho I.free (by simp);exact I.step (g':=s.gens) (d':=s.drawn) (ch:=[]) (λ_ z=>nomatch z) (λb o _ hb _ e n=>u.keep b o e n hb (by simp)) (λb o _ hb _ e n=>u.slot b o e n hb (by simp)) (λb o _ e n=>u.free b o e n (by simp)) (λb o _ e=>u.there b o e (by simp)) u.tups u.frzs u.tbls (λl h=>by
  obtain⟨j,d,f,c,g⟩:=h;rw[ho] at c;cases c;exact⟨_,d,f,i,g⟩) hok I.bare
theorem ay.call{g':Array Ys}{t':Nat}{d':Drawn}{ch:List OD}(I:ay X pins σ H s)(u:Un (io X.stack) ch H H' s.heap h')(hok:i6 X.prog X.w H' h')(L:TN g')
  (g:∀b∈ch,(b∈X.ex∨X.s₀.heap.objs.size≤b)/\b≠X.env.locals/\(∀x c,X.env.cells.lookup x=some c->c≠b)/\∀p∈X.pn++pins,p.1≠b) :
  ay X pins σ H' {s with heap:=h',gens:=g',drawn:=d',toks:=t'}:=by
 obtain⟨m,⟨o,es,ep,ho,r⟩,_⟩:=id I.loc;obtain⟨sl,h⟩:=u.any ho I.free λz=>(g _ z).2.1 rfl;exact I.step (ch:=ch) g (λb o h hb d e n=>u.keep b o e n (λz=>(OY.mp<|I.stkSub b z).elim h hb) d) (λb o _ _ d e n=>u.any e n d) (λb o d e n=>u.free b o e n d) (λb o d e=>u.there b o e d) u.tups u.frzs u.tbls (λQ C=>by
  obtain⟨O,i,j,f,l⟩:=C;rw[ho] at f;cases f;exact⟨_,i,j,h,l⟩) hok L
theorem ay.turned{t':Nat}{it:OD}(I:ay X pins σ H s)(k:∀b o,b≠it->s.heap.get? b=some o->h'.get? b=some o)(hn:H it=none)(g:it≠X.env.locals)
  (l:it∈X.ex∨X.s₀.heap.objs.size≤it) (j:∀x c,X.env.cells.lookup x=some c->c≠it) (i:∀p∈X.pn++pins,p.1≠it):ay X pins σ H {s with heap:=h',toks:=t'}:=by
 have f:∀b u,H b=some u->b≠it:=λb u e z=>by rw[z,hn] at e;cases e
 refine I.step (g':=s.gens) (d':=s.drawn) (ch:=[it]) (λb hb=>?_) (λb o _ _ d e _=>k b o (λz=>d (by simp[z])) e) (λb o _ _ d e _=>⟨o.slots,k b o (λz=>d (by simp[z])) e⟩) (λ_ _ _ _ n=>n)
  (λb o d e=>⟨o,k b o (λz=>d (by simp[z])) e⟩) (λ_ _ e=>e) (λ_ _ _ e=>e) (λb ps e=>⟨#[],by rw[e];simp⟩) (λm h=>?_) (λb u e=>?_) I.bare
 ·have e:b=it:=by simpa using hb
  subst e;exact⟨l,g,j,i⟩
 ·obtain⟨o,es,ep,ho,r⟩:=h;exact⟨o,es,ep,k _ o (Qp g) ho,r⟩
 ·refine(I.hok b u e).stay (λc v d q=>k c v ?_ q) (λ_ q=>q) λ_ _ q=>q;rcases d with z | z
  ·rw[z];exact f b u e
  ·exact f c _ z
theorem ay.tok(I:ay X pins σ H s)(t:Nat):ay X pins σ H {s with toks:=t}:=I.un (h':=s.heap) (t':=t) Un.refl I.hok
theorem ay.kept{t':Nat}(I:ay X pins σ H s)(k:∀b u,s.heap.get? b=some u->h'.get? b=some u):ay X pins σ H {s with heap:=h',toks:=t'}:=I.un (Un.kept k) (I.hok.kept k)
theorem ay.laid{a:OD}{o:HO}{t':Nat}(I:ay X pins σ H s)(k:∀b u,s.heap.get? b=some u->h'.get? b=some u)(c:s.heap.objs.size≤a)(new:bj X.prog X.w (upd H a o) h' a o) :
  ay X pins σ (upd H a o) {s with heap:=h',toks:=t'}:=I.un (Un.laid k c<|I.hok.fresh c) (I.hok.laid k c new)
theorem ay.write{x e:OD}{o:HO}{t':Nat}(I:ay X pins σ H s)(d:KY (H x))(f:e=x∨H e=some (.own x))(k:∀b u,b≠e->s.heap.get? b=some u->h'.get? b=some u)(c:∃u,h'.get? e=some u)
  (new:bj X.prog X.w (upd H x o) h' x o):ay X pins σ (upd H x o) {s with heap:=h',toks:=t'}:=I.un (Un.write d f k c) (I.hok.write d f k c new)
theorem ay.weak{c:List (Option V)}(I:ay X pins σ H s)(f:c.length=σ.length)(w:∀(i:Nat) v,c[i]?=some (some v)->σ[i]?=some (some v)):ay X pins c H s :=
 ⟨I.ok,I.os,I.bare,I.base,let ⟨m,hn,d⟩:=I.loc;⟨m,hn,λi x v j h g=>d i x v j (w i v h) g⟩,I.cell,I.free,I.freeC,I.pin,I.hok,f.trans I.len⟩
theorem ay.pins_of{pins':List (OD×Obj)}(I:ay X pins σ H s)(h:∀p∈pins',s.heap.get? p.1=some p.2/\H p.1=none/\p.1≠X.env.locals/\p.1∉X.fs/\∀v,p.2.data≠.cell v):ay X pins' σ H s :=
 ⟨I.ok,I.os,I.bare,I.base,I.loc,I.cell,I.free,I.freeC,λp c=>(PN.mp c).elim (λz=>I.pin p (Qc _ z)) (h p),I.hok,I.len⟩

theorem oQ{N:List Str}(c:N.Nodup){i j:Nat}{x:Str}(a:N[i]?=some x)(b:N[j]?=some x):i=j:=by
 obtain⟨h,f⟩:=OL.mp a;obtain⟨g,d⟩:=OL.mp b;exact(List.getElem_inj c).mp (f.trans d.symm)

theorem r9{M:Wy}{i:Nat}{x:Str}{v:V}{u:OC}{Q:Unit->OI->Prop}(I:ay X pins σ H s)(hN:X.N.Nodup)(hi:X.N[i]?=some x)(g:er X.env.scope x)(r:aI v u)
  (h:∀s',ay X pins (σ.set i<|some v) H s'->(∃a,QA a s.heap s'.heap/\(a=X.env.locals∨X.env.cells.lookup x=some a))->Q () s') (hf:X.fn x=true∨X.env.scope.names.lookup x=some .local:=by with_unfolding_all (first | exact .inl rfl | exact .inr rfl | assumption)):OM M A (Xw X.env x u) Q E s:=by
 obtain⟨m,hn,hl⟩:=id I.loc;have hcls:(X.env.scope.kind==.class||(X.env.scope.kind==.module&&X.env.locals !=X.env.globals))=false:=by rw[I.ok.kind];rfl
 have L:i<σ.length:=by rw[I.len];exact(OL.mp hi).1
 have cne:=I.cne;have tracked:∀{a:OD} {h':Pk},(∃o,s.heap.get? a=some o/\H a=none)->QA a s.heap h'->i6 X.prog X.w H h':=λ{a h'} ha hs b ob e=>by
  obtain⟨_,_,l⟩:=ha;refine(I.hok b ob e).stay (λc w' hc q=>(hs.2 c ?_).trans q) (λ_ q=>q) λ_ _ q=>q;rintro rfl;rcases hc with rfl | hc
  ·rw[l] at e;cases e
  ·rw[l] at hc;cases hc
 rcases g with hk | hk
 ·refine wpAny_storeName_local hk hn (λh' hn' hs=>?_) hcls;obtain⟨oL,_,_,hoL,_⟩:=id hn;refine h _ ⟨I.ok,I.os,I.bare,⟨λb o e n hb g=>?_,λb o e n hb g=>?_,I.base.free,λb o e g=>?_,I.base.tups,I.base.frzs,I.base.tbls⟩,⟨_,hn',λj y v' f C e3=>?_⟩,λy c e=>?_,I.free,I.freeC,λp hp=>?_,tracked ⟨oL,hoL,I.free⟩ hs,by simpa using I.len⟩ ⟨_,hs,.inl rfl⟩
  ·exact(hs.2 b<|O0<|O7 (OO e) I.ok.above).trans (I.base.keep b o e n hb g)
  ·obtain⟨sl,f⟩:=I.base.slot b o e n hb g;exact⟨sl,(hs.2 b<|O0<|O7 (OO e) I.ok.above).trans f⟩
  ·obtain⟨o',f⟩:=I.base.there b o e g;exact⟨o',(hs.2 b<|O0<|O7 (OO e) I.ok.above).trans f⟩
  ·by_cases O:j=i
   ·subst O;rw[hi] at f;cases f;rw[RW L] at C;cases C;exact⟨u,r,.inl ⟨hk,by simp⟩⟩
   ·rw[Sn (Qp O)] at C;obtain⟨u',r',q⟩:=hl j y v' f C e3;refine⟨u',r',?_⟩;rcases q with ⟨k,e⟩ | ⟨k,c,e,z⟩
    ·refine .inl ⟨k,?_⟩;have:y≠x:=λe=>O (oQ hN f<|e▸hi);simp[this,e]
    ·exact .inr ⟨k,c,e,z.sameBut hs<|cne y c e⟩
  ·obtain⟨w',z⟩:=I.cell y c e;exact⟨w',z.sameBut hs<|cne y c e⟩
  ·obtain⟨e,n,ne,nf,d⟩:=I.pin p hp;exact⟨(hs.2 p.1 ne).trans e,n,ne,nf,d⟩
 ·have U:X.fn x=true:=by
   rcases hf with z | z
   ·exact z
   ·rw[z] at hk;cases hk
  obtain⟨c,hc⟩:=I.ok.has x (.inl hk);obtain⟨w',z⟩:=I.cell x c hc;refine wpAny_storeName_cell I.ok.kind hk hc z (λh' hc' hs=>?_);obtain⟨oc,Z,Y⟩:=id z;refine h {s with heap:=h'} ⟨I.ok,I.os,I.bare,⟨λb o e n hb g=>?_,λb o e n hb g=>?_,I.base.free,λb o e g=>?_,I.base.tups,I.base.frzs,I.base.tbls⟩,⟨m,hn.sameBut hs<|Qp<|cne x c hc,λj y v' f C e3=>?_⟩,λy c' e=>?_,I.free,I.freeC,λp hp=>?_,tracked ⟨oc,Z,I.freeC x c hc⟩ hs,by simpa using I.len⟩ ⟨c,hs,.inr hc⟩
  ·exact(hs.2 b<|O0<|O7 (OO e)<|I.ok.cab x c U hc).trans (I.base.keep b o e n hb g)
  ·obtain⟨sl,f⟩:=I.base.slot b o e n hb g;exact⟨sl,(hs.2 b<|O0<|O7 (OO e)<|I.ok.cab x c U hc).trans f⟩
  ·obtain⟨o',f⟩:=I.base.there b o e g;exact⟨o',(hs.2 b<|O0<|O7 (OO e)<|I.ok.cab x c U hc).trans f⟩
  ·by_cases O:j=i
   ·subst O;rw[hi] at f;cases f;rw[RW L] at C;cases C;exact⟨u,r,.inr ⟨.inl hk,c,hc,hc'⟩⟩
   ·rw[Sn (Qp O)] at C;obtain⟨u',r',q⟩:=hl j y v' f C e3;refine⟨u',r',?_⟩;rcases q with q | ⟨k,c',e,z'⟩
    ·exact .inl q
    ·refine .inr ⟨k,c',e,z'.sameBut hs ?_⟩;rintro rfl;exact O (oQ hN f<|I.ok.inj _ _ _ e hc▸hi)
  ·by_cases hcc:c'=c
   ·subst hcc;exact⟨_,hc'⟩
   ·obtain⟨w2,z2⟩:=I.cell y c' e;exact⟨w2,z2.sameBut hs hcc⟩
  ·obtain⟨e,n,ne,nf,d⟩:=I.pin p hp;refine⟨(hs.2 p.1 ?_).trans e,n,ne,nf,d⟩;intro q;rw[q,Z] at e;have q':oc=p.2:=O6 e;exact d w' (by rw[<-q'];exact Y)
theorem f8{M:Wy}{i:Nat}{x:Str}{v:V}{u:OC}{Q:Unit->OI->Prop}(I:ay X pins σ H s)(g:X.N.Nodup)(d:X.N[i]?=some x)(c:er X.env.scope x)(r:aI v u)
  (h:∀s',ay X pins (σ.set i<|some v) H s'->Q () s') (f:X.fn x=true∨X.env.scope.names.lookup x=some .local:=by with_unfolding_all (first | exact .inl rfl | exact .inr rfl | assumption)):OM M A (Xw X.env x u) Q E s :=
 r9 I g d c r (λs' j _=>h s' j) f
theorem ay.call'{s':OI}{ch:List OD}(I:ay X pins σ H s)(ho:s'.os=s.os)(u:Un (io X.stack) ch H H' s.heap s'.heap)(hok:i6 X.prog X.w H' s'.heap)(g:TN s'.gens)
  (d:∀b∈ch,(b∈X.ex∨X.s₀.heap.objs.size≤b)/\b≠X.env.locals/\(∀x c,X.env.cells.lookup x=some c->c≠b)/\∀p∈X.pn++pins,p.1≠b):ay X pins σ H' s':=by
 obtain⟨h',g',d',t',f⟩:=s';have e:f=s.os:=ho;subst e;exact I.call (g':=g') (t':=t') (d':=d') u hok g d
end
abbrev XK:=OC->Option OD->Hp->Prop
abbrev St:=List (Option V)
abbrev VK:=V->Hp->Prop
abbrev TE:=St->Hp->VK->Prop
abbrev TT:=St->Hp->(Bool->Hp->Prop)->Prop
abbrev TA:=St->Hp->(List V->Hp->Prop)->Prop
structure qT where
 nx:St->Hp->Prop
 rt:VK
 bk:St->Hp->Prop:=λ_ _=>False
 ct:St->Hp->Prop:=λ_ _=>False
abbrev TS:=qT->St->Hp->Prop

def EP(X:Cx)(pins:List (OD×Obj))(σ:St)(Q:VK)(u:OC)(s':OI):Prop:=∃v c,ay X pins σ c s'/\aI v u/\Q v c
def TP(X:Cx)(pins:List (OD×Obj))(σ:St)(Q:Bool->Hp->Prop)(b:Bool)(s':OI):Prop:=∃c,ay X pins σ c s'/\Q b c
def AP(X:Cx)(pins:List (OD×Obj))(σ:St)(Q:List V->Hp->Prop)(us:List OC)(s':OI):Prop:=∃vs c,ay X pins σ c s'/\aK vs us/\Q vs c
def SP(X:Cx)(pins:List (OD×Obj))(D:qT)(f:Flow)(s':OI):Prop :=
 match f with
 | .next=>∃c d,ay X pins c d s'/\D.nx c d
 | .brk=>∃c d,ay X pins c d s'/\D.bk c d
 | .cont=>∃c d,ay X pins c d s'/\D.ct c d
 | .ret u=>∃v c d,ay X pins c d s'/\aI v u/\D.rt v d

def PE(X:Cx)(e:O4)(t:TE):Prop :=
 ∀(pins:List (OD×Obj)) (s:OI) (σ:St) (H:Hp) (Q:VK),ay X pins σ H s->t σ H Q->OM (OP X.prog X.w) X.A (Pq e X.env) (EP X pins σ Q) X.xe s
def PT(X:Cx)(e:O4)(t:TT):Prop :=
 ∀(pins:List (OD×Obj)) (s:OI) (σ:St) (H:Hp) (Q:Bool->Hp->Prop),ay X pins σ H s->t σ H Q->OM (OP X.prog X.w) X.A (WL e X.env<|Pq e X.env) (TP X pins σ Q) X.xe s
def PW(X:Cx)(e:O4)(t:TT):Prop :=
 ∀(whole:Sem OC) (pins:List (OD×Obj)) (s:OI) (σ:St) (H:Hp) (Q:Bool->Hp->Prop),ay X pins σ H s->t σ H Q->OM (OP X.prog X.w) X.A (WL e X.env whole) (TP X pins σ Q) X.xe s
theorem PW.pt{X:Cx}{e:O4}{t:TT}(h:PW X e t):PT X e t:=h _
def PA(X:Cx)(es:List O4)(t:TA):Prop :=
 ∀(pos:Pos) (pins:List (OD×Obj)) (s:OI) (σ:St) (H:Hp) (Q:List V->Hp->Prop),ay X pins σ H s->t σ H Q->OM (OP X.prog X.w) X.A (spliced<|QE pos<|O1 es X.env) (AP X pins σ Q) X.xe s
def PS(X:Cx)(st:Rs)(t:TS):Prop :=
 ∀(pins:List (OD×Obj)) (s:OI) (σ:St) (H:Hp) (D:qT),ay X pins σ H s->t D σ H->OM (OP X.prog X.w) X.A (exec st X.env) (SP X pins D) X.xe s
def gu(X:Cx)(st:List Rs)(t:TS):Prop :=
 ∀(pins:List (OD×Obj)) (s:OI) (σ:St) (H:Hp) (D:qT),ay X pins σ H s->t D σ H->OM (OP X.prog X.w) X.A (execs st X.env) (SP X pins D) X.xe s
theorem bi{c:Type}{t:Sem c}{Q d:c->OI->Prop}{M:Wy}(h:OM M A t Q E s)(hQ:∀a s,Q a s->d a s):OM M A t d E s:=Pf h hQ λ_ _ x=>x
section
variable{X:Cx}
def xv(i:Nat):TE:=λσ H Q=>∃v,σ[i]?=some (some v)/\Q v H
def tC(v:V):TE:=λ_ H Q=>Q v H
theorem xw{i:Nat}{x:Str}(z:X.N[i]?=some x)(j:Hz X.env.scope x)(hd:(x==("__debug__":Str))=false:=by decide)(f:(x==("__classdict__":Str))=false:=by decide):PE X (.Name x pos) (xv i):=by
 intro pins s σ H Q I h;obtain⟨v,e,h⟩:=h;obtain⟨m,hn,p⟩:=I.loc;obtain⟨u,r,l⟩:=p i x v z e j;have fin:EP X pins σ Q u s:=⟨v,H,I,r,h⟩
 rcases l with ⟨hk,o⟩ | ⟨hk,c,g,d⟩
 ·exact WM (TW I.ok.kind hk hn o fin) hd
 ·rcases hk with hk | hk
  ·exact WM (Wh I.ok.kind hk g d fin) hd
  ·exact WM (wpAny_loadName_free I.ok.kind hk g d fin f) hd
theorem cU{i j pos}:PE X (.Constant (.int i) j pos) (tC<|.int i):=λ_ _ _ H _ I h=>WN ⟨.int i,H,I.tok _,⟨_,rfl⟩,h⟩
theorem KZ{b j pos}:PE X (.Constant (.bool b) j pos) (tC<|.bl b):=λ_ _ _ H _ I h=>Constant_bool ⟨.bl b,H,I,rfl,h⟩
theorem xx{j pos}:PE X (.Constant .none j pos) (tC .non):=λ_ _ _ H _ I h=>Wz ⟨.non,H,I,rfl,h⟩
theorem gO{x j pos}:PE X (.Constant (.str x) j pos) (tC<|.str x):=λ_ _ _ H _ I h=>Calls.Constant_str ⟨.str x,H,I.tok _,⟨_,rfl⟩,h⟩

def Gl(X:Cx)(x:Str):Prop:=X.env.kindOf x=some .globalImplicit
theorem db{σ:St}{H:Hp}{x:Str}{u:OC}{Q:OC->OI->Prop}(I:ay X pins σ H s)(d:Gl X x)(c:X.mg x=some u)(h:Q u s)
  (hd:(x==("__debug__":Str))=false:=by decide):OM (OP X.prog X.w) X.A (Pq (.Name x pos) X.env) Q E s :=
 Ut I.ok.kind d (Calls.loadGlobal_global (by rw[I.ok.glob];exact I.mod.glob.keeps I.bk) c h) hd
theorem oR{σ:St}{H:Hp}{x:Str}{u:OC}{Q:OC->OI->Prop}(I:ay X pins σ H s)(f:Gl X x)(d:X.mg x=none)(c:PJ x=some u)(h:Q u s)
  (hn:x≠"__name__":=by decide) (hd:(x==("__debug__":Str))=false:=by decide):OM (OP X.prog X.w) X.A (Pq (.Name x pos) X.env) Q E s:=by
 obtain⟨j,i,g⟩:=I.mod.blt;exact Ut I.ok.kind f (Calls.loadGlobal_builtin (by rw[I.ok.glob];exact I.mod.glob.keeps I.bk) d (by rw[I.ok.blt];exact i.keeps I.bk) ((g x hn).trans c) h) hd
theorem yT{x:Str}{v:V}{u:OC}(d:Gl X x)(c:X.mg x=some u)(r:aI v u)(hd:(x==("__debug__":Str))=false:=by decide):PE X (.Name x pos) (tC v) :=
 λ_ _ _ H _ I h=>db I d c ⟨v,H,I,r,h⟩ hd
theorem oq{x:Str}{v:V}{u:OC}(f:Gl X x)(d:X.mg x=none)(c:PJ x=some u)(r:aI v u)(hn:x≠"__name__":=by decide)(hd:(x==("__debug__":Str))=false:=by decide):PE X (.Name x pos) (tC v) :=
 λ_ _ _ H _ I h=>oR I f d c ⟨v,H,I,r,h⟩ hn hd

variable{a b:O4}{ta tb:TE}
def PC(X:Cx)(d:XT)(a b:O4)(t:TE):Prop :=
 ∀(pins:List (OD×Obj)) (s:OI) (σ:St) (H:Hp) (Q:VK),ay X pins σ H s->t σ H Q ->
  OM (OP X.prog X.w) X.A (Pq a X.env) (λv s₁=>OM (OP X.prog X.w) X.A (Pq b X.env) (λu c=>OM (OP X.prog X.w) X.A (QH d v u) (EP X pins σ Q) X.xe c) X.xe s₁) X.xe s
theorem vw(b:O4){c:XT}(h:c≠.In)(d:c≠.NotIn):Qh c b=false:=by
 have g:(c==CmpOp.In)=false:=by cases c<;>first | rfl | exact absurd rfl h
 have f:(c==aa0)=false:=by cases c<;>first | rfl | exact absurd rfl d
 cases b<;>simp[Qh,g,f]
def Ct(ta:TE):TE:=λσ H Q=>ta σ H λx H1=>Q (.bl<|decide<|x=.non) H1
def Cu(ta:TE):TE:=λσ H Q=>ta σ H λx H1=>Q (.bl<|!decide (x=.non)) H1
theorem aI.none_iff{x:V}{v:OC}(r:aI x v):(v==Pw)=decide (x=.non):=by
 cases x with
 | non=>cases r;rfl
 | bl _=>cases r;rfl
 | int _=>obtain⟨t,rfl⟩:=r;rfl
 | str _=>obtain⟨t,rfl⟩:=r;rfl
 | byt _=>obtain⟨t,rfl⟩:=r;rfl
 | flt _=>obtain⟨t,rfl⟩:=r;rfl
 | ref _=>cases r;rfl
 | ty _=>cases r;rfl
theorem cG{j pos'}(f:PE X a ta):PC X .Is a (.Constant .none j pos') (Ct ta):=by
 intro pins s σ H Q I h;refine bi (f pins s σ H _ I h) λv g c=>da c λx H1 I1 d q1=>?_;exact Wz (is_none_gen ⟨.bl _,H1,I1,by rw[d.none_iff];rfl,q1⟩)
theorem FI{j pos'}(f:PE X a ta):PC X .IsNot a (.Constant .none j pos') (Cu ta):=by
 intro pins s σ H Q I h;refine bi (f pins s σ H _ I h) λv g c=>da c λx H1 I1 d q1=>?_;exact Wz (isnot_none_gen ⟨.bl _,H1,I1,by rw[d.none_iff];rfl,q1⟩)
def tB(t:TE):TT:=λσ H Q=>t σ H λx H1=>∃c,x=.bl c/\Q c H1
theorem oS{c:XT}{t:TE}(h:PC X c a b t)(f:Qh c b=false:=by with_unfolding_all (first | exact vw _ (by decide) (by decide) | rfl)):PE X (.Compare a [c] [b] pos) t:=λpins s σ H Q I d=>Yt (h pins s σ H Q I d) f
theorem cP{f:XT}{t:TE}(h:PC X f a b t)(g:Qh f b=false:=by with_unfolding_all (first | exact vw _ (by decide) (by decide) | rfl)):PT X (.Compare a [f] [b] pos) (tB t):=by
 intro pins s σ H Q I l;refine VE (bi (h pins s σ H _ I l) λv r g=>bi g λu p m=>bi m λc o i=>da i λx H1 I1 j q1=>?_) g;obtain⟨d,rfl,q⟩:=q1;cases j;exact QR ⟨H1,I1,q⟩
theorem IM{e:O4}{t:TE}(h:PE X e t)(i:∀whole,WL e X.env whole=(do let v <-whole;Rp e.pos;Rq [v] (ZI v)):=by with_unfolding_all (intro _;rfl)):PT X e (tB t):=by
 intro pins s σ H Q I g;refine W3 (bi (h pins s σ H _ I g) λv j c=>da c λx H1 I1 f q1=>?_) (i _);obtain⟨d,rfl,q⟩:=q1;cases f;exact QR ⟨H1,I1,q⟩

variable{tA tB':TT}{rest:List O4}
def K0(t u:TT):TT:=λσ H Q=>t σ H λc H1=>if c=true then u σ H1 Q else Q false H1
def N2(t u:TT):TT:=λσ H Q=>t σ H λc H1=>if c=true then Q true H1 else u σ H1 Q
def M9(t:TT):TT:=λσ H Q=>t σ H λc H1=>Q (!c) H1
theorem FJ(d:PT X a tA):PW X (.BoolOp .And [a] pos) tA:=by
 intro f pins s σ H Q I h;refine isTrue_and (bi (d pins s σ H Q I h) λc g e=>?_);cases c with
 | true=>exact isTrue_and_nil e
 | false=>exact e
theorem IN(d:PT X a tA):PW X (.BoolOp .Or [a] pos) tA:=by
 intro f pins s σ H Q I h;refine isTrue_or (bi (d pins s σ H Q I h) λc g e=>?_);cases c with
 | false=>exact isTrue_or_nil e
 | true=>exact e
theorem IP(g:PT X a tA)(hb:PW X (.BoolOp .And (b::rest) pos) tB'):PW X (.BoolOp .And (a::b::rest) pos) (K0 tA tB'):=by
 intro d pins s σ H Q I h;refine isTrue_and (bi (g pins s σ H _ I h) λc f ⟨H1,I1,q1⟩=>?_);cases c with
 | true=>exact hb d pins f σ H1 Q I1 q1
 | false=>exact⟨H1,I1,q1⟩
theorem K2(g:PT X a tA)(hb:PW X (.BoolOp .Or (b::rest) pos) tB'):PW X (.BoolOp .Or (a::b::rest) pos) (N2 tA tB'):=by
 intro d pins s σ H Q I h;refine isTrue_or (bi (g pins s σ H _ I h) λc f ⟨H1,I1,q1⟩=>?_);cases c with
 | true=>exact⟨H1,I1,q1⟩
 | false=>exact hb d pins f σ H1 Q I1 q1
theorem IQ(d:PT X a tA):PT X (.UnaryOp .Not a pos) (M9 tA):=by
 intro pins s σ H Q I h;exact isTrue_not (d pins s σ H (λc H1=>Q (!c) H1) I h)
def K3(ta tb:TE):TE:=λσ H Q=>ta σ H λx H1=>∃c,x=.bl c/\if c=true then tb σ H1 Q else Q (.bl false) H1
def Na(ta tb:TE):TE:=λσ H Q=>ta σ H λx H1=>∃c,x=.bl c/\if c=true then Q (.bl true) H1 else tb σ H1 Q
def K4(ta:TE):TE:=λσ H Q=>ta σ H λx H1=>∃c,x=.bl c/\Q (.bl<|!c) H1
theorem IR{c}{t:TE}(h:PE X a t):PE X (.BoolOp c [a] pos) t:=λpins s σ H Q I d=>BoolOp_one (h pins s σ H Q I d)
theorem IS(i:PE X a ta)(hb:PE X (.BoolOp .And (b::rest) pos) tb):PE X (.BoolOp .And (a::b::rest) pos) (K3 ta tb):=by
 intro pins s σ H Q I h;refine BoolOp_and (bi (i pins s σ H _ I h) λv f d=>da d λx H1 I1 g q1=>?_);obtain⟨c,rfl,q1⟩:=q1;cases g;refine QR ?_;cases c with
 | true=>exact hb pins f σ H1 Q I1 q1
 | false=>exact⟨.bl false,H1,I1,rfl,q1⟩
theorem K5(i:PE X a ta)(hb:PE X (.BoolOp .Or (b::rest) pos) tb):PE X (.BoolOp .Or (a::b::rest) pos) (Na ta tb):=by
 intro pins s σ H Q I h;refine BoolOp_or (bi (i pins s σ H _ I h) λv f d=>da d λx H1 I1 g q1=>?_);obtain⟨c,rfl,q1⟩:=q1;cases g;refine QR ?_;cases c with
 | false=>exact hb pins f σ H1 Q I1 q1
 | true=>exact⟨.bl true,H1,I1,rfl,q1⟩
theorem IT(g:PE X a ta):PE X (.UnaryOp .Not a pos) (K4 ta):=by
 intro pins s σ H Q I h;refine UnaryOp_ (bi (g pins s σ H _ I h) λv i d=>da d λx H1 I1 f q1=>?_);obtain⟨c,rfl,q1⟩:=q1;cases f;exact not_of (QR ⟨.bl<|!c,H1,I1,rfl,q1⟩)
def N3(t:TT)(ta tb:TE):TE:=λσ H Q=>t σ H λc H1=>if c=true then ta σ H1 Q else tb σ H1 Q
theorem oU{c:O4}(g:PT X c tA)(i:PE X a ta)(hb:PE X b tb):PE X (.IfExp c a b pos) (N3 tA ta tb):=by
 intro pins s σ H Q I h;refine wpAny_IfExp (bi (g pins s σ H _ I h) λd f ⟨H1,I1,q1⟩=>?_);cases d with
 | true=>exact i pins f σ H1 Q I1 q1
 | false=>exact hb pins f σ H1 Q I1 q1
end
def ip(K:OK)(H:Hp)(a:OD)(xs:List V):Prop :=
 Rd H a (.lst xs) ∨
  ∃(o:Obj) (its:Array OC) (n:Nat),K.lookup a=some o/\o.cls=.type "list"/\o.dict=none/\o.data=.seq its n/\its.size≤OR/\aK xs its.toList
def g9(K:OK)(H:Hp)(a:OD)(xs:List V):Prop :=
 Rd H a (.tup xs) ∨
  ∃(o:Obj) (its:Array OC) (n:Nat),K.lookup a=some o/\o.cls=.type "tuple"/\o.data=.seq its n/\its.size≤OR/\aK xs its.toList
def Nb:OC->Option V
 | .none=>some .non
 | .bool b=>some (.bl b)
 | .int i _=>some (.int i)
 | .str x _=>some (.str x)
 | .bytes b _=>some (.byt b)
 | .float b _=>some (.flt b)
 | .ref a=>some (.ref a)
 | .type n=>some (.ty n)
 | _=>none
theorem aI.abs{x:V}{u:OC}(r:aI x u):Nb u=some x:=by
 cases x with
 | non=>cases r;rfl
 | bl _=>cases r;rfl
 | int _=>obtain⟨t,rfl⟩:=r;rfl
 | str _=>obtain⟨t,rfl⟩:=r;rfl
 | byt _=>obtain⟨t,rfl⟩:=r;rfl
 | flt _=>obtain⟨t,rfl⟩:=r;rfl
 | ref _=>cases r;rfl
 | ty _=>cases r;rfl
theorem aI.inj{x y:V}{u:OC}(r:aI x u)(q:aI y u):x=y:=O6 (r.abs.symm.trans q.abs)
theorem aK.inj:∀{xs ys:List V} {us:List OC},aK xs us->aK ys us->xs=ys
 | _,_,_,.nil,.nil=>rfl
 | _,_,_,.cons r t,.cons c t'=>by rw[r.inj c,aK.inj t t']
section
variable{X:Cx}{σ:St}{H:Hp}{a:OD}{xs ys:List V}
theorem ip.of(h:H a=some (.lst xs)):ip K H a xs:=.inl (.inl h)
theorem g9.of(h:H a=some (.tup xs)):g9 K H a xs:=.inl (.inl h)
theorem ay.list(I:ay X pins σ H s)(h:ip X.K H a xs):∃its:List OC,aK xs its/\PlainL s.heap a its.toArray/\xs.length≤OR:=by
 rcases h with h | ⟨o,its,n,c,d,hd,hs,hz,r⟩
 ·obtain⟨z,its,n,r,e⟩:=h.ok I.hok;exact⟨its,r,⟨_,n,e,rfl,rfl,rfl⟩,z⟩
 ·refine⟨its.toList,r,⟨o,n,I.kIn a o c,d,hd,by simpa using hs⟩,?_⟩;have e:=r.length;simp only[Px] at e;omega
theorem ay.tuple(I:ay X pins σ H s)(h:g9 X.K H a xs):∃its:List OC,aK xs its/\Wx s.heap a its.toArray/\xs.length≤OR:=by
 rcases h with h | ⟨o,its,n,c,d,hs,hz,r⟩
 ·obtain⟨z,its,r,p⟩:=h.ok I.hok;exact⟨its,r,p,z⟩
 ·refine⟨its.toList,r,⟨o,I.kIn a o c,d,n,by simpa using hs⟩,?_⟩;have e:=r.length;simp only[Px] at e;omega
theorem ay.list_inj(I:ay X pins σ H s)(h:ip X.K H a xs)(h':ip X.K H a ys):xs=ys:=by
 obtain⟨its,r,⟨o,n,e,_,_,d⟩,_⟩:=I.list h;obtain⟨its',f,⟨i,j,c,_,_,d'⟩,_⟩:=I.list h';rw[e] at c;cases c;rw[d] at d';injection d' with g _;have:its=its':=by simpa using congrArg ZJ g
 subst this;exact r.inj f
theorem ay.tuple_inj(I:ay X pins σ H s)(h:g9 X.K H a xs)(h':g9 X.K H a ys):xs=ys:=by
 obtain⟨its,r,⟨o,e,_,n,d⟩,_⟩:=I.tuple h;obtain⟨its',f,⟨i,c,_,j,d'⟩,_⟩:=I.tuple h';rw[e] at c;cases c;rw[d] at d';injection d' with g _;have:its=its':=by simpa using congrArg ZJ g
 subst this;exact r.inj f
end
abbrev Cx.wish(X:Cx)(E:OC->OI->Prop):Cx:={X with xe:=E}
abbrev Cx.nox(X:Cx):Cx:=X.wish λ_ _=>False
theorem Cx.Ok.wish{X:Cx}(ok:X.Ok)(E:OC->OI->Prop):(X.wish E).Ok :=
 ⟨ok.mod,ok.kind,ok.glob,ok.blt,ok.above,ok.inj,ok.has,ok.cab,ok.hd,ok.frames,ok.stk,ok.exf,ok.bs,ok.bsz,ok.noex,ok.exfs,ok.funs,ok.frf⟩
theorem Cx.Ok.unwish{X:Cx}(ok:(X.wish E).Ok):X.Ok :=
 ⟨ok.mod,ok.kind,ok.glob,ok.blt,ok.above,ok.inj,ok.has,ok.cab,ok.hd,ok.frames,ok.stk,ok.exf,ok.bs,ok.bsz,ok.noex,ok.exfs,ok.funs,ok.frf⟩
section
variable{X:Cx}{σ:St}{H:Hp}
theorem ay.wish(I:ay X pins σ H s)(E:OC->OI->Prop):ay (X.wish E) pins σ H s:=⟨I.ok.wish E,I.os,I.bare,I.base,I.loc,I.cell,I.free,I.freeC,I.pin,I.hok,I.len⟩
theorem ay.unwish(I:ay (X.wish E) pins σ H s):ay X pins σ H s:=⟨I.ok.unwish,I.os,I.bare,I.base,I.loc,I.cell,I.free,I.freeC,I.pin,I.hok,I.len⟩
theorem SP.unwish{D:qT}{f:Flow}{s':OI}(h:SP (X.wish E) pins D f s'):SP X pins D f s':=by
 cases f with
 | next=>obtain⟨c,d,I,q⟩:=h;exact⟨c,d,I.unwish,q⟩
 | brk=>obtain⟨c,d,I,q⟩:=h;exact⟨c,d,I.unwish,q⟩
 | cont=>obtain⟨c,d,I,q⟩:=h;exact⟨c,d,I.unwish,q⟩
 | ret u=>obtain⟨v,c,d,I,r,q⟩:=h;exact⟨v,c,d,I.unwish,r,q⟩
theorem gu.nox{st:List Rs}{t:TS}(h:gu X.nox st t):gu X st t:=λpins s σ H D I c=>
 Pf (h pins s σ H D (I.wish _) c) (λ_ _ q=>q.unwish) λ_ _ z=>Pa z
end
section
variable{X:Cx}{rest:List Rs}{t u:TS}{e:O4}{te:TE}
def HA:TS:=λD σ H=>D.nx σ H
def Cv(t u:TS):TS:=λD σ H=>t {D with nx:=u D} σ H
theorem yU:gu X [] HA:=λ_ _ σ H _ I h=>Rw ⟨σ,H,I,h⟩
theorem cV(i:PS X st t)(g:gu X rest u):gu X (st::rest) (Cv t u):=by
 intro pins s σ H D I h;refine Rg (bi (i pins s σ H {D with nx:=u D} I h) λf d q=>?_);cases f with
 | next=>
  obtain⟨c,l,j,q⟩:=q;exact g pins d c l D j q
 | ret v=>exact q
 | brk=>exact q
 | cont=>exact q
theorem lr(c:PS X st t):gu X [st] t:=by
 intro pins s σ H D I h;refine Rg (bi (c pins s σ H D I h) λf d q=>?_);cases f with
 | next=>exact Rw q
 | ret v=>exact q
 | brk=>exact q
 | cont=>exact q
theorem ay.quiet{σ:St}{H:Hp}(I:ay X pins σ H s):interactive X.env=false:=by simp[interactive,I.ok.kind]
def K6(te:TE):TS:=λD σ H=>te σ H λ_ H1=>D.nx σ H1
theorem yV(d:PE X e te)(hs:Qq e none pos.line X.env=pure false:=by nofun):PS X (.Expr e pos) (K6 te):=by
 intro pins s σ H D I h;exact wpAny_Expr_any (bi (d pins s σ H _ I h) λv f c=>da c λx H1 I1 g q1=>⟨σ,H1,I1,q1⟩) I.quiet hs
def K7(te:TE):TS:=λD σ H=>te σ H D.rt
theorem tR(f:PE X e te):PS X (.Return (some e) pos) (K7 te):=by
 intro pins s σ H D I h;exact wpAny_Return_some (bi (f pins s σ H _ I h) λv g c=>da c λx H1 I1 d q1=>⟨x,σ,H1,I1,d,q1⟩)
def K8(c:TT)(t u:TS):TS:=λD σ H=>c σ H λb H1=>if b=true then t D σ H1 else u D σ H1
theorem HB{c:O4}{a b:List Rs}{f:TT}(i:PT X c f)(j:gu X a t)(hb:gu X b u):PS X (.If c a b pos) (K8 f t u):=by
 intro pins s σ H D I h;refine wpAny_If (bi (i pins s σ H _ I h) λd g ⟨H1,I1,q1⟩=>?_);cases d with
 | true=>exact j pins g σ H1 D I1 q1
 | false=>exact hb pins g σ H1 D I1 q1
def IU:TS:=λ_ _ _=>False
theorem Cw:PS X st IU:=λ_ _ _ _ _ _ h=>h.elim
end
abbrev TG:=V->St->Hp->(St->Hp->Prop)->Prop
abbrev Cy:=List V->St->Hp->(St->Hp->Prop)->Prop
def PG(X:Cx)(c:O4)(t:TG):Prop :=
 ∀(pins:List (OD×Obj)) (s:OI) (σ:St) (H:Hp) (v:V) (u:OC) (Q:St->Hp->Prop),ay X pins σ H s->aI v u->t v σ H Q ->
  OM (OP X.prog X.w) X.A (Vi c X.env u) (λ_ s'=>∃d f,ay X pins d f s'/\Q d f) X.xe s
def yW(X:Cx)(ts:List O4)(t:Cy):Prop :=
 ∀(pins:List (OD×Obj)) (s:OI) (σ:St) (H:Hp) (vs:List V) (us:List OC) (Q:St->Hp->Prop),ay X pins σ H s->aK vs us->t vs σ H Q ->
  OM (OP X.prog X.w) X.A (WA ((Rk ts X.env).map (·.2)) us) (λ_ s'=>∃c d,ay X pins c d s'/\Q c d) X.xe s
abbrev IV:=V->V->V->Hp->(Hp->Prop)->Prop
def K9(X:Cx)(t:IV):Prop :=
 ∀(pins:List (OD×Obj)) (s:OI) (σ:St) (H:Hp) (o i v:V) (c iv u:OC) (Q:Hp->Prop),ay X pins σ H s->aI o c->aI i iv->aI v u->t o i v H Q ->
  OM (OP X.prog X.w) X.A (setItem c iv u) (λ_ s'=>∃d,ay X pins σ d s'/\Q d) X.xe s
abbrev La:=V->V->Hp->VK->Prop
def N4(X:Cx)(c:Yu)(t:La):Prop :=
 ∀(pins:List (OD×Obj)) (s:OI) (σ:St) (H:Hp) (x y:V) (v u:OC) (Q:VK),ay X pins σ H s->aI x v->aI y u->t x y H Q ->
  OM (OP X.prog X.w) X.A (inplaceOp c v u) (EP X pins σ Q) X.xe s
section
variable{X:Cx}
def fQ(i:Nat):TG:=λv σ H Q=>Q (σ.set i<|some v) H
theorem tS{i:Nat}{x:Str}(g:X.N.Nodup)(d:X.N[i]?=some x)(c:er X.env.scope x)(f:X.fn x=true∨X.env.scope.names.lookup x=some .local:=by with_unfolding_all (first | exact .inl rfl | exact .inr rfl | assumption)):PG X (.Name x pos) (fQ i):=by
 intro pins s σ H v u Q I r h;exact W4 (f8 I g d c r (λs' j=>⟨_,H,j,h⟩) f)
def Lb:Cy:=λvs σ H Q=>vs=[]/\Q σ H
def CC(t:TG)(u:Cy):Cy:=λvs σ H Q=>∃v r,vs=v::r/\t v σ H λc d=>u r c d Q
theorem yX:yW X [] Lb:=by
 intro pins s σ H vs us Q I r h;obtain⟨e,h⟩:=h;subst e;cases r;exact W5 ⟨σ,H,I,h⟩
theorem oV{e:O4}{t:TG}{u:Cy}(j:PG X e t)(i:yW X es u)
  (hs:(Rk (e::es) X.env).map (·.2)=Vi e X.env::(Rk es X.env).map (·.2):=by nofun):yW X (e::es) (CC t u):=by
 intro pins s σ H vs us Q I r h;obtain⟨v,m,l,h⟩:=h;subst l;cases r with
 | cons r g=>
  rw[hs];refine Uu (bi (j pins s σ H _ _ _ I r h) λ_ f d=>?_);obtain⟨c,H1,I1,q1⟩:=d;exact i pins f c H1 _ _ Q I1 g q1
def Lc(K:OK)(n:Nat)(t:Cy):TG:=λv σ H Q=>∃a xs,v=.ref a/\g9 K H a xs/\xs.length=n/\t xs σ H Q
theorem CD{k:Nat}{t:Cy}{n:Nat}(j:X.calm=true)(h:yW X es t)
  (hn:(Rk es X.env).length=n:=by nofun) (d:(Rk es X.env).findIdx? (·.1)=none:=by nofun):PG X (.Tuple es k pos) (Lc X.K n t):=by
 intro pins s σ H v u Q I r c;obtain⟨a,xs,l,i,hl,c⟩:=c;subst l;cases r;obtain⟨its,f,ht,hz⟩:=I.tuple i;refine assign_Tuple_tuple (I.ok.hd j) ht (by simp[hn,<-hl,f.length]) d λh' g=>?_;have I1:ay X pins σ H {s with heap:=h'}:=I.kept (t':=s.toks) λb o e=>g b o (O0<|OO e) e;exact h pins _ σ H xs _ Q I1 (by simpa using f) c
def Ld(c d:TE)(t:IV):TG:=λv σ H Q=>c σ H λo H1=>d σ H1 λi g=>t o i v g λf=>Q σ f
theorem IW{o i:O4}{f g:TE}{t:IV}(ho:PE X o f)(C:PE X i g)(hs:K9 X t)
  (L:∀v,Vi (.Subscript o i pos) X.env v=(do
   let c <-Rq [v] (Pq o X.env);let iv <-Rq [v,c] (Pq i X.env)
   Rp pos
   Rq [v,c,iv] (setItem c iv v)
   release [v,c,iv] []):=by with_unfolding_all (intro _;rfl)):PG X (.Subscript o i pos) (Ld f g t):=by
 intro pins s σ H v u Q I r h;rw[L];refine OB (Pg<|bi (ho pins s σ H _ I h) λc l d=>da d λx H1 I1 p q1=>?_);refine OB (Pg<|bi (C pins l σ H1 _ I1 q1) λiv j d=>da d λy Y O m q2=>?_);refine OB (Qm<|OB<|Pg<|bi (hs pins j σ Y x y v c iv u _ O p m r q2) λ_ Z ⟨U,I3,z⟩=>?_);exact wpAny_release ⟨σ,U,I3,z⟩
def jc(c:TE)(g:TG):TS:=λD σ H=>c σ H λx H1=>g x σ H1 D.nx
theorem cH{c e:O4}{d:TE}{g:TG}(o:PE X e d)(m:PG X c g)(hs:Za [c] e pos.line X.env=pure false:=by nofun)(l:Zb [c] e X.env=pure none:=by nofun)
  (p:(Rk [c] X.env).map (·.2)=[Vi c X.env]:=by nofun):PS X (.Assign [c] e pos) (jc d g):=by
 intro pins s σ H D I h;refine wpAny_Assign_stores (bi (o pins s σ H _ I h) λv i f=>da f λx H1 I1 j q1=>?_) hs l;rw[p];exact bi (m pins i σ H1 x v _ I1 j q1) λ_ r q=>q
theorem kn{i:Nat}{x:Str}{e:O4}{c:TE}{pos':Pos}(o:X.N.Nodup)(j:X.N[i]?=some x)(g:er X.env.scope x)(m:PE X e c)(hs:Qq e (some<|.Name x pos') pos.line X.env=pure false:=by nofun)(l:X.fn x=true∨X.env.scope.names.lookup x=some .local:=by with_unfolding_all (first | exact .inl rfl | exact .inr rfl | assumption)) :
  PS X (.Assign [.Name x pos'] e pos) (jc c<|fQ i):=by
 intro pins s σ H D I h;refine UN (bi (m pins s σ H _ I h) λv u d=>da d λy H1 I1 f q1=>?_) hs;exact f8 I1 o j g f (λr p=>⟨_,H1,p,q1⟩) l
def Le(i j:Nat)(c:TA):TS:=λD σ H=>c σ H λvs H1=>∃v w,vs=[v,w]/\D.nx ((σ.set i<|some v).set j (some w)) H1
theorem IX{i j:Nat}{x y:Str}{a b:O4}{C:TA}{r m pt:Pos}{kt k2 c}(hc:X.calm=true)(Q:X.N.Nodup)(hi:X.N[i]?=some x)(hj:X.N[j]?=some y)(z:i≠j)
  (O:X.env.scope.names.lookup x=some .local) (L:X.env.scope.names.lookup y=some .local) (ha:PA X [a,b] C)
  (hw:Zb [.Tuple [.Name x r,.Name y m] kt pt] (.Tuple [a,b] k2 c) X.env=pure (some [x,y]))
  (hs:Za [.Tuple [.Name x r,.Name y m] kt pt] (.Tuple [a,b] k2 c) pos.line X.env=pure false:=by nofun) :
  PS X (.Assign [.Tuple [.Name x r,.Name y m] kt pt] (.Tuple [a,b] k2 c) pos) (Le i j C):=by
 intro pins s σ H D I h;rw[exec_Assign_arm];refine OB (Qm ?_);rw[hs];refine OB (OE ?_);rw[if_neg (by decide)];refine OB (Tuple_<|bi (ha _ pins s σ H _ I h) λus g Y=>da Y λvs H1 I1 r1 q1=>?_);obtain⟨v,w,e1,q1⟩:=q1;subst e1;obtain⟨f,d,rfl,Z,l⟩:∃f d,us=[f,d]/\aI v f/\aI w d:=by
  cases r1 with
  | cons p q=>
   cases q with
   | cons p' q'=>
    cases q';exact⟨_,_,rfl,p,p'⟩
 refine PB ?_ (by show 2≤OR;decide);have I2:ay X pins σ H1 {g with heap:=g.heap.push {cls:=.type "tuple",data:=.seq [f,d].toArray}}:=I1.kept (t':=g.toks) λb o e=>OF _ e;rw[hw];refine OB (OE ?_);show OM (OP X.prog X.w) X.A (do ZK "assign.swapped-stores";let items <-unpackItems (.ref g.heap.objs.size) 2 none;WA [λv=>VQ X.env y v,λv=>VQ X.env x v] items.reverse;pure Flow.next) _ _ _;refine OB (Tx<|OB<|unpackItems_tuple (items:=#[f,d]) (I.ok.hd hc) (Xx g.heap _) λh' u=>?_);have I3:=I2.kept (h':=h') (t':=g.toks) λb o e=>u b o (O0<|OO e) e;show OM _ _ (WA [λv=>VQ X.env y v,λv=>VQ X.env x v] [d,f] >>= λ_=>pure Flow.next) _ _ _;refine OB (Uu<|Yv<|f8 I3 Q hj (.inl L) l (λs2 I4=>?_)<|.inr L);refine Uu (Yv<|f8 I4 Q hi (.inl O) Z (λs3 U=>W5 (OE ?_))<|.inr O);rw[Zc _ _ (Qp z)] at U;exact⟨_,H1,U,q1⟩
def Lf(i:Nat)(d:TE)(c:La):TS:=λD σ H=>∃x,σ[i]?=some (some x)/\d σ H λy H1=>c x y H1 λz f=>D.nx (σ.set i<|some z) f
theorem xy{i:Nat}{x:Str}{e:O4}{O:TE}{p:Yu}{L:La}{pos':Pos}(hN:X.N.Nodup)(Q:X.N[i]?=some x)(C:er X.env.scope x)(he:PE X e O)(ho:N4 X p L)(hf:X.fn x=true∨X.env.scope.names.lookup x=some .local:=by with_unfolding_all (first | exact .inl rfl | exact .inr rfl | assumption)) :
  PS X (.AugAssign (.Name x pos') p e pos) (Lf i O L):=by
 intro pins s σ H D I h;obtain⟨v,e1,h⟩:=h;obtain⟨m,hn,hl⟩:=I.loc;have o:Hz X.env.scope x:=by rcases C with k | k;exact .inl k;exact .inr (.inl k)
 obtain⟨u,r,l⟩:=hl i x v Q e1 o;refine wpAny_AugAssign_Name ?_;have go:OM (OP X.prog X.w) X.A (Pq e X.env) (λw g=>OM (OP X.prog X.w) X.A (inplaceOp p u w) (λr f=>OM (OP X.prog X.w) X.A (Xw X.env x r) (λ_=>SP X pins D .next) X.xe f) X.xe g) X.xe s:=by
  refine bi (he pins s σ H _ I h) λw U j=>da j λy H1 I1 Z q1=>?_;refine bi (ho pins U σ H1 v y u w _ I1 r Z q1) λz s2 j=>da j λzv H2 I2 Y q2=>?_;exact f8 I2 hN Q C Y (λs3 I3=>⟨_,H2,I3,q2⟩) hf
 rcases l with ⟨hk,hm⟩ | ⟨hk,c,hc,d⟩
 ·exact TW I.ok.kind hk hn hm go
 ·rcases hk with hk | hk
  ·exact Wh I.ok.kind hk hc d go
  ·rcases C with k | k
   ·have:X.env.scope.names.lookup x=some .free:=hk;rw[k] at this;cases this
   ·have:X.env.scope.names.lookup x=some .free:=hk;rw[k] at this;cases this
def N5(f:Int->Int->Int):La:=λx y H Q=>∃i j,x=.int i/\y=.int j/\Q (.int<|f i j) H
theorem xz:N4 X .Add (N5 λi j=>i+j):=by
 intro pins s σ H x y v u Q I d c h;obtain⟨i,j,g,f,q⟩:=h;subst g;subst f;obtain⟨t,rfl⟩:=d;obtain⟨t',rfl⟩:=c;exact iadd_int ⟨.int _,H,I.tok _,⟨_,rfl⟩,q⟩
end
section
variable{X:Cx}
def CG(c:TT)(h:TS):TS:=λD σ H=>∃W:Nat->St->Hp->Prop,(∃m,W m σ H)/\∀m σ H,W m σ H ->
 c σ H λb H1=>if b=true then ∃N:St->Hp->Prop,(∀d g,N d g->∃f,f < m/\W f d g)/\h {D with nx:=N,ct:=N,bk:=D.nx} σ H1 else D.nx σ H1
theorem CH{c:O4}{body:List Rs}{u:TT}{x:TS}(z:Wb (OP X.prog X.w) X.A X.env X.xe)(hc:PT X c u)(hb:gu X body x):PS X (.While c body [] pos) (CG u x):=by
 intro pins s σ H D I h;obtain⟨W,⟨m0,Y⟩,turn⟩:=h;refine wpAny_While (codeAny_whileLoop (λn s'=>∃i Q,ay X pins i Q s'/\W n i Q) ?_ m0 ⟨σ,H,I,Y⟩);rintro n s1 ⟨g,H1,I1,U⟩;refine Rx z (bi (hc pins s1 g H1 _ I1<|turn n g H1 U) λb Z ⟨O,L,q2⟩=>?_);cases b with
 | true=>
  obtain⟨N,C,q2⟩:=q2;rw[if_pos rfl];refine Rx z (bi (hb pins Z g O _ L q2) λf s3 l=>?_);cases f with
  | next=>
   obtain⟨d,j,I3,o⟩:=l;obtain⟨p,r,m⟩:=C d j o;exact⟨p,r,d,j,I3,m⟩
  | cont=>
   obtain⟨d,j,I3,o⟩:=l;obtain⟨p,r,m⟩:=C d j o;exact⟨p,r,d,j,I3,m⟩
  | brk=>exact l
  | ret v=>exact l
 | false=>
  rw[if_neg O2];exact Rw ⟨g,O,L,q2⟩
end
structure It where
 go:Nat->Hp->Prop
 yld:Nat->Hp->V->Hp->Prop
 stop:Nat->Hp->Prop
def i7(X:Cx)(pins:List (OD×Obj))(H:Hp)(b:OD):Prop :=
 H b=none/\b≠X.env.locals/\b∉X.fs/\(b∈X.ex∨X.s₀.heap.objs.size≤b)/\(∀x c,X.env.cells.lookup x=some c->c≠b)/\∀p∈X.pn++pins,p.1≠b
theorem ay.fpOk{X:Cx}{σ:St}{H d:Hp}{b:OD}(I:ay X pins σ H s)(hb:s.heap.objs.size≤b)(hn:d b=none):i7 X pins d b:=by
 refine⟨hn,So<|O7 I.lt hb,I.nofs hb,.inr<|PV I.sz hb,λx c e z=>?_,λp f z=>?_⟩
 ·obtain⟨v,q⟩:=I.cell x c e;exact absurd (O7 q.lt<|by rw[z];exact hb) (QL _)
 ·exact absurd (O7 (OO (I.pin p f).1)<|by rw[z];exact hb) (QL _)
structure AF(P:Ph)(w:Py)(K:OK)(tg:O4)(J:It)(fp:List OD)(it:OD)(tn:Nat->Pk->Prop):Prop where
 mem:it∈fp
 obj:∀i h,tn i h->∀b∈fp,∃o,h.get? b=some o/\∀v,o.data≠.cell v
 keep:∀i h h',tn i h->(∀b∈fp,∀o,h.get? b=some o->h'.get? b=some o)->tn i h'
 item:∀(X:Cx),X.prog=P->X.w=w->X.K=K->X.calm=true->∀(i:Nat) (pins:List (OD×Obj)) (s:OI) (σ:St) (H:Hp) (E:OC->OI->Prop),ay X pins σ H s->(∀b∈fp,i7 X pins H b)->tn i s.heap->J.go i H ->
  OM (OP P w) X.A (UU<|.ref it) (λr s1=>∃u,r=some u /\
   OM (OP P w) X.A (T9 tg (.ref it) u) (λ_ s2=>∃x H',ay X pins σ H' s2/\aI x u/\J.yld i H x H'/\tn (i+1) s2.heap/\∀b∈fp,H' b=none) E s1) E s
 done:∀(X:Cx),X.prog=P->X.w=w->X.K=K->X.calm=true->∀(i:Nat) (pins:List (OD×Obj)) (s:OI) (σ:St) (H:Hp) (E:OC->OI->Prop),ay X pins σ H s->(∀b∈fp,i7 X pins H b)->tn i s.heap->J.stop i H ->
  OM (OP P w) X.A (UU<|.ref it) (λr s1=>r=none/\ay X pins σ H s1) E s
 self:∀(A:Qz) (i:Nat) (s:OI) (Q:OC->OI->Prop) (E:OC->OI->Prop),tn i s.heap->Q (.ref it) s->OM (OP P w) A (Xy<|.ref it) Q E s
abbrev TI:=St->Hp->(It->Hp->Prop)->Prop
def Om(X:Cx)(pins:List (OD×Obj))(σ:St)(i:O4)(R:It->Hp->Prop)(c:OC)(g:OI):Prop :=
 ∃(it:OD) (h:List OD) (f:Nat->Pk->Prop) (J:It) (d:Hp),c=.ref it/\ay X pins σ d g/\AF X.prog X.w X.K i J h it f/\f 0 g.heap/\(∀b∈h,i7 X pins d b)/\R J d
def PI(X:Cx)(d iter:O4)(c:TI):Prop :=
 ∀(pins:List (OD×Obj)) (s:OI) (σ:St) (H:Hp) (R:It->Hp->Prop),ay X pins σ H s->c σ H R ->
  OM (OP X.prog X.w) X.A (Pq iter X.env) (λv f=>OM (OP X.prog X.w) X.A (Xy v) (Om X pins σ d R) X.xe f) X.xe s

theorem CI{M:Wy}{c:O4}{it:OD}{u:OC}{o:Obj}{n:String}{vs:Array OC}{Q:Unit->OI->Prop}(ho:s.heap.get? it=some o)(d:o.cls=.type n)(hd:o.data=.fields vs)
    (hn:["enumerate","zip","dict_itemiterator","dict_reverseitemiterator","odict_iterator","itertools.zip_longest","itertools.pairwise"].contains n=false) (hQ:Q () s):OM M A (T9 c (.ref it) u) Q E s:=by
  unfold T9;cases c<;>first
    | exact OE hQ
    | (cases u<;>first
        | exact OE hQ
        | (refine OB (wpAny_load ho ?_)
           rw[d,hd];show OM M A (if (["enumerate","zip","dict_itemiterator","dict_reverseitemiterator","odict_iterator","itertools.zip_longest","itertools.pairwise"].contains n&&vs[0]?==some (Rl _))=true then _ else _) Q E s;rw[if_neg (by intro h;rw[hn,Bool.false_and] at h;cases h)];exact OE hQ))

def N6(K:OK)(a:OD):It :=
 ⟨λi H=>∃xs x,ip K H a xs/\xs[i]?=some x,λi H x c=>c=H/\∀xs,ip K H a xs->xs[i]?=some x,λi H=>∃xs,ip K H a xs/\xs.length≤i⟩
def N7(K:OK)(a:OD):It :=
 ⟨λi H=>∃xs x,g9 K H a xs/\xs[i]?=some x,λi H x c=>c=H/\∀xs,g9 K H a xs->xs[i]?=some x,λi H=>∃xs,g9 K H a xs/\xs.length≤i⟩
theorem AG{tg:O4}(a it:OD):AF P w K tg (N6 K a) [it] it (λi h=>h.IsListIter it a i) where
 mem:=by simp
 obj:=λi h st b hb=>by
  have e:b=it:=by simpa using hb
  subst e;obtain⟨o,e,c,d⟩:=st;exact⟨o,e,λv z=>by rw[d] at z;cases z⟩
 keep:=λi h h' st k=>st.at λo e=>k it (by simp) o e
 item:=by
  intro X hP r L hc i pins s σ H E I j st C;subst hP r L;obtain⟨xs,x,g,m⟩:=C;obtain⟨its,l,p,hz⟩:=I.list g;obtain⟨u,hu,ru⟩:=l.get m;obtain⟨Z,Y,f2,U,Q,O⟩:=j it (by simp);refine wpAny_pyNext_list_item st p.isList (x:=u) (by simpa using hu) λh' f sb=>?_;have I1:ay X pins σ H {s with heap:=h'}:=I.turned (t':=s.toks) (λb o hb e=>(sb.2 b hb).trans e) Z Y U Q O;obtain⟨o,e,c,d⟩:=id f;exact⟨u,rfl,CI (s:={s with heap:=h'}) e c d (by decide) ⟨x,H,I1,ru,⟨rfl,λys hy=>by rw[I.list_inj hy g];exact m⟩,f,λb hb=>(j b hb).1⟩⟩
 done:=by
  intro X hP r L hc i pins s σ H E I j st C;subst hP r L;obtain⟨xs,g,m⟩:=C;obtain⟨its,l,p,hz⟩:=I.list g;obtain⟨Z,Y,f2,U,Q,O⟩:=j it (by simp);have hl:=l.length;exact wpAny_pyNext_list_end (I.ok.hd hc) st p.isList (by simp;omega) λh' eb=>⟨rfl,I.turned (t':=s.toks) (λb o hb e=>eb b o hb e) Z Y U Q O⟩
 self:=λ_ _ _ _ _ st h=>wpAny_pyIter_listiter st h
theorem xA{tg:O4}(a it:OD):AF P w K tg (N7 K a) [it] it (λi h=>h.IsTupleIter it a i) where
 mem:=by simp
 obj:=λi h st b hb=>by
  have e:b=it:=by simpa using hb
  subst e;obtain⟨o,e,c,d⟩:=st;exact⟨o,e,λv z=>by rw[d] at z;cases z⟩
 keep:=λi h h' st k=>st.at λo e=>k it (by simp) o e
 item:=by
  intro X hP r L hc i pins s σ H E I j st C;subst hP r L;obtain⟨xs,x,g,m⟩:=C;obtain⟨its,l,p,hz⟩:=I.tuple g;obtain⟨u,hu,ru⟩:=l.get m;obtain⟨Z,Y,f2,U,Q,O⟩:=j it (by simp);refine wpAny_pyNext_tuple_item st (show s.heap.IsTuple a its.toArray from p) (x:=u) (by simpa using hu) λh' f sb=>?_;have I1:ay X pins σ H {s with heap:=h'}:=I.turned (t':=s.toks) (λb o hb e=>(sb.2 b hb).trans e) Z Y U Q O;obtain⟨o,e,c,d⟩:=id f;exact⟨u,rfl,CI (s:={s with heap:=h'}) e c d (by decide) ⟨x,H,I1,ru,⟨rfl,λys hy=>by rw[I.tuple_inj hy g];exact m⟩,f,λb hb=>(j b hb).1⟩⟩
 done:=by
  intro X hP r L hc i pins s σ H E I j st C;subst hP r L;obtain⟨xs,g,m⟩:=C;obtain⟨its,l,p,hz⟩:=I.tuple g;obtain⟨Z,Y,f2,U,Q,O⟩:=j it (by simp);have hl:=l.length;exact wpAny_pyNext_tuple_end (I.ok.hd hc) st (show s.heap.IsTuple a its.toArray from p) (by simp;omega) λh' eb=>⟨rfl,I.turned (t':=s.toks) (λb o hb e=>eb b o hb e) Z Y U Q O⟩
 self:=λ_ _ _ _ _ st h=>wpAny_pyIter_tupleiter st h
section
variable{X:Cx}{tg:O4}
def HC(K:OK)(tl:TE):TI:=λσ H R=>tl σ H λx H1=>∃a,x=.ref a/\(∃xs,ip K H1 a xs)/\R (N6 K a) H1
def Lg(K:OK)(tl:TE):TI:=λσ H R=>tl σ H λx H1=>∃a,x=.ref a/\(∃xs,g9 K H1 a xs)/\R (N7 K a) H1
theorem eV{l:O4}{tl:TE}(i:PE X l tl):PI X tg l (HC X.K tl):=by
 intro pins s σ H R I h;refine bi (i pins s σ H _ I h) λv c d=>da d λx H1 I1 f q1=>?_;obtain⟨a,e,⟨xs,g⟩,q⟩:=q1;subst e;cases f;obtain⟨its,j,p,hz⟩:=I1.list g;refine UO p.isList ?_;refine⟨c.heap.objs.size,[c.heap.objs.size],_,_,H1,rfl,I1.kept (t':=c.toks) λb o e=>OF _ e,AG a _,⟨_,OQ _ rfl,rfl,rfl⟩,λb hb=>?_,q⟩;have e:b=c.heap.objs.size:=by simpa using hb
 subst e;exact I1.fpOk (OU _) (I1.hok.fresh<|OU _)
theorem f9{l:O4}{tl:TE}(i:PE X l tl):PI X tg l (Lg X.K tl):=by
 intro pins s σ H R I h;refine bi (i pins s σ H _ I h) λv c d=>da d λx H1 I1 f q1=>?_;obtain⟨a,e,⟨xs,g⟩,q⟩:=q1;subst e;cases f;obtain⟨its,j,p,hz⟩:=I1.tuple g;refine WO (show c.heap.IsTuple a its.toArray from p) ?_;refine⟨c.heap.objs.size,[c.heap.objs.size],_,_,H1,rfl,I1.kept (t':=c.toks) λb o e=>OF _ e,xA a _,⟨_,OQ _ rfl,rfl,rfl⟩,λb hb=>?_,q⟩;have e:b=c.heap.objs.size:=by simpa using hb
 subst e;exact I1.fpOk (OU _) (I1.hok.fresh<|OU _)
def Lh(j:TI)(g:TG)(l:TS):TS:=λD σ H=>j σ H λJ H1=>∃W:Nat->Nat->St->Hp->Prop,(∃m,W 0 m σ H1)/\∀i m σ H,W i m σ H ->
 (J.stop i H/\D.nx σ H)∨(J.go i H/\∃N:St->Hp->Prop,(∀c d,N c d->∃h,h < m/\W (i+1) h c d)/\∀x d,J.yld i H x d->g x σ d λf o=>l {D with nx:=N,ct:=N,bk:=D.nx} f o)
def oW(c:List OD)(h:Pk):List (OD×Obj):=c.filterMap λb=>(h.get? b).map λo=>(b,o)
theorem iq{c:List OD}{h:Pk}{b:OD}{o:Obj}(hb:b∈c)(e:h.get? b=some o):(b,o)∈oW c h:=Uv.mpr ⟨b,hb,by rw[e];rfl⟩
theorem AH{c:List OD}{h:Pk}{p:OD×Obj}(d:p∈oW c h):p.1∈c/\h.get? p.1=some p.2:=by
 obtain⟨b,hb,e⟩:=Uv.mp d;cases q:h.get? b with
 | none=>rw[q] at e;cases e
 | some o=>
  rw[q] at e;have f:(b,o)=p:=O6 e;subst f;exact⟨hb,q⟩
theorem ay.pinned{σ:St}{H:Hp}{c:List OD}(I:ay X pins σ H s)(h:∀b∈c,i7 X pins H b)(ho:∀b∈c,∃o,s.heap.get? b=some o/\∀v,o.data≠.cell v):ay X (pins++oW c s.heap) σ H s :=
 I.pins_of λp g=>(PN.mp g).elim (λz=>I.pin p (OV _ z)) λz=>by
  obtain⟨hb,e⟩:=AH z;obtain⟨l,j,i,_⟩:=h p.1 hb;obtain⟨o,f,d⟩:=ho p.1 hb;rw[e] at f;cases f;exact⟨e,l,j,i,d⟩
theorem ay.unpinned{pins pl:List (OD×Obj)}{σ:St}{H:Hp}(I:ay X (pins++pl) σ H s):ay X pins σ H s:=I.pins_of λp c=>I.pin p (OV _<|Qc _ c)
theorem CJ{iter:O4}{body:List Rs}{wi:TI}{g:TG}{tb:TS}(hp:Wb (OP X.prog X.w) X.A X.env X.xe)(hc:X.calm=true)(hi:PI X tg iter wi)(hg:PG X tg g)(hb:gu X body tb)
  (hs:∀x,Qu iter X.env x=pure x:=by with_unfolding_all (intro _;rfl)):PS X (.For tg iter body [] pos) (Lh wi g tb):=by
 intro pins s σ H D I h;refine wpAny_For (bi (hi pins s σ H _ I h) λv s1 h1=>bi h1 λitv s2 h2=>?_) hs;obtain⟨it,fp,tn,J,H2,e,I2,T,st2,f2,W,⟨m0,w0⟩,turn⟩:=h2;subst e
 -- what stays true of the Q Z through the loop
 have p:∀{L:Hp},(∀b∈fp,L b=none)->∀b∈fp,i7 X pins L b:=λhn b hb=>⟨hn b hb,(f2 b hb).2⟩
 refine codeAny_forLoop_any (λn s'=>∃i l L,ay X pins l L s'/\tn i s'.heap/\(∀b∈fp,L b=none)/\W i n l L) ?_ m0 ⟨0,σ,H2,I2,st2,λb hb=>(f2 b hb).1,w0⟩;rintro n s3 ⟨i,j,H3,I3,Y,fr3,w3⟩;rcases turn i n j H3 w3 with ⟨stop,qn⟩ | ⟨go,N,hN,step⟩
 ·refine Rx hp (bi (T.done X rfl rfl rfl hc i pins s3 j H3 X.xe I3 (p fr3) Y stop) λr s4 ⟨hr,I4⟩=>?_);subst hr;exact Rw ⟨j,H3,I4,qn⟩
 ·refine Rx hp (bi (T.item X rfl rfl rfl hc i pins s3 j H3 X.xe I3 (p fr3) Y go) λr s4 ⟨u,hr,h4⟩=>?_);subst hr;refine Rx hp (bi h4 λ_ s5 z9=>?_);obtain⟨x,H5,I5,r5,y5,U,fr5⟩:=z9;have I5':=I5.pinned (p fr5) (T.obj _ _ U);refine Rx hp (bi (hg _ s5 j H5 x u _ I5' r5<|step x H5 y5) λ_ s6 z9=>?_);obtain⟨σ6,H6,I6,q6⟩:=z9;refine Rx hp (bi (hb _ s6 σ6 H6 _ I6 q6) λf s7 O=>?_);have again:∀{c:St} {C:Hp},ay X (pins++oW fp s5.heap) c C s7->N c C->∃m,m<n/\∃i l L,ay X pins l L s7/\tn i s7.heap/\(∀b∈fp,L b=none)/\W i m l L:=λ{c C} z n7=>by
   obtain⟨m',hm,w7⟩:=hN c C n7;refine⟨m',hm,i+1,c,C,z.unpinned,T.keep _ _ _ U λb hb o e=>(z.pin (b,o)<|OV _<|OV _<|iq hb e).1,λb hb=>?_,w7⟩;obtain⟨o,e,d⟩:=T.obj _ _ U b hb;exact(z.pin (b,o)<|OV _<|OV _<|iq hb e).2.1
  cases f with
  | next=>obtain⟨c,C,z,n7⟩:=O;exact again z n7
  | cont=>obtain⟨c,C,z,n7⟩:=O;exact again z n7
  | brk=>obtain⟨c,C,z,O⟩:=O;exact⟨c,C,z.unpinned,O⟩
  | ret v=>obtain⟨x7,c,C,z,r7,O⟩:=O;exact⟨x7,c,C,z.unpinned,r7,O⟩
end
abbrev R2:=V->V->Hp->VK->Prop
def lq(X:Cx)(f:OC->OC->Sem OC)(r:R2):Prop :=
 ∀(pins:List (OD×Obj)) (s:OI) (σ:St) (H:Hp) (x y:V) (v u:OC) (Q:VK),ay X pins σ H s->aI x v->aI y u->r x y H Q ->
  OM (OP X.prog X.w) X.A (f v u) (EP X pins σ Q) X.xe s
def Nd(X:Cx)(f:OC->Sem OC)(r:V->Hp->VK->Prop):Prop :=
 ∀(pins:List (OD×Obj)) (s:OI) (σ:St) (H:Hp) (x:V) (v:OC) (Q:VK),ay X pins σ H s->aI x v->r x H Q ->
  OM (OP X.prog X.w) X.A (f v) (EP X pins σ Q) X.xe s
def dj(X:Cx)(f:OC)(r:List V->Hp->VK->Prop):Prop :=
 ∀(pins:List (OD×Obj)) (s:OI) (σ:St) (H:Hp) (xs:List V) (us:List OC) (Q:VK),ay X pins σ H s->aK xs us->r xs H Q ->
  OM (OP X.prog X.w) X.A (call f us) (EP X pins σ Q) X.xe s
def Li(X:Cx)(r:V->Hp->(Bool->Hp->Prop)->Prop):Prop :=
 ∀(pins:List (OD×Obj)) (s:OI) (σ:St) (H:Hp) (x:V) (v:OC) (Q:Bool->Hp->Prop),ay X pins σ H s->aI x v->r x H Q ->
  OM (OP X.prog X.w) X.A (ZI v) (TP X pins σ Q) X.xe s

def IY(r:R2)(d c:TE):TE:=λσ H Q=>d σ H λx H1=>c σ H1 λy f=>r x y f Q
def On(r:V->Hp->VK->Prop)(c:TE):TE:=λσ H Q=>c σ H λx H1=>r x H1 Q
def rI(C:Int->Int->Prop)(g:Int->Int->V):R2:=λx y H Q=>∃i j,x=.int i/\y=.int j/\C i j/\Q (g i j) H
def AI(g:Int->Int->V):R2:=λx y H Q=>∃i j,x=.int i/\y=.int j/\Q (g i j) H
def rU(g:Int->V):V->Hp->VK->Prop:=λx H Q=>∃i,x=.int i/\Q (g i) H

section
variable{X:Cx}{a b c:O4}{ta tb tc:TE}
theorem IZ(r:PE X a ta)(hb:PE X b tb){σ:St}{H:Hp}{R:V->V->Hp->Prop}(I:ay X pins σ H s)
  (h:ta σ H λx H1=>tb σ H1 λy d=>R x y d) {Q:OC->OI->Prop} {f:OC->OC->Sem OC}
  (p:∀v u i x y d,ay X pins σ d i->aI x v->aI y u->R x y d->OM (OP X.prog X.w) X.A (f v u) Q X.xe i) :
  OM (OP X.prog X.w) X.A (Pq a X.env) (λv s₁=>OM (OP X.prog X.w) X.A (Pq b X.env) (λu g=>OM (OP X.prog X.w) X.A (f v u) Q X.xe g) X.xe s₁) X.xe s:=by
 refine bi (r pins s σ H _ I h) λv l j=>da j λx H1 I1 o q1=>?_;refine bi (hb pins l σ H1 _ I1 q1) λu i j=>da j λy d z m q2=>?_;exact p v u i x y d z o m q2

theorem fc{d:Yu}{r:R2}(ho:lq X (Sb d) r)(j:PE X a ta)(hb:PE X b tb):PE X (.BinOp a d b pos) (IY r ta tb):=by
 intro pins s σ H Q I h;exact wpAny_BinOp (IZ j hb I h λv u f x y m l i g q=>ho pins f σ m x y v u Q l i g q)
theorem Lj{d:UnaryOp}{r:V->Hp->VK->Prop}(ho:Nd X (unaryOp d) r)(j:PE X a ta):PE X (.UnaryOp d a pos) (On r ta):=by
 intro pins s σ H Q I h;exact UnaryOp_ (bi (j pins s σ H _ I h) λv g f=>da f λx H1 I1 i q1=>ho pins g σ H1 x v Q I1 i q1)
theorem MO{f:OC->OC->Sem OC}{C:Int->Int->Prop}{g:Int->Int->Int}
  (ZK:∀(i j:Int) (t u:Tok) (s:OI) (Q:OC->OI->Prop) (E:OC->OI->Prop),C i j->Q (.int (g i j) s.toks) {s with toks:=s.toks+1}->OM (OP X.prog X.w) X.A (f (.int i t)<|.int j u) Q E s) :
  lq X f (rI C λi j=>.int (g i j)):=by
 intro pins s σ H x y v u Q I l d h;obtain⟨i,j,rfl,rfl,m,q⟩:=h;obtain⟨t,rfl⟩:=l;obtain⟨t',rfl⟩:=d;exact ZK i j t t' s _ _ m ⟨.int<|g i j,H,I.tok _,⟨_,rfl⟩,q⟩
theorem Nf{f:OC->OC->Sem OC}{g:Int->Int->Int}
  (ZK:∀(i j:Int) (t u:Tok) (s:OI) (Q:OC->OI->Prop) (E:OC->OI->Prop),Q (.int (g i j) s.toks) {s with toks:=s.toks+1}->OM (OP X.prog X.w) X.A (f (.int i t)<|.int j u) Q E s) :
  lq X f (AI λi j=>.int (g i j)):=by
 intro pins s σ H x y v u Q I l d h;obtain⟨i,j,rfl,rfl,q⟩:=h;obtain⟨t,rfl⟩:=l;obtain⟨t',rfl⟩:=d;exact ZK i j t t' s _ _ ⟨.int<|g i j,H,I.tok _,⟨_,rfl⟩,q⟩
theorem I0{f:OC->OC->Sem OC}{g:Int->Int->Bool}
  (ZK:∀(i j:Int) (t u:Tok) (s:OI) (Q:OC->OI->Prop) (E:OC->OI->Prop),Q (.bool<|g i j) s->OM (OP X.prog X.w) X.A (f (.int i t)<|.int j u) Q E s) :
  lq X f (AI λi j=>.bl (g i j)):=by
 intro pins s σ H x y v u Q I l d h;obtain⟨i,j,rfl,rfl,q⟩:=h;obtain⟨t,rfl⟩:=l;obtain⟨t',rfl⟩:=d;exact ZK i j t t' s _ _ ⟨.bl<|g i j,H,I,rfl,q⟩

def Ng(i j:Int):Prop:=0<j/\j<1073741824
def Nh(i j:Int):Prop:=0≤j/\j≤1000000/\i.natAbs<2 ^ 64
def Ja(i j:Int):Prop:=(-(2 ^ 64)<i/\i<2 ^ 64)∨(-(2 ^ 64)<j/\j<2 ^ 64)
theorem Ja.ok{i j:Int}(h:Ja i j):IntMulOk i j:=by
 rcases h with ⟨f,d⟩ | ⟨f,d⟩
 ·exact .of_left (Zd f d)
 ·exact .of_right (Zd f d)
theorem gQ:lq X (Sb .Add) (AI λi j=>.int (i+j)):=Nf λ_ _ _ _ _ _ _ q=>add_int q
theorem CK:lq X (Sb .Mult) (rI Ja λi j=>.int (i*j)):=MO λ_ _ _ _ _ _ _ d q=>mul_int q d.ok
theorem tU:lq X (Sb .FloorDiv) (rI Ng λi j=>.int (i / j)):=MO λi j _ _ _ _ _ d q=>by
 have g:(0:Int)<j:=d.1;have f:j<1073741824:=d.2;exact floordiv_int (by omega) (by rw[Int.fdiv_eq_ediv_of_nonneg i (by omega)];exact q) (.inl<|PyProof.noPylong_small<|by omega)
theorem mj:lq X (Sb .Mod) (rI (λ_ j=>0<j) λi j=>.int (i%j)):=MO λi j _ _ _ _ _ d q=>by
 have f:(0:Int)<j:=d;exact mod_int' (by omega) (by rw[Int.fmod_eq_emod_of_nonneg i (by omega)];exact q)
theorem CL:lq X (Sb .Pow) (rI Nh λi j=>.int (i ^ j.toNat)):=MO λ_ _ _ _ _ _ _ d q=>pow_int_small d.1 d.2.1 d.2.2 q
theorem Oo{f:OC->Sem OC}{g:Int->Int}
  (ZK:∀(i:Int) (t:Tok) (s:OI) (Q:OC->OI->Prop) (E:OC->OI->Prop),Q (.int (g i) s.toks) {s with toks:=s.toks+1}->OM (OP X.prog X.w) X.A (f<|.int i t) Q E s) :
  Nd X f (rU λi=>.int (g i)):=by
 intro pins s σ H x v Q I d h;obtain⟨i,rfl,q⟩:=h;obtain⟨t,rfl⟩:=d;exact ZK i t s _ _ ⟨.int<|g i,H,I.tok _,⟨_,rfl⟩,q⟩
theorem Jb:Nd X (unaryOp .USub) (rU λi=>.int (-i)):=Oo λ_ _ _ _ _ q=>neg_int q
end
def CN:V->V->Bool
 | .non,.non=>true | .non,.int _=>true | .int _,.non=>true | .non,.bl _=>true | .bl _,.non=>true | .non,.str _=>true | .str _,.non=>true
 | .int _,.int _=>true | .bl _,.bl _=>true | .str _,.str _=>true | .byt _,.byt _=>true
 | .int _,.str _=>true | .str _,.int _=>true | .bl _,.str _=>true | .str _,.bl _=>true
 | _,_=>false
def N8:R2:=λx y H Q=>CN x y=true/\Q (.bl<|decide<|x=y) H
def N9:R2:=λx y H Q=>CN x y=true/\Q (.bl<|!decide (x=y)) H

theorem yY{i j:Int}:decide (V.int i=V.int j)=(i==j):=by
 rw[Ua];simp
theorem CO{i j:Bool}:decide (V.bl i=V.bl j)=(i==j):=by
 rw[Ua];simp
theorem yZ{i j:Str}:decide (V.str i=V.str j)=(i==j):=by
 rw[Ua];simp
theorem y8{i j:Array UInt8}:decide (V.byt i=V.byt j)=(i.toList==j.toList):=by
 rw[Ua];cases i;cases j;simp

section
variable{X:Cx}{a b c:O4}{ta tb tc:TE}
theorem bo{σ:St}{H:Hp}{Q:VK}{k d:Bool}(I:ay X pins σ H s)(q:Q (.bl k) H)(e:k=d):EP X pins σ Q (.bool d) s:=by
 subst e;exact⟨.bl k,H,I,rfl,q⟩
theorem iP:lq X (QH .Eq) N8:=by
 intro pins s σ H x y v u Q I f d h;obtain⟨hs,q⟩:=h;cases x with
 | non=>
  cases f;cases y with
  | non=>cases d;exact YX (bo I q<|by simp)
  | bl j=>cases d;exact YY (bo I q<|by simp)
  | int j=>obtain⟨t',rfl⟩:=d;exact Ze (bo I q<|by simp)
  | str j=>obtain⟨t',rfl⟩:=d;exact Zf (bo I q<|by simp)
  | _=>exact absurd (show false=true from hs) O2
 | bl i=>
  cases f;cases y with
  | non=>cases d;exact YZ (bo I q<|by simp)
  | bl j=>cases d;exact eq_bool (bo I q CO)
  | str j=>obtain⟨t',rfl⟩:=d;exact Y0 (bo I q<|by simp)
  | _=>exact absurd (show false=true from hs) O2
 | int i=>
  obtain⟨t,rfl⟩:=f;cases y with
  | non=>cases d;exact Zg (bo I q<|by simp)
  | int j=>obtain⟨t',rfl⟩:=d;exact eq_int (bo I q yY)
  | str j=>obtain⟨t',rfl⟩:=d;exact Zh (bo I q<|by simp)
  | _=>exact absurd (show false=true from hs) O2
 | str i=>
  obtain⟨t,rfl⟩:=f;cases y with
  | non=>cases d;exact Zi (bo I q<|by simp)
  | bl j=>cases d;exact Y1 (bo I q<|by simp)
  | int j=>obtain⟨t',rfl⟩:=d;exact Zj (bo I q<|by simp)
  | str j=>obtain⟨t',rfl⟩:=d;exact eq_str (bo I q yZ)
  | _=>exact absurd (show false=true from hs) O2
 | byt i=>
  obtain⟨t,rfl⟩:=f;cases y with
  | byt j=>obtain⟨t',rfl⟩:=d;exact PySem.W.eq_bytes (bo I q y8)
  | _=>exact absurd (show false=true from hs) O2
 | _=>cases y<;>exact absurd (show false=true from hs) O2
theorem HE:lq X (QH .NotEq) N9:=by
 intro pins s σ H x y v u Q I f d h;obtain⟨hs,q⟩:=h;cases x with
 | non=>
  cases f;cases y with
  | non=>cases d;exact Y2 (bo I q<|by simp)
  | bl j=>cases d;exact Y3 (bo I q<|by simp)
  | int j=>obtain⟨t',rfl⟩:=d;exact Zk (bo I q<|by simp)
  | str j=>obtain⟨t',rfl⟩:=d;exact Zl (bo I q<|by simp)
  | _=>exact absurd (show false=true from hs) O2
 | bl i=>
  cases f;cases y with
  | non=>cases d;exact Y4 (bo I q<|by simp)
  | bl j=>cases d;exact ne_bool (bo I q<|congrArg not CO)
  | str j=>obtain⟨t',rfl⟩:=d;exact Y5 (bo I q<|by simp)
  | _=>exact absurd (show false=true from hs) O2
 | int i=>
  obtain⟨t,rfl⟩:=f;cases y with
  | non=>cases d;exact Zm (bo I q<|by simp)
  | int j=>obtain⟨t',rfl⟩:=d;exact ne_int (bo I q<|congrArg not yY)
  | str j=>obtain⟨t',rfl⟩:=d;exact Zn (bo I q<|by simp)
  | _=>exact absurd (show false=true from hs) O2
 | str i=>
  obtain⟨t,rfl⟩:=f;cases y with
  | non=>cases d;exact Zo (bo I q<|by simp)
  | bl j=>cases d;exact Y6 (bo I q<|by simp)
  | int j=>obtain⟨t',rfl⟩:=d;exact Zq (bo I q<|by simp)
  | str j=>obtain⟨t',rfl⟩:=d;exact ne_str (bo I q<|congrArg not yZ)
  | _=>exact absurd (show false=true from hs) O2
 | byt i=>
  obtain⟨t,rfl⟩:=f;cases y with
  | byt j=>obtain⟨t',rfl⟩:=d;exact PySem.W.ne_bytes (bo I q<|congrArg not y8)
  | _=>exact absurd (show false=true from hs) O2
 | _=>cases y<;>exact absurd (show false=true from hs) O2

theorem oX:lq X (QH .Lt) (AI λi j=>.bl (decide<|i<j)):=I0 λ_ _ _ _ _ _ _ q=>lt_int q
theorem Lk:lq X (QH .Gt) (AI λi j=>.bl (decide<|j<i)):=I0 λ_ _ _ _ _ _ _ q=>gt_int q
theorem HF:lq X (QH .GtE) (AI λi j=>.bl (decide<|j≤i)):=I0 λ_ _ _ _ _ _ _ q=>ge_int q
theorem tV(b:O4){d:XT}(h:d≠.In:=by decide)(f:d≠.NotIn:=by decide):Qh d b=false:=by
 have i:(d==CmpOp.In)=false:=by cases d<;>first | rfl | exact absurd rfl h
 have g:(d==aa0)=false:=by cases d<;>first | rfl | exact absurd rfl f
 cases b<;>simp[Qh,i,g]
theorem FK{d:XT}{r:R2}(ho:lq X (QH d) r)(l:PE X a ta)(hb:PE X b tb)(j:Qh d b=false):PE X (.Compare a [d] [b] pos) (IY r ta tb):=by
 intro pins s σ H Q I h;exact Yt (IZ l hb I h λv u f x y o m i g q=>ho pins f σ o x y v u Q m i g q) j
def vy(t:TE):TT:=λσ H Q=>t σ H λx d=>∃k,x=.bl k/\Q k d
theorem tW{f:XT}{r:R2}(ho:lq X (QH f) r)(C:PE X a ta)(hb:PE X b tb)(p:Qh f b=false):PT X (.Compare a [f] [b] pos) (vy<|IY r ta tb):=by
 intro pins s σ H Q I h;refine VE (bi (C pins s σ H _ I h) λv i d=>da d λx H1 I1 m q1=>bi (hb pins i σ H1 _ I1 q1) λu g d=>da d λy U L l q2=>
  bi (ho pins g σ U x y v u _ L m l q2) λc Y ⟨z,O,I3,j,k,e,o⟩=>?_) p
 subst e;cases j;exact QR ⟨O,I3,o⟩
def Ll(K:OK)(x:V)(H:Hp)(k:Bool):Prop :=
 match x with
 | .non=>k=false
 | .bl b=>k=b
 | .int i=>k=(i !=0)
 | .str y=>y.length≤OR/\k=((y.length:Int) !=0)
 | .byt y=>y.size≤OR/\k=((y.size:Int) !=0)
 | .ref p=>(∃xs,ip K H p xs/\k=!xs.isEmpty)∨(∃xs,g9 K H p xs/\k=!xs.isEmpty)∨∃kvs,H p=some (.dK kvs)/\k=!kvs.isEmpty
 | _=>False
theorem xB{d:Type}{kvs:List (d×V)}{vs:List (d×OC)}(r:KV kvs vs):(!vs.isEmpty)=!kvs.isEmpty:=by
 cases r<;>rfl
theorem kq{xs:List V}{its:List OC}(r:aK xs its):(!its.toArray.isEmpty)=!xs.isEmpty:=by
 cases r<;>simp
theorem ml:(OR:Nat)<2 ^ 63:=by rw[Pz];decide
theorem xC:Li X (λx H Q=>∃k,Ll X.K x H k/\Q k H):=by
 intro pins s σ H x v Q I g h;obtain⟨k,e,q⟩:=h;have u:=ml;have hs:OR=16777216:=Pz;cases x with
 | non=>
  cases g;have d:k=false:=e;subst d;exact truthy_none ⟨H,I,q⟩
 | bl b=>
  cases g;have d:k=b:=e;subst d;exact QR ⟨H,I,q⟩
 | int i=>
  obtain⟨t,rfl⟩:=g;have d:k=(i !=0):=e;subst d;exact PySem.P.truthy_int ⟨H,I,q⟩
 | str y=>
  obtain⟨t,rfl⟩:=g;obtain⟨l,d⟩:y.length≤OR/\k=((y.length:Int) !=0):=e;subst d;exact PySem.P.truthy_str (by omega) ⟨H,I.tok _,q⟩
 | byt y=>
  obtain⟨t,rfl⟩:=g;obtain⟨l,d⟩:y.size≤OR/\k=((y.size:Int) !=0):=e;subst d;exact PySem.W.truthy_bytes (by omega) ⟨H,I.tok _,q⟩
 | ref p=>
  cases g;have d:(∃xs,ip X.K H p xs/\k=!xs.isEmpty)∨(∃xs,g9 X.K H p xs/\k=!xs.isEmpty)∨∃kvs,H p=some (.dK kvs)/\k=!kvs.isEmpty:=e;rcases d with ⟨xs,j,d⟩ | ⟨xs,j,d⟩ | ⟨kvs,j,d⟩
  ·subst d;obtain⟨its,r,pl,hz⟩:=I.list j;have f:=r.length;exact W6 pl.isList (by simp only[OJ];omega) ⟨H,I.tok _,by rw[kq r];exact q⟩
  ·subst d;obtain⟨its,r,pl,hz⟩:=I.tuple j;have f:=r.length;exact truthy_tuple pl (by simp only[OJ];omega) ⟨H,I.tok _,by rw[kq r];exact q⟩
  ·subst d;obtain⟨hz,o,vs,r,m⟩:kvs.length≤OR/\(p==QO)=false/\∃vs,KV kvs vs/\s.heap.DictOf (aW X.prog X.w) p vs:=I.hok p _ j;have f:kvs.length=vs.length:=Pm r;exact wpAny_truthy_dict o m (by omega) ⟨H,I.tok _,by rw[xB r];exact q⟩
 | _=>exact(show False from e).elim
theorem vz(l:PE X a ta)(j:∀whole,WL a X.env whole=(do let v <-whole;Rp a.pos;Rq [v] (ZI v))) :
  PT X a (λσ H Q=>ta σ H λx d=>∃k,Ll X.K x d k/\Q k d):=by
 intro pins s σ H Q I h;exact W3 (bi (l pins s σ H _ I h) λv g f=>da f λx H1 I1 i q1=>xC pins g σ H1 x v Q I1 i q1) (j _)

theorem iQ{x:V}(r:aK [x] us):∃u,us=[u]/\aI x u:=by
 cases r with
 | cons f d=>cases d;exact⟨_,rfl,f⟩
theorem vA{x y:V}(r:aK [x,y] us):∃u d,us=[u,d]/\aI x u/\aI y d:=by
 cases r with
 | cons i h=>
  cases h with
  | cons g f=>cases f;exact⟨_,_,rfl,i,g⟩
theorem AJ(f:X.calm=true):dj X (.builtin "max") (λxs H Q=>∃i j,xs=[.int i,.int j]/\Q (.int<|if j > i then j else i) H):=by
 intro pins s σ H xs us Q I r h;obtain⟨i,j,rfl,q⟩:=h;obtain⟨u,g,rfl,⟨t,rfl⟩,⟨t',rfl⟩⟩:=vA r;refine max_two_ints (I.ok.hd f) λh' tk k=>⟨_,H,I.kept k,?_,q⟩
 by_cases d:j > i
 ·rw[if_pos d,if_pos d];exact⟨_,rfl⟩
 ·rw[if_neg d,if_neg d];exact⟨_,rfl⟩
theorem AK(f:X.calm=true):dj X (.builtin "min") (λxs H Q=>∃i j,xs=[.int i,.int j]/\Q (.int<|if j<i then j else i) H):=by
 intro pins s σ H xs us Q I r h;obtain⟨i,j,rfl,q⟩:=h;obtain⟨u,g,rfl,⟨t,rfl⟩,⟨t',rfl⟩⟩:=vA r;refine min_two_ints (I.ok.hd f) λh' tk k=>⟨_,H,I.kept k,?_,q⟩
 by_cases d:j<i
 ·rw[if_pos d,if_pos d];exact⟨_,rfl⟩
 ·rw[if_neg d,if_neg d];exact⟨_,rfl⟩
end
structure xD(h:Pk)(x dx C:OD)(mA:Str->Option OC):Prop where
 obj:h.get? x=some (Q9 C dx)
 ns:h.Ns1 dx mA
 ne:dx≠x

theorem sd{h:Pk}{g:OD}{f:Str->Option OC}(n:h.Ns1 g f):∃d,h.get? g=some d/\∀name,Uw name d=some (f name):=by
 obtain⟨o,es,ep,ho,hd,l,_,j⟩:=n;refine⟨o,ho,λname=>?_⟩;have e:=j name;unfold nsFind findBy at e;rw[<-WP] at e;unfold Uw;rw[hd];dsimp only;split
 ·rename_i y q;rw[q] at e;exact congrArg some e
 ·rename_i q;rw[q] at e;have a:es.toList.any (·.refKey)=false:=by
   rw[List.any_eq_false];intro y i;obtain⟨z,t,c⟩:=l y (Array.mem_toList_iff.mp i);simp[DictEntry.refKey,c]
  have m:¬es.toList.any (·.refKey)=true:=by rw[a];exact O2
  rw[if_neg m];exact congrArg some e

theorem xD.look{h:Pk}{x f C:OD}{d:Str->Option OC}(I:xD h x f C d):∃c,Yw h x (Q9 C f) C (some c)/\∀name,Uw name c=some (d name) :=
 let ⟨c,ho,g⟩:=sd I.ns
 ⟨c,⟨I.obj,rfl,rfl,ho⟩,g⟩

section
variable{x dx C f:OD}{mA:Str->Option OC}{name:Str}{v:OC}
theorem FL{expr:Bool}{Q:OC->OI->Prop}(X:K.In s.heap)(I:xD s.heap x dx C mA)(j:Tz K C name=true)(i:S8 K C=true)
  (l:Pc K (.ref C) name=some none) (d:mA name=some v) (c:U1 v=true) (h:Q v {s with toks:=s.toks+1}) :
  OM (OP prog w) A (Yn (.ref x) name expr) Q E s:=by
 obtain⟨m,J,g⟩:=I.look;exact PySem.W.get_value X J (Ug j).1 (Wi i l rfl<|by rw[g,d]) c h

theorem CP{pl:Sem Bool}{Q:OC×List OC->OI->Prop}(X:K.In s.heap)(I:xD s.heap x dx C mA)(c:Tz K C name=true)
  (j:Pc K (.ref C) name=some (some<|.ref f)) (ht:S9 K (.ref f)=true) (g:mA name=none) (h:Q (.ref f,[.ref x]) s) :
  OM (OP prog w) A (Sf (.ref x) name pl) Q E s:=by
 obtain⟨d,J,i⟩:=I.look;exact PySem.W.method_fn X J (Ug c).1 (Ug c).2 j (beq_iff_eq.mp ht) (by show(Uw name d).map (·.isSome)=some false;rw[i,g];rfl) h

theorem FM{ns:List Str}{Q:Unit->OI->Prop}(X:K.In s.heap)(I:xD s.heap x dx C mA)
  (hs:Pc K (.ref C) "__setattr__" = some (some<|.builtin "object.__setattr__")) (p:W7 K C=true) (ht:Vw K C name=some none) (u:S8 K C=true)
  (o:W2 mA ns) (hsz:ns.length≤OR)
  (h:∀h',xD h' x dx C (λy=>if y=name then some v else mA y)->QA dx s.heap h'->Q () {s with heap:=h',toks:=s.toks+2}) :
  OM (OP prog w) A (ZL (.ref x) name v) Q E s:=by
 obtain⟨O,J,Y⟩:=I.look;refine Zr X J hs (PySem.W.osa_open (s:={s with toks:=s.toks+1}) (r:=none) X J p ht λb=>?_);obtain⟨cd,z,j⟩:=PySem.W.any_some u;have m:s.heap.get? x=some ⟨.ref C,some dx,.plain,#[]⟩:=I.obj;refine OB (OE<|OB<|OB<|VR m<|OB<|aa7 (s:={s with toks:=s.toks+1}) (Wc X z) ?_);rw[j];refine OE (a:=some dx) (OB<|OE<|OB ?_);refine ZM (s:={s with toks:=s.toks+1}) I.ns λh' d c=>?_;obtain⟨U,H,L,g,i,l⟩:=d.count (Yx name v o);refine OB (Xz g (by rw[i];exact XA (PV l<|by rw[P2];omega)) ?_);exact OE (h _ ⟨(c.2 _<|Qp I.ne).trans I.obj,d,I.ne⟩ c)

theorem vB{R:Result->OI->Prop}{vs:List OC}{c:List (Str×OC)}(X:K.In s.heap)(i:Vx K C=true)
  (j:Pc K (.ref C) "__init__" = some (some<|.ref f)) (l:PySem.W.typeIn K (.ref f)=some (.type "function"))
  (h:RX (OP prog w) (A.under<|.builtin "type.__call__" ⟨.ref C::vs,c⟩) (.call (.ref f) ⟨.ref (s.heap.objs.size+1)::vs,c⟩) (PySem.W.InitBack (s.heap.objs.size+1) R)
   {s with heap:=(s.heap.push Qv).push (Q9 C s.heap.objs.size)}) :
  RX (OP prog w) A (.call (.ref C) ⟨vs,c⟩) R s:=by
 obtain⟨m,g,d,t,os⟩:=s;exact PySem.W.make_core (PySem.W.makes_of X i) (QV X j) (λself=>PySem.W.bind_fn X self l) (.inl rfl) h
end
def ir(f:Str)(v:V):List (Str×V)->List (Str×V)
 | []=>[(f,v)]
 | (g,x)::r=>if g=f then(g,v)::r else(g,x)::ir f v r
theorem mX(f g:Str)(v:V):∀fs:List (Str×V),(ir f v fs).lookup g=if g=f then some v else fs.lookup g
 | []=>by
  show RC g [(f,v)]=_;by_cases h:g=f
  ·have hb:(g==f)=true:=beq_iff_eq.mpr h;simp only[RC,hb,if_pos h]
  ·have hb:(g==f)=false:=beq_eq_false_iff_ne.mpr h;simp only[RC,hb,if_neg h]
 | (k,x)::r=>by
  have d:=mX f g v r;rw[show ir f v ((k,x)::r)=(if k=f then(k,v)::r else(k,x)::ir f v r) from rfl];by_cases c:k=f
  ·rw[if_pos c];by_cases h:g=k
   ·have hb:(g==k)=true:=beq_iff_eq.mpr h;simp only[RC,hb,if_pos (h.trans c)]
   ·have hb:(g==k)=false:=beq_eq_false_iff_ne.mpr h;simp only[RC,hb,if_neg (λe:g=f=>h (e.trans c.symm))]
  ·rw[if_neg c];by_cases h:g=k
   ·have hb:(g==k)=true:=beq_iff_eq.mpr h;simp only[RC,hb,if_neg (λe:g=f=>c (h.symm.trans e))]
   ·have hb:(g==k)=false:=beq_eq_false_iff_ne.mpr h;simp only[RC,hb];exact d
theorem mm(f:Str)(v:V):∀fs:List (Str×V),f∈(ir f v fs).map (·.1)/\∀g,g∈fs.map (·.1)->g∈(ir f v fs).map (·.1)
 | []=>⟨by simp[ir],λg h=>by simp at h⟩
 | (k,x)::r=>by
  obtain⟨i,d⟩:=mm f v r;rw[show ir f v ((k,x)::r)=(if k=f then(k,v)::r else(k,x)::ir f v r) from rfl];by_cases c:k=f
  ·rw[if_pos c];subst c;exact⟨by simp,λg h=>by simpa using h⟩
  ·rw[if_neg c];refine⟨?_,λg h=>?_⟩
   ·rw[O8];exact OT _ i
   ·rw[O8] at h ⊢;rcases OY.mp h with e | e
    ·exact OY.mpr (.inl e)
    ·exact OT _ (d g e)
theorem mY(f:Str)(v:V):∀fs:List (Str×V),(ir f v fs).length≤fs.length+1
 | []=>by simp[ir]
 | (k,x)::r=>by
  have d:=mY f v r;rw[show ir f v ((k,x)::r)=(if k=f then(k,v)::r else(k,x)::ir f v r) from rfl];by_cases c:k=f
  ·rw[if_pos c,P2,P2];omega
  ·rw[if_neg c,P2,P2];omega

theorem fB.some_of{v:V}{o:Option OC}(r:fB (some v) o):∃u,o=some u/\aI v u:=by
 cases o with
 | none=>exact(show False from r).elim
 | some u=>exact⟨u,rfl,r⟩
theorem fB.none_of{o:Option OC}(r:fB none o):o=none:=by
 cases o with
 | none=>rfl
 | some u=>exact(show False from r).elim
theorem sf{v:V}{u:OC}(r:aI v u):U1 u=true:=by
 cases v with
 | non=>cases(show u=Pw from r);rfl
 | bl b=>cases(show u=QX b from r);rfl
 | int i=>obtain⟨t,e⟩:=(show ∃t,u=RK i t from r);cases e;rfl
 | str x=>obtain⟨t,e⟩:=(show ∃t,u=Wa x t from r);cases e;rfl
 | byt b=>obtain⟨t,e⟩:=(show ∃t,u=Z8 b t from r);cases e;rfl
 | flt b=>obtain⟨t,e⟩:=(show ∃t,u=XR b t from r);cases e;rfl
 | ref a=>cases(show u=OX a from r);rfl
 | ty n=>cases(show u=WK n from r);rfl

section
variable{H H':Hp}{h h':Pk}{a C dx:OD}{fs fs':List (Str×V)}
theorem ou(hok:i6 P w H h)(e:H a=some (.ins C dx fs)):∃c,xD h a dx C c/\(∀f,fB (fs.lookup f) (c f))/\W2 c (fs.map (·.1))/\fs.length≤1000/\H dx=some (.own a):=by
 obtain⟨d,z,ne,ob,c,n,r,q⟩:=(show bj P w H h a (.ins C dx fs) from hok a _ e)
 exact⟨c,⟨ob,n,ne⟩,r,q,z,d⟩
end
structure ow(K:OK)(C:OD):Prop where
 pg:Tz K C Str.empty=true
 hd:S8 K C=true
 po:W7 K C=true
 sa:Pc K (.ref C) "__setattr__" = some (some<|.builtin "object.__setattr__")
theorem ow.get{C:OD}(c:ow K C)(f:Str):Tz K C f=true:=c.pg
def cg(K:OK)(C:OD)(f:Str):Prop:=Pc K (.ref C) f=some none
theorem cg.taker{C:OD}{f:Str}(n:cg K C f):Vw K C f=some none:=by
 unfold Vw;rw[show Pc K (.ref C) f=some none from n];rfl
structure tX(K:OK)(C:OD)(m:Str)(f:OD):Prop where
 at_:Pc K (.ref C) m=some (some<|.ref f)
 fn:S9 K (.ref f)=true
 kp:Pn K (.ref f)=true

section
variable{X:Cx}{σ:St}{H:Hp}{a C dx:OD}{fs:List (Str×V)}{f:Str}{v:V}
theorem xE{b:Bool}{Q:OC->OI->Prop}(I:ay X pins σ H s)(e:H a=some (.ins C dx fs))(c:ow X.K C)(n:cg X.K C f)(l:fs.lookup f=some v)
  (h:∀u s',ay X pins σ H s'->aI v u->Q u s'):OM (OP X.prog X.w) A (Yn (.ref a) f b) Q E s:=by
 obtain⟨g,O,r,_,_,_⟩:=ou I.hok e;obtain⟨u,i,d⟩:=fB.some_of (v:=v) (o:=g f) (by rw[<-l];exact r f);exact FL I.kIn O (c.get f) c.hd n i (sf d) (h u _ (I.tok _) d)

theorem iu{m:Str}{g:OD}{pl:Sem Bool}{Q:OC×List OC->OI->Prop}(I:ay X pins σ H s)(e:H a=some (.ins C dx fs))(c:ow X.K C)(k:tX X.K C m g)(l:fs.lookup m=none)
  (h:Q (.ref g,[.ref a]) s):OM (OP X.prog X.w) A (Sf (.ref a) m pl) Q E s:=by
 obtain⟨d,O,r,_,_,_⟩:=ou I.hok e;have hn:d m=none:=fB.none_of (by rw[<-l];exact r m);exact CP I.kIn O (c.get m) k.at_ k.fn hn h

theorem xF{y:V}{u:OC}{Q:Unit->OI->Prop}(I:ay X pins σ H s)(e:H a=some (.ins C dx fs))(c:ow X.K C)(n:cg X.K C f)(U:fs.length<1000)(m:aI y u)
  (h:∀s',ay X pins σ (upd H a<|.ins C dx<|ir f y fs) s'->Q () s'):OM (OP X.prog X.w) A (ZL (.ref a) f u) Q E s:=by
 obtain⟨j,O,r,i,_,ho⟩:=ou I.hok e;have hz:(fs.map (·.1)).length≤OR:=by rw[Ps,Pz];omega
 refine FM I.kIn O c.sa c.po n.taker c.hd i hz λh' d l=>h _ ?_;have hd:∃o,h'.get? dx=some o:=let ⟨o,_,_,L,_⟩:=d.ns;⟨o,L⟩;refine I.write (x:=a) (e:=dx) (by rw[e];exact Qt) (.inr ho) (λb q hb z=>(l.2 b hb).trans z) hd ?_;refine⟨by rw[al O.ne];exact ho,?_,O.ne,d.obj,_,d.ns,λg=>?_,λg p=>?_⟩
 ·have:=mY f y fs;omega
 ·show fB ((ir f y fs).lookup g) (if g=f then some u else j g);rw[mX];by_cases q:g=f
  ·rw[if_pos q,if_pos q];exact m
  ·rw[if_neg q,if_neg q];exact r g
 ·by_cases q:g=f
  ·rw[q];exact(mm f y fs).1
  ·refine(mm f y fs).2 g (i g λz=>p ?_);show(if g=f then some u else j g)=none;rw[if_neg q];exact z

theorem ay.made(I:ay X pins σ H s):ay X pins σ (upd (upd H s.heap.objs.size<|.own<|s.heap.objs.size+1) (s.heap.objs.size+1)<|.ins C s.heap.objs.size [])
  {s with heap:=(s.heap.push Qv).push (Q9 C s.heap.objs.size)}:=by
 have c:(s.heap.push Qv).get? s.heap.objs.size=some Qv:=OQ s.heap rfl;have i:((s.heap.push Qv).push (Q9 C s.heap.objs.size)).get? (s.heap.objs.size+1)=some (Q9 C s.heap.objs.size):=by
  have:=OQ (s.heap.push Qv) (o:=Q9 C s.heap.objs.size) rfl
  rwa [RL] at this
 have h:(s.heap.push Qv).Ns s.heap.objs.size (λ_=>none):=⟨Qv,#[],_,c,rfl,(λe g=>absurd g (by simp)),λ_=>rfl⟩
 have I1:=I.laid (a:=s.heap.objs.size) (o:=.own (s.heap.objs.size+1)) (h':=s.heap.push Qv) (t':=s.toks) (λb u q=>OF _ q) (OU _) ⟨_,c⟩;refine I1.laid (a:=s.heap.objs.size+1) (o:=.ins C s.heap.objs.size []) (t':=s.toks) (λb u q=>OF _ q) (W8<|RL _ _) ?_;have ne:s.heap.objs.size≠s.heap.objs.size+1:=O0 (P6 _);refine⟨by rw[al ne,aq],PY _,ne,i,λ_=>none,(W9 h).at λo q=>OF _ q,λ_=>Qt,λy d=>absurd rfl d⟩

theorem y9{env:Env}{e:O4}{Q:OC->OI->Prop}(hb:Pi e f env (Pq e env)=Pq e env)
  (h:OM (OP prog w) A (Pq e env) (λo s₁=>OM (OP prog w) A (Yn o f true) Q E s₁) E s):OM (OP prog w) A (Pq (.Attribute e f pos) env) Q E s :=
 Attribute_any_ h (by rw[arm_eval_Attribute,hb])
end
def Ni(K:OK)(c:TE)(f:Str):TE:=λσ H Q=>c σ H λx H1=>∃a C d fs v,x=.ref a/\H1 a=some (.ins C d fs)/\ow K C/\cg K C f/\fs.lookup f=some v/\Q v H1
def Nj(K:OK)(h g:TE)(f:Str):TS:=λD σ H=>g σ H λy H1=>h σ H1 λx d=>∃a C c fs,x=.ref a/\d a=some (.ins C c fs)/\ow K C/\cg K C f/\fs.length<1000 /\
 D.nx σ (upd d a<|.ins C c<|ir f y fs)
section
variable{X:Cx}{o e value:O4}{f:Str}{pos pos' tpos:Pos}{ta tv:TE}
theorem Jc(j:PE X e ta)(hb:Pi e f X.env (Pq e X.env)=Pq e X.env):PE X (.Attribute e f pos) (Ni X.K ta f):=by
 intro pins s σ H Q I h;refine y9 hb (bi (j pins s σ H _ I h) λu L d=>?_);obtain⟨x,H1,I1,g,a,C,O,fs,v,ex,m,c,n,l,q⟩:=d;subst ex;obtain rfl:u=OX a:=g;exact xE I1 m c n l λr z p i=>⟨v,H1,p,i,q⟩
theorem Jd(r:PE X o ta)(p:PE X value tv)(hs:Qq value (some<|.Attribute o f pos') pos.line X.env=pure false):PS X (.Assign [.Attribute o f pos'] value pos) (Nj X.K ta tv f):=by
 intro pins s σ H D I h;refine Tq (bi (p pins s σ H _ I h) λu g d=>da d λy H1 I1 i q=>bi (r pins g σ H1 _ I1 q) λm Q d=>?_) hs;obtain⟨x,Y,L,j,a,C,U,fs,ex,z,c,n,l,q2⟩:=d;subst ex;obtain rfl:m=OX a:=j;exact xF L z c n l i λO I3=>⟨σ,_,I3,q2⟩
end
section
variable{X:Cx}{σ:St}{H:Hp}{Q:OC->OI->Prop}{c:OC}{b:Bool}
inductive mn (K:OK) (H:Hp):V->OC->Prop where
 | non:mn K H .non (.type "NoneType")
 | bl (x:Bool):mn K H (.bl x) (.type "bool")
 | int (i:Int):mn K H (.int i) (.type "int")
 | str (x:Str):mn K H (.str x) (.type "str")
 | flt (x:UInt64):mn K H (.flt x) (.type "float")
 | lst {a:OD} {xs:List V} (e:H a=some (.lst xs)):mn K H (.ref a) (.type "list")
 | frz {a:OD} {o:Obj} {xs:List V} (e:H a=some (.frz o (.lst xs))):mn K H (.ref a) (.type "list")
 | tup {a:OD} {xs:List V} (e:H a=some (.tup xs)):mn K H (.ref a) (.type "tuple")
 | dK {a:OD} {kvs:List (bh×V)} (e:H a=some (.dK kvs)):mn K H (.ref a) (.type "dict")
 | dT {a:OD} {kvs:List (List bh×V)} (e:H a=some (.dT kvs)):mn K H (.ref a) (.type "dict")
 | ins {a C dx:OD} {fs:List (Str×V)} (e:H a=some (.ins C dx fs)) (cl:ow K C) (ha:Pc K (.ref C) "__class__" = some (some (.builtin "object.__class__")))
   (hn:UP K (.builtin "object.__class__") "__get__" = some (some<|.builtin "getset_descriptor.__get__")) (htk:Vy K (.builtin "object.__class__")=some true)
   (hm:Ts K C (.type "object")=some true):mn K H (.ref a) (.ref C)
theorem AL{x:V}{u t:OC}(I:ay X pins σ H s)(d:aI x u)(ty:mn X.K H x t)(e:Yy X.K t c=some b)(h:∀tk,Q (.bool b) {s with toks:=tk}) :
  OM (OP X.prog X.w) A (call (.builtin "isinstance") [u,c]) Q E s:=by
 cases ty with
 | non=>cases(show u=Pw from d);exact Qn PySem.W.kitx_none I.kIn Qt e (λz=>nomatch z) h
 | bl y=>cases(show u=QX y from d);exact Qn PySem.W.kitx_bool I.kIn Qt e (λz=>nomatch z) h
 | int i=>obtain⟨t,q⟩:=(show ∃t,u=RK i t from d);cases q;exact Qn PySem.W.kitx_int I.kIn Qt e (λz=>nomatch z) h
 | str y=>obtain⟨t,q⟩:=(show ∃t,u=Wa y t from d);cases q;exact Qn PySem.W.kitx_str I.kIn Qt e (λz=>nomatch z) h
 | flt y=>obtain⟨t,q⟩:=(show ∃t,u=XR y t from d);cases q;exact Qn PySem.W.kitx_float I.kIn Qt e (λz=>nomatch z) h
 | @lst a xs f=>
  cases(show u=OX a from d);obtain⟨_,_,n,_,g⟩:=(show bj X.prog X.w H s.heap a (.lst xs) from I.hok a _ f)
  exact Qn Xa I.kIn ⟨_,g,rfl⟩ e (λz=>nomatch z) h
 | @frz a ob xs f=>
  cases(show u=OX a from d);obtain⟨_,_,_,n,_,g⟩:=(show bj X.prog X.w H s.heap a (.frz ob<|.lst xs) from I.hok a _ f)
  exact Qn Xa I.kIn ⟨_,g,rfl⟩ e (λz=>nomatch z) h
 | @tup a xs f=>
  cases(show u=OX a from d);obtain⟨_,_,_,p⟩:=(show bj X.prog X.w H s.heap a (.tup xs) from I.hok a _ f)
  obtain⟨o,g,j,_⟩:=p;exact Qn PySem.W.kitx_tuple I.kIn ⟨o,g,j⟩ e (λz=>nomatch z) h
 | @dK a kvs f=>
  cases(show u=OX a from d);obtain⟨_,_,vs,_,p⟩:=(show bj X.prog X.w H s.heap a (.dK kvs) from I.hok a _ f)
  obtain⟨o,es,ep,g,j,_⟩:=p;exact Qn Xb I.kIn ⟨o,g,j.1⟩ e (λz=>nomatch z) h
 | @dT a kvs f=>
  cases(show u=OX a from d);obtain⟨_,_,xs,_,o,es,ep,g,j,_⟩:=(show bj X.prog X.w H s.heap a (.dT kvs) from I.hok a _ f)
  exact Qn Xb I.kIn ⟨o,g,j.1⟩ e (λz=>nomatch z) h
 | @ins a C Y fs f cl r hn l m=>
  cases(show u=OX a from d);obtain⟨U,O,_⟩:=ou I.hok f;obtain⟨L,J,_⟩:=O.look;exact Qn (PySem.W.kitx_own (cl.get _) cl.hd r hn l m) I.kIn J e (λz=>nomatch z) h
end
structure a5(k:Nat)(A:Qz):Prop where
 hd:A.handled=none
 dp:A.depth+3*k+5<RM
 un:A.units+16*k+200<QK
theorem a5.mono{j k:Nat}(r:a5 k A)(h:j≤k):a5 j A:=⟨r.hd,by have:=r.dp;omega,by have:=r.un;omega⟩
theorem a5.deeper{k:Nat}(r:a5 (k+1) A)(env:Env):a5 k (A.deeper env) :=
 ⟨r.hd,by have:=r.dp;show A.depth+1+3*k+5<_;omega,by have:=r.un;show A.units+3+16*k+200<_;omega⟩
theorem a5.in1{k:Nat}(r:a5 (k+1) A):a5 k A.in1 :=
 ⟨r.hd,by have:=r.dp;show A.depth+3*k+5<_;omega,by have:=r.un;show A.units+1+16*k+200<_;omega⟩
theorem xG{C:OD}{c:List (Str×OC)}:(A.under<|.builtin "type.__call__" ⟨.ref C::us,c⟩).depth=A.depth+1:=by
 first | rfl | simp[Vj,Code.weight,Code.isCreation,Code.isGuard,Code.isCaller,aa1,Xd,guardIds]
theorem xI{C:OD}{c:List (Str×OC)}:(A.under<|.builtin "type.__call__" ⟨.ref C::us,c⟩).units=A.units+1:=by
 first | rfl | simp[Vj,Code.cUnits,aa1,Xd]
theorem a5.make{k:Nat}(r:a5 (k+1) A)(C:OD)(us:List OC)(c:List (Str×OC)):a5 k (A.under<|.builtin "type.__call__" ⟨.ref C::us,c⟩) :=
 ⟨r.hd,by have:=r.dp;rw[xG];omega,by have:=r.un;rw[xI];omega⟩
theorem a5.depth{k:Nat}(r:a5 k A):A.depth<RM:=by have:=r.dp;omega
theorem a5.units{k:Nat}(r:a5 k A):A.units+64<QK:=by have:=r.un;omega
def mq:TA:=λ_ H Q=>Q [] H
def jX(d:TE)(c:TA):TA:=λσ H Q=>d σ H λx H1=>c σ H1 λxs f=>Q (x::xs) f
section
variable{X:Cx}{e:O4}{te:TE}{t:TA}
theorem cW:PA X [] mq:=λ_ _ _ _ H Q I h=>Sj ⟨[],H,I,.nil,h⟩
abbrev hE9(X:Cx)(e:O4)(es:List O4):Prop:=O1 (e::es) X.env=(false,Pq e X.env)::O1 es X.env
abbrev hP9(X:Cx)(p:Pos)(es:List O4):Prop:=(QE p<|O1 es X.env).any (·.1)=false
abbrev hD9(x:Str):Prop:=(x==("__debug__":Str))=false
theorem bK(i:PE X e te)(hr:PA X es t)(hs:hE9 X e es:=by nofun):PA X (e::es) (jX te t):=by
 intro pos pins s σ H Q I h;rw[hs];show OM _ _ (spliced ((false,Pq e X.env)::QE pos (O1 es X.env))) _ _ s;refine QY (bi (i pins s σ H _ I h) λu d c=>da c λx H1 I1 g q1=>?_);exact bi (hr pos pins d σ H1 _ I1 q1) λus m c=>da c λxs l j f q2=>⟨x::xs,l,j,.cons g f,q2⟩

def Lm(t:TA):TE:=λσ H Q=>t σ H λxs H1=>xs.length≤OR/\∀p,H1 p=none->Q (.ref p) (upd H1 p<|.tup xs)
def Nk(t:TA):TE:=λσ H Q=>t σ H λxs H1=>xs.length≤OR/\∀p,H1 p=none->Q (.ref p) (upd H1 p<|.lst xs)
theorem CQ{d}(h:PA X es t):PE X (.Tuple es d pos) (Lm t):=by
 intro pins s σ H Q I f;refine wpAny_Tuple_spliced (bi (h pos pins s σ H _ I f) λus c ⟨xs,H1,I1,r,z,q⟩=>⟨by rw[<-r.length];exact z,?_⟩);have g:H1 c.heap.objs.size=none:=I1.hok.fresh (OU _);refine⟨.ref c.heap.objs.size,upd H1 c.heap.objs.size<|.tup xs,I1.laid (t':=c.toks) (λb u e=>OF _ e) (OU _) ?_,rfl,q _ g⟩;exact⟨z,us,r,⟨_,OQ _ rfl,rfl,_,rfl⟩⟩
theorem Je(h:PA X es t):PE X (.List es pos) (Nk t):=by
 intro pins s σ H Q I d;refine wpAny_List_spliced (bi (h pos pins s σ H _ I d) λus c ⟨xs,H1,I1,r,z,q⟩=>⟨by rw[<-r.length];exact z,?_⟩);have f:H1 c.heap.objs.size=none:=I1.hok.fresh (OU _);refine⟨.ref c.heap.objs.size,upd H1 c.heap.objs.size<|.lst xs,I1.laid (t':=c.toks) (λb u e=>OF _ e) (OU _) ?_,rfl,q _ f⟩;exact⟨z,us,0,r,OQ _ rfl⟩
end
abbrev Sp:=List V->Hp->VK->XK->Prop
abbrev kr:=List Env->Hp->OI->XK->OC->OI->Prop

structure jd(P:Ph)(w:Py)(K:OK)(mg:Str->Option OC)(base:Pk)(A:Qz)(outer:List Env)(s:OI)(H:Hp):Prop where
 frames:A.frames=some outer
 mod:Mod K mg base
 bs:∀b o,base.get? b=some o->s.heap.get? b=some o/\H b=none
 bsz:base.objs.size≤s.heap.objs.size
 funs:s.heap.FunFrames base outer
 frf:∀b∈io outer,H b=none
 hok:i6 P w H s.heap
 bare:TN s.gens
def CE(outer:List Env)(P:Ph)(w:Py)(H:Hp)(s:OI)(Q:VK)(u:OC)(s':OI):Prop :=
 ∃v c,s'.os=s.os/\TN s'.gens/\Un (io outer) [] H c s.heap s'.heap/\i6 P w c s'.heap/\aI v u/\Q v c
def CR(CX:kr)(outer:List Env)(P:Ph)(w:Py)(H:Hp)(s:OI)(Q:VK)(E:XK)(r:Result)(s':OI):Prop :=
 match r with
 | .ok (.ret u)=>CE outer P w H s Q u s'
 | .ok _=>False
 | .error e=>CX outer H s E e s'
structure bG(P:Ph)(w:Py)(K:OK)(mg:Str->Option OC)(base:Pk)(CX:kr)(k:Nat)(f:OD)(fd:TV)(ps:List Str)(sp:Sp):Prop where
 len:∀vs H Q E,sp vs H Q E->vs.length=ps.length
 run:∀(A:Qz) (outer:List Env) (s:OI) (H:Hp) (args:Args) (us:List OC) (vs:List V) (Q:VK) (E:XK),a5 k A->jd P w K mg base A outer s H->Wd s fd args (ps.zip us)->aK vs us->sp vs H Q E ->
  RX (OP P w) A (.call (.ref f) args) (CR CX outer P w H s Q E) s
theorem bG.mono{CX:kr}{j k:Nat}{f:OD}{ps:List Str}{sp:Sp}(F:bG P w K mg base CX j f fd ps sp)(h:j≤k) :
  bG P w K mg base CX k f fd ps sp:=⟨F.len,λA outer s H args us vs Q E hr=>F.run A outer s H args us vs Q E (hr.mono h)⟩
theorem jd.make{outer:List Env}{H:Hp}(e:jd P w K mg base A outer s H)(C:OD)(us:List OC)(c:List (Str×OC)) :
  jd P w K mg base (A.under<|.builtin "type.__call__" ⟨.ref C::us,c⟩) outer s H:=⟨by first | exact e.frames | (simpa[Vj,Code.envs,Xd,pushEnvs] using e.frames),e.mod,e.bs,e.bsz,e.funs,e.frf,e.hok,e.bare⟩
theorem jd.in1{outer:List Env}{H:Hp}(e:jd P w K mg base A outer s H) :
  jd P w K mg base A.in1 outer s H:=⟨e.frames,e.mod,e.bs,e.bsz,e.funs,e.frf,e.hok,e.bare⟩

section
variable{X:Cx}{σ:St}{H:Hp}{s s':OI}
theorem ay.env0(I:ay X pins σ H s):jd X.prog X.w X.K X.mg X.base X.A X.stack s H :=
 ⟨I.ok.frames,I.ok.mod,I.bs,PV I.ok.bsz I.sz,I.stack,I.stkFree,I.hok,I.bare⟩
theorem ay.after{Q:VK}{u:OC}(I:ay X pins σ H s)(h:CE X.stack X.prog X.w H s Q u s'):EP X pins σ Q u s':=by
 obtain⟨v,i,os,bare,un,hok,r,q⟩:=h;obtain⟨f,g,d,t,c⟩:=s';obtain rfl:c=s.os:=os;exact⟨v,i,I.call (h':=f) (g':=g) (d':=d) (t':=t) (ch:=[]) un hok bare<|λb z=>absurd z (by simp),r,q⟩
end
def jY(sp:Sp)(dvs:List V)(E:XK)(t:TA):TE:=λσ H Q=>t σ H λvs H1=>sp (vs++dvs) H1 Q E
def za(C:OD)(m:Str)(sp:Sp)(dvs:List V)(E:XK)(c:TE)(t:TA):TE:=λσ H Q=>c σ H λx H1=>∃a d fs,x=.ref a/\H1 a=some (.ins C d fs)/\fs.lookup m=none /\
 t σ H1 λvs f=>sp (x::(vs++dvs)) f Q E
def HG(C:OD)(sp:Sp)(dvs:List V)(E:XK)(t:TA):TE:=λσ H Q=>t σ H λvs H1=>∀x c,H1 x=none->H1 c=none->c≠x ->
 sp (.ref x::(vs++dvs)) (upd (upd H1 c<|.own x) x<|.ins C c []) (λv d=>v=.non/\Q (.ref x) d) E

def cA(K:OK)(fd:TV)(ps:List Str)(ds:List OC):Prop :=
 ∀(s:OI) (us:List OC),K.In s.heap->(us++ds).length=ps.length->Wd s fd ⟨us,[]⟩ (ps.zip<|us++ds)
theorem cA.all{ps:List Str}(h:∀us:List OC,us.length=ps.length->RN fd ⟨us,[]⟩=pure (ps.zip us)):cA K fd ps []:=λs us _ c=>by
 rw[Ra] at c ⊢;exact .of_eq (h us c)

def cw(CX:kr)(X:Cx)(E:XK):Prop:=∀(pins:List (OD×Obj)) (σ:St) (H:Hp) (s:OI) (e:OC) (s':OI),ay X pins σ H s->CX X.stack H s E e s'->X.xe e s'

section
variable{X:Cx}{CX:kr}{k:Nat}{f C:OD}{ps:List Str}{sp:Sp}{dvs:List V}{ds:List OC}{E:XK}{x m:Str}{p pos apos:Pos}{e o:O4}{ta:TE}{t:TA}
theorem oY{σ:St}{H:Hp}{Q:VK}{vs:List V}(F:bG X.prog X.w X.K X.mg X.base CX k f fd ps sp)(hr:a5 k X.A)(hb:cA X.K fd ps ds)(hd:aK dvs ds)(d:cw CX X E)
  (I:ay X pins σ H s) (r:aK vs us) (h:sp (vs++dvs) H Q E):OM (OP X.prog X.w) X.A (call (.ref f) us) (EP X pins σ Q) X.xe s:=by
 have r2:aK (vs++dvs) (us++ds):=r.append hd;have g:(us++ds).length=ps.length:=by rw[<-r2.length];exact F.len _ _ _ _ h
 refine QF (Qf (F.run X.A X.stack s H ⟨us,[]⟩ (us++ds) (vs++dvs) Q E hr I.env0 (hb s us I.kIn g) r2 h) λr s' c=>?_);cases r with
 | error e=>exact d pins σ H s e s' I c
 | ok fl=>
  cases fl with
  | ret u=>exact I.after c
  | next=>exact Pa c
  | brk=>exact Pa c
  | cont=>exact Pa c

theorem zc(F:bG X.prog X.w X.K X.mg X.base CX k f fd ps sp)(hr:a5 k X.A)(u:Gl X x)(j:X.mg x=some (.ref f))(l:Pn X.K (.ref f)=true)(hb:cA X.K fd ps ds)(hd:aK dvs ds)(i:cw CX X E)
  (L:PA X (e::es) t) (d:(x==("__debug__":Str))=false:=by decide) (z:hE9 X e es:=by nofun) (c:hP9 X pos es:=by nofun) :
  PE X (.Call (.Name x p) (e::es) [] pos) (jY sp dvs E t):=by
 intro pins s σ H Q I h;refine PR (db I u j ?_ d);refine QZ (h₀:=X.base) I.ok.mod.kin l (bi (L pos pins s σ H _ I h) λus O g=>da g λvs H1 I1 r q=>⟨I1.kIn,?_⟩) z c;exact oY F hr hb hd i I1 r q
theorem CS(F:bG X.prog X.w X.K X.mg X.base CX k f fd ps sp)(hr:a5 k X.A)(j:Gl X x)(g:X.mg x=some (.ref f))(i:Pn X.K (.ref f)=true)(hb:cA X.K fd ps ds)(hd:aK dvs ds)(d:cw CX X E)
  (c:(x==("__debug__":Str))=false:=by decide):PE X (.Call (.Name x p) [] [] pos) (jY sp dvs E mq):=by
 intro pins s σ H Q I h;refine PR (db I j g ?_ c);exact Wj I.kIn i (oY (us:=[]) F hr hb hd d I .nil h)

theorem FN{pl:Sem Bool}(Z:PE X o ta)(c:ow X.K C)(z:tX X.K C m f)(F:bG X.prog X.w X.K X.mg X.base CX k f fd ps sp)(hr:a5 k X.A)(hb:cA X.K fd ps ds)(hd:aK dvs ds)(Y:cw CX X E)(ha:PA X (e::es) t)
  (g:hE9 X e es:=by nofun) (i:hP9 X pos es:=by nofun)
  (ht:Pq (.Call (.Attribute o m apos) (e::es) [] pos) X.env=(do
   let j <-Pq o X.env
   Rp apos.atName
   let (f,first) <-Rq [j] (Sf j m pl)
   Ta pos f first (QE pos<|O1 (e::es) X.env) (QI pos<|PZ [] X.env)):=by nofun) :
  PE X (.Call (.Attribute o m apos) (e::es) [] pos) (za C m sp dvs E ta t):=by
 intro pins s σ H Q I h;refine Sh (pl:=pl) (bi (Z pins s σ H _ I h) λu O d=>?_) ht;obtain⟨x,H1,I1,U,a,dx,fs,ex,ea,l,q⟩:=d;subst ex;obtain rfl:u=OX a:=U;refine iu I1 ea c z l ?_;refine QZ (first:=[.ref a]) (h₀:=X.base) I.ok.mod.kin z.kp (bi (ha pos pins O σ H1 _ I1 q) λus s2 d=>da d λvs H2 L r q2=>⟨L.kIn,?_⟩) g i;exact oY (us:=.ref a::us) (vs:=.ref a::vs) F hr hb hd Y L (.cons rfl r) q2
theorem CT{pl:Sem Bool}(z:PE X o ta)(c:ow X.K C)(g:tX X.K C m f)(F:bG X.prog X.w X.K X.mg X.base CX k f fd ps sp)(hr:a5 k X.A)(hb:cA X.K fd ps ds)(hd:aK dvs ds)(r:cw CX X E)
  (ht:Pq (.Call (.Attribute o m apos) [] [] pos) X.env=(do
   let d <-Pq o X.env
   Rp apos.atName
   let (f,first) <-Rq [d] (Sf d m pl)
   Ta pos f first (QE pos<|O1 [] X.env) (QI pos<|PZ [] X.env)):=by nofun) :
  PE X (.Call (.Attribute o m apos) [] [] pos) (za C m sp dvs E ta mq):=by
 intro pins s σ H Q I h;refine Sh (pl:=pl) (bi (z pins s σ H _ I h) λu O i=>?_) ht;obtain⟨x,H1,I1,j,a,U,fs,ex,L,l,q⟩:=i;subst ex;obtain rfl:u=OX a:=j;refine iu I1 L c g l ?_;exact Wj (first:=[.ref a]) I1.kIn g.kp (oY (us:=[.ref a]) (vs:=[.ref a]) F hr hb hd r I1 (.cons rfl .nil) q)

structure Mk(K:OK)(C f:OD):Prop where
 makes:Vx K C=true
 init:Pc K (.ref C) "__init__" = some (some<|.ref f)
 fn:S9 K (.ref f)=true
 kp:Pn K (.ref C)=true

theorem CU{σ:St}{H:Hp}{Q:VK}{vs:List V}(M:Mk X.K C f)(F:bG X.prog X.w X.K X.mg X.base CX k f fd ps sp)(hr:a5 (k+1) X.A)(hb:cA X.K fd ps ds)(hd:aK dvs ds)
  (L:cw CX X E) (I:ay X pins σ H s) (r:aK vs us)
  (h:∀x d,H x=none->H d=none->d≠x->sp (.ref x::(vs++dvs)) (upd (upd H d<|.own x) x<|.ins C d []) (λv U=>v=.non/\Q (.ref x) U) E) :
  OM (OP X.prog X.w) X.A (call (.ref C) us) (EP X pins σ Q) X.xe s:=by
 have j:=h (s.heap.objs.size+1) s.heap.objs.size (I.hok.fresh<|XU _) (I.hok.fresh<|OU _) (O0<|P6 _);have g:=ay.made (C:=C) I;have i:aK (V.ref (s.heap.objs.size+1)::(vs++dvs)) (OX (s.heap.objs.size+1)::(us++ds)):=.cons rfl (r.append hd);have O:(OX (s.heap.objs.size+1)::us++ds).length=ps.length:=by
  have e:=i.length;rw[F.len _ _ _ _ j] at e;exact e.symm
 refine QF (vB (f:=f) I.kIn M.makes M.init (beq_iff_eq.mp M.fn) (Qf (F.run _ X.stack _ _ ⟨OX (s.heap.objs.size+1)::us,[]⟩ (OX (s.heap.objs.size+1)::(us++ds)) _ _ E (hr.make C us [])
  (g.env0.make C us []) (hb _ (OX (s.heap.objs.size+1)::us) g.kIn O) i j) λr s' c=>?_))
 cases r with
 | error e=>exact L pins σ _ _ e s' g c
 | ok fl=>
  cases fl with
  | ret u=>
   obtain⟨v,Y,I3,l,ev,z⟩:=g.after c;subst ev;exact⟨l,⟨V.ref<|s.heap.objs.size+1,Y,I3,rfl,z⟩⟩
  | next=>exact Pa c
  | brk=>exact Pa c
  | cont=>exact Pa c
theorem FO(M:Mk X.K C f)(F:bG X.prog X.w X.K X.mg X.base CX k f fd ps sp)(hr:a5 (k+1) X.A)(l:Gl X x)(j:X.mg x=some (.ref C))(hb:cA X.K fd ps ds)(hd:aK dvs ds)(i:cw CX X E)
  (z:PA X (e::es) t) (d:(x==("__debug__":Str))=false:=by decide) (u:hE9 X e es:=by nofun) (c:hP9 X pos es:=by nofun) :
  PE X (.Call (.Name x p) (e::es) [] pos) (HG C sp dvs E t):=by
 intro pins s σ H Q I h;refine PR (db I l j ?_ d);refine QZ (h₀:=X.base) I.ok.mod.kin M.kp (bi (z pos pins s σ H _ I h) λus L g=>da g λvs H1 I1 r q=>⟨I1.kIn,?_⟩) u c;exact CU M F hr hb hd i I1 r q
end
def PK(X:Cx)(c:List Tc)(t:TA):Prop :=
 ∀(pos:Pos) (pins:List (OD×Obj)) (s:OI) (σ:St) (H:Hp) (Q:List V->Hp->Prop),ay X pins σ H s->t σ H Q->OM (OP X.prog X.w) X.A (ZN ((QI pos<|PZ c X.env).map (·.2))) (AP X pins σ Q) X.xe s
section
variable{X:Cx}{CX:kr}{k:Nat}{f C:OD}{ps ks:List Str}{sp:Sp}{E:XK}{x m:Str}{p pos apos kpos:Pos}{e o:O4}{kws:List Tc}{te ta:TE}{t tk:TA}{nm:Option Str}
theorem Jf:PK X [] mq:=λ_ _ _ _ H Q I h=>Td ⟨[],H,I,.nil,h⟩
theorem FP(j:PE X e te)(hr:PK X kws t):PK X (⟨nm,e,kpos⟩::kws) (jX te t):=by
 intro pos pins s σ H Q I h;show OM _ _ (ZN ((do let v <-Pq e X.env;Rp pos;pure v)::(QI pos<|PZ kws X.env).map (·.2))) _ _ s;refine Ux (OB<|bi (j pins s σ H _ I h) λu d c=>da c λx H1 I1 i q1=>OB (Qm<|OE ?_));exact bi (hr pos pins d σ H1 _ I1 q1) λus z c=>da c λxs r l g q2=>⟨x::xs,r,l,.cons i g,q2⟩

variable{g:List OC->List OC->List OC}{gV:List V->List V->List V}
end
structure ai(N P:List Str)(sc:PQ):Prop where
 kind:sc.kind=.function
 co:sc.isCoroutine=false
 gen:sc.isGenerator=false
 nd:N.Nodup
 pre:N.take P.length=P
 par:∀x∈P,sc.names.lookup x=some .local∨sc.names.lookup x=some .cell
 nofree:∀y∈sc.names,y.2≠.free

theorem sg{kindOf:Str->Option Rm}{x:Str}:∀{binds:List (Str×OC)} {m:Str->Option OC},(∀v,(x,v)∉binds)->XV kindOf binds m x=m x
 | [],_,_=>rfl
 | (n,v)::r,m,h=>by
  unfold XV;rw[sg λw c=>h w (OT _ c)];split
  ·have:x≠n:=by rintro rfl;exact h v OW
   simp[this]
  ·rfl
theorem sh{kindOf:Str->Option Rm}{x:Str}:∀{binds:List (Str×OC)} {m:Str->Option OC},(∀v,(x,v)∉binds)->XW kindOf binds m x=m x
 | [],_,_=>rfl
 | (n,v)::r,m,h=>by
  unfold XW;rw[sh λw c=>h w (OT _ c)];split
  ·rfl
  ·have:x≠n:=by rintro rfl;exact h v OW
   simp[this]
theorem si{kindOf:Str->Option Rm}{x:Str}{v:OC}:∀{P:List Str} {vs:List OC} {i:Nat} {m:Str->Option OC},P.Nodup->P[i]?=some x->vs[i]?=some v->kindOf x=some .local ->
  XV kindOf (P.zip vs) m x=some v
 | [],_,_,_,_,h,_,_=>by simp at h
 | _::_,[],_,_,_,_,h,_=>by simp at h
 | p::P,w::vs,0,m,nd,d,c,f=>by
  simp at d c;subst d;subst c;show XV kindOf ((p,w)::P.zip vs) m p=_;unfold XV;rw[sg λv g=>(QB.mp nd).1 (Ub g).1,if_pos f];simp
 | p::P,w::vs,i+1,m,nd,d,c,f=>by
  show XV kindOf ((p,w)::P.zip vs) m x=_;unfold XV;exact si (i:=i) (QB.mp nd).2 (by simpa using d) (by simpa using c) f
theorem sj{kindOf:Str->Option Rm}{x:Str}{v:OC}:∀{P:List Str} {vs:List OC} {i:Nat} {m:Str->Option OC},P.Nodup->P[i]?=some x->vs[i]?=some v->kindOf x≠some .local ->
  XW kindOf (P.zip vs) m x=some v
 | [],_,_,_,_,h,_,_=>by simp at h
 | _::_,[],_,_,_,_,h,_=>by simp at h
 | p::P,w::vs,0,m,nd,d,c,f=>by
  simp at d c;subst d;subst c;show XW kindOf ((p,w)::P.zip vs) m p=_;unfold XW;rw[sh λv g=>(QB.mp nd).1 (Ub g).1,if_neg f];simp
 | p::P,w::vs,i+1,m,nd,d,c,f=>by
  show XW kindOf ((p,w)::P.zip vs) m x=_;unfold XW;exact sj (i:=i) (QB.mp nd).2 (by simpa using d) (by simpa using c) f

def ff(N:List Str)(vs:List V):St:=vs.map some++Uy (N.length - vs.length) none

@[reducible] def bQ(CX:kr)(P:Ph)(w:Py)(K:OK)(mg:Str->Option OC)(base:Pk)(N:List Str)(qual:Str)(scope:PQ)(f:OD)(cd:OC)(A:Qz)(outer:List Env)(s:OI)(H:Hp)(E:XK):Cx where
 prog:=P
 w:=w
 K:=K
 mg:=mg
 base:=base
 A:=A.deeper (Q4 qual scope s.heap.objs.size f cd)
 N:=N
 s₀:=s
 H₀:=H
 env:=Q4 qual scope s.heap.objs.size f cd
 outer:=outer
 stack:=Q4 qual scope s.heap.objs.size f cd::outer
 ex:=[]
 calm:=true
 fn:=λ_=>true
 pn:=[]
 xe:=λe s'=>OM (OP P w) (A.deeper<|Q4 qual scope s.heap.objs.size f cd) (Vk (Q4 qual scope s.heap.objs.size f cd) e) (λ_ c=>CX outer H s E e c) (λd c=>CX outer H s E d c) s'

theorem vC{d:PQ}{n:Nat}{x:Str}(h:d.names.lookup x=some .cell):∃c,(We n d.names []).lookup x=some c:=by
 have q:=Te d.names n [] (.inl h);exact UV.mp q

theorem sm{CX:kr}{N ps:List Str}{qual:Str}{scope:PQ}{f:OD}{cd:OC}{outer:List Env}{s I:OI}{H:Hp}{E:XK}{vs:List V}
  (S:ai N ps scope) (hd:A.handled=none) (g:jd P w K mg base A outer s H) (Z:vs.length=ps.length) (r:aK vs us)
  (x:InCallC s s.heap.objs.size (XV (Q4 qual scope s.heap.objs.size f cd).kindOf (ps.zip us) λ_=>none) (We (s.heap.objs.size+1) scope.names []) (XW (Q4 qual scope s.heap.objs.size f cd).kindOf (ps.zip us) λ_=>none) I) :
  ay (bQ CX P w K mg base N qual scope f cd A outer s H E) [] (ff N vs) H I:=by
 have U:ps.length≤N.length:=by have:=congrArg XY S.pre;rw[TB] at this;omega
 obtain⟨C,tk,rfl,O⟩:=x.done;have j:∀b:OD,b∉(bQ CX P w K mg base N qual scope f cd A outer s H E).ex:=λb z=>absurd (show b∈([]:List OD) from z) (by simp);refine⟨⟨g.mod,S.kind,rfl,rfl,OU _,λy z c C d=>?_,λy hy=>?_,λy c _ h=>?_,λ_=>hd,TX g.frames,.inr ⟨rfl,rfl⟩,λb z=>absurd z (j b),g.bs,g.bsz,λb _ _=>j b,λb z=>absurd z (j b),g.funs,g.frf⟩,
  rfl,g.bare,Un.kept O,⟨_,x.toInCall.ns,λi y v C d h3=>?_⟩,λy c h=>⟨_,x.cell y c h⟩,g.hok.fresh<|OU _,λy c h=>?_,λp m=>absurd (show p∈([]:List (OD×Obj)) from m) (by simp),g.hok.kept O,?_⟩
 ·exact name_of_addr x.apart (QU C) (QU d)
 ·have hy:scope.names.lookup y=some .cell∨scope.names.lookup y=some .free:=hy;rcases hy with hy | hy
  ·exact vC hy
  ·exact absurd rfl (S.nofree _<|QU hy)
 ·exact QP (x.above y c<|QU h)
 ·have o:i<vs.length:=by
   unfold ff at d;by_cases o:i<vs.length
   ·exact o
   ·rw[List.getElem?_append_right (by simpa using o)] at d;rw[List.getElem?_replicate] at d;split at d<;>cases d
  have Y:vs[i]?=some v:=by
   unfold ff at d;rw[Qr (by simpa using o),Pv] at d;cases e:vs[i]? with
   | none=>rw[e] at d;cases d
   | some a=>rw[e] at d;cases d;rfl
  obtain⟨u,L,Q⟩:=r.get Y;have m:ps[i]?=some y:=by
   rw[<-S.pre,List.getElem?_take_of_lt (by omega)];exact C
  have l:ps.Nodup:=by rw[<-S.pre];exact S.nd.sublist (List.take_sublist _ _)
  refine⟨u,Q,?_⟩;rcases S.par y (O9 m) with k | k
  ·exact .inl ⟨k,si l m L k⟩
  ·obtain⟨c,e⟩:=vC (n:=s.heap.objs.size+1) k;refine .inr ⟨.inl k,c,e,?_⟩;have q:=x.cell y c e;rw[sj l m L (by show scope.names.lookup y≠_;rw[k];decide)] at q;exact q
 ·exact g.hok.fresh (QP<|x.above y c<|QU h)
 ·unfold ff;show _=N.length;rw[P3,Ps,List.length_replicate];omega

theorem zd{CX:kr}{k:Nat}{f:OD}{name qual:Str}{params:RO}{body:List Rs}{scope:PQ}{L kV doc C c ct Z:OC}{O Y:Option OD}
  {N ps:List Str} {sp:Sp} (lk:K.lookup f=some ⟨Z,Y,.func<|Pt name qual params body scope L kV doc C O c ct,osl⟩) (p:Qk K c qual=true) (S:ai N ps scope)
  (len:∀vs H Q E,sp vs H Q E->vs.length=ps.length)
  (hbody:∀(A:Qz) (outer:List Env) (s:OI) (H:Hp) (vs:List V) (Q:VK) (E:XK),a5 k (A.deeper<|Q4 qual scope s.heap.objs.size f c)->sp vs H Q E ->
   ∃t,gu (bQ CX P w K mg base N qual scope f c A outer s H E) body t/\t {nx:=λ_ g=>Q .non g,rt:=Q} (ff N vs) H) :
  bG P w K mg base CX (k+1) f (Pt name qual params body scope L kV doc C O c ct) ps sp:=by
 refine⟨len,λA outer s H args us vs Q E hr j hb r i=>?_⟩;have hl:=len _ _ _ _ i;have U:K.In s.heap:=j.mod.kin.keeps λb o e=>(j.bs b o e).1;have m:s.heap.NoLimit:=j.mod.nolimit.keeps λb o e=>(j.bs b o e).1;have h:∀y∈ps.zip us,scope.names.lookup y.1=some .local∨(scope.names.lookup y.1=some .cell/\((We (s.heap.objs.size+1) scope.names []).lookup y.1).isSome=true):=λ⟨n,v⟩ hy=>by
  rcases S.par n (Ub hy).1 with q | q
  ·exact .inl q
  ·exact .inr ⟨q,Te _ _ _<|.inl q⟩
 refine VF hr.depth (U _ _ lk) rfl S.co S.gen rfl (WQ U p) (hb _ _ _ _ ?_);refine Uz S.kind h λenv he z x=>?_;subst he;refine⟨m.keeps x.toInCall.keep,ZO ?_⟩;obtain⟨t,ht,hq⟩:=hbody A outer s H vs Q E (hr.deeper _) i;have I:ay (bQ CX P w K mg base N qual scope f c A outer s H E) [] (ff N vs) H z:=sm S hr.hd j hl r x;refine Pf (ht [] z (ff N vs) H _ I hq) (λfl s' hs=>?_) λe s' hs=>hs;have fin:∀{d:St} {g:Hp} {v:V} {u:OC},ay (bQ CX P w K mg base N qual scope f c A outer s H E) [] d g s'->aI v u->Q v g->CE outer P w H s Q u s' :=
  λ{d g v u} J l q=>⟨v,g,J.os,J.bare,J.base,J.hok,l,q⟩
 cases fl with
 | ret u=>
  obtain⟨v,d,g,J,l,q⟩:=hs;exact fin J l q
 | next=>
  obtain⟨d,g,J,q⟩:=hs;exact fin (v:=V.non) (u:=Pw) J rfl q
 | brk=>
  obtain⟨_,_,_,q⟩:=hs;exact Pa q
 | cont=>
  obtain⟨_,_,_,q⟩:=hs;exact Pa q
section
variable{X:Cx}{x:Str}{p pos:Pos}{e:O4}{t:TA}{id T:String}{r:List V->Hp->VK->Prop}
def Jg(r:List V->Hp->VK->Prop)(t:TA):TE:=λσ H Q=>t σ H λvs H1=>r vs H1 Q
theorem hJ(u:dj X (.builtin id) r)(m:Gl X x)(l:X.mg x=none)(j:PJ x=some (.builtin id))(z:PA X (e::es) t)(hn:x≠"__name__":=by decide)(d:(x==("__debug__":Str))=false:=by decide)
  (o:hE9 X e es:=by nofun) (c:hP9 X pos es:=by nofun):PE X (.Call (.Name x p) (e::es) [] pos) (Jg r t):=by
 intro pins s σ H Q I h;refine PR (oR I m l j ?_ hn d);exact XB (bi (z pos pins s σ H _ I h) λus g f=>da f λvs H1 I1 i q1=>u pins g σ H1 vs us Q I1 i q1) o c
theorem su(u:dj X (.type T) r)(m:Gl X x)(l:X.mg x=none)(j:PJ x=some (.type T))(z:PA X (e::es) t)(hn:x≠"__name__":=by decide)(d:(x==("__debug__":Str))=false:=by decide)
  (o:hE9 X e es:=by nofun) (c:hP9 X pos es:=by nofun):PE X (.Call (.Name x p) (e::es) [] pos) (Jg r t):=by
 intro pins s σ H Q I h;refine PR (oR I m l j ?_ hn d);exact Yo (bi (z pos pins s σ H _ I h) λus g f=>da f λvs H1 I1 i q1=>u pins g σ H1 vs us Q I1 i q1) o c
end
end L2
variable{xs:List L2.V}{vs:List L2.V}{H:L2.Hp}{X:L2.Cx}{σ:L2.St}
namespace HT
open PySem PyProof.Rows
section
open PySem.SeqAt
open PySem.AutoSeq1 (wpAny_loadPart')
open PySem.MeetsSeq PySem.MeetsSeq2 PySem.MeetsSeq3
end
section
theorem cat_tup{t b:OD}{vs ws:List OC}{Q:OC->OI->Prop}(ht:Wx s.heap t vs.toArray)(hb:Wx s.heap b ws.toArray)(j:vs≠[])
  (p:ws=[]->Q (.ref t) s) (o:ws≠[]->Q (.ref s.heap.objs.size) {s with heap:=s.heap.push {cls:=.type "tuple",data:=.seq (vs++ws).toArray}})
  (hsz:vs.length+ws.length≤OR):OM (OP prog w) A (Sb .Add (.ref t)<|.ref b) Q E s:=by
 obtain⟨⟨cls,dd,data,sl⟩,ho,l,n,hd⟩:=id ht;obtain⟨⟨m,g,data2,d⟩,c,f,i,hd2⟩:=id hb;simp only at l hd f hd2;subst l hd f hd2;have e:vs.toArray++ws.toArray=(vs++ws).toArray:=by simp
 by_cases h:ws=[]
 ·exact Xe ⟨_,ho,rfl⟩ ⟨_,c,rfl⟩ U2 WB Tf SS (Sy _ _)
   (tuple_addW1 t b vs.toArray ws.toArray n i dd g sl d (by simpa using j)<|by simp[h]) ⟨ho,c,p h⟩
 ·refine Xe ⟨_,ho,rfl⟩ ⟨_,c,rfl⟩ U2 WB Tf SS (Sy _ _)
   (tuple_addW2 t b vs.toArray ws.toArray n i dd g sl d (by simpa using j) (by simpa using h)<|by rw[OJ,OJ];exact hsz) ⟨ho,c,?_⟩
  rw[e];exact o h

def sIx(n d:Nat):Option Int->Nat
 | none=>d
 | some v=>if v<0 then(v+(n:Int)).toNat else min v.toNat n
theorem sIx_none(n d:Nat):sIx n d none=d:=rfl
theorem sIx_nat(n d k:Nat):sIx n d (some (k:Int))=min k n:=by
 show(if (k:Int)<0 then((k:Int)+(n:Int)).toNat else min (k:Int).toNat n)=min k n;rw[if_neg (by omega),Tg]
theorem Jh(n d:Nat)(hd:d≤n)(o:Option Int):sIx n d o≤n:=by
 cases o with
 | none=>exact hd
 | some v=>
  show(if v<0 then(v+(n:Int)).toNat else min v.toNat n)≤n;by_cases c:v<0
  ·rw[if_pos c];omega
  ·rw[if_neg c];exact Nat.min_le_right _ _
theorem ze(v:Int)(n d:Nat):(if v<0 then max (v+(n:Int)) 0 else min v (n:Int))=((sIx n d (some v):Nat):Int):=by
 show(if v<0 then max (v+(n:Int)) 0 else min v (n:Int))=(((if v<0 then(v+(n:Int)).toNat else min v.toNat n):Nat):Int);by_cases c:v<0
 ·simp only[if_pos c];omega
 ·simp only[if_neg c];omega
theorem xJ(lo c:Option Int)(n:Nat):Sv lo c 1 (n:Int)=(((sIx n 0 lo:Nat):Int),((sIx n n c:Nat):Int)):=by
 have d:¬((1:Int)<0):=by omega
 unfold Sv;simp only[d,if_false];refine Prod.ext ?_ ?_
 ·cases lo with
  | none=>rfl
  | some v=>exact ze v n 0
 ·cases c with
  | none=>rfl
  | some v=>exact ze v n n
theorem xK(i j:Nat):Rt (i:Int) (j:Int) 1=j - i:=by
 unfold Rt;have c:(1:Int) > 0:=by omega
 simp only[c,if_true,Int.ediv_one];split<;>omega
theorem oZ{v:OC}{o:Option Int}{Q:Option Int->OI->Prop}(p:Vl v o)(h:Q o s):OM (OP prog w) A (X4 v) Q E s:=by
 cases p with
 | none=>exact Yz h
 | int i t=>exact slicePart_int h
theorem sliceApplied_gen{sl:OD}{i g:OC}{lo d:Option Int}{n:Nat}{Q:Int×Int×Nat->OI->Prop}(hs:s.heap.IsSliceOf sl i g .none)(pl:Vl i lo)(j:Vl g d)
  (h:Q (((sIx n 0 lo:Nat):Int),1,sIx n n d - sIx n 0 lo) s):OM (OP prog w) A (UA (.ref sl)<|pure (n:Int)) Q E s:=by
 obtain⟨os,c,l,f⟩:=id hs;unfold UA Y7;refine OB (OB<|QJ c f (x:=i) rfl<|OB<|QJ c f (x:=g) rfl<|OB<|QJ c f (x:=.none) rfl<|OE ?_);refine OB (Yz ?_);show OM _ _ (if ((1:Int)==0)=true then _ else _) _ _ s;rw[if_neg (by decide)];refine OB (oZ pl<|OB<|oZ j<|OB<|OE ?_);show OM _ _ (match Sv lo d 1 (n:Int) with | (lo,d)=>pure (lo,(1:Int),Rt lo d 1)) _ _ s;rw[xJ lo d n];show OM _ _ (pure (((sIx n 0 lo:Nat):Int),(1:Int),Rt ((sIx n 0 lo:Nat):Int) ((sIx n n d:Nat):Int) 1)) _ _ s;rw[xK];exact OE h
theorem CV(xs:Array OC)(i k:Nat):((RV k).filterMap λ(m:Nat)=>xs[((i:Int)+(m:Int)*1).toNat]?).toArray=((xs.toList.drop i).take k).toArray:=by
 have e:(λ(m:Nat)=>xs[((i:Int)+(m:Int)*1).toNat]?)=λm=>xs[i+m]?:=by
  funext m;have:((i:Int)+(m:Int)*1).toNat=i+m:=by omega
  rw[this]
 rw[e];have:=pick_run xs i k;rw[List.filterMap_map] at this;have c:((λx=>xs[x]?)∘λx=>i+x)=λm=>xs[i+m]?:=rfl;rw[c] at this;rw[this]

theorem getItem_tuple_cut{t sl:OD}{items:Array OC}{o l:OC}{lo d:Option Int}{Q:OC->OI->Prop}(ht:Wx s.heap t items)(hs:s.heap.IsSliceOf sl o l .none)(pl:Vl o lo)(p:Vl l d)
  (r:¬(sIx items.size 0 lo=0/\sIx items.size items.size d=items.size))
  (h:Q (.ref s.heap.objs.size) {s with heap:=s.heap.push {cls:=.type "tuple",data:=.seq ((items.toList.drop<|sIx items.size 0 lo).take (sIx items.size items.size d - sIx items.size 0 lo)).toArray}})
  (hsz:items.size≤OR):OM (OP prog w) A (Ui (.ref t)<|.ref sl) Q E s:=by
 have c:sizeOk (.seq ((items.toList.drop<|sIx items.size 0 lo).take (sIx items.size items.size d - sIx items.size 0 lo)).toArray):=by
  show((items.toList.drop<|sIx items.size 0 lo).take (sIx items.size items.size d - sIx items.size 0 lo)).toArray.size≤OR;rw[OJ,TB,U3,Px];omega
 have x:sIx items.size items.size d≤items.size:=Jh _ _ (OU _) d;obtain⟨os,f,i,u⟩:=id hs;have j:s.TypeIs (.ref sl) "slice":=⟨os,f,i⟩
 unfold Ui
 try with_reducible refine Pg ?_
 first | refine OB (OE ?_) | skip
 refine OB (Xf ht.typeIs (by decide) ?_);refine OB (Q7 (name:=OG "__getitem__") ht.typeIs PD
  (Qi PD ht.typeIs Wk ?_<|WR _ _))
 show OM _ _ (UB (.ref t) >>= _) _ _ s;refine OB (Zs ht ?_);refine OB (Uj j ?_);rw[if_pos (by decide)];refine OB (sliceApplied_gen hs pl p ?_);have g:¬((((sIx items.size 0 lo:Nat):Int)==0&&(1:Int)==1&&(sIx items.size items.size d - sIx items.size 0 lo)==items.size)=true):=by
  intro q;rw[OZ,OZ] at q;have q1:((sIx items.size 0 lo:Nat):Int)=0:=eq_of_beq q.1.1;have q2:sIx items.size items.size d - sIx items.size 0 lo=items.size:=eq_of_beq q.2;exact r ⟨by omega,by omega⟩
 show OM _ _ (if (((sIx items.size 0 lo:Nat):Int)==0&&(1:Int)==1&&(sIx items.size items.size d - sIx items.size 0 lo)==items.size)=true then _ else _) _ _ s;rw[if_neg g,CV]
 first
  | exact OB (m:=RF _) (PB (OE ⟨_,rfl,OE h⟩) c)
  | exact OB (m:=RF _) (PB (OB (OE (OE ⟨_,rfl,OE h⟩))) c)
  | exact OB (OB (m:=RF _) (PB (OE (OE ⟨_,rfl,OE h⟩)) c))
  | exact OB (OB (m:=RF _) (PB (OE ⟨_,rfl,OE h⟩) c))
end
end HT
namespace L2
open PySem PySem.Spec PyProof.Rows
abbrev TO:=St->Hp->(Option Int->Hp->Prop)->Prop
def PO(X:Cx)(e:Option O4)(t:TO):Prop :=
 ∀(pins:List (OD×Obj)) (s:OI) (σ:St) (H:Hp) (Q:Option Int->Hp->Prop),ay X pins σ H s->t σ H Q ->
  OM (OP X.prog X.w) X.A (evalPart e X.env) (λu s'=>∃o c,ay X pins σ c s'/\Vl u o/\Q o c) X.xe s
def zf:TO:=λ_ H Q=>Q none H
def HH(t:TE):TO:=λσ H Q=>t σ H λx H1=>∃i,x=.int i/\Q (some i) H1

section
variable{e:O4}{te:TE}{lo hi:Option O4}{tl th:TO}{pos p2:Pos}
theorem zg:PO X none zf:=by
 intro pins s σ H Q I h;rw[Zt];exact OE ⟨none,H,I,.none,h⟩
theorem zh(h:PE X e te):PO X (some e) (HH te):=by
 intro pins s σ H Q I f;rw[evalPart_some];refine bi (h pins s σ H _ I f) λu g c=>da c λx H1 I1 d q1=>?_;obtain⟨i,rfl,q⟩:=q1;obtain⟨t,rfl⟩:=d;exact⟨some i,H1,I1,.int i t,q⟩

def Ln(X:Cx)(r:V->Option Int->Option Int->Hp->VK->Prop):Prop :=
 ∀(pins:List (OD×Obj)) (s:OI) (σ:St) (H:Hp) (x:V) (v d c:OC) (lo hi:Option Int) (sl:OD) (Q:VK),ay X pins σ H s->aI x v->s.heap.IsSliceOf sl d c .none->Vl d lo->Vl c hi->r x lo hi H Q ->
  ∃T id,Vm (.type T) "__getitem__" = pure (some<|.builtin id)/\s.TypeIs v T/\OM (OP X.prog X.w) X.A (Ui v<|.ref sl) (EP X pins σ Q) X.xe s
def Oa(r:V->Option Int->Option Int->Hp->VK->Prop)(te:TE)(tl th:TO):TE:=λσ H Q=>te σ H λx H1=>tl σ H1 λl d=>th σ d λu c=>r x l u c Q
theorem vD{r:V->Option Int->Option Int->Hp->VK->Prop}(hr:Ln X r)(U:PE X e te)(L:PO X lo tl)(C:PO X hi th):PE X (.Subscript e (.Slice lo hi none p2) pos) (Oa r te tl th):=by
 intro pins s σ H Q I h;refine WS (bi (U pins s σ H _ I h) λv m d=>da d λx H1 I1 o q1=>?_);refine wpAny_Slice (bi (L pins m σ H1 _ I1 q1) λg j d=>da d λl H2 I2 pl q2=>bi (C pins j σ H2 _ I2 q2) λf c d=>da d λu i I3 z p=>?_);rw[Zt];refine OE ?_;have Z:ay X pins σ i {c with heap:=c.heap.push {cls:=.type "slice",data:=.fields #[g,f,.none]}}:=I3.kept (t':=c.toks) λb ob q=>OF _ q;obtain⟨T,id,Y,ht,O⟩:=hr pins {c with heap:=c.heap.push {cls:=.type "slice",data:=.fields #[g,f,.none]}} σ i x v g f l u c.heap.objs.size Q Z o (aa8 ..) pl z p;show OM (OP X.prog X.w) X.A (WC e (.Slice lo hi none p2) v<|.ref c.heap.objs.size) (EP X pins σ Q) X.xe {c with heap:=c.heap.push {cls:=.type "slice",data:=.fields #[g,f,.none]}};exact tail_any (ops:=[.ref c.heap.objs.size,v]) ht Y O (by nofun)

def mv(xs:List V)(lo hi:Option Int):List V:=(xs.drop<|HT.sIx xs.length 0 lo).take (HT.sIx xs.length xs.length hi - HT.sIx xs.length 0 lo)
theorem vE(xs:List V)(lo hi:Option Int):(mv xs lo hi).length≤xs.length:=by
 unfold mv;rw[TB,U3];omega
def Nl(K:OK):V->Option Int->Option Int->Hp->VK->Prop:=λx lo hi H Q=>∃a xs,x=.ref a/\g9 K H a xs /\
 ¬(HT.sIx xs.length 0 lo=0/\HT.sIx xs.length xs.length hi=xs.length)/\∀p,H p=none->Q (.ref p) (upd H p<|.tup<|mv xs lo hi)
theorem Ji:Ln X (Nl X.K):=by
 intro pins s σ H x v l j lo hi sl Q I d hs pl f h;obtain⟨a,xs,rfl,g,i,q⟩:=h;cases d;obtain⟨its,r,ht,hz⟩:=I.tuple g;have c:its.toArray.size=xs.length:=by rw[OJ];exact r.length.symm
 refine⟨"tuple",_,PD.lookup,ht.typeIs,?_⟩;refine HT.getItem_tuple_cut ht hs pl f (by rw[c];exact i) ?_ (by rw[c];exact hz);rw[c];refine⟨.ref s.heap.objs.size,_,I.laid (t':=s.toks) (o:=.tup (mv xs lo hi)) (λb ob q=>OF _ q) (OU _) ?_,rfl,q _<|I.hok.fresh<|OU _⟩;exact⟨PV (vE xs lo hi) hz,_,(r.drop<|HT.sIx xs.length 0 lo).take (HT.sIx xs.length xs.length hi - HT.sIx xs.length 0 lo),Xx _ _⟩

def Lo(K:OK):R2:=λx y H Q=>∃a b xs ys,x=.ref a/\y=.ref b/\g9 K H a xs/\g9 K H b ys/\xs≠[]/\xs.length+ys.length≤OR /\
 (ys=[]->Q (.ref a) H)/\(ys≠[]->∀p,H p=none->Q (.ref p) (upd H p<|.tup<|xs++ys))
theorem aK.nil_iff(r:aK xs us):us=[]↔xs=[]:=by
 cases r with
 | nil=>simp
 | cons _ _=>simp
theorem FQ:lq X (Sb .Add) (Lo X.K):=by
 intro pins s σ H x y v u Q I f d h;obtain⟨a,b,xs,ys,rfl,rfl,j,hb,i,hz,q1,q2⟩:=h;cases f;cases d;obtain⟨its,r1,g,_⟩:=I.tuple j;obtain⟨c,r2,p2,_⟩:=I.tuple hb;refine HT.cat_tup g p2 (λz=>i (r1.nil_iff.mp z)) (λz=>⟨.ref a,H,I,rfl,q1<|r2.nil_iff.mp z⟩) (λz=>?_) (by rw[<-r1.length,<-r2.length];exact hz);refine⟨.ref s.heap.objs.size,_,I.laid (t':=s.toks) (o:=.tup (xs++ys)) (λb ob q=>OF _ q) (OU _) ?_,rfl,q2 (λw=>z (r2.nil_iff.mpr w)) _<|I.hok.fresh<|OU _⟩;exact⟨by rw[P3];exact hz,_,r1.append r2,Xx _ _⟩
end
def CW(n:Nat)(i:Int):Option Nat:=if 0≤i then(if i<n then some i.toNat else none) else if -(n:Int)≤i then some (i+n).toNat else none
def FA{c:Type}(xs:List c)(i:Int):Option c:=(CW xs.length i).bind λj=>xs[j]?
theorem zi{n:Nat}{i:Int}{j:Nat}(h:CW n i=some j):ZD i n=some j/\j<n/\-(n:Int)≤i/\i<n:=by
 unfold CW at h;by_cases h0:0≤i
 ·rw[if_pos h0] at h;by_cases c:i<n
  ·rw[if_pos c] at h;have e:i.toNat=j:=O6 h;exact⟨by rw[XZ h0 c,e],by omega,by omega,c⟩
  ·rw[if_neg c] at h;cases h
 ·rw[if_neg h0] at h;by_cases c:-(n:Int)≤i
  ·rw[if_pos c] at h;have e:(i+n).toNat=j:=O6 h;exact⟨by rw[seqIndex_neg (by omega) c,e],by omega,c,by omega⟩
  ·rw[if_neg c] at h;cases h
theorem zj{c:Type}{xs:List c}{i:Int}{v:c}(h:FA xs i=some v):∃j,ZD i xs.length=some j/\xs[j]?=some v/\j<xs.length/\-(xs.length:Int)≤i/\i<xs.length:=by
 unfold FA at h;cases e:CW xs.length i with
 | none=>rw[e] at h;cases h
 | some j=>
  rw[e] at h;obtain⟨l,g,f,d⟩:=zi e;exact⟨j,l,h,g,f,d⟩
theorem zk{c:Type}{xs:List c}{j:Nat}{v:c}(h:xs[j]?=some v):FA xs (j:Int)=some v:=by
 have d:j<xs.length:=(OL.mp h).1;have e:CW xs.length (j:Int)=some j:=by
  unfold CW;rw[if_pos (by omega),if_pos (by omega)];simp
 unfold FA;rw[e];exact h
def zl(b:O4):Prop:=∀o i,VS b false o i=operate [o,i] (Ui o i)
def MP(X:Cx)(r:R2):Prop :=
 ∀(value slice:O4) (pins:List (OD×Obj)) (s:OI) (σ:St) (H:Hp) (x y:V) (v u:OC) (Q:VK),ay X pins σ H s->aI x v->aI y u->r x y H Q ->
  VS slice false v u=operate [v,u] (Ui v u)->OM (OP X.prog X.w) X.A (WC value slice v u) (EP X pins σ Q) X.xe s
def Ob(X:Cx)(id:String)(r:V->List V->Hp->VK->Prop):Prop :=
 ∀(pins:List (OD×Obj)) (s:OI) (σ:St) (H:Hp) (x:V) (xs:List V) (v:OC) (us:List OC) (Q:VK),ay X pins σ H s->aI x v->aK xs us->r x xs H Q ->
  OM (OP X.prog X.w) X.A (call (.builtin id) (v::us)) (EP X pins σ Q) X.xe s
section
variable{a b:O4}{ta tb:TE}
theorem HI{r:R2}(hr:MP X r)(g:PE X a ta)(hb:PE X b tb)(hs:zl b):PE X (.Subscript a b pos) (IY r ta tb):=by
 intro pins s σ H Q I h;exact WS (IZ g hb I h λv u c x y j i f d q=>hr a b pins c σ j x y v u Q i f d q (hs _ _))

def Nm(K:OK):R2:=λx y H Q=>∃p xs i v,x=.ref p/\y=.int i/\ip K H p xs/\FA xs i=some v/\Q v H
def Nn(K:OK):R2:=λx y H Q=>∃p xs i v,x=.ref p/\y=.int i/\g9 K H p xs/\FA xs i=some v/\Q v H
theorem zm:MP X (Nm X.K):=by
 intro value slice pins s σ H x y v u Q I l g h hs;obtain⟨p,xs,i,z,rfl,rfl,m,o,q⟩:=h;cases l;obtain⟨t,rfl⟩:=g;obtain⟨its,r,pl,hz⟩:=I.list m;obtain⟨j,c,O,U,L,C⟩:=zj o;obtain⟨w,ew,d⟩:=r.get O;have hl:=r.length;have hn:=ml;have fin:EP X pins σ Q w s:=⟨z,H,I,d,q⟩
 by_cases h0:0≤i
 ·have f:i.toNat=j:=by
   rw[XZ h0 C] at c;exact O6 c
  exact item_listR pl.isList h0 (by omega) (by rw[f];simpa using ew) fin hs
 ·have f:(i+(its.toArray.size:Int)).toNat=j:=by
   rw[seqIndex_neg (by omega) L] at c;rw[OJ,<-hl];exact O6 c
  exact Th (x:=w) pl.isList.typeIs slot_list_getitem.lookup
   (wpAny_getItem_list_neg (Q:=λr s'=>r=w/\EP X pins σ Q r s') pl.isList (by omega) (by rw[OJ]<;>omega) (by omega) (by rw[f];simpa using ew) ⟨rfl,fin⟩) hs
theorem Jj:MP X (Nn X.K):=by
 intro value slice pins s σ H x y v u Q I f d h hs;obtain⟨p,xs,i,z,rfl,rfl,g,l,q⟩:=h;cases f;obtain⟨t,rfl⟩:=d;obtain⟨its,r,pl,hz⟩:=I.tuple g;obtain⟨j,o,m,O,L,C⟩:=zj l;obtain⟨w,ew,c⟩:=r.get m;have hl:=r.length;have hn:=ml;have fin:EP X pins σ Q w s:=⟨z,H,I,c,q⟩
 exact Th (x:=w) pl.typeIs PD.lookup
  (Zu (j:=j) (Q:=λr s'=>r=w/\EP X pins σ Q r s') pl (by omega) (by omega) (by rw[OJ,<-hl];exact o) (by simpa using ew) ⟨rfl,fin⟩) hs
theorem xL(its:List OC)(n j:Nat)(u:OC):Po (·.setIfInBounds j u) {cls:=.type "list",data:=.seq its.toArray n}={cls:=.type "list",data:=.seq (its.set j u).toArray n}:=by
 simp[Po]
theorem ay.lst{pins:List (OD×Obj)}{σ:St}{H:Hp}{s:OI}{p:OD}{xs:List V}(I:ay X pins σ H s)(h:H p=some (.lst xs)) :
  ∃(its:List OC) (n:Nat),aK xs its/\s.heap.get? p=some {cls:=.type "list",data:=.seq its.toArray n}/\xs.length≤OR:=by
 obtain⟨z,its,n,r,e⟩:=I.hok p _ h;exact⟨its,n,r,e,z⟩
theorem ay.lstUpd{p:OD}{xs ys:List V}{its its':List OC}{n c:Nat}{f:Obj->Obj}(I:ay X pins σ H s)(h:H p=some (.lst xs))
  (ho:s.heap.get? p=some {cls:=.type "list",data:=.seq its.toArray n}) (d:f {cls:=.type "list",data:=.seq its.toArray n}={cls:=.type "list",data:=.seq its'.toArray c}) (r:aK ys its') (hz:ys.length≤OR) (t:Nat) :
  ay X pins σ (upd H p<|.lst ys) {s with heap:=s.heap.update p f,toks:=t}:=by
 have e:(s.heap.update p f).get? p=some {cls:=.type "list",data:=.seq its'.toArray c}:=by
  rw[Qw f ho (by rw[d]<;>rfl),d]
 refine I.write (x:=p) (e:=p) (by rw[h];trivial) (.inl rfl) (λb u hb q=>(Pp _ _<|Qp hb).trans q) ⟨_,e⟩ ?_;exact⟨hz,its',c,r,e⟩
def CY:V->V->V->Hp->(Hp->Prop)->Prop:=λo i v H Q=>∃p xs k j,o=.ref p/\i=.int k/\H p=some (.lst xs)/\CW xs.length k=some j/\Q (upd H p<|.lst<|xs.set j v)
theorem CZ:K9 X CY:=by
 intro pins s σ H o i v O iv u Q I z C x h;obtain⟨p,xs,k,j,rfl,rfl,f,L,q⟩:=h;cases z;obtain⟨t,rfl⟩:=C;obtain⟨its,n,r,ho,hz⟩:=I.lst f;obtain⟨c,U,l,g⟩:=zi L;have hl:=r.length;have hn:=ml;have m:ay X pins σ (upd H p<|.lst<|xs.set j v) {s with heap:=s.heap.update p (Po (·.setIfInBounds j u))} :=
  I.lstUpd f ho (xL its n j u) (r.set x j) (by rw[X5];exact hz) s.toks
 by_cases h0:0≤k
 ·have d:k.toNat=j:=by
   rw[XZ h0 g] at c;exact O6 c
  exact PySem.W.ki_setAt ho h0 (by omega) (by rw[OJ,<-hl];exact g) (by rw[d];exact⟨_,m,q⟩)
 ·have d:(k+(its.toArray.size:Int)).toNat=j:=by
   rw[seqIndex_neg (by omega) l] at c;rw[OJ,<-hl];exact O6 c
  exact PySem.W.ki_setBack ho (by omega) (by rw[OJ,<-hl];exact l) (by omega) (by rw[d];exact⟨_,m,q⟩)

def et:V->Bool
 | .non=>true
 | .bl _=>true
 | .int _=>true
 | .str _=>true
 | _=>false
def xo:V->V->Bool
 | .non,.non=>true
 | .bl a,.bl b=>a==b
 | .bl a,.int b=>(if a then 1 else 0)==b
 | .int a,.bl b=>a==(if b then 1 else 0)
 | .int a,.int b=>a==b
 | .str a,.str b=>a==b
 | _,_=>false
theorem C8{y x:V}{u v:OC}(d:aI y u)(c:aI x v)(g:et y=true)(f:et x=true):TC A s u v (xo y x):=by
 cases y with
 | non=>
  cases d;cases x with
  | non=>cases c;exact X6 _
  | bl b=>cases c;exact SeqAt.EqAt.none_bool b
  | int b=>obtain⟨t,rfl⟩:=c;exact SeqAt.EqAt.none_int b t
  | str b=>obtain⟨t,rfl⟩:=c;exact SeqAt.EqAt.none_str b t
  | _=>exact absurd (show false=true from f) O2
 | bl a=>
  cases d;cases x with
  | non=>cases c;exact SeqAt.EqAt.bool_none a
  | bl b=>cases c;exact SeqAt.EqAt.bool_bool a b
  | int b=>obtain⟨t,rfl⟩:=c;exact SeqAt.EqAt.bool_int a b t
  | str b=>obtain⟨t,rfl⟩:=c;exact SeqAt.EqAt.bool_str a b t
  | _=>exact absurd (show false=true from f) O2
 | int a=>
  obtain⟨t',rfl⟩:=d;cases x with
  | non=>cases c;exact SeqAt.EqAt.int_none a t'
  | bl b=>cases c;exact SeqAt.EqAt.int_bool a t' b
  | int b=>obtain⟨t,rfl⟩:=c;exact SeqAt.EqAt.int_int a t' b t
  | str b=>obtain⟨t,rfl⟩:=c;exact WI a t' b t
  | _=>exact absurd (show false=true from f) O2
 | str a=>
  obtain⟨t',rfl⟩:=d;cases x with
  | non=>cases c;exact SeqAt.EqAt.str_none a t'
  | bl b=>cases c;exact SeqAt.EqAt.str_bool a t' b
  | int b=>obtain⟨t,rfl⟩:=c;exact WJ a t' b t
  | str b=>obtain⟨t,rfl⟩:=c;exact SeqAt.EqAt.str_str a t' b t
  | _=>exact absurd (show false=true from f) O2
 | _=>exact absurd (show false=true from g) O2
def xM(x:V)(u:OC):Bool:=match u with
 | .none=>xo .non x
 | .bool b=>xo (.bl b) x
 | .int i _=>xo (.int i) x
 | .str z _=>xo (.str z) x
 | _=>false
theorem C9{x y:V}{u:OC}(r:aI y u)(f:et y=true):xM x u=xo y x:=by
 cases y with
 | non=>cases r;rfl
 | bl b=>cases r;rfl
 | int i=>obtain⟨t,rfl⟩:=r;rfl
 | str z=>obtain⟨t,rfl⟩:=r;rfl
 | _=>exact absurd (show false=true from f) O2
theorem lu{x:V}:∀{xs:List V} {us:List OC},aK xs us->xs.all et=true->us.any (xM x)=xs.any λy=>xo y x
 | _,_,.nil,_=>rfl
 | y::xs,u::us,.cons r t,f=>by
  rw[QM,OZ] at f;rw[Sz,Sz,C9 r f.1,lu t f.2]
theorem je{A:Qz}{s:OI}{x:V}{v:OC}(c:aI x v)(d:et x=true):∀{xs:List V} {us:List OC},aK xs us->xs.all et=true->∀u∈us,TC A s u v (xM x u)
 | _,_,.nil,_=>λu hu=>by cases hu
 | y::xs,u::us,.cons r t,f=>λg hu=>by
  rw[QM,OZ] at f;rcases OY.mp hu with rfl | hu
  ·rw[C9 r f.1];exact C8 r c f.1 d
  ·exact je c d t f.2 g hu
def FC(x:V)(xs:List V):Bool:=xs.any λy=>xo y x
def No(K:OK)(neg:Bool):R2:=λx y H Q=>∃p xs,y=.ref p/\(ip K H p xs∨g9 K H p xs)/\et x=true/\xs.all et=true/\Q (.bl<|if neg then !FC x xs else FC x xs) H
theorem AM:lq X (QH .In) (No X.K false):=by
 intro pins s σ H x y v u Q I d g h;obtain⟨p,xs,rfl,hq,f,fs,q⟩:=h;cases g;rcases hq with hq | hq
 ·obtain⟨its,r,pl,hz⟩:=I.list hq;refine SeqAt.in_listAt (xM x) pl.isList (λw c=>je d f r fs w (by simpa using c)) ⟨.bl _,H,I,rfl,?_⟩;rw[show its.toArray.any (xM x)=its.any (xM x) by simp,lu r fs];exact q
 ·obtain⟨its,r,pl,hz⟩:=I.tuple hq;refine SeqAt.in_tupleAt (xM x) pl (λw c=>je d f r fs w (by simpa using c)) ⟨.bl _,H,I,rfl,?_⟩;rw[show its.toArray.any (xM x)=its.any (xM x) by simp,lu r fs];exact q
theorem lw:lq X (QH .NotIn) (No X.K true):=by
 intro pins s σ H x y v u Q I d g h;obtain⟨p,xs,rfl,hq,f,fs,q⟩:=h;cases g;rcases hq with hq | hq
 ·obtain⟨its,r,pl,hz⟩:=I.list hq;refine SeqAt.notIn_listAt (xM x) pl.isList (λw c=>je d f r fs w (by simpa using c)) ⟨.bl _,H,I,rfl,?_⟩;rw[show its.toArray.any (xM x)=its.any (xM x) by simp,lu r fs];exact q
 ·obtain⟨its,r,pl,hz⟩:=I.tuple hq;refine SeqAt.notIn_tupleAt (xM x) pl (λw c=>je d f r fs w (by simpa using c)) ⟨.bl _,H,I,rfl,?_⟩;rw[show its.toArray.any (xM x)=its.any (xM x) by simp,lu r fs];exact q
theorem lx:dj X (.builtin "len") (λxs H Q=>∃p ys,xs=[.ref p]/\(ip X.K H p ys∨g9 X.K H p ys)/\Q (.int ys.length) H):=by
 intro pins s σ H xs us Q I r h;obtain⟨p,ys,rfl,hq,q⟩:=h;obtain⟨u,rfl,f⟩:=iQ r;cases f;have hn:=ml;rcases hq with hq | hq
 ·obtain⟨its,d,pl,hz⟩:=I.list hq;have c:=d.length;exact Calls.call_len_list pl.isList (by simp only[OJ]<;>omega) ⟨.int ys.length,H,I.tok _,⟨s.toks+1,by rw[OJ,c]⟩,q⟩
 ·obtain⟨its,d,pl,hz⟩:=I.tuple hq;have c:=d.length;exact len_tuple pl (by simp only[OJ]<;>omega) ⟨.int ys.length,H,I.tok _,⟨s.toks+1,by rw[OJ,c]⟩,q⟩
theorem gR:dj X (.type "tuple") (λxs H Q=>∃p ys,xs=[.ref p]/\((ip X.K H p ys/\∀l,H l=none->Q (.ref l) (upd H l<|.tup ys))∨(g9 X.K H p ys/\Q (.ref p) H))):=by
 intro pins s σ H xs us Q I r h;obtain⟨p,ys,rfl,h⟩:=h;obtain⟨u,rfl,g⟩:=iQ r;cases g;rcases h with ⟨d,q⟩ | ⟨d,q⟩
 ·obtain⟨its,c,pl,hz⟩:=I.list d;have f:=c.length;refine call_tuple_list pl.isList (λh' kp=>?_) (by simp only[OJ]<;>omega);have I1:ay X pins σ H {s with heap:=h'}:=I.kept (t':=s.toks) kp;have i:ay X pins σ (upd H h'.objs.size<|.tup ys) {s with heap:=h'.push {cls:=.type "tuple",data:=.seq its.toArray}} :=
   I1.laid (t':=s.toks) (λb o e=>OF _ e) (OU _) (show bj X.prog X.w _ _ _ (.tup ys) from⟨hz,its,c,Xx _ _⟩)
  exact⟨.ref h'.objs.size,_,i,rfl,q _<|I1.hok.fresh<|OU _⟩
 ·obtain⟨its,c,pl,hz⟩:=I.tuple d;exact call_tuple_same pl ⟨.ref p,H,I,rfl,q⟩

def Oc(K:OK)(T:String)(x:V)(H:Hp):Prop:=match x with
 | .str _=>T = "str"
 | .int _=>T = "int"
 | .ref p=>(T = "list"/\∃xs,ip K H p xs)∨(T = "tuple"/\∃o,K.lookup p=some o/\o.cls=.type "tuple"/\o.dict=none) ∨
   (T = "dict"/\((∃kvs,H p=some (.dK kvs))∨∃kvs,H p=some (.dT kvs)))∨(T = "set"/\∃S n,H p=some (.set S n))
 | _=>False
theorem Jk{T:String}{x:V}{v:OC}(I:ay X pins σ H s)(r:aI x v)(ty:Oc X.K T x H) :
  s.TypeIs v T/\∀a,v=.ref a->∃ob,s.heap.get? a=some ob/\ob.dict=none:=by
 cases x with
 | str z=>
  obtain⟨t,rfl⟩:=r;cases(show T = "str" from ty);exact⟨typeIs_str s z t,λ_ e=>nomatch e⟩
 | int i=>
  obtain⟨t,rfl⟩:=r;cases(show T = "int" from ty);exact⟨typeIs_int s i t,λ_ e=>nomatch e⟩
 | ref p=>
  cases r;rcases ty with ⟨rfl,xs,g⟩ | ⟨rfl,o,d,h,hd⟩ | ⟨rfl,d⟩ | ⟨rfl,S,n,d⟩
  ·obtain⟨its,_,pl,_⟩:=I.list g;refine⟨pl.isList.typeIs,λa e=>?_⟩;cases e;obtain⟨o,n,e,c,hd,_⟩:=pl;exact⟨o,e,hd⟩
  ·refine⟨⟨o,I.kIn p o d,h⟩,λa e=>?_⟩;cases e;exact⟨o,I.kIn _ o d,hd⟩
  ·have z:∃o,s.heap.get? p=some o/\o.ExactDict:=by
    rcases d with ⟨kvs,d⟩ | ⟨kvs,d⟩
    ·obtain⟨_,_,_,_,o,_,_,e,ex,_⟩:=I.hok p _ d;exact⟨o,e,ex⟩
    ·obtain⟨_,_,_,_,o,_,_,e,ex,_⟩:=I.hok p _ d;exact⟨o,e,ex⟩
   obtain⟨o,e,ex⟩:=z;refine⟨⟨o,e,ex.1⟩,λa f=>?_⟩;cases f;exact⟨o,e,ex.2.1⟩
  ·obtain⟨o,_,_,_,e,ex,_⟩:=I.hok p _ d;refine⟨⟨o,e,ex.1⟩,λa f=>?_⟩;cases f;exact⟨o,e,ex.2.1⟩
 | _=>exact Pa ty
def MQ(K:OK)(T:String)(r:V->List V->Hp->VK->Prop)(c:TE)(t:TA):TE:=λσ H Q=>c σ H λx H1=>Oc K T x H1/\t σ H1 λxs d=>r x xs d Q
variable{o e:O4}{to:TE}{t:TA}{name:Str}{apos cpos:Pos}{T id:String}{r:V->List V->Hp->VK->Prop}
theorem fg(C:PlainAttrs T)(slot:Slot T name id)(j:Vn (.builtin id)=pure (.type "method_descriptor"))(L:Ob X id r)(ho:PE X o to)(O:PA X (e::es) t)
  (f:Pi o name X.env (Pq o X.env)=Pq o X.env:=by nofun)
  (g:((QE cpos<|O1 (e::es) X.env).all (λx=>!x.1)&&(QI cpos<|PZ [] X.env).all (λx=>x.1.isSome)
  &&decide ((e::es).length+([]:List Tc).length+(if ([]:List Tc).isEmpty then 0 else 1)<30))=true:=by nofun)
  (d:(apos.endLine==cpos.line)=true:=by nofun) (hs:hE9 X e es:=by nofun) (c:hP9 X cpos es:=by nofun) :
  PE X (.Call (.Attribute o name apos) (e::es) [] cpos) (MQ X.K T r to t):=by
 intro pins s σ H Q I h;refine wpAny_Call_method_late f g d rfl (bi (ho pins s σ H _ I h) λv u i=>?_);obtain⟨x,H1,I1,l,ty,q1⟩:=i;obtain⟨Y,U⟩:=Jk I1 l ty;refine⟨T,id,C,slot,j,Y,U,?_⟩;have m:=O cpos pins u σ H1 _ I1 q1;rw[hs] at m ⊢;refine Re (by show(false||(QE cpos<|O1 es X.env).any (·.1))=false;rw[c]<;>rfl) (Q5 ?_);exact bi m λus p i=>da i λvs H2 Z z q2=>L pins p σ H2 x vs v us Q Z l z q2
end
def Np(X:Cx)(id:String)(r:V->List V->Hp->VK->Prop):Prop :=
 ∀(pins:List (OD×Obj)) (s:OI) (σ:St) (H:Hp) (x:V) (xs:List V) (v:OC) (us:List OC) (Q:VK),ay X pins σ H s->aI x v->aK xs us->r x xs H Q ->
  OM (OP X.prog X.w) X.A (call (.builtin id) (v::us)) (EP X pins σ Q) X.xe s

theorem aK.one:∀{x:V} {us:List OC},aK [x] us->∃u,us=[u]/\aI x u
 | _,_,.cons r .nil=>⟨_,rfl,r⟩
section
variable{l b:OD}{xs ys zs:List V}
theorem ay.lset{its its':List OC}{n:Nat}{f:Array OC->Array OC}{t':Nat}(I:ay X pins σ H s)(h:H l=some (.lst xs))
  (e:s.heap.get? l=some {cls:=.type "list",data:=.seq its.toArray n}) (g:f its.toArray=its'.toArray) (c:aK ys its') (hz:ys.length≤OR) :
  ay X pins σ (upd H l<|.lst ys) {s with heap:=s.heap.update l (Po f),toks:=t'}:=by
 have q:=PySem.IsL.update e f;rw[g] at q;refine I.write (x:=l) (e:=l) (by rw[h];exact trivial) (.inl rfl) (λi u hb d=>(Pp s.heap (Po f)<|Qp hb).trans d) ⟨_,q⟩ ?_;exact⟨hz,its',_,c,q⟩
theorem ay.lnew{its:List OC}{t':Nat}(I:ay X pins σ H s)(c:aK ys its)(hz:ys.length≤OR) :
  ay X pins σ (upd H s.heap.objs.size<|.lst ys) {s with heap:=s.heap.push {cls:=.type "list",data:=.seq its.toArray},toks:=t'} :=
 I.laid (λ_ _ q=>OF _ q) (OU _) ⟨hz,its,0,c,OQ _ rfl⟩
theorem ay.fresh(I:ay X pins σ H s):H s.heap.objs.size=none:=I.hok.fresh (OU _)
theorem ay.lstM(I:ay X pins σ H s)(c:H l=some (.lst xs)):xs.length≤OR/\∃(its:List OC) (n:Nat),aK xs its/\xs.length=its.length/\s.heap.get? l=some {cls:=.type "list",data:=.seq its.toArray n}:=by
 obtain⟨z,its,n,r,e⟩:=I.hok l _ c;exact⟨z,its,n,r,r.length,e⟩

theorem Da{n:Nat}(h:n≤OR):SA n=false:=by
 unfold SA;exact decide_eq_false (by omega)
end
section
def FR:V->List V->Hp->VK->Prop:=λx vs H Q=>∃l xs y,x=.ref l/\vs=[y]/\H l=some (.lst xs)/\xs.length<OR/\Q .non (upd H l<|.lst<|xs++[y])
theorem AN:Np X "list.append" FR:=by
 intro pins s σ H x vs v us Q I d f h;obtain⟨l,xs,y,rfl,rfl,c,hz,q⟩:=h;cases d;obtain⟨u,rfl,g⟩:=f.one;obtain⟨z,its,n,r,i,e⟩:=I.lstM c;refine call_meets PU ⟨_,e,rfl⟩ F.entry_list_append (F.args_list_append_2 _ _) (PySem.list_append l its.toArray n u<|by rw[OJ];omega) ⟨e,?_⟩;refine⟨.non,_,I.lset (its':=its++[u]) c e (by simp) (r.append<|.cons g .nil) ?_,rfl,q⟩;rw[P3,VG];omega

def zn:V->List V->Hp->VK->Prop:=λx vs H Q=>∃l b xs zs,x=.ref l/\vs=[.ref b]/\H l=some (.lst xs)/\H b=some (.lst zs)/\xs.length+zs.length≤OR/\Q .non (upd H l<|.lst<|xs++zs)
theorem jB:Np X "list.extend" zn:=by
 intro pins s σ H x vs v us Q I f g h;obtain⟨l,b,xs,C,rfl,rfl,d,hB,hz,q⟩:=h;cases f;obtain⟨u,rfl,i⟩:=g.one;cases i;obtain⟨z,its,n,r,O,e⟩:=I.lstM d;obtain⟨L,its2,m,j,o,p⟩:=I.lstM hB;have hsz:its.toArray.size+its2.toArray.size≤OR:=by rw[OJ,OJ];omega
 have c:¬(!its.toArray.isEmpty&&SA (its.toArray.size+its2.toArray.size))=true:=by
  rw[Da hsz,VT];exact O2
 refine call_meets Rb ⟨_,e,rfl⟩ F.entry_list_extend (F.args_list_extend_2 _ _)
  (AutoSeq1.list_extend_list_list_0 l its.toArray n b its2.toArray m c (by rw[OJ];omega)<|by omega) ⟨e,p,?_⟩
 refine⟨.non,_,I.lset (its':=its++its2) d e (by simp) (r.append j) ?_,rfl,q⟩;rw[P3];omega

def Nq:R2:=λx y H Q=>∃l b xs zs,x=.ref l/\y=.ref b/\H l=some (.lst xs)/\H b=some (.lst zs)/\xs.length+zs.length≤OR/\∀p,H p=none->Q (.ref p) (upd H p<|.lst<|xs++zs)
theorem Jl:lq X (Sb .Add) Nq:=by
 intro pins s σ H x y v u Q I d c h;obtain⟨l,b,xs,o,rfl,rfl,i,hB,hz,q⟩:=h;cases d;cases c;obtain⟨z,its,n,r,L,e⟩:=I.lstM i;obtain⟨p,its2,C,f,g,m⟩:=I.lstM hB;refine PySem.P.add_list e m ?_ (by rw[OJ,OJ];omega);have j:its.toArray++its2.toArray=(its++its2).toArray:=by simp
 rw[j];exact⟨.ref _,_,I.lnew (t':=s.toks) (r.append f)<|by rw[P3];omega,rfl,q _ I.fresh⟩
end
section
end
section
end
section
variable{κ:Type}[DecidableEq κ]
def cX(kvs:List (κ×V))(k:κ):Option V:=(kvs.find? λkv=>decide (kv.1=k)).map (·.2)
def dc(kvs:List (κ×V))(k:κ)(v:V):List (κ×V) :=
 if (kvs.any λkv=>decide (kv.1=k))=true then kvs.map (λkv=>if kv.1=k then(kv.1,v) else kv) else kvs++[(k,v)]
def hO(kvs:List (κ×V))(k:κ):List (κ×V):=kvs.filter λkv=>decide (kv.1≠k)

theorem o6{p:κ×V}{r:List (κ×V)}{k:κ}(e:p.1=k):cX (p::r) k=some p.2:=by simp[cX,Rc,e]
theorem ly{p:κ×V}{r:List (κ×V)}{k:κ}(e:¬p.1=k):cX (p::r) k=cX r k:=by simp[cX,Rc,e]
theorem o7(k:κ):∀kvs:List (κ×V),(kvs.any λkv=>decide (kv.1=k))=(cX kvs k).isSome
 | []=>rfl
 | p::r=>by
  rw[Sz];by_cases e:p.1=k
  ·simp only[o6 e,decide_eq_true e,Bool.true_or,WT]
  ·rw[ly e,decide_eq_false e,Bool.false_or];exact o7 k r
theorem jf(kvs:List (κ×V))(k:κ)(v:V):(dc kvs k v).length≤kvs.length+1:=by
 unfold dc;split
 ·rw[Ps];omega
 ·rw[P3,P2,Uc];omega
theorem fB.isSome_eq{o:Option V}{u:Option OC}(r:fB o u):o.isSome=u.isSome:=by
 cases o with
 | none=>cases u with
  | none=>rfl
  | some _=>exact(show False from r).elim
 | some _=>cases u with
  | none=>exact(show False from r).elim
  | some _=>rfl
theorem fB.getD{o:Option V}{u:Option OC}{d:V}{d':OC}(r:fB o u)(c:aI d d'):aI (o.getD d) (u.getD d'):=by
 cases o with
 | none=>cases u with
  | none=>exact c
  | some _=>exact(show False from r).elim
 | some _=>cases u with
  | none=>exact(show False from r).elim
  | some _=>exact r

theorem KV.val{kvs:List (κ×V)}{vs:List (κ×OC)}(r:KV kvs vs)(k:κ):fB (cX kvs k) (TQ vs k):=by
 unfold KV at r
 induction r with
 | nil=>exact Qt
 | @cons p q ps qs h t f=>
  obtain⟨d,g⟩:=h;by_cases e:p.1=k
  ·have c:q.1=k:=d.symm.trans e;have b:TQ (q::qs) k=some q.2:=by simp[TQ,Rc,c]
   rw[o6 e,b];exact g
  ·have c:¬q.1=k:=λz=>e (d.trans z);have b:TQ (q::qs) k=TQ qs k:=by simp[TQ,Rc,c]
   rw[ly e,b];exact f
theorem KV.any{kvs:List (κ×V)}{vs:List (κ×OC)}(r:KV kvs vs)(k:κ):(kvs.any λkv=>decide (kv.1=k))=vs.any λkv=>decide (kv.1=k):=by
 unfold KV at r
 induction r with
 | nil=>rfl
 | cons h t c=>rw[Sz,Sz,c,h.1]
theorem KV.repl{kvs:List (κ×V)}{vs:List (κ×OC)}(r:KV kvs vs)(k:κ){y:V}{u:OC}(d:aI y u) :
  KV (kvs.map λkv=>if kv.1=k then(kv.1,y) else kv) (vs.map λkv=>if kv.1=k then(kv.1,u) else kv):=by
 unfold KV at r ⊢
 induction r with
 | nil=>exact .nil
 | @cons p q ps qs h t f=>
  rw[O8,O8];refine .cons ?_ f;obtain⟨c,g⟩:=h;by_cases e:p.1=k
  ·rw[if_pos e,if_pos (c.symm.trans e)];exact⟨c,d⟩
  ·rw[if_neg e,if_neg (λz=>e (c.trans z))];exact⟨c,g⟩
theorem KV.put{kvs:List (κ×V)}{vs:List (κ×OC)}(r:KV kvs vs)(k:κ){y:V}{u:OC}(c:aI y u):KV (dc kvs k y) (stored vs k u):=by
 unfold dc stored;rw[r.any k];by_cases e:(vs.any λkv=>decide (kv.1=k))=true
 ·rw[if_pos e,if_pos e];exact r.repl k c
 ·rw[if_neg e,if_neg e];exact X0 r ⟨rfl,c⟩
theorem KV.drop{kvs:List (κ×V)}{vs:List (κ×OC)}(r:KV kvs vs)(k:κ):KV (hO kvs k) (without vs k):=by
 unfold KV at r ⊢;unfold hO without
 induction r with
 | nil=>exact .nil
 | @cons p q ps qs h t d=>
  obtain⟨c,f⟩:=h;rw[Rh,Rh];by_cases e:p.1=k
  ·have a:¬decide (p.1≠k)=true:=by simp[e]
   have b:¬decide (q.1≠k)=true:=by simp[c.symm.trans e]
   rw[if_neg a,if_neg b];exact d
  ·have g:¬q.1=k:=λz=>e (c.trans z);have a:decide (p.1≠k)=true:=by simp[e]
   have b:decide (q.1≠k)=true:=by simp[g]
   rw[if_pos a,if_pos b];exact .cons ⟨c,f⟩ d
theorem KV.length{kvs:List (κ×V)}{vs:List (κ×OC)}(r:KV kvs vs):kvs.length=vs.length:=Pm r
theorem vF(kvs:List (κ×V))(k:κ):(hO kvs k).length≤kvs.length:=List.length_filter_le _ _
end
theorem jg{k:bh}{u:OC}(r:aI (kV k) u):(aW P w).is k u=true:=by
 cases k with
 | inl i=>obtain⟨t,e⟩:=(show ∃t,u=RK i t from r);subst e;exact vt P w i t
 | inr x=>obtain⟨t,e⟩:=(show ∃t,u=Wa x t from r);subst e;exact jb P w x t
theorem sv{P:Ph}{w:Py}:∀{ks:List bh} {us:List OC},aK (ks.map kV) us->ItemsAre (aW P w) ks us
 | [],_,r=>by rw[Uk] at r;cases r;exact .nil
 | k::ks,_,r=>by
  rw[O8] at r;cases r with
  | cons h t=>exact .cons (jg h) (sv t)

abbrev KT(H:Hp):List (List bh×V)->List (List bh×OD×OC)->Prop:=Paired λp q=>p.1=q.1/\H q.2.1=some (.tup<|p.1.map kV)/\aI p.2 q.2.2
theorem KT.val{kvs:List (List bh×V)}{xs:List (List bh×OD×OC)}(r:KT H kvs xs)(k:List bh):fB (cX kvs k) ((WD xs k).map (·.2)):=by
 induction r with
 | nil=>exact Qt
 | @cons p q ps qs h t f=>
  obtain⟨d,_,g⟩:=h;by_cases e:p.1=k
  ·have c:q.1=k:=d.symm.trans e;have b:WD (q::qs) k=some q.2:=by simp[WD,Rc,c]
   rw[o6 e,b];exact g
  ·have c:¬q.1=k:=λz=>e (d.trans z);have b:WD (q::qs) k=WD qs k:=by simp[WD,Rc,c]
   rw[ly e,b];exact f
theorem KT.repl{kvs:List (List bh×V)}{xs:List (List bh×OD×OC)}(r:KT H kvs xs)(k:List bh){y:V}{u:OC}(f:aI y u) :
  KT H (kvs.map λkv=>if kv.1=k then(kv.1,y) else kv) (xs.map<|putAt k u):=by
 induction r with
 | nil=>exact .nil
 | @cons p q ps qs h t g=>
  rw[O8,O8];refine .cons ?_ g;obtain⟨c,d,i⟩:=h;unfold putAt;by_cases e:p.1=k
  ·rw[if_pos e,if_pos (c.symm.trans e)];exact⟨c,d,f⟩
  ·rw[if_neg e,if_neg (λz=>e (c.trans z))];exact⟨c,d,i⟩
theorem KT.put{kvs:List (List bh×V)}{xs:List (List bh×OD×OC)}(r:KT H kvs xs)(k:List bh){b:OD}{y:V}{u:OC}(hb:H b=some (.tup<|k.map kV))(c:aI y u) :
  KT H (dc kvs k y) (storedH xs k b u):=by
 have e:(kvs.any λkv=>decide (kv.1=k))=(WD xs k).isSome:=by
  rw[o7,(r.val k).isSome_eq,Ti]
 unfold dc storedH;rw[e];by_cases q:(WD xs k).isSome=true
 ·rw[if_pos q,if_pos q];exact r.repl k c
 ·rw[if_neg q,if_neg q];exact X0 r ⟨rfl,hb,c⟩
theorem KT.keeps{H c:Hp}{kvs:List (List bh×V)}{xs:List (List bh×OD×OC)}(r:KT H kvs xs)(ht:∀b ys,H b=some (.tup ys)->c b=some (.tup ys)):KT c kvs xs :=
 Paired.mapP r λ_ _ z=>⟨z.1,ht _ _ z.2.1,z.2.2⟩

section
variable{h:Pk}{a:OD}
theorem HJ{u:HO}(ok:i6 P w H h)(e:Rd H a u):bj P w H h a u:=e.ok ok
theorem mZ{kvs:List (bh×V)}(ok:i6 P w H h)(e:Rd H a (.dK kvs)):kvs.length≤OR/\(a==QO)=false/\∃vs,KV kvs vs/\h.DictOf (aW P w) a vs :=
 show bj P w H h a (.dK kvs) from HJ ok e
theorem o8{kvs:List (bh×V)}(ok:i6 P w H h)(e:H a=some (.dK kvs)):kvs.length≤OR/\(a==QO)=false/\∃vs,KV kvs vs/\h.DictOf (aW P w) a vs:=mZ ok (.inl e)
theorem dn{ks:List bh}(ok:i6 P w H h)(e:H a=some (.tup<|ks.map kV)):(Tw<|aW P w).is h ks a:=by
 obtain⟨_,its,r,o,f,d,n,c⟩:=(show bj P w H h a (.tup<|ks.map kV) from ok a _ e)
 exact⟨o,its.toArray,n,f,d,c,by simpa using sv r⟩
theorem m9{kvs:List (List bh×V)}(ok:i6 P w H h)(e:Rd H a (.dT kvs)):kvs.length≤OR/\(a==QO)=false /\
  ∃xs,KT H kvs xs/\h.DictOfH (Tw<|aW P w) a xs:=by
 obtain⟨z,y,xs,r,o,es,ep,j,i,g,f,d⟩:=(show bj P w H h a (.dT kvs) from HJ ok e)
 refine⟨z,y,xs,r,o,es,ep,j,i,g,f,λx hx=>?_,d⟩;have all:∀{l:List (List bh×V)} {m:List (List bh×OD×OC)},KT H l m->∀x∈m,(Tw<|aW P w).is h x.1 x.2.1:=by
  intro l m q
  induction q with
  | nil=>intro x hx;exact nomatch hx
  | @cons p q ps qs hq t c=>
   intro x hx;rcases OY.mp hx with e | hx
   ·subst e;exact dn ok (by rw[<-hq.1];exact hq.2.1)
   ·exact c x hx
 exact all r x hx
theorem HK{kvs:List (List bh×V)}(ok:i6 P w H h)(e:H a=some (.dT kvs)):kvs.length≤OR/\(a==QO)=false /\
  ∃xs,KT H kvs xs/\h.DictOfH (Tw<|aW P w) a xs:=m9 ok (.inl e)
end
def iw(H:Hp)(a:OD)(y:V)(r:Option V):Prop :=
 (∃kvs k,Rd H a (.dK kvs)/\y=kV k/\r=cX kvs k)∨∃kvs k b,Rd H a (.dT kvs)/\y=.ref b/\H b=some (.tup<|k.map kV)/\r=cX kvs k
def qU(H:Hp)(a:OD)(y v:V)(c:Hp):Prop :=
 (∃kvs k,H a=some (.dK kvs)/\y=kV k/\kvs.length<OR/\c=upd H a (.dK<|dc kvs k v)) ∨
 ∃kvs k b,H a=some (.dT kvs)/\y=.ref b/\H b=some (.tup<|k.map kV)/\kvs.length<OR/\c=upd H a (.dT<|dc kvs k v)
theorem iw.k{H:Hp}{a:OD}{kvs:List (bh×V)}{k:bh}(e:H a=some (.dK kvs)):iw H a (kV k) (cX kvs k):=.inl ⟨kvs,k,.inl e,rfl,rfl⟩
theorem qU.k{H:Hp}{a:OD}{kvs:List (bh×V)}{k:bh}{v:V}(e:H a=some (.dK kvs))(c:kvs.length<OR):qU H a (kV k) v (upd H a<|.dK<|dc kvs k v):=.inl ⟨kvs,k,e,rfl,c,rfl⟩
theorem qU.t{H:Hp}{a b:OD}{kvs:List (List bh×V)}{k:List bh}{v:V}(e:H a=some (.dT kvs))(d:H b=some (.tup<|k.map kV))(c:kvs.length<OR) :
  qU H a (.ref b) v (upd H a<|.dT<|dc kvs k v):=.inr ⟨kvs,k,b,e,rfl,d,c,rfl⟩


section
variable{a:OD}{y v:V}{u r:OC}{o:Option V}
theorem ay.big(I:ay X pins σ H s):QO<s.heap.objs.size:=by
 have h:Pe<s.heap.objs.size:=(I.mod.glob.keeps I.bk).lt;exact Nat.lt_trans (by decide) h

theorem sw{Q:OC->OI->Prop}(C:A.units+1<QK)(I:ay X pins σ H s)(g:iw H a y (some v))(x:aI y u)(h:∀f s',ay X pins σ H s'->aI v f->Q f s') :
  OM (OP X.prog X.w) A (Ui (.ref a) u) Q E s:=by
 rcases g with ⟨kvs,k,e,m,l⟩ | ⟨kvs,k,b,e,m,O,l⟩
 ·subst m;obtain⟨z,hd,vs,d,dd⟩:=mZ I.hok e;obtain⟨f,i,c⟩:=fB.some_of (v:=v) (o:=TQ vs k) (by rw[l];exact d.val k);exact XC (jg x) dd.mapOf i (h f _ (I.tok _) c)
 ·subst m;cases(show u=OX b from x);obtain⟨z,hd,xs,d,dd⟩:=m9 I.hok e;obtain⟨f,i,c⟩:=fB.some_of (v:=v) (o:=(WD xs k).map (·.2)) (by rw[l];exact d.val k);obtain⟨p,L,j⟩:=RY.mp i;refine wpAny_getItem_heap (Q0 C) (dn I.hok O) dd L ?_;rw[j];exact h f _ (I.tok _) c
theorem Nr{Q:OC->OI->Prop}(i:A.units+1<QK)(I:ay X pins σ H s)(g:iw H a y o)(f:aI y u)(h:∀s',ay X pins σ H s'->Q (.bool o.isSome) s') :
  OM (OP X.prog X.w) A (QH .In u<|.ref a) Q E s:=by
 rcases g with ⟨kvs,k,e,d,l⟩ | ⟨kvs,k,b,e,d,j,l⟩
 ·subst d;obtain⟨z,hd,vs,c,dd⟩:=mZ I.hok e;refine wpAny_in_of (jg f) hd dd.mapOf ?_;rw[<- (c.val k).isSome_eq,<-l];exact h _ (I.tok _)
 ·subst d;cases(show u=OX b from f);obtain⟨z,hd,xs,c,dd⟩:=m9 I.hok e;refine wpAny_in_heap (Q0 i) (dn I.hok j) hd dd ?_;have q:=(c.val k).isSome_eq;rw[Ti] at q;rw[<-q,<-l];exact h _ (I.tok _)
theorem FS{Q:OC->OI->Prop}(i:A.units+1<QK)(I:ay X pins σ H s)(g:iw H a y o)(f:aI y u)(h:∀s',ay X pins σ H s'->Q (.bool<|!o.isSome) s') :
  OM (OP X.prog X.w) A (QH .NotIn u<|.ref a) Q E s:=by
 rcases g with ⟨kvs,k,e,d,l⟩ | ⟨kvs,k,b,e,d,j,l⟩
 ·subst d;obtain⟨z,hd,vs,c,dd⟩:=mZ I.hok e;refine wpAny_notIn_of (jg f) hd dd.mapOf ?_;rw[<- (c.val k).isSome_eq,<-l];exact h _ (I.tok _)
 ·subst d;cases(show u=OX b from f);obtain⟨z,hd,xs,c,dd⟩:=m9 I.hok e;refine wpAny_notIn_heap (Q0 i) (dn I.hok j) hd dd ?_;have q:=(c.val k).isSome_eq;rw[Ti] at q;rw[<-q,<-l];exact h _ (I.tok _)
theorem jC{h':Pk}{t':Nat}{ob:HO}(I:ay X pins σ H s)(c:KY (H a))(hs:QA a s.heap h')(d:∃q,h'.get? a=some q)(new:bj X.prog X.w (upd H a ob) h' a ob) :
  ay X pins σ (upd H a ob) {s with heap:=h',toks:=t'} :=
 I.write (x:=a) (e:=a) c (.inl rfl) (λb q hb z=>(hs.2 b hb).trans z) d new
theorem tY{d:Hp}{h':Pk}{kvs:List (bh×V)}{vs:List (bh×OC)}(z:kvs.length≤OR)(hd:(a==QO)=false)(c:KV kvs vs)(dd:h'.DictOf (aW P w) a vs) :
  bj P w d h' a (.dK kvs):=⟨z,hd,vs,c,dd⟩
theorem sy{O:Hp}{Q:Unit->OI->Prop}(U:A.units+1<QK)(I:ay X pins σ H s)(g:qU H a y v O)(p:aI y u)(x:aI v r)(h:∀s',ay X pins σ O s'->Q () s') :
  OM (OP X.prog X.w) A (setItem (.ref a) u r) Q E s:=by
 rcases g with ⟨kvs,k,e,j,l,m⟩ | ⟨kvs,k,b,e,j,L,l,m⟩
 ·subst j m;obtain⟨z,hd,vs,rel,dd⟩:=o8 I.hok e;have hz:vs.length≤OR:=by rw[<-rel.length];exact z
  have i:(dc kvs k v).length≤OR:=by have:=jf kvs k v;omega
  refine wpAny_setItem_pairs (hsz:=hz) (jg p) dd λh' d hs=>h _ ?_;have Y:∃q,h'.get? a=some q:=let ⟨q,_,_,f,_⟩:=d;⟨q,f⟩;exact jC I (by rw[e];exact Qt) hs Y (tY i hd (rel.put k x) d)
 ·subst j m;cases(show u=OX b from p);obtain⟨z,hd,xs,rel,dd⟩:=HK I.hok e;have hz:xs.length≤OR:=by rw[<-Pm rel];exact z
  have i:(dc kvs k v).length≤OR:=by have:=jf kvs k v;omega
  refine wpAny_setItem_heap (hsz:=hz) (Q0 U) (dn I.hok L) dd λh' d hs=>h _ ?_;obtain⟨q,es,ep,f,h2,h3,h4,_,Z⟩:=d;refine jC I (by rw[e];exact Qt) hs ⟨q,f⟩ ⟨i,hd,_,(rel.put k L x).keeps λc ys C=>?_,q,es,ep,f,h2,h3,h4,Z⟩;rw[al (Hy C e<|λz=>nomatch z)];exact C
end
section
variable{a:OD}{kvs:List (bh×V)}{k:bh}{u:OC}
theorem AQ{Q:Unit->OI->Prop}(I:ay X pins σ H s)(e:H a=some (.dK kvs))(d:aI (kV k) u)(l:(cX kvs k).isSome=true)(h:∀s',ay X pins σ (upd H a<|.dK<|hO kvs k) s'->Q () s') :
  OM (OP X.prog X.w) A (delItem (.ref a) u) Q E s:=by
 obtain⟨z,hd,vs,rel,dd⟩:=o8 I.hok e;refine WU dd.typeIs (by decide) Ru
  (Sq Ru dd.typeIs UC (Ul _ _) (meets_dict_delitem_pairs (aW X.prog X.w) a<|jg d) ⟨vs,dd,by rw[<-rel.length];exact z,by rw[<- (rel.val k).isSome_eq];exact l,λh' c hs=>h _ ?_⟩)
 have g:∃q,h'.get? a=some q:=let ⟨q,_,_,f,_⟩:=c;⟨q,f⟩;exact jC I (by rw[e];exact Qt) hs g (tY (PV (vF kvs k) z) hd (rel.drop k) c)
end
def Db(i:O4):Prop:=∀c iv,VS i false c iv=operate [c,iv] (Ui c iv)
theorem tZ{env:Env}{value slice:O4}{T id:String}{Q:OC->OI->Prop}
  (l:Vm (.type T) "__getitem__" = pure (some<|.builtin id)) (hs:Db slice)
  (h:OM (OP prog w) A (Pq value env) (λo s₁=>OM (OP prog w) A (Pq slice env) (λi c=>c.TypeIs o T/\OM (OP prog w) A (Ui o i) Q E c) E s₁) E s) :
  OM (OP prog w) A (Pq (.Subscript value slice pos) env) Q E s:=by
 refine WS (Pf h (λo s₁ h₁=>Pf h₁ (λi c d=>?_) λ_ _ x=>x) λ_ _ x=>x);obtain⟨j,d⟩:=d;unfold WC;refine OB ?_;rw[getitemInPython_of_ne j.not_modules];refine OB (X7 j l ?_);have fin:OM (OP prog w) A (VS slice false o i) (λr f=>OM (OP prog w) A (letTemporaryGo value o r >>= λ_=>pure r) Q E f) E c:=by
  rw[hs o i];exact wpAny_operating (Pf d (λr f g=>OB (wpAny_letTemporaryGo<|OE g)) λ_ _ x=>x)
 first
  | exact OE (OB fin)
  | exact OB (OE (OB fin))
  | exact OB fin

theorem nh{a:OD}{y:V}{o:Option V}(I:ay X pins σ H s)(g:iw H a y o):s.TypeIs (.ref a) "dict":=by
 rcases g with ⟨kvs,k,e,_,_⟩ | ⟨kvs,k,b,e,_,_,_⟩
 ·obtain⟨_,_,vs,_,dd⟩:=mZ I.hok e;exact dd.typeIs
 ·obtain⟨_,_,xs,_,dd⟩:=m9 I.hok e;exact dd.typeIs
def Lp(d ty:TE):TE:=λσ H Q=>d σ H λx H1=>ty σ H1 λy c=>∃a v,x=.ref a/\iw c a y (some v)/\Q v c
def Lq(ty d:TE):TE:=λσ H Q=>ty σ H λy H1=>d σ H1 λx c=>∃a o,x=.ref a/\iw c a y o/\Q (.bl o.isSome) c
def zo(ty d:TE):TE:=λσ H Q=>ty σ H λy H1=>d σ H1 λx c=>∃a o,x=.ref a/\iw c a y o/\Q (.bl<|!o.isSome) c
def Lr(f ty d:TE):TS:=λD σ H=>d σ H λv H1=>f σ H1 λx h=>ty σ h λy g=>∃a c,x=.ref a/\qU g a y v c/\D.nx σ c
section
variable{o i e value:O4}{pos pos' tpos:Pos}{td ty tv:TE}
theorem FT(p:X.A.units+1<QK)(ho:PE X o td)(r:PE X i ty)(hs:Db i):PE X (.Subscript o i pos) (Lp td ty):=by
 intro pins s σ H Q I h;refine tZ Sw.lookup hs (bi (ho pins s σ H _ I h) λu j c=>da c λx H1 I1 m q1=>bi (r pins j σ H1 _ I1 q1) λiv O c=>?_);obtain⟨y,z,f,l,a,v,ex,g,q2⟩:=c;subst ex;obtain rfl:u=OX a:=m;exact⟨nh f g,sw p f g l λC L I3 d=>⟨v,z,I3,d,q2⟩⟩
theorem Dc(m:X.A.units+1<QK)(p:PE X i ty)(ho:PE X o td):PC X .In i o (Lq ty td):=by
 intro pins s σ H Q I h;refine bi (p pins s σ H _ I h) λiv d c=>da c λy H1 I1 f q1=>bi (ho pins d σ H1 _ I1 q1) λu L c=>?_;obtain⟨x,z,r,j,a,l,ex,g,q2⟩:=c;subst ex;obtain rfl:u=OX a:=j;exact Nr m r g f λC I3=>⟨.bl l.isSome,z,I3,rfl,q2⟩
theorem AR(m:X.A.units+1<QK)(p:PE X i ty)(ho:PE X o td):PC X .NotIn i o (zo ty td):=by
 intro pins s σ H Q I h;refine bi (p pins s σ H _ I h) λiv d c=>da c λy H1 I1 f q1=>bi (ho pins d σ H1 _ I1 q1) λu L c=>?_;obtain⟨x,z,r,j,a,l,ex,g,q2⟩:=c;subst ex;obtain rfl:u=OX a:=j;exact FS m r g f λC I3=>⟨.bl<|!l.isSome,z,I3,rfl,q2⟩
theorem FU(C:X.A.units+1<QK)(ho:PE X o td)(L:PE X i ty)(z:PE X value tv)(hs:Qq value (some<|.Subscript o i pos') pos.line X.env=pure false) :
  PS X (.Assign [.Subscript o i pos'] value pos) (Lr td ty tv):=by
 intro pins s σ H D I h;refine Vo (bi (z pins s σ H _ I h) λr f c=>da c λv H1 I1 m q1=>bi (ho pins f σ H1 _ I1 q1) λu d c=>da c λx Y Q l q2=>bi (L pins d σ Y _ Q q2) λiv s3 c=>?_) hs;obtain⟨y,H3,I3,j,a,U,ex,g,p⟩:=c;subst ex;obtain rfl:u=OX a:=l;exact sy C I3 g j m λZ O=>⟨σ,U,O,p⟩
end
theorem vG(h:Pk)(hb:QO<h.objs.size):bj P w H (h.push {cls:=.type "dict",data:=.dict #[]}) h.objs.size (.dK []) :=
 ⟨PY _,beq_eq_false_iff_ne.mpr<|Qp<|O0 hb,[],.nil,ab9 h⟩
theorem De(h:Pk)(hb:QO<h.objs.size):bj P w H (h.push {cls:=.type "dict",data:=.dict #[]}) h.objs.size (.dT []) :=
 ⟨PY _,beq_eq_false_iff_ne.mpr<|Qp<|O0 hb,[],.nil,_,#[],0,OQ _ rfl,⟨rfl,rfl,rfl⟩,rfl,rfl,RP⟩
def Jm:TE:=λ_ H Q=>∀p,H p=none->Q (.ref p) (upd H p<|.dK [])
def Jn:TE:=λ_ H Q=>∀p,H p=none->Q (.ref p) (upd H p<|.dT [])
section
theorem vH:PE X (.Dict [] [] pos) Jm:=λpins s σ H Q I h=>
 XD ⟨.ref s.heap.objs.size,_,I.laid (a:=s.heap.objs.size) (o:=.dK []) (t':=s.toks) (λ_ _ q=>OF _ q) (OU _)<|vG s.heap I.big,rfl,h _<|I.hok.fresh<|OU _⟩
theorem Df:PE X (.Dict [] [] pos) Jn:=λpins s σ H Q I h=>
 XD ⟨.ref s.heap.objs.size,_,I.laid (a:=s.heap.objs.size) (o:=.dT []) (t':=s.toks) (λ_ _ q=>OF _ q) (OU _)<|De s.heap I.big,rfl,h _<|I.hok.fresh<|OU _⟩
end
def o9:List (TE×TE)->St->Hp->(List (V×V)->Hp->Prop)->Prop
 | [],_,H,Q=>Q [] H
 | (tk,c)::r,σ,H,Q=>tk σ H λx H1=>c σ H1 λy f=>o9 r σ f λps d=>Q ((x,y)::ps) d
abbrev VV:List (V×V)->List (OC×OC)->Prop:=Paired λp q=>aI p.1 q.1/\aI p.2 q.2
def Ls(X:Cx)(pos:Pos)(keys:List (Option O4))(c:List O4)(d:List (TE×TE)):Prop :=
 ∀(pins:List (OD×Obj)) (s:OI) (σ:St) (H:Hp) (Q:List (V×V)->Hp->Prop),ay X pins σ H s->o9 d σ H Q ->
  OM (OP X.prog X.w) X.A (evalPairs<|pairTrees keys c X.env pos) (λvs s'=>∃ps f,ay X pins σ f s'/\VV ps vs/\Q ps f) X.xe s
theorem zq:Ls X pos [] [] []:=λpins s σ H Q I h=>pairTrees_nil_walk ⟨[],H,I,.nil,h⟩
theorem pf{k v:O4}{ks:List (Option O4)}{vs:List O4}{tk g:TE}{d:List (TE×TE)}(r:PE X k tk)(p:PE X v g)(hr:Ls X pos ks vs d) :
  Ls X pos (some k::ks) (v::vs) ((tk,g)::d):=λpins s σ H Q I h=>
 pairTrees_cons_walk (bi (r pins s σ H _ I h) λu j c=>da c λx H1 I1 m q1=>bi (p pins j σ H1 _ I1 q1) λU i c=>da c λy L z l q2=>
  bi (hr pins i σ L _ z q2) λO Y c=>da c λps C I3 f o=>⟨(x,y)::ps,C,I3,.cons ⟨m,l⟩ f,o⟩)

def dD(kvs more:List (bh×V)):List (bh×V):=more.foldl (λacc kv=>dc acc kv.1 kv.2) kvs
theorem KV.merge:∀{more:List (bh×V)} {rs:List (bh×OC)} {kvs:List (bh×V)} {vs:List (bh×OC)},KV more rs->KV kvs vs->KV (dD kvs more) (merged vs rs):=by
 intro more rs kvs vs r;unfold KV at r
 induction r generalizing kvs vs with
 | nil=>intro q;exact q
 | @cons p q ps qs h t c=>
  intro r0;have e:KV (dc kvs p.1 p.2) (stored vs q.1 q.2):=by
   have:=r0.put p.1 h.2;rw[<-h.1];exact this
  exact c e
theorem jZ:∀(more kvs:List (bh×V)),(dD kvs more).length≤kvs.length+more.length
 | [],kvs=>by show kvs.length≤kvs.length+0;omega
 | p::r,kvs=>by
  have d:=jZ r (dc kvs p.1 p.2);have c:=jf kvs p.1 p.2;show(dD (dc kvs p.1 p.2) r).length≤_;rw[P2];omega
theorem ph{P:Ph}{w:Py}:∀{kvs:List (bh×V)} {d:List (OC×OC)},VV (kvs.map λkv=>(kV kv.1,kv.2)) d->∃rs,Carries (aW P w) d rs/\KV kvs rs
 | [],_,r=>by rw[Uk] at r;cases r;exact⟨[],Qt,.nil⟩
 | p::kvs,_,r=>by
  rw[O8] at r;cases r with
  | @cons a b f bs h t=>
   obtain⟨rs,c,q⟩:=ph (P:=P) (w:=w) t;obtain⟨b1,b2⟩:=b;exact⟨(p.1,b2)::rs,⟨jg h.1,rfl,c⟩,.cons ⟨rfl,h.2⟩ q⟩
def Lu(c:List (TE×TE)):TE:=λσ H Q=>∀p,H p=none->o9 c σ (upd H p<|.dK []) λps d=>d p=some (.dK [])/\∃kvs:List (bh×V),ps=kvs.map (λkv=>(kV kv.1,kv.2))/\kvs.length≤15/\Q (.ref p) (upd d p<|.dK<|dD [] kvs)
theorem zr{keys:List (Option O4)}{d:List O4}{f:List (TE×TE)}(h:Ls X pos keys d f)(g:keys.all (·.isSome)=true)(C:keys.length=d.length)(h0:keys≠[])
  (l:keys.length≤15):PE X (.Dict keys d pos) (Lu f):=by
 intro pins s σ H Q I q;have hn:=I.hok.fresh (OU s.heap.objs.size);have I1:=I.laid (a:=s.heap.objs.size) (o:=.dK []) (h':=s.heap.push {cls:=.type "dict",data:=.dict #[]}) (t':=s.toks) (λ_ _ q=>OF _ q) (OU _) (vG s.heap I.big);refine wpAny_Dict_walk (knd:=aW X.prog X.w) g C h0 l (bi (h pins _ σ _ _ I1<|q _ hn) λU Y p=>?_);obtain⟨ps,Z,m,j,e,kvs,ep,lk,q2⟩:=p;subst ep;obtain⟨rs,c,u⟩:=ph (P:=X.prog) (w:=X.w) j;obtain⟨z,hd,r,r0,dd⟩:=o8 m.hok e;cases r0;refine⟨rs,c,dd,λh' i hs=>⟨.ref s.heap.objs.size,_,?_,rfl,q2⟩⟩;have hz:(dD [] kvs).length≤OR:=by
  have O:=jZ kvs [];rw[Uc] at O;rw[Pz];omega
 have L:∃q,h'.get? s.heap.objs.size=some q:=let ⟨q,_,_,x,_⟩:=i;⟨q,x⟩;exact jC m (by rw[e];exact Qt) hs L (tY hz hd (u.merge .nil) i)


structure M1(X:Cx)(o:O4)(m:Str)(apos:Pos)(e:O4)(cpos:Pos):Prop where
 base:Pi o m X.env (Pq o X.env)=Pq o X.env
 few:((QE cpos<|O1 [e] X.env).all (λx=>!x.1)&&(QI cpos<|PZ [] X.env).all (λx=>x.1.isSome)
 &&decide (([e]:List O4).length+([]:List Tc).length+(if ([]:List Tc).isEmpty then 0 else 1)<30))=true
 line:(apos.endLine==cpos.line)=true
 trees:QE cpos (O1 [e] X.env)=[(false,Pq e X.env)]
structure M2(X:Cx)(o:O4)(m:Str)(apos:Pos)(e f:O4)(cpos:Pos):Prop where
 base:Pi o m X.env (Pq o X.env)=Pq o X.env
 few:((QE cpos<|O1 [e,f] X.env).all (λx=>!x.1)&&(QI cpos<|PZ [] X.env).all (λx=>x.1.isSome)
 &&decide (([e,f]:List O4).length+([]:List Tc).length+(if ([]:List Tc).isEmpty then 0 else 1)<30))=true
 line:(apos.endLine==cpos.line)=true
 trees:QE cpos (O1 [e,f] X.env)=[(false,Pq e X.env),(false,Pq f X.env)]

def MR(H:Hp)(a:OD):Prop:=(∃kvs,Rd H a (.dK kvs))∨∃kvs,Rd H a (.dT kvs)
theorem xN{a:OD}(I:ay X pins σ H s)(d:MR H a) :
  s.TypeIs (.ref a) "dict"/\(∀b,OX a=.ref b->∃ob,s.heap.get? b=some ob/\ob.dict=none)/\(a==QO)=false:=by
 rcases d with ⟨kvs,e⟩ | ⟨kvs,e⟩
 ·obtain⟨_,hd,vs,_,dd⟩:=mZ I.hok e;refine⟨dd.typeIs,λb q=>?_,hd⟩;cases q;obtain⟨ob,_,_,f,c,_⟩:=dd;exact⟨ob,f,c.2.1⟩
 ·obtain⟨_,hd,xs,_,dd⟩:=m9 I.hok e;refine⟨dd.typeIs,λb q=>?_,hd⟩;cases q;obtain⟨ob,_,_,f,c,_⟩:=dd;exact⟨ob,f,c.2.1⟩

section
variable{a:OD}{y d:V}{u r:OC}{o:Option V}
theorem Jo{Q:OC->OI->Prop}(m:A.units+1<QK)(I:ay X pins σ H s)(g:iw H a y o)(j:aI y u)(h:∀i s',ay X pins σ H s'->aI (o.getD .non) i->Q i s') :
  OM (OP X.prog X.w) A (call (.builtin "dict.get") [.ref a,u]) Q E s:=by
 rcases g with ⟨kvs,k,e,f,l⟩ | ⟨kvs,k,b,e,f,p,l⟩
 ·subst f;obtain⟨z,hd,vs,c,dd⟩:=mZ I.hok e;refine Sq Qx dd.typeIs RZ (U4 _ _) (meets_dict_get (aW X.prog X.w) a (jg j) hd) ⟨_,dd.mapOf,h _ _ (I.tok _) ?_⟩;rw[l];exact(c.val k).getD rfl
 ·subst f;cases(show u=OX b from j);obtain⟨z,hd,xs,c,dd⟩:=m9 I.hok e;refine Sq Qx dd.typeIs RZ (U4 _ _) (meetsH_dict_get (Tw<|aW X.prog X.w) a b hd) ⟨Q0 m,k,xs,dn I.hok p,dd,h _ _ (I.tok _) ?_⟩;rw[l];exact(c.val k).getD rfl
theorem Dg{Q:OC->OI->Prop}(p:A.units+1<QK)(I:ay X pins σ H s)(g:iw H a y o)(j:aI y u)(m:aI d r)(h:∀i s',ay X pins σ H s'->aI (o.getD d) i->Q i s') :
  OM (OP X.prog X.w) A (call (.builtin "dict.get") [.ref a,u,r]) Q E s:=by
 rcases g with ⟨kvs,k,e,f,l⟩ | ⟨kvs,k,b,e,f,x,l⟩
 ·subst f;obtain⟨z,hd,vs,c,dd⟩:=mZ I.hok e;refine Sq Qx dd.typeIs RZ (U5 _ _ _) (meets_dict_get_default (aW X.prog X.w) a (jg j) hd r) ⟨_,dd.mapOf,h _ _ (I.tok _) ?_⟩;rw[l];exact(c.val k).getD m
 ·subst f;cases(show u=OX b from j);obtain⟨z,hd,xs,c,dd⟩:=m9 I.hok e;refine Sq Qx dd.typeIs RZ (U5 _ _ _) (meetsH_dict_get_default (Tw<|aW X.prog X.w) a b hd r) ⟨Q0 p,k,xs,dn I.hok x,dd,h _ _ (I.tok _) ?_⟩;rw[l];exact(c.val k).getD m
end
def Jp(d ty:TE):TE:=λσ H Q=>d σ H λx H1=>∃a,x=.ref a/\MR H1 a/\ty σ H1 λy c=>∃o,iw c a y o/\Q (o.getD .non) c
def Jq(f ty d:TE):TE:=λσ H Q=>f σ H λx H1=>∃a,x=.ref a/\MR H1 a/\ty σ H1 λy g=>d σ g λz c=>∃o,iw c a y o/\Q (o.getD z) c
section
variable{o e f:O4}{apos cpos:Pos}{td ty tx:TE}
theorem Dh(C:X.A.units+1<QK)(ho:PE X o td)(L:PE X e ty)(m:M1 X o "get" apos e cpos):PE X (.Call (.Attribute o "get" apos) [e] [] cpos) (Jp td ty):=by
 intro pins s σ H Q I h;refine UQ m.base m.few m.line P0 Qx Tv (bi (ho pins s σ H _ I h) λu p i=>?_);obtain⟨x,H1,I1,z,a,ex,d,q1⟩:=i;subst ex;obtain rfl:u=OX a:=z;obtain⟨l,j,_⟩:=xN I1 d;refine⟨l,j,?_⟩;rw[m.trees];refine Re rfl (Q5<|QY<|bi (L pins p σ H1 _ I1 q1) λiv s2 ⟨y,U,O,r,ov,g,q2⟩=>Sj ?_);exact Jo C O g r λY Z I3 c=>⟨_,U,I3,c,q2⟩
theorem Di(Y:X.A.units+1<QK)(ho:PE X o td)(he:PE X e ty)(Z:PE X f tx)(m:M2 X o "get" apos e f cpos):PE X (.Call (.Attribute o "get" apos) [e,f] [] cpos) (Jq td ty tx):=by
 intro pins s σ H Q I h;refine UQ m.base m.few m.line P0 Qx Tv (bi (ho pins s σ H _ I h) λu r c=>?_);obtain⟨x,H1,I1,O,a,ex,d,q1⟩:=c;subst ex;obtain rfl:u=OX a:=O;obtain⟨l,j,_⟩:=xN I1 d;refine⟨l,j,?_⟩;rw[m.trees];refine Re rfl (Q5 (QY (bi (he pins r σ H1 _ I1 q1) λiv p c=>da c λy H2 I2 L q2=>
  QY (bi (Z pins p σ H2 _ I2 q2) λfv s3 ⟨z,H3,I3,C,ov,g,U⟩=>Sj ?_))))
 exact Dg Y I3 g L C λw' s4 I4 i=>⟨_,H3,I4,i,U⟩
end
section
variable{a:OD}{kvs:List (bh×V)}
end
section
variable{a:OD}{y:V}{u:OC}
end
end L2
namespace Att
open PySem PySem.W PySem.Calls PyProof.Rows
theorem nV{P:VU}{h:Pk}:∀(ns:List Int) (vs:List OC),WellAll P h vs (ns.map ab7)->TR vs ns:=by
 intro ns
 induction ns with
 | nil=>
  intro vs w;rw[Uk] at w;cases w;exact .nil
 | cons n ns c=>
  intro vs w;rw[O8] at w;cases w with
  | cons a b=>
   cases a;exact .cons _ _ (c _ b)

theorem AS{l:UJ}{n:Nat}(hn:l.most=some n){P:VU}{h:Pk}{args:List WData}{c:List OC}
  (f:l.row.toRowW.claim.pre args=true) (o:WellAll P h c args) :
  ∃a vs ns,c=[OX a]/\args=[WData.list (ns.map ab7)]/\h.get? a=some {cls:=.type "list",data:=.seq vs.toArray}/\TR vs ns/\ns.length≤n:=by
 have p:WShape.hasAll [] args [.list .int]=true:=(pre_splitW f).1;have u:l.pre.holds [] {args:=args}=true:=(pre_splitW f).2;obtain⟨d,r,rfl,O,L⟩:=hasAllW_cons p;obtain rfl:=hasAllW_nil L;obtain⟨xs,rfl,I⟩:=hasW_list O;obtain⟨ns,rfl⟩:=items_int I;have g:ns.length≤n:=by
  unfold OpenLaw.pre at u;have m:(WTm.not<|.lt (.lit<|.int (n:Int))<|.len<|.arg 0).holds [] {args:=[.list (ns.map .int)]}=true:=by
   have m:=(holds_andW u).1;rw[hn] at m;exact m
  have j:=condW_of m (w_not<|w_lt w_lit<|w_len_list<|w_arg rfl);rw[Ps] at j;refine Nat.le_of_not_lt λq=>?_;have C:(n:Int)<((ns.length:Nat):Int):=by omega
  first
   | (rw[decide_eq_true C] at j;exact absurd j (by decide))
   | (simp at j;omega)
 cases o with
 | cons z x=>
  cases x;cases z with
  | list ho i=>exact⟨_,_,ns,rfl,rfl,ho,nV ns _ i,g⟩

theorem AT(l:UJ)(args:List WData):l.row.toRowW.claim.post args (.bool true) args=true :=
 postW_of (r:=l.row.toRowW) (X:=(true==true))
  (show aa9 [] (.bool true) .bool=true by first | rfl | decide | simp[aa9,WShape.arms,WShape.armsAll])
  (show(WTm.eq .res<|.lit<|.bool true).value [] {args:=args,res:=some (.bool true),after:=args}=some (.bool<|true==true) from w_eq_bool (w_res rfl) w_lit) rfl

theorem attach_call{l:UJ}{n:Nat}{q:Ph}{loose:List Str}{XP:(Str->Option OC)->Pk->Prop}{YP:Py->Pk->Prop}{d:DefRec}
  (hn:l.most=some n) (z:d.params.defaults=[])
  (call:∀(w:Py) (s₀ s₁:OI) (mg p:Str->Option OC) (j:OD) (o:Obj) (m cd doc:OC) (a:OD) (vs:List OC) (ns:List Int),
   Ground q loose [] XP w s₀ mg p s₁.heap->YP w s₁.heap ->
   s₁.heap.get? j=some o->o.data=.func (docDef d.name d.params d.body d.scope m cd doc)->s₁.heap.CodeRec cd d.name->mg d.name=some (.ref j) ->
   s₁.heap.get? a=some {cls:=.type "list",data:=.seq vs.toArray}->TR vs ns->ns.length≤n->s₁.gens=#[] ->
   RX (OP l.prog w) Wf (.call (.ref j) ⟨[.ref a],[]⟩) (λr s'=>r=.ok (.ret<|.bool true)/\OldK s₁.heap s'.heap/\s'.os=s₁.os/\TN s'.gens) s₁) :
  WalkO q loose XP YP l.row.toRowW d [] (λf vs=>PySem.call f vs):=by
 intro w s₀ s₁ mg p G Y j o m cd doc dV kV ho hd C O x hg args I as g L Q u hlo;obtain rfl:dV=.none:=Dflts.none O z;obtain rfl:kV=.none:=Dflts.noKw O;obtain⟨a,vs,ns,rfl,rfl,h,c,i⟩:=AS hn g u;refine enter_call (Qf (call w s₀ s₁ mg p j o m cd doc a vs ns G Y ho (fd_plain hd) C x h c i hg) λr s' U=>?_);obtain⟨rfl,h2,h3,h4⟩:=U;exact⟨.inl ⟨.bool true,.bool true,[],rfl,λ_=>rfl,.bool true,AT l _,λ_=>⟨ab4,λ_ Z=>(nomatch Z)⟩⟩,h2,h3,h4⟩

section
variable{K:OK}
end
end Att
namespace L2
open PySem PySem.Spec PyProof.Rows
theorem sA:∀{vs:List OC} {ns:List Int},TR vs ns->aK (ns.map V.int) vs
 | _,_,.nil=>.nil
 | _,_,.cons n t h=>.cons ⟨t,rfl⟩ (sA h)

end L2
namespace L2
open PySem PySem.Spec PyProof.Rows
def aj(s:Rs)(j:Nat):Rs:=match s with
 | .ClassDef _ _ _ body _ _ _ _ _ _ _=>body.getD j (.Pass ⟨0,0,0,0⟩)
 | _=>.Pass ⟨0,0,0,0⟩
def bq(s:Rs):RO:=match s with
 | .FunctionDef _ a _ _ _ _ _ _ _ _=>a
 | _=>{posonlyargs:=[],args:=[],vararg:=none,kwonlyargs:=[],kw_defaults:=[],kwarg:=none,defaults:=[]}
def aS(s:Rs):List Rs:=match s with
 | .FunctionDef _ _ b _ _ _ _ _ _ _=>b
 | _=>[]
def ae(s:Rs):PQ:=match s with
 | .FunctionDef _ _ _ _ _ _ c _ _ _=>c
 | _=>{kind:=.function,names:=[],isGenerator:=false,isCoroutine:=false}

abbrev eY:kr:=λ_ _ _ _ _ _=>False
abbrev E0:XK:=λ_ _ _=>False
theorem HL:cw eY X E0:=λ_ _ _ _ _ _ _ h=>h.elim

structure Fun(K:OK)(x qual:Str)(st:Rs)(f:OD)(fd:TV):Prop where
 ex:∃(oc:OC) (od:Option OD) (kV doc pm:OC) (an:Option OD) (cdv ct:OC) (osl:Array (Option OC)),
  fd=Pt x qual (bq st) (aS st) (ae st) .none kV doc pm an cdv ct/\K.lookup f=some ⟨oc,od,.func fd,osl⟩/\Qk K cdv qual=true
 kp:Pn K (.ref f)=true
section
theorem Fun.ok{x qual:Str}{f:OD}{N ps:List Str}{k:Nat}{sp:Sp}(F:Fun K x qual st f fd)(S:ai N ps (ae st))(len:∀vs H Q E,sp vs H Q E->vs.length=ps.length)
  (hbody:∀(c:OC) (A:Qz) (outer:List Env) (s:OI) (H:Hp) (vs:List V) (Q:VK) (E:XK),a5 k (A.deeper<|Q4 qual (ae st) s.heap.objs.size f c)->sp vs H Q E ->
   ∃t,gu (bQ eY P w K mg base N qual (ae st) f c A outer s H E).nox (aS st) t/\t {nx:=λ_ i=>Q .non i,rt:=Q} (ff N vs) H):bG P w K mg base eY (k+1) f fd ps sp:=by
 obtain⟨m,l,kV,doc,j,o,c,ct,osl,rfl,lk,g⟩:=F.ex;refine zd lk g S len λA outer s H vs Q E hr d=>?_;obtain⟨t,h,q⟩:=hbody c A outer s H vs Q E hr d;exact⟨t,h.nox,q⟩
theorem Fun.binds{x qual:Str}{f:OD}{ps:List Str}(F:Fun K x qual st f fd)
  (h:∀(kV doc d:OC) (g:Option OD) (c ct:OC) (us:List OC),us.length=ps.length->RN (Pt x qual (bq st) (aS st) (ae st) .none kV doc d g c ct) ⟨us,[]⟩=pure (ps.zip us)):cA K fd ps []:=by
 obtain⟨l,j,kV,doc,d,g,c,ct,osl,rfl,lk,i⟩:=F.ex;exact .all (h kV doc d g c ct)
theorem pi{x qual:Str}{f:OD}{j:OC}{i h:Option OD}{kV doc g d ct:OC}(l:K.lookup f=some ⟨j,i,.func<|Pt x qual (bq st) (aS st) (ae st) .none kV doc g h d ct,osl⟩)
  (c:Qk K d qual=true) (k:Pn K (.ref f)=true):Fun K x qual st f (Pt x qual (bq st) (aS st) (ae st) .none kV doc g h d ct):=⟨⟨j,i,kV,doc,g,h,d,ct,osl,rfl,l,c⟩,k⟩
end
theorem dl{k:Nat}(hr:a5 k A):A.units+1<QK:=UD (Wl (by decide:1≤64) _) hr.units
theorem bZ{n:Nat}(h:n≤1000):n<OR:=UD h (by decide)

section
theorem pv(i:Nat){x:Str}(f:X.N[i]?=some x:=by nofun)(d:Hz X.env.scope x:=by with_unfolding_all (first | exact SL rfl | exact VW (SL rfl) | exact VW (VW rfl)))(hd:(x==("__debug__":Str))=false:=by decide)
  (c:(x==("__classdict__":Str))=false:=by decide):PE X (.Name x pos) (xv i):=xw f d hd c
end
theorem qV{A B:Prop}(h:B):if false=true then A else B:=by
 rw[if_neg O2];exact h
theorem qW{A B:Prop}(h:A):if true=true then A else B:=by
 rw[if_pos rfl];exact h
def Jr(H c:Hp):Prop:=∀b o,H b=some o->c b=some o
section
variable{κ:Type}[DecidableEq κ]
theorem zt:∀{l:List κ} {k:κ},l.Nodup->¬k∈l->(l++[k]).Nodup
 | [],k,_,_=>by simp
 | a::r,k,h,c=>by
  obtain⟨f,d⟩:=QB.mp h;show(a::(r++[k])).Nodup;refine QB.mpr ⟨λm=>?_,zt d λm=>c (OY.mpr<|VW m)⟩;rcases PN.mp m with q | q
  ·exact f q
  ·exact c (OY.mpr<|SL (Ql.mp q).symm)
end
end L2
set_option maxHeartbeats 4000000
namespace OH
open PySem PySem.W PySem.Calls PyProof.Rows
noncomputable abbrev p0:Pos:=⟨0,0,0,0⟩
noncomputable abbrev KL:Option OC:=some (.ref 6)
noncomputable def o4:List Obj:=[{cls:=.type "tuple",data:=.seq #[]},{cls:=.none,data:=.fields #[]},
 {cls:=.type "code",data:=.fields #[.str "<module>" 182,.str "<module>" 183,.str "/claim/cut.py" 184,.int 1 0,.int 0 0,.int 0 0,.int 0 0,.int 0 0,.ref 11,.bool false,.int 181 0,.ref 12,.none,.none,.none,.none,.int 185 0,.int 1 0,.str "/claim/cut.py" 186]},
 {cls:=.type "frame",slots:=#[some (.ref 13),some (.ref 3),some (.ref 3),none,some (.str "__main__" 164),none,some (.ref 0)]}]
noncomputable def bt:List Obj->Nat->BT->BT
 | [],_,t=>t
 | o::l,i,t=>bt l (i+1) (t.ins i o)
noncomputable def Tb(P:VU):BT:=bt ((RQ P).objs.toList++o4) 0 .nil
noncomputable abbrev St(w:Py)(os:OsState):SharedT:=⟨Tb w.params,15,{},#[],YA,187,os⟩
noncomputable abbrev S0(w:Py)(os:OsState):OI:=⟨RQ w.params,aa2 [],YA,boot_toks,os⟩
noncomputable abbrev env(p:Ph):Env:={scope:=p.main.scope,locals:=mainNs,globals:=mainNs,cells:=[],code:=.ref 13,frame:=some 14}
noncomputable abbrev cd(p:Ph):Code:=.body (TD p) (env p)
noncomputable abbrev B:List Frame:=[topFrame p0]
section
variable{p q:Ph}{loose:List Str}{Xt:OI->Bool}{N M:Nat}{K:VU->OK}{as ts:List OD}{ek:∀P,as=(K P).map (·.1)}
theorem Lv(P:VU):((RQ P).isNs Pe&&(aa2 []:Array Ys).size==0,(RQ P).objs.size,(RQ P).nsMap Pe "__annotations__")=(true,11,KL):=by kernel_rfl
theorem Js(w:Py)(pos:Pos)(s:OI):topRun TF p w 11 KL 2 s ⟨doneF .next,cd p,pos,B⟩=some s:=by cases s;rfl
noncomputable abbrev gt(t:BT)(a:OD):Option Obj:=(t.get a).bind alive
theorem Jt{t:BT}{n:Nat}{life:Life}{a:OD}{o:Obj}(h:QW a n=true)(g:gt t a=some o):(absHeap t n life).get? a=some o:=by
 obtain⟨f,d,c⟩:=Option.bind_eq_some_iff.mp g;rw[abs_get (Qj h) d,c]
theorem t7{t:BT}{n:Nat}{life:Life}:∀{as:List OD} {os:List (Option Obj)},as.all (λa=>QW a n)=true->os.all (·.isSome)=true->as.map (gt t)=os->as.map (absHeap t n life).get?=os
 | [],_,_,_,e=>e
 | a::as,os,h,k,e=>by
  subst e;rw[QM,OZ] at h;rw[O8,QM,OZ] at k;rw[O8,O8,t7 h.2 k.2 rfl];obtain⟨o,ho⟩:=UV.mp k.1;rw[ho,Jt h.1 ho]
theorem FV(e:opening p=plainProg p.main.scope.names)(x:Pr 600 N=true)(f:∀s,fenceModules? p s=some s)
  (pre:∀w os,topGo TF p w 11 KL 12 (S0 w os) (topStub p)=some ((St w os).abs,⟨denote TF<|cd p,cd p,p0,B⟩))
  (i:∀w os,segRun TF p w 11 KL 1 1 (St w os).abs (blockOf (TD p) (env p) (cd p) p0 B)=some (.next,(St w os).abs,cd p,p0))
  (main:∀w,(λos=>(segRunT TF p w 11 KL 1 M (St w os)<|piecesOf (TD p) (env p) (cd p) p0 B).map λr=>(r.1,r.2.2.1,
    (ZE (Sc p.main.body) (RQ w.params) r.2.1.abs.heap&&YB p r.2.1.abs.heap&&gensDone r.2.1.abs&&laidKept (RQ w.params) r.2.1.abs.heap),
    openSeen q loose (Sc p.main.body) Xt true r.2.1.abs,as.all (λa=>QW a r.2.1.n),ts.all (λa=>QW a r.2.1.n),as.map (gt r.2.1.tree),ts.map (gt r.2.1.tree))) =
   λ_=>some (.next,cd p,true,openGood q loose,true,true,(K w.params).map (λp=>some p.2),ts.map λ_=>some (RG #[])))
  (le:Pr (12+(1+(M+2))) N=true):LeftO p q loose Xt (kmHook K as ek ts).obs (kmHook K as ek ts).val N:=λw=>by
 obtain⟨⟨h,z,d,k,os⟩,C,I⟩:=RY.mp (boot_open e x f w);obtain⟨rfl,rfl,rfl,rfl⟩:h=RQ w.params/\z=aa2 []/\d=YA/\k=boot_toks:=by simpa using I
 obtain⟨⟨fl,c,c',pos'⟩,m1,m2⟩:=RY.mp (congrFun (main w) os);obtain⟨rfl,m2⟩:=RU m2;obtain⟨rfl,m2⟩:=RU m2;obtain⟨l1,m2⟩:=RU m2;obtain⟨u,m2⟩:=RU m2;obtain⟨U,m2⟩:=RU m2;obtain⟨Q,m2⟩:=RU m2;obtain⟨O,L⟩:=RU m2;have k1:=piece_app (rest:=[]) (segRun_of m1) (piece_nil<|Js w pos' c.abs);rw[Ra] at k1;have r0:=go_top (pre w os) (piece_block (i w os) k1);have r:=topRun_mono (N - (12+(1+(M+2)))) _ _ _ _ r0;rw[show 12+(1+(M+2))+(N - (12+(1+(M+2))))=N by have:=Qj le;omega] at r;obtain⟨l,g⟩:=RU (Lv w.params);obtain⟨g,j⟩:=RU g;have t:topFrom TF p w N (S0 w os)=some c.abs:=by
  unfold topFrom;dsimp only;rw[l,g,j,r];show(match ZE (Sc p.main.body) (RQ w.params) c.abs.heap&&YB p c.abs.heap&&gensDone c.abs&&laidKept (RQ w.params) c.abs.heap with | true=>some c.abs | false=>none)=_;rw[l1]
 have o:as.map c.abs.heap.get?=(K w.params).map λp=>some p.2:=t7 U (by rw[Vp];exact Ri.mpr λ_ _=>rfl) O;have m:ts.map c.abs.heap.get?=ts.map λ_=>some (RG #[]):=t7 Q (by rw[Vp];exact Ri.mpr λ_ _=>rfl) L;unfold openEnds;rw[C];show(topFrom TF p w N<|S0 w os).map _=_;rw[t];show some (openSeen q loose (Sc p.main.body) Xt true c.abs,as.map c.abs.heap.get?,ts.map c.abs.heap.get?)=some (openGood q loose,(K w.params).map (λp=>some p.2),ts.map λ_=>some (RG #[]));rw[u,o,m]
end
end OH
variable{σ:L2.St}
namespace RB
open PySem PySem.Spec L2
def aD(i:Nat):Rs:=RT.main.body.getD i (.Pass ⟨0,0,0,0⟩)
end RB
namespace OH
open PySem PySem.W PySem.Calls PyProof.Rows L2
noncomputable abbrev kE(P:VU)(x:Str)(t:Nat)(v:OC):Ry:=⟨PyData.keyHash P x,.str x t,v⟩
noncomputable abbrev kD(es:List Ry)(n:Nat):Obj:={cls:=.type "dict",data:=.dict ⟨es⟩ n}
noncomputable abbrev kL(x:Str)(a n t t':Nat):Obj:={cls:=.type "type",data:=.cls {name:=x,bases:=[.type "object"],mro:=[.ref a,.type "object"],ns:=n,qualname:=x},slots:=#[none,none,some (.str x t),some (.str x t'),some (.builtin "object.__new__"),some (.bool true)]}
noncomputable abbrev kC(x y:Str)(t l d po c fl a t':Nat):Obj:={cls:=.type "code",data:=.fields #[.str x t,.str y (t+1),.str "/claim/cut.py" (t+2),.int l 0,.int d 0,.int po 0,.int c 0,.int fl 0,.ref a,.bool true,.int 181 0,.ref (a+1),.none,.ref (a+2),.ref (a+3),.ref (a+4),.int t' 0,.int l 0,.str "/claim/cut.py" (t'+1)]}
noncomputable abbrev kQ(x y:Str)(t l d po c fl a t':Nat):Obj:={cls:=.type "code",data:=.fields #[.str x t,.str y (t+1),.str "/claim/cut.py" (t+2),.int l 0,.int d 0,.int po 0,.int c 0,.int fl 0,.ref a,.bool true,.int 181 0,.ref (a+1),.none,.none,.none,.ref (a+2),.int t' 0,.int l 0,.str "/claim/cut.py" (t'+1)]}
noncomputable abbrev kF(x y:Str)(st:Rs)(kV:OC)(m:Str)(t c:Nat):Obj:={cls:=.type "function",data:=.func (Pt x y (bq st) (aS st) (ae st) .none kV .none (.str m t) none (.ref c) .none)}
noncomputable abbrev kX(x:Str)(bs d:List OC)(n:Nat)(c:List OC)(z t t':Nat):Obj:={cls:=.type "type",data:=.cls {name:=x,bases:=bs,mro:=d,ns:=n,qualname:=x,subclasses:=c},slots:=#[some (.ref z),none,some (.str x t),some (.str x t'),some (.builtin "ValueError.__new__"),some (.bool true)]}
noncomputable abbrev kY(x:Str)(a n z t t':Nat):Obj:=kX x [.ref 31] [.ref a,.ref 31,.type "ValueError",.type "Exception",.type "BaseException",.type "object"] n [] z t t'
noncomputable abbrev kf(x:Str)(i:Nat)(m:Str)(t c:Nat):Obj:=kF x x (RB.aD i) .none m t c
noncomputable abbrev kc(x:Str)(t l d c fl a t':Nat):Obj:=kC x x t l d 0 c fl a t'
open RB
noncomputable abbrev pw:=RT
noncomputable abbrev qv:Ph:=view pw [110]
noncomputable abbrev ls:List Str:=(pw.main.scope.names.map (·.1)).dropLast
noncomputable abbrev m0:Str:="lockstretch.errors"
noncomputable abbrev m1:Str:="lockstretch.lots"
noncomputable abbrev m2:Str:="lockstretch.checks"
noncomputable abbrev m3:Str:="lockstretch.claims"
noncomputable abbrev m4:Str:="lockstretch.waits"
noncomputable abbrev m5:Str:="lockstretch.deeds"
noncomputable abbrev m6:Str:="lockstretch.tables"
noncomputable abbrev m7:Str:="lockstretch.desks"
noncomputable abbrev m8:Str:="law_lockstretch_k16_refusals"
noncomputable def KK:VU->OK:=λP=>
 (nat_lit 3,kD (kE P "__name__" 165 (.str "law_lockstretch_k16_refusals" 1585)::kE P "__doc__" 166 .none::kE P "__package__" 167 .none::kE P "__loader__" 168 (.builtin "__main__.__loader__#opaque")::kE P "__spec__" 169 .none::kE P "__annotations__" 170 (.ref 6)::kE P "__builtins__" 171 (.ref 4)::kE P "__file__" 173 (.str "/claim/cut.py" 172)::kE P "__cached__" 174 .none::kE P "_wall" 193 (.ref 21)::kE P "LockError" 213 (.ref 31)::kE P "NoTask" 229 (.ref 44)::kE P "Asleep" 245 (.ref 56)::kE P "Awake" 261 (.ref 68)::kE P "NoHandle" 277 (.ref 80)::kE P "NoMark" 293 (.ref 92)::kE P "NoFile" 309 (.ref 104)::kE P "BadMode" 325 (.ref 116)::kE P "BadKind" 341 (.ref 128)::kE P "BadStretch" 357 (.ref 140)::kE P "Held" 382 (.ref 159)::kE P "Stuck" 398 (.ref 171)::kE P "NoAsk" 414 (.ref 183)::kE P "NoBack" 430 (.ref 195)::kE P "NoText" 446 (.ref 207)::kE P "is_whole" 455 (.ref 216)::kE P "is_stretch" 464 (.ref 223)::kE P "lot_of" 474 (.ref 230)::kE P "joined" 482 (.ref 237)::kE P "without" 490 (.ref 244)::kE P "both" 504 (.ref 251)::kE P "meets" 513 (.ref 258)::kE P "gaps_of" 524 (.ref 265)::kE P "reaches" 532 (.ref 272)::kE P "earlier_end" 540 (.ref 279)::kE P "later_end" 548 (.ref 286)::kE P "KINDS" 553 (.ref 287)::kE P "HOLDERS" 556 (.ref 288)::kE P "MODES" 560 (.ref 289)::kE P "WORDS" 563 (.ref 290)::kE P "is_key" 571 (.ref 297)::kE P "check_task" 579 (.ref 304)::kE P "check_awake" 587 (.ref 311)::kE P "check_file" 595 (.ref 318)::kE P "check_mode" 602 (.ref 325)::kE P "check_kind" 609 (.ref 332)::kE P "check_by" 616 (.ref 339)::kE P "check_word" 623 (.ref 346)::kE P "check_stretch" 630 (.ref 353)::kE P "mark_at" 641 (.ref 360)::kE P "mark_of" 651 (.ref 367)::kE P "awake_mark" 660 (.ref 374)::kE P "opened_mark" 668 (.ref 381)::kE P "ask_entry" 676 (.ref 388)::kE P "lock_order" 690 (.ref 395)::kE P "lock_rows" 696 (.ref 400)::kE P "told_locks" 704 (.ref 407)::kE P "told_whole" 712 (.ref 414)::kE P "told_asks" 718 (.ref 419)::kE P "ask_of" 731 (.ref 426)::kE P "clash" 739 (.ref 433)::kE P "blocking_stretches" 745 (.ref 438)::kE P "blocking_wholes" 751 (.ref 443)::kE P "blocking_locks" 759 (.ref 450)::kE P "asks_are_against" 767 (.ref 457)::kE P "blocking_asks" 773 (.ref 462)::kE P "is_blocked" 781 (.ref 469)::kE P "first_blocker" 791 (.ref 476)::kE P "keep_lots" 802 (.ref 483)::kE P "free_cells" 814 (.ref 490)::kE P "take" 831 (.ref 497)::kE P "fall_asleep" 842 (.ref 504)::kE P "wake" 852 (.ref 511)::kE P "tasks_behind" 865 (.ref 518)::kE P "needs_of" 871 (.ref 523)::kE P "can_go" 877 (.ref 528)::kE P "stuck_asks" 883 (.ref 533)::kE P "give_up_stuck" 891 (.ref 540)::kE P "first_unblocked" 899 (.ref 547)::kE P "grant" 907 (.ref 554)::kE P "settle" 914 (.ref 561)::kE P "WRONG_MODES" 923 (.ref 562)::kE P "new_handle" 934 (.ref 569)::kE P "add_user" 946 (.ref 576)::kE P "lead" 957 (.ref 583)::kE P "lose_user" 963 (.ref 588)::kE P "shut" 969 (.ref 593)::kE P "end_task" 980 (.ref 600)::kE P "take_or_wait" 990 (.ref 607)::kE P "do_begin" 999 (.ref 614)::kE P "do_attach" 1012 (.ref 621)::kE P "do_dup" 1024 (.ref 628)::kE P "do_close" 1034 (.ref 635)::kE P "do_fork" 1047 (.ref 642)::kE P "do_end" 1056 (.ref 649)::kE P "do_lock" 1072 (.ref 656)::kE P "do_unlock" 1086 (.ref 663)::kE P "do_cancel" 1095 (.ref 670)::kE P "do_lock_whole" 1108 (.ref 677)::kE P "do_unlock_whole" 1119 (.ref 684)::kE P "DEEDS" 1142 (.ref 685)::kE P "do_deed" 1153 (.ref 692)::kE P "Tables" 1231 (.ref 735)::kE P "Desk" 1584 (.ref 997)::kE P "_law_draw" 1598 (.ref 1008)::kE P "_law_begun" 1604 (.ref 1015)::kE P "_law_class_all" 1610 (.ref 1020)::kE P "_law_heard_all" 1621 (.ref 1027)::kE P "_law_locking" 1633 (.ref 1034)::kE P "_law_others" 1642 (.ref 1041)::kE P "law" 1655 (.ref 1048)::[]) 111) ::
 (nat_lit 30,kD (kE P "__module__" 203 (.str "lockstretch.errors" 194)::kE P "__firstlineno__" 207 (.int 5 206)::kE P "__static_attributes__" 208 (.ref 29)::kE P "__weakref__" 210 (.ref 32)::kE P "__doc__" 211 .none::[]) 3) ::
 (nat_lit 31,kX "LockError" [.type "ValueError"] [.ref 31,.type "ValueError",.type "Exception",.type "BaseException",.type "object"] 30 [.ref 44,.ref 56,.ref 68,.ref 80,.ref 92,.ref 104,.ref 116,.ref 128,.ref 140,.ref 159,.ref 171,.ref 183,.ref 195,.ref 207] 22 196 204) ::
 (nat_lit 43,kD (kE P "__module__" 221 (.str "lockstretch.errors" 194)::kE P "__firstlineno__" 225 (.int 7 224)::kE P "__static_attributes__" 226 (.ref 42)::kE P "__doc__" 227 .none::[]) 2) ::
 (nat_lit 44,kY "NoTask" 44 43 35 214 222) ::
 (nat_lit 55,kD (kE P "__module__" 237 (.str "lockstretch.errors" 194)::kE P "__firstlineno__" 241 (.int 9 240)::kE P "__static_attributes__" 242 (.ref 54)::kE P "__doc__" 243 .none::[]) 2) ::
 (nat_lit 56,kY "Asleep" 56 55 47 230 238) ::
 (nat_lit 67,kD (kE P "__module__" 253 (.str "lockstretch.errors" 194)::kE P "__firstlineno__" 257 (.int 11 256)::kE P "__static_attributes__" 258 (.ref 66)::kE P "__doc__" 259 .none::[]) 2) ::
 (nat_lit 68,kY "Awake" 68 67 59 246 254) ::
 (nat_lit 79,kD (kE P "__module__" 269 (.str "lockstretch.errors" 194)::kE P "__firstlineno__" 273 (.int 13 272)::kE P "__static_attributes__" 274 (.ref 78)::kE P "__doc__" 275 .none::[]) 2) ::
 (nat_lit 80,kY "NoHandle" 80 79 71 262 270) ::
 (nat_lit 91,kD (kE P "__module__" 285 (.str "lockstretch.errors" 194)::kE P "__firstlineno__" 289 (.int 15 288)::kE P "__static_attributes__" 290 (.ref 90)::kE P "__doc__" 291 .none::[]) 2) ::
 (nat_lit 92,kY "NoMark" 92 91 83 278 286) ::
 (nat_lit 103,kD (kE P "__module__" 301 (.str "lockstretch.errors" 194)::kE P "__firstlineno__" 305 (.int 17 304)::kE P "__static_attributes__" 306 (.ref 102)::kE P "__doc__" 307 .none::[]) 2) ::
 (nat_lit 104,kY "NoFile" 104 103 95 294 302) ::
 (nat_lit 115,kD (kE P "__module__" 317 (.str "lockstretch.errors" 194)::kE P "__firstlineno__" 321 (.int 19 320)::kE P "__static_attributes__" 322 (.ref 114)::kE P "__doc__" 323 .none::[]) 2) ::
 (nat_lit 116,kY "BadMode" 116 115 107 310 318) ::
 (nat_lit 127,kD (kE P "__module__" 333 (.str "lockstretch.errors" 194)::kE P "__firstlineno__" 337 (.int 21 336)::kE P "__static_attributes__" 338 (.ref 126)::kE P "__doc__" 339 .none::[]) 2) ::
 (nat_lit 128,kY "BadKind" 128 127 119 326 334) ::
 (nat_lit 139,kD (kE P "__module__" 349 (.str "lockstretch.errors" 194)::kE P "__firstlineno__" 353 (.int 23 352)::kE P "__static_attributes__" 354 (.ref 138)::kE P "__doc__" 355 .none::[]) 2) ::
 (nat_lit 140,kY "BadStretch" 140 139 131 342 350) ::
 (nat_lit 155,kC "__init__" "Held.__init__" 370 27 2 0 0 3 150 375) ::
 (nat_lit 156,kF "__init__" "Held.__init__" (aj (aD 12) 0) .none m0 194 155) ::
 (nat_lit 158,kD (kE P "__module__" 365 (.str "lockstretch.errors" 194)::kE P "__firstlineno__" 369 (.int 25 368)::kE P "__init__" 377 (.ref 156)::kE P "__static_attributes__" 379 (.ref 157)::kE P "__doc__" 380 .none::[]) 2) ::
 (nat_lit 159,kY "Held" 159 158 143 358 366) ::
 (nat_lit 170,kD (kE P "__module__" 390 (.str "lockstretch.errors" 194)::kE P "__firstlineno__" 394 (.int 29 393)::kE P "__static_attributes__" 395 (.ref 169)::kE P "__doc__" 396 .none::[]) 2) ::
 (nat_lit 171,kY "Stuck" 171 170 162 383 391) ::
 (nat_lit 182,kD (kE P "__module__" 406 (.str "lockstretch.errors" 194)::kE P "__firstlineno__" 410 (.int 31 409)::kE P "__static_attributes__" 411 (.ref 181)::kE P "__doc__" 412 .none::[]) 2) ::
 (nat_lit 183,kY "NoAsk" 183 182 174 399 407) ::
 (nat_lit 194,kD (kE P "__module__" 422 (.str "lockstretch.errors" 194)::kE P "__firstlineno__" 426 (.int 33 425)::kE P "__static_attributes__" 427 (.ref 193)::kE P "__doc__" 428 .none::[]) 2) ::
 (nat_lit 195,kY "NoBack" 195 194 186 415 423) ::
 (nat_lit 206,kD (kE P "__module__" 438 (.str "lockstretch.errors" 194)::kE P "__firstlineno__" 442 (.int 35 441)::kE P "__static_attributes__" 443 (.ref 205)::kE P "__doc__" 444 .none::[]) 2) ::
 (nat_lit 207,kY "NoText" 207 206 198 431 439) ::
 (nat_lit 215,kc "is_whole" 449 38 1 0 3 210 453) ::
 (nat_lit 216,kf "is_whole" 18 m1 447 215) ::
 (nat_lit 222,kc "is_stretch" 456 40 1 0 3 217 462) ::
 (nat_lit 223,kf "is_stretch" 19 m1 447 222) ::
 (nat_lit 229,kc "lot_of" 465 47 1 0 3 224 472) ::
 (nat_lit 230,kf "lot_of" 20 m1 447 229) ::
 (nat_lit 236,kc "joined" 475 55 2 0 3 231 480) ::
 (nat_lit 237,kf "joined" 21 m1 447 236) ::
 (nat_lit 243,kc "without" 483 57 2 0 3 238 488) ::
 (nat_lit 244,kf "without" 22 m1 447 243) ::
 (nat_lit 250,kc "both" 491 59 2 0 3 245 502) ::
 (nat_lit 251,kf "both" 23 m1 447 250) ::
 (nat_lit 257,kc "meets" 505 73 2 0 3 252 511) ::
 (nat_lit 258,kf "meets" 24 m1 447 257) ::
 (nat_lit 264,kc "gaps_of" 514 76 1 0 3 259 522) ::
 (nat_lit 265,kf "gaps_of" 25 m1 447 264) ::
 (nat_lit 271,kc "reaches" 525 87 2 0 3 266 530) ::
 (nat_lit 272,kf "reaches" 26 m1 447 271) ::
 (nat_lit 278,kc "earlier_end" 533 89 2 0 3 273 538) ::
 (nat_lit 279,kf "earlier_end" 27 m1 447 278) ::
 (nat_lit 285,kc "later_end" 541 95 2 0 3 280 546) ::
 (nat_lit 286,kf "later_end" 28 m1 447 285) ::
 (nat_lit 287,{cls:=.type "tuple",data:=.seq #[.str "shared" 551,.str "alone" 552]}) ::
 (nat_lit 288,{cls:=.type "tuple",data:=.seq #[.str "task" 554,.str "mark" 555]}) ::
 (nat_lit 289,{cls:=.type "tuple",data:=.seq #[.str "read" 557,.str "write" 558,.str "both" 559]}) ::
 (nat_lit 296,kc "is_key" 564 104 2 0 3 291 569) ::
 (nat_lit 297,kf "is_key" 34 m2 549 296) ::
 (nat_lit 303,kc "check_task" 572 106 2 0 3 298 577) ::
 (nat_lit 304,kf "check_task" 35 m2 549 303) ::
 (nat_lit 310,kc "check_awake" 580 109 2 0 3 305 585) ::
 (nat_lit 311,kf "check_awake" 36 m2 549 310) ::
 (nat_lit 317,kc "check_file" 588 113 2 0 3 312 593) ::
 (nat_lit 318,kf "check_file" 37 m2 549 317) ::
 (nat_lit 324,kc "check_mode" 596 116 1 0 3 319 600) ::
 (nat_lit 325,kf "check_mode" 38 m2 549 324) ::
 (nat_lit 331,kc "check_kind" 603 119 1 0 3 326 607) ::
 (nat_lit 332,kf "check_kind" 39 m2 549 331) ::
 (nat_lit 338,kc "check_by" 610 122 1 0 3 333 614) ::
 (nat_lit 339,kf "check_by" 40 m2 549 338) ::
 (nat_lit 352,kc "check_stretch" 624 128 1 0 3 347 628) ::
 (nat_lit 353,kf "check_stretch" 42 m2 549 352) ::
 (nat_lit 359,kc "mark_at" 631 131 3 0 3 354 639) ::
 (nat_lit 360,kf "mark_at" 43 m2 549 359) ::
 (nat_lit 366,kc "mark_of" 642 137 3 0 3 361 649) ::
 (nat_lit 367,kf "mark_of" 44 m2 549 366) ::
 (nat_lit 373,kc "awake_mark" 652 143 3 0 3 368 658) ::
 (nat_lit 374,kf "awake_mark" 45 m2 549 373) ::
 (nat_lit 380,kc "opened_mark" 661 146 2 0 3 375 666) ::
 (nat_lit 381,kf "opened_mark" 46 m2 549 380) ::
 (nat_lit 387,kc "ask_entry" 669 150 2 0 3 382 674) ::
 (nat_lit 388,kf "ask_entry" 47 m2 549 387) ::
 (nat_lit 394,kc "lock_order" 679 155 1 0 3 389 688) ::
 (nat_lit 395,kf "lock_order" 49 m3 677 394) ::
 (nat_lit 399,kQ "lock_rows" "lock_rows" 691 158 2 0 0 3 396 694) ::
 (nat_lit 400,kf "lock_rows" 50 m3 677 399) ::
 (nat_lit 406,kc "told_locks" 697 164 2 0 3 401 702) ::
 (nat_lit 407,kf "told_locks" 51 m3 677 406) ::
 (nat_lit 418,kQ "told_asks" "told_asks" 713 168 1 0 0 3 415 716) ::
 (nat_lit 419,kf "told_asks" 53 m3 677 418) ::
 (nat_lit 425,kc "ask_of" 719 170 6 0 3 420 729) ::
 (nat_lit 426,kf "ask_of" 54 m3 677 425) ::
 (nat_lit 432,kc "clash" 732 173 2 0 3 427 737) ::
 (nat_lit 433,kf "clash" 55 m3 677 432) ::
 (nat_lit 437,kQ "blocking_stretches" "blocking_stretches" 740 175 2 0 0 3 434 743) ::
 (nat_lit 438,kf "blocking_stretches" 56 m3 677 437) ::
 (nat_lit 449,kc "blocking_locks" 752 187 2 0 3 444 757) ::
 (nat_lit 450,kf "blocking_locks" 58 m3 677 449) ::
 (nat_lit 456,kc "asks_are_against" 760 191 2 0 3 451 765) ::
 (nat_lit 457,kf "asks_are_against" 59 m3 677 456) ::
 (nat_lit 461,kQ "blocking_asks" "blocking_asks" 768 197 2 0 0 3 458 771) ::
 (nat_lit 462,kf "blocking_asks" 60 m3 677 461) ::
 (nat_lit 468,kc "is_blocked" 774 202 2 0 3 463 779) ::
 (nat_lit 469,kf "is_blocked" 61 m3 677 468) ::
 (nat_lit 475,kc "first_blocker" 782 204 2 0 3 470 789) ::
 (nat_lit 476,kf "first_blocker" 62 m3 677 475) ::
 (nat_lit 482,kc "keep_lots" 792 210 5 0 3 477 800) ::
 (nat_lit 483,kf "keep_lots" 63 m3 677 482) ::
 (nat_lit 489,kc "free_cells" 803 215 4 0 3 484 812) ::
 (nat_lit 490,kf "free_cells" 64 m3 677 489) ::
 (nat_lit 496,kc "take" 815 218 2 0 3 491 829) ::
 (nat_lit 497,kf "take" 65 m3 677 496) ::
 (nat_lit 503,kc "fall_asleep" 834 231 2 0 3 498 840) ::
 (nat_lit 504,kf "fall_asleep" 67 m4 832 503) ::
 (nat_lit 517,kc "tasks_behind" 853 244 2 0 3 512 863) ::
 (nat_lit 518,kf "tasks_behind" 69 m4 832 517) ::
 (nat_lit 522,kQ "needs_of" "needs_of" 866 249 2 0 0 3 519 869) ::
 (nat_lit 523,kf "needs_of" 70 m4 832 522) ::
 (nat_lit 527,kQ "can_go" "can_go" 872 253 2 0 0 3 524 875) ::
 (nat_lit 528,kf "can_go" 71 m4 832 527) ::
 (nat_lit 532,kQ "stuck_asks" "stuck_asks" 878 255 1 0 0 3 529 881) ::
 (nat_lit 533,kf "stuck_asks" 72 m4 832 532) ::
 (nat_lit 539,kc "give_up_stuck" 884 267 1 0 3 534 889) ::
 (nat_lit 540,kf "give_up_stuck" 73 m4 832 539) ::
 (nat_lit 546,kc "first_unblocked" 892 272 1 0 3 541 897) ::
 (nat_lit 547,kf "first_unblocked" 74 m4 832 546) ::
 (nat_lit 553,kc "grant" 900 277 1 0 3 548 905) ::
 (nat_lit 554,kf "grant" 75 m4 832 553) ::
 (nat_lit 560,kc "settle" 908 283 1 0 3 555 912) ::
 (nat_lit 561,kf "settle" 76 m4 832 560) ::
 (nat_lit 562,kD (kE P "shared" 917 (.str "write" 918)::kE P "alone" 919 (.str "read" 920)::[]) 2) ::
 (nat_lit 568,kc "new_handle" 924 289 2 0 3 563 932) ::
 (nat_lit 569,kf "new_handle" 79 m5 915 568) ::
 (nat_lit 575,kc "add_user" 935 295 3 0 3 570 944) ::
 (nat_lit 576,kf "add_user" 80 m5 915 575) ::
 (nat_lit 582,kc "lead" 947 298 4 0 3 577 955) ::
 (nat_lit 583,kf "lead" 81 m5 915 582) ::
 (nat_lit 606,kc "take_or_wait" 981 326 3 0 3 601 988) ::
 (nat_lit 607,kf "take_or_wait" 85 m5 915 606) ::
 (nat_lit 613,kc "do_begin" 991 336 2 0 3 608 997) ::
 (nat_lit 614,kf "do_begin" 86 m5 915 613) ::
 (nat_lit 620,kc "do_attach" 1000 340 2 0 3 615 1010) ::
 (nat_lit 621,kf "do_attach" 87 m5 915 620) ::
 (nat_lit 627,kc "do_dup" 1013 350 2 0 3 622 1022) ::
 (nat_lit 628,kf "do_dup" 88 m5 915 627) ::
 (nat_lit 634,kc "do_close" 1025 361 2 0 3 629 1032) ::
 (nat_lit 635,kf "do_close" 89 m5 915 634) ::
 (nat_lit 641,kc "do_fork" 1035 365 2 0 3 636 1045) ::
 (nat_lit 642,kf "do_fork" 90 m5 915 641) ::
 (nat_lit 648,kc "do_end" 1048 374 2 0 3 643 1054) ::
 (nat_lit 649,kf "do_end" 91 m5 915 648) ::
 (nat_lit 655,kc "do_lock" 1057 378 2 0 3 650 1070) ::
 (nat_lit 656,kf "do_lock" 92 m5 915 655) ::
 (nat_lit 662,kc "do_unlock" 1073 388 2 0 3 657 1084) ::
 (nat_lit 663,kf "do_unlock" 93 m5 915 662) ::
 (nat_lit 669,kc "do_cancel" 1087 395 2 0 3 664 1093) ::
 (nat_lit 670,kf "do_cancel" 94 m5 915 669) ::
 (nat_lit 676,kc "do_lock_whole" 1096 401 2 0 3 671 1106) ::
 (nat_lit 677,kf "do_lock_whole" 95 m5 915 676) ::
 (nat_lit 683,kc "do_unlock_whole" 1109 406 2 0 3 678 1117) ::
 (nat_lit 684,kf "do_unlock_whole" 96 m5 915 683) ::
 (nat_lit 685,kD (kE P "begin" 1120 (.ref 614)::kE P "attach" 1121 (.ref 621)::kE P "dup" 1122 (.ref 628)::kE P "close" 1123 (.ref 635)::kE P "fork" 1124 (.ref 642)::kE P "end" 1125 (.ref 649)::kE P "lock" 1126 (.ref 656)::kE P "unlock" 1127 (.ref 663)::kE P "cancel" 1128 (.ref 670)::kE P "lock_whole" 1129 (.ref 677)::kE P "unlock_whole" 1130 (.ref 684)::[]) 11) ::
 (nat_lit 691,kc "do_deed" 1143 411 3 0 3 686 1151) ::
 (nat_lit 692,kf "do_deed" 98 m5 915 691) ::
 (nat_lit 703,kQ "__init__" "Tables.__init__" 1168 419 3 0 0 3 700 1171) ::
 (nat_lit 704,kF "__init__" "Tables.__init__" (aj (aD 100) 0) .none m6 1154 703) ::
 (nat_lit 710,kC "put" "Tables.put" 1174 432 4 0 0 3 705 1181) ::
 (nat_lit 711,kF "put" "Tables.put" (aj (aD 100) 1) .none m6 1154 710) ::
 (nat_lit 717,kC "drop" "Tables.drop" 1184 436 3 0 0 3 712 1190) ::
 (nat_lit 718,kF "drop" "Tables.drop" (aj (aD 100) 2) .none m6 1154 717) ::
 (nat_lit 724,kC "undo_to" "Tables.undo_to" 1193 441 2 0 0 3 719 1201) ::
 (nat_lit 725,kF "undo_to" "Tables.undo_to" (aj (aD 100) 3) .none m6 1154 724) ::
 (nat_lit 731,kC "fresh" "Tables.fresh" 1204 449 2 0 0 3 726 1210) ::
 (nat_lit 732,kF "fresh" "Tables.fresh" (aj (aD 100) 4) .none m6 1154 731) ::
 (nat_lit 734,kD (kE P "__module__" 1163 (.str "lockstretch.tables" 1154)::kE P "__firstlineno__" 1167 (.int 417 1166)::kE P "__init__" 1173 (.ref 704)::kE P "put" 1183 (.ref 711)::kE P "drop" 1192 (.ref 718)::kE P "undo_to" 1203 (.ref 725)::kE P "fresh" 1212 (.ref 732)::kE P "__static_attributes__" 1224 (.ref 733)::kE P "__dict__" 1226 (.ref 736)::kE P "__weakref__" 1228 (.ref 737)::kE P "__doc__" 1229 .none::[]) 4) ::
 (nat_lit 735,kL "Tables" 735 734 1156 1164) ::
 (nat_lit 747,kD (kE P "fair" 1246 (.bool false)::[]) 1) ::
 (nat_lit 753,kC "__init__" "Desk.__init__" 1247 456 2 0 1 3 748 1253) ::
 (nat_lit 754,kF "__init__" "Desk.__init__" (aj (aD 102) 0) (.ref 747) m7 1232 753) ::
 (nat_lit 760,kC "perform" "Desk.perform" 1256 463 3 0 0 3 755 1264) ::
 (nat_lit 761,kF "perform" "Desk.perform" (aj (aD 102) 1) .none m7 1232 760) ::
 (nat_lit 767,kC "do" "Desk.do" 1267 473 3 0 0 3 762 1274) ::
 (nat_lit 768,kF "do" "Desk.do" (aj (aD 102) 2) .none m7 1232 767) ::
 (nat_lit 774,kC "begin" "Desk.begin" 1277 478 1 0 0 3 769 1281) ::
 (nat_lit 775,kF "begin" "Desk.begin" (aj (aD 102) 3) .none m7 1232 774) ::
 (nat_lit 776,kD (kE P "mode" 1285 (.str "both" 1284)::[]) 1) ::
 (nat_lit 782,kC "attach" "Desk.attach" 1286 481 3 0 1 3 777 1293) ::
 (nat_lit 783,kF "attach" "Desk.attach" (aj (aD 102) 4) (.ref 776) m7 1232 782) ::
 (nat_lit 784,kD (kE P "at" 1296 .none::[]) 1) ::
 (nat_lit 790,kC "dup" "Desk.dup" 1297 484 3 0 1 3 785 1304) ::
 (nat_lit 791,kF "dup" "Desk.dup" (aj (aD 102) 5) (.ref 784) m7 1232 790) ::
 (nat_lit 797,kC "close" "Desk.close" 1307 487 3 0 0 3 792 1313) ::
 (nat_lit 798,kF "close" "Desk.close" (aj (aD 102) 6) .none m7 1232 797) ::
 (nat_lit 804,kC "fork" "Desk.fork" 1316 490 2 0 0 3 799 1321) ::
 (nat_lit 805,kF "fork" "Desk.fork" (aj (aD 102) 7) .none m7 1232 804) ::
 (nat_lit 811,kC "end" "Desk.end" 1324 493 2 0 0 3 806 1329) ::
 (nat_lit 812,kF "end" "Desk.end" (aj (aD 102) 8) .none m7 1232 811) ::
 (nat_lit 813,kD (kE P "by" 1333 (.str "task" 1332)::kE P "wait" 1334 (.bool false)::[]) 2) ::
 (nat_lit 819,kC "lock" "Desk.lock" 1335 496 5 0 2 3 814 1345) ::
 (nat_lit 820,kF "lock" "Desk.lock" (aj (aD 102) 9) (.ref 813) m7 1232 819) ::
 (nat_lit 821,kD (kE P "by" 1349 (.str "task" 1348)::[]) 1) ::
 (nat_lit 827,kC "unlock" "Desk.unlock" 1350 499 4 0 1 3 822 1358) ::
 (nat_lit 828,kF "unlock" "Desk.unlock" (aj (aD 102) 10) (.ref 821) m7 1232 827) ::
 (nat_lit 834,kC "cancel" "Desk.cancel" 1361 502 2 0 0 3 829 1366) ::
 (nat_lit 835,kF "cancel" "Desk.cancel" (aj (aD 102) 11) .none m7 1232 834) ::
 (nat_lit 836,kD (kE P "wait" 1369 (.bool false)::[]) 1) ::
 (nat_lit 842,kC "lock_whole" "Desk.lock_whole" 1370 505 4 0 1 3 837 1378) ::
 (nat_lit 843,kF "lock_whole" "Desk.lock_whole" (aj (aD 102) 12) (.ref 836) m7 1232 842) ::
 (nat_lit 849,kC "unlock_whole" "Desk.unlock_whole" 1381 508 3 0 0 3 844 1387) ::
 (nat_lit 850,kF "unlock_whole" "Desk.unlock_whole" (aj (aD 102) 13) .none m7 1232 849) ::
 (nat_lit 856,kC "tasks" "Desk.tasks" 1390 511 1 0 0 3 851 1394) ::
 (nat_lit 857,kF "tasks" "Desk.tasks" (aj (aD 102) 14) .none m7 1232 856) ::
 (nat_lit 863,kC "handles" "Desk.handles" 1397 514 2 0 0 3 858 1402) ::
 (nat_lit 864,kF "handles" "Desk.handles" (aj (aD 102) 15) .none m7 1232 863) ::
 (nat_lit 870,kC "mark" "Desk.mark" 1405 518 2 0 0 3 865 1410) ::
 (nat_lit 871,kF "mark" "Desk.mark" (aj (aD 102) 16) .none m7 1232 870) ::
 (nat_lit 879,kD (kE P "by" 1422 (.str "task" 1421)::[]) 1) ::
 (nat_lit 885,kC "probe" "Desk.probe" 1423 524 5 0 1 3 880 1433) ::
 (nat_lit 886,kF "probe" "Desk.probe" (aj (aD 102) 18) (.ref 879) m7 1232 885) ::
 (nat_lit 892,kC "locks" "Desk.locks" 1436 531 2 0 0 3 887 1441) ::
 (nat_lit 893,kF "locks" "Desk.locks" (aj (aD 102) 19) .none m7 1232 892) ::
 (nat_lit 899,kC "whole_locks" "Desk.whole_locks" 1444 535 2 0 0 3 894 1449) ::
 (nat_lit 900,kF "whole_locks" "Desk.whole_locks" (aj (aD 102) 20) .none m7 1232 899) ::
 (nat_lit 913,kC "asks" "Desk.asks" 1473 552 1 0 0 3 908 1477) ::
 (nat_lit 914,kF "asks" "Desk.asks" (aj (aD 102) 22) .none m7 1232 913) ::
 (nat_lit 920,kC "outcome" "Desk.outcome" 1480 555 2 0 0 3 915 1485) ::
 (nat_lit 921,kF "outcome" "Desk.outcome" (aj (aD 102) 23) .none m7 1232 920) ::
 (nat_lit 927,kC "why" "Desk.why" 1488 558 2 0 0 3 922 1494) ::
 (nat_lit 928,kF "why" "Desk.why" (aj (aD 102) 24) .none m7 1232 927) ::
 (nat_lit 939,kQ "deeds" "Desk.deeds" 1504 565 1 0 0 3 936 1507) ::
 (nat_lit 940,kF "deeds" "Desk.deeds" (aj (aD 102) 26) .none m7 1232 939) ::
 (nat_lit 960,kC "again" "Desk.again" 1527 579 1 0 0 3 955 1533) ::
 (nat_lit 961,kF "again" "Desk.again" (aj (aD 102) 29) .none m7 1232 960) ::
 (nat_lit 996,kD (kE P "__module__" 1241 (.str "lockstretch.desks" 1232)::kE P "__firstlineno__" 1245 (.int 454 1244)::kE P "__init__" 1255 (.ref 754)::kE P "perform" 1266 (.ref 761)::kE P "do" 1276 (.ref 768)::kE P "begin" 1283 (.ref 775)::kE P "attach" 1295 (.ref 783)::kE P "dup" 1306 (.ref 791)::kE P "close" 1315 (.ref 798)::kE P "fork" 1323 (.ref 805)::kE P "end" 1331 (.ref 812)::kE P "lock" 1347 (.ref 820)::kE P "unlock" 1360 (.ref 828)::kE P "cancel" 1368 (.ref 835)::kE P "lock_whole" 1380 (.ref 843)::kE P "unlock_whole" 1389 (.ref 850)::kE P "tasks" 1396 (.ref 857)::kE P "handles" 1404 (.ref 864)::kE P "mark" 1412 (.ref 871)::kE P "is_asleep" 1420 (.ref 878)::kE P "probe" 1435 (.ref 886)::kE P "locks" 1443 (.ref 893)::kE P "whole_locks" 1451 (.ref 900)::kE P "may" 1472 (.ref 907)::kE P "asks" 1479 (.ref 914)::kE P "outcome" 1487 (.ref 921)::kE P "why" 1496 (.ref 928)::kE P "ending" 1503 (.ref 935)::kE P "deeds" 1509 (.ref 940)::kE P "undone" 1516 (.ref 947)::kE P "back" 1526 (.ref 954)::kE P "again" 1535 (.ref 961)::kE P "counts" 1542 (.ref 968)::kE P "many_locks" 1548 (.ref 973)::kE P "__eq__" 1556 (.ref 980)::kE P "__len__" 1563 (.ref 987)::kE P "__str__" 1570 (.ref 994)::kE P "__static_attributes__" 1576 (.ref 995)::kE P "__dict__" 1578 (.ref 998)::kE P "__weakref__" 1580 (.ref 999)::kE P "__doc__" 1581 .none::kE P "__hash__" 1582 .none::[]) 5) ::
 (nat_lit 997,kL "Desk" 997 996 1234 1242) ::
 (nat_lit 1007,kc "_law_draw" 1587 605 3 0 3 1002 1596) ::
 (nat_lit 1008,kf "_law_draw" 104 m8 1585 1007) ::
 (nat_lit 1014,kc "_law_begun" 1599 615 0 0 3 1009 1602) ::
 (nat_lit 1015,kf "_law_begun" 105 m8 1585 1014) ::
 (nat_lit 1019,kQ "_law_class_all" "_law_class_all" 1605 617 1 0 0 3 1016 1608) ::
 (nat_lit 1020,kf "_law_class_all" 106 m8 1585 1019) ::
 (nat_lit 1026,kc "_law_heard_all" 1611 627 1 0 3 1021 1619) ::
 (nat_lit 1027,kf "_law_heard_all" 107 m8 1585 1026) ::
 (nat_lit 1033,kc "_law_locking" 1622 635 2 0 3 1028 1631) ::
 (nat_lit 1034,kf "_law_locking" 108 m8 1585 1033) ::
 (nat_lit 1040,kc "_law_others" 1634 655 1 0 3 1035 1640) ::
 (nat_lit 1041,kf "_law_others" 109 m8 1585 1040) ::
 (nat_lit 1047,kc "law" 1643 679 1 0 3 1042 1653) ::
 (nat_lit 1048,kf "law" 110 m8 1585 1047)::[]
noncomputable def ks:List OD:=3::30::31::43::44::55::56::67::68::79::80::91::92::103::104::115::116::127::128::139::140::155::156::158::159::170::171::182::183::194::195::206::207::215::216::222::223::229::230::236::237::243::244::250::251::257::258::264::265::271::272::278::279::285::286::287::288::289::296::297::303::304::310::311::317::318::324::325::331::332::338::339::352::353::359::360::366::367::373::374::380::381::387::388::394::395::399::400::406::407::418::419::425::426::432::433::437::438::449::450::456::457::461::462::468::469::475::476::482::483::489::490::496::497::503::504::517::518::522::523::527::528::532::533::539::540::546::547::553::554::560::561::562::568::569::575::576::582::583::606::607::613::614::620::621::627::628::634::635::641::642::648::649::655::656::662::663::669::670::676::677::683::684::685::691::692::703::704::710::711::717::718::724::725::731::732::734::735::747::753::754::760::761::767::768::774::775::776::782::783::784::790::791::797::798::804::805::811::812::813::819::820::821::827::828::834::835::836::842::843::849::850::856::857::863::864::870::871::879::885::886::892::893::899::900::913::914::920::921::927::928::939::940::960::961::996::997::1007::1008::1014::1015::1019::1020::1026::1027::1033::1034::1040::1041::1047::1048::[]
theorem Lw(P:VU):ks=(KK P).map (·.1):=rfl
noncomputable abbrev Hk:Hook:=kmHook KK ks Lw [225,1043,1029,1036]
noncomputable abbrev Xt(s:OI):Bool:=xlAt qv [] s&&recOk (RowW.records PH.row.toRowW) s
abbrev Mn(w:Py):Prop:=(λos=>(segRunT TF pw w 11 KL 1 7758 (St w os)<|piecesOf (TD pw) (env pw) (cd pw) p0 B).map λr=>(r.1,r.2.2.1,
  (ZE (Sc pw.main.body) (RQ w.params) r.2.1.abs.heap&&YB pw r.2.1.abs.heap&&gensDone r.2.1.abs&&laidKept (RQ w.params) r.2.1.abs.heap),
  openSeen qv ls (Sc pw.main.body) Xt true r.2.1.abs,ks.all (λa=>QW a r.2.1.n),[225,1043,1029,1036].all (λa=>QW a r.2.1.n),ks.map (gt r.2.1.tree),[225,1043,1029,1036].map (gt r.2.1.tree))) =
 λ_=>some (.next,cd pw,true,openGood qv ls,true,true,(KK w.params).map (λp=>some p.2),[225,1043,1029,1036].map λ_=>some (RG #[]))
theorem Nt(w:Py):Mn (w.withFollow "special-get-raises" false):=by
 show(λos=>_)=_;rw[SM,SN,SB,SC]
 kernel_rfl
theorem Nu(w:Py):Mn (w.withFollow "special-get-raises" true):=by
 show(λos=>_)=_;rw[SM,SN,SB,SC]
 kernel_rfl
theorem left:LeftO pw qv ls Xt Hk.obs Hk.val 20000:=FV (K:=KK) (M:=7758) (by kernel_rfl) (by decide) (λs=>by kernel_rfl) (λw os=>by kernel_rfl) (λw os=>by kernel_rfl) (byRow2 "special-get-raises" Nt Nu) (by decide)
noncomputable abbrev rl:UJ:=PH
noncomputable abbrev dL:DefRec:=⟨"law",bq<|RB.aD 110,aS<|RB.aD 110,ae<|RB.aD 110,⟨679,0,695,110⟩⟩
theorem hd1:defOf qv rl.row.name=some (dL,[]):=by kernel_rfl
theorem hd2:rl.row.prog.theDef rl.row.name=some (dL.params,dL.body,dL.scope):=by kernel_rfl
theorem hd3:kwWritten? dL.params.kwonlyargs dL.params.kw_defaults=some []:=by kernel_rfl
theorem hd4:(!rl.row.writes||rl.row.records.isEmpty)=true:=by kernel_rfl
theorem hd5:(chainsOk qv&&opensWell rl.row.prog&&(frees rl.row.toRowW&&rl.row.within.isEmpty))=true:=by kernel_rfl
theorem hd6:rl.row.prog.bare:=⟨rfl,rfl,rfl,rfl,rfl,by decide +kernel⟩
theorem said:rl.wellSaid=true:=by
 unfold OpenLaw.wellSaid OpenRow.wellSaid
 repeat' with_reducible refine look_both ?_ ?_
 all_goals decide +kernel
end OH
namespace L2
open PySem PySem.Spec PyProof.Rows
def jh(cells:List (Str×OD)):List (Str×Rm)->List (Str×OD)->List (Str×OD)
 | [],acc=>acc
 | (n,k)::r,acc=>if k==.free then jh cells r ((n,(cells.lookup n).getD 0)::acc) else jh cells r acc
theorem FW{env:Env}{names:List (Str×Rm)}(h:∀y∈names,y.2=.free->∃c,env.cells.lookup y.1=some c)(acc:List (Str×OD)) :
  (forIn (m:=Sem) names acc λx j=>do
   let (name,kind):=x
   if kind==.free then
    let c <-cellOf env name
    pure (Ud ((name,c)::j))
   else pure (Ud j))=pure (jh env.cells names acc):=by
 induction names generalizing acc with
 | nil=>rfl
 | cons y r g=>
  obtain⟨n,k⟩:=y;have hr:∀y∈r,y.2=.free->∃c,env.cells.lookup y.1=some c:=λy l=>h y (OT _ l);rw[X8];cases d:(k==Qo) with
  | true=>
   have e:k=.free:=by simpa using d
   obtain⟨c,i⟩:=h (n,k) OW e;have f:cellOf env n=pure c:=by unfold cellOf;rw[show env.cells.lookup n=some c from i]
   simp only[d,if_true,f,jh];have:=g hr ((n,c)::acc);rw[show(env.cells.lookup n).getD 0=c by rw[show env.cells.lookup n=some c from i];rfl];exact this
  | false=>
   simp only[d,O5,if_false,jh];exact g hr acc
theorem j5{d:PQ}{env:Env}(h:∀y∈d.names,y.2=.free->∃c,env.cells.lookup y.1=some c):UE d env=pure (jh env.cells d.names []):=by
 have:=FW h [];unfold UE;refine(congrArg (λ(m:Sem (List<|Str×OD))=>m >>= λf=>pure f) this).trans ?_;rfl
theorem ji{cells:List (Str×OD)}{x:Str}{c:OD}:∀{names:List (Str×Rm)} {acc:List (Str×OD)},(∀y∈names,y.2=.free->∃c,cells.lookup y.1=some c)->(∀x c,acc.lookup x=some c->cells.lookup x=some c) ->
  (jh cells names acc).lookup x=some c->cells.lookup x=some c
 | [],acc,_,f,h=>f x c h
 | (n,k)::r,acc,i,f,h=>by
  have hr:∀y∈r,y.2=.free->∃c,cells.lookup y.1=some c:=λy j=>i y (OT _ j);unfold jh at h;split at h
  ·rename_i l;refine ji hr (λz d hz=>?_) h;rw[PL] at hz;split at hz
   ·rename_i e;have e:z=n:=by simpa using e
    subst e;obtain⟨c',g⟩:=i (z,k) OW (by simpa using l);rw[show cells.lookup z=some c' from g] at hz ⊢;exact hz
   ·exact f z d hz
  ·exact ji hr f h
theorem lA{cells:List (Str×OD)}{x:Str}:∀{names:List (Str×Rm)} {acc:List (Str×OD)},((x,Qo)∈names∨∃c,acc.lookup x=some c)->∃c,(jh cells names acc).lookup x=some c
 | [],acc,h=>by
  rcases h with h | h
  ·simp at h
  ·exact h
 | (n,k)::r,acc,h=>by
  unfold jh;by_cases d:(k==Qo)=true
  ·rw[if_pos d];refine lA ?_;rcases h with h | ⟨c,h⟩
   ·rcases OY.mp h with e | h
    ·cases e;exact .inr ⟨_,by rw[PL,beq_self_eq_true]⟩
    ·exact .inl h
   ·right;rw[PL];cases e:(x==n)
    ·exact⟨c,h⟩
    ·exact⟨_,rfl⟩
  ·rw[if_neg d];refine lA ?_;rcases h with h | h
   ·rcases OY.mp h with e | h
    ·cases e;simp at d
    ·exact .inl h
   ·exact .inr h

@[reducible] def dP(X:Cx)(c:PQ)(d:List Str)(C:OD)(s:OI)(H:Hp)(ex:List OD)(pn:List (OD×Obj)):Cx where
 prog:=X.prog
 w:=X.w
 K:=X.K
 mg:=X.mg
 base:=X.base
 A:=X.A
 N:=d
 s₀:=s
 H₀:=H
 env:=compEnvC c (jh X.env.cells c.names []) C X.env
 outer:=X.stack
 stack:=X.stack
 ex:=ex
 fn:=λ_=>false
 calm:=X.calm
 pn:=pn
 xe:=λ_ _=>False

structure aX(up:PQ)(N:List Str)(sc:PQ)(Nc:List Str)(ix:List (Option Nat)):Prop where
 kind:sc.kind=.function
 nocell:∀y∈sc.names,y.2≠.cell
 loc:∀y∈sc.names,y.2=.local->sc.names.lookup y.1=some .local
 free:∀y∈sc.names,y.2=.free->up.names.lookup y.1=some .cell∨up.names.lookup y.1=some .free
 nd:Nc.Nodup
 len:ix.length=Nc.length
 map:∀p∈Nc.zip ix,(match p.2 with
  | none=>true
  | some j=>decide (N[j]?=some p.1)&&decide (up.names.lookup p.1=some .cell∨up.names.lookup p.1=some .free)&&decide ((p.1,Qo)∈sc.names)&&decide (sc.names.lookup p.1=some .free))=true
def jM(ix:List (Option Nat))(σ:St):St:=ix.map λo=>o.bind λj=>σ[j]?.join
def xO(σ c:St):Prop:=σ.length=c.length/\∀(i:Nat) v,σ[i]?=some (some v)->c[i]?=some (some v)
theorem pj{c:PQ}{env:Env}{x:Str}(h:(Vq c env).names.lookup x=some .cell∨(Vq c env).names.lookup x=some .free)(hn:∀y∈c.names,y.2≠.cell):(x,Qo)∈c.names:=by
 have key:∀names:List (Str×Rm),(∀y∈names,y.2≠.cell)->∀k,(names.map λ(n,k)=>if (k==Qo&&env.scope.kind==.function&&env.kindOf n==some .cell) then(n,SD) else(n,k)).lookup x=some k->(k=.cell∨k=.free)->(x,Qo)∈names:=by
  intro names
  induction names with
  | nil=>intro _ k h;simp at h
  | cons y r g=>
   intro hn k h hk;obtain⟨n,f⟩:=y;have hr:∀y∈r,y.2≠.cell:=λy i=>hn y (OT _ i);rw[O8] at h;dsimp only at h;by_cases d:(f==Qo&&env.scope.kind==.function&&env.kindOf n==some .cell)=true
   ·rw[if_pos d,PL] at h;cases e:(x==n)
    ·rw[e] at h;exact OT _ (g hr k h hk)
    ·have e:x=n:=by simpa using e
     subst e;have:f=.free:=by
      simp only[OZ,beq_iff_eq] at d;exact d.1.1
     subst this;exact OW
   ·rw[if_neg d,PL] at h;cases e:(x==n)
    ·rw[e] at h;exact OT _ (g hr k h hk)
    ·rw[e] at h;have e:x=n:=by simpa using e
     subst e;have h:f=k:=by simpa using h
     subst h;rcases hk with hk | hk
     ·exact absurd hk (hn _ OW)
     ·subst hk;exact OW
 rcases h with h | h
 ·exact key c.names hn _ h (.inl rfl)
 ·exact key c.names hn _ h (.inr rfl)
theorem t8{c:PQ}{env:Env}{x:Str}:c.names.lookup x=some .free->(Vq c env).names.lookup x=some .cell∨(Vq c env).names.lookup x=some .free:=by
 have key:∀names:List (Str×Rm),names.lookup x=some .free->(names.map λ(n,k)=>if (k==Qo&&env.scope.kind==.function&&env.kindOf n==some .cell) then(n,SD) else(n,k)).lookup x=some .cell ∨
   (names.map λ(n,k)=>if (k==Qo&&env.scope.kind==.function&&env.kindOf n==some .cell) then(n,SD) else(n,k)).lookup x=some .free:=by
  intro names
  induction names with
  | nil=>intro h;simp at h
  | cons y r d=>
   intro h;obtain⟨n,g⟩:=y;rw[O8];dsimp only;rw[PL] at h;by_cases f:(g==Qo&&env.scope.kind==.function&&env.kindOf n==some .cell)=true
   ·rw[if_pos f];cases e:(x==n)
    ·rw[e] at h;simp only[PL,e];exact d h
    ·simp only[PL,e];exact .inl trivial
   ·rw[if_neg f];cases e:(x==n)
    ·rw[e] at h;simp only[PL,e];exact d h
    ·rw[e] at h;simp only[PL,e];exact .inr (by simpa using h)
 exact key c.names

section
variable{sc:PQ}{Nc:List Str}
theorem ay.lcCl(I:ay X pins σ H s)(S:aX X.env.scope X.N sc Nc ix):∀y∈sc.names,y.2=.free->∃c,X.env.cells.lookup y.1=some c:=λy d e=>I.ok.has y.1 (S.free y d e)

theorem ay.lcOk{C:OD}{i:List OD}{pn:List (OD×Obj)}(I:ay X pins σ H s)(S:aX X.env.scope X.N sc Nc ix)(j:s.heap.objs.size≤C)(d:∀b∈i,i7 X pins H b)(f:∀b∈i,b<s.heap.objs.size) :
  (dP X sc Nc C s H i pn).Ok:=by
 have g:=I.lcCl S;have sub:∀x c,(jh X.env.cells sc.names []).lookup x=some c->X.env.cells.lookup x=some c:=λx c h=>ji g (λ_ _ z=>by simp at z) h;refine⟨I.ok.mod,S.kind,I.ok.glob,I.ok.blt,j,λx y c r p=>I.ok.inj x y c (sub _ _ r) (sub _ _ p),λx l=>?_,λx c h=>(by cases h),I.ok.hd,I.ok.frames,.inl rfl,λb hb=>⟨?_,λx c e=>(d b hb).2.2.2.2.1 x c (sub x c e)⟩,
  I.bs,PV I.ok.bsz I.sz,λb o e hb=>?_,λb hb m=>?_,I.stack,I.stkFree⟩
 ·exact lA (.inl<|pj l S.nocell)
 ·exact O0 (O7 (f b hb) j)
 ·rcases(d b hb).2.2.2.1 with z | z
  ·exact I.ok.noex b o e z
  ·exact absurd (O7 (OO e)<|PV I.ok.bsz z) (QL _)
 ·rcases OY.mp (I.stkSub b m) with z | z
  ·exact(d b hb).2.1 z
  ·exact(d b hb).2.2.1 z

theorem FX{N:List Str}{up:PQ}(S:aX up N sc Nc ix){i:Nat}{x:Str}{v:V}(h:Nc[i]?=some x)(c:(jM ix σ)[i]?=some (some v)) :
  ∃j:Nat,N[j]?=some x/\σ[j]?=some (some v)/\(up.names.lookup x=some .cell∨up.names.lookup x=some .free)/\(x,Qo)∈sc.names/\sc.names.lookup x=some .free:=by
 unfold jM at c;rw[Pv] at c;cases e:ix[i]? with
 | none=>rw[e] at c;cases c
 | some o=>
  rw[e] at c;cases o with
  | none=>simp at c
  | some j=>
   have g:(x,some j)∈Nc.zip ix:=by
    refine O9 (i:=i) ?_;rw[UK];exact⟨h,e⟩
   have q:=S.map _ g;simp only[OZ,decide_eq_true_eq] at q;obtain⟨⟨⟨q1,q2⟩,f⟩,d⟩:=q;refine⟨j,q1,?_,q2,f,d⟩;have c:(σ[j]?).join=some v:=by simpa using c
   cases z:σ[j]? with
   | none=>rw[z] at c;cases c
   | some u=>
    rw[z] at c;have c:u=some v:=c;rw[c]

theorem ay.lcStart{fp:List OD}{h₁:Pk}{tk:Nat}(I:ay X pins σ H s)(S:aX X.env.scope X.N sc Nc ix)(hf:∀b∈fp,i7 X pins H b)(Y:∀b∈fp,b<s.heap.objs.size)
  (U:∃m,h₁.Ns s.heap.objs.size m) (Q:∀b o,s.heap.get? b=some o->h₁.get? b=some o) :
  ay (dP X sc Nc s.heap.objs.size s H fp<|X.pn++pins) [] (jM ix σ) H {s with heap:=h₁,toks:=tk}:=by
 have Z:=I.lcCl S;have sub:∀x c,(jh X.env.cells sc.names []).lookup x=some c->X.env.cells.lookup x=some c:=λx c h=>ji Z (λ_ _ z=>by simp at z) h;have f:∀c v,s.heap.IsCell c v->h₁.IsCell c v:=λc v ⟨o,ho,hd⟩=>⟨o,Q c o ho,hd⟩
 obtain⟨m,hn⟩:=U;refine⟨I.lcOk S (OU _) hf Y,rfl,I.bare,Un.kept Q,⟨m,hn,λi x v h1 h2 _=>?_⟩,λx c h=>?_,I.hok.fresh<|OU _,λx c h=>I.freeC x c (sub x c h),λp C=>?_,I.hok.kept Q,?_⟩
 ·obtain⟨j,e1,e2,e3,e4,e5⟩:=FX S h1 h2;obtain⟨m',hn',hl⟩:=I.loc;obtain⟨u,r,l⟩:=hl j x v e1 e2 (.inr e3);refine⟨u,r,.inr ⟨t8 e5,?_⟩⟩;have O:X.env.kindOf x=some .cell∨X.env.kindOf x=some .free:=e3;rcases l with ⟨k,_⟩ | ⟨k,c,hc,g⟩
  ·rw[k] at O;rcases O with z | z<;>cases z
  ·obtain⟨c',L⟩:=lA (cells:=X.env.cells) (names:=sc.names) (acc:=[]) (.inl e4);have:=sub x c' L;rw[hc] at this;cases this;exact⟨c,L,f _ _ g⟩
 ·obtain⟨v,hv⟩:=I.cell x c (sub x c h);exact⟨v,f _ _ hv⟩
 ·have C:p∈X.pn++pins:=by
   have C:p∈(X.pn++pins)++[]:=C
   rwa [Ra] at C
  obtain⟨e,n,ne,nf,d⟩:=I.pin p C;refine⟨Q _ _ e,n,O0<|OO e,λhm=>?_,d⟩;rcases OY.mp (I.stkSub p.1 hm) with z | z
  ·exact ne z
  ·exact nf z
 ·unfold jM;rw[Ps];exact S.len

theorem ay.lcEnd{C D:OD}{j:List OD}{pn:List (OD×Obj)}{m:St}{f:Hp}{g:OI}{o:HO}(I:ay X pins σ H s)(l:ay (dP X sc Nc C s H (D::j) pn) [] m f g)
  (i:∀b∈D::j,i7 X pins H b) (x:f D=none) (ho:bj X.prog X.w (upd f D o) g.heap D o):ay X pins σ (upd f D o) g:=by
 have hb:Un (io X.stack) (D::j) H f s.heap g.heap:=l.base;have p:H D=none:=(i D OW).1;have un:Un (io X.stack) (D::j) H (upd f D o) s.heap g.heap:=by
  have ne:∀b,b∉D::j->b≠D:=λb h z=>h (z▸OW);have d:∀b u,H b=some u->b≠D:=λb u e z=>by subst z;rw[p] at e;cases e
  exact⟨hb.keep,hb.slot,λb o q n r=>by rw[al (ne b r)];exact hb.free b o q n r,hb.there,λb xs q=>by rw[al (d b _ q)];exact hb.tups b xs q,λb o u q=>by rw[al (d b _ q)];exact hb.frzs b o u q,
   λb ps q=>by rw[al (d b _ q)];exact hb.tbls b ps q⟩
 have hok:i6 X.prog X.w (upd f D o) g.heap:=λb u e=>by
  by_cases h:b=D
  ·subst h;rw[aq] at e;cases e;exact ho
  ·rw[al h] at e;refine(l.hok b u e).stay (λ_ _ _ q=>q) (λc q=>?_) λc xs q=>?_
   ·rw[al (by intro z;subst z;rw[x] at q;cases q)];exact q
   ·rw[al (by intro z;subst z;rw[x] at q;cases q)];exact q
 exact I.call' l.os un hok l.bare λb hb=>⟨(i b hb).2.2.2.1,(i b hb).2.1,(i b hb).2.2.2.2.1,(i b hb).2.2.2.2.2⟩
end
def nW(X:Cx)(d:List O4)(f:TT):Prop :=
 ∀(pins:List (OD×Obj)) (s:OI) (σ:St) (H:Hp) (Q:Bool->Hp->Prop),ay X pins σ H s->f σ H Q ->
  OM (OP X.prog X.w) X.A (forIn d true λc r=>if r=true then do let ok <-WL c X.env (Pq c X.env);pure (Ud ok) else pure (Ud r)) (TP X pins σ Q) X.xe s
def Nv:TT:=λ_ H Q=>Q true H
theorem Dj:nW X [] Nv:=λ_ _ _ H _ I h=>OE ⟨H,I,h⟩
theorem Dk{c:O4}{t:TT}(h:PT X c t):nW X [c] t:=by
 intro pins s σ H Q I d;rw[X8];simp only[if_true];refine OB (OB<|bi (h pins s σ H Q I d) λb f q=>?_);exact OE (OE q)

def FY(ix:List (Option Nat))(j:TI)(g:TG)(l:TT)(o:TE):TE:=λσ H Q=>j σ H λJ H1=>∃W:Nat->Nat->List V->Hp->Prop,(∃m,W 0 m [] H1)/\∀i m ys H,W i m ys H->ys.length<OR /\
 ((J.stop i H/\∀p,H p=none->Q (.ref p) (upd H p<|.lst ys))∨(J.go i H/\∀x h,J.yld i H x h->g x (jM ix σ) h λc u=>xO (jM ix σ) c/\l c u λb f=>
  if b=true then o c f λy r=>∃d,d < m/\W (i+1) d (ys++[y]) r else ∃d,d < m/\W (i+1) d ys f))

structure Gt(P:Ph)(w:Py)(ε:Type)(sc:PQ)(tg iter:O4)(ifs:List O4) where
 ty:String
 dt:Data
 dk:sizeOk dt
 fr:({cls:=.type ty,data:=dt}:Obj).isFreed=false
 mo:List ε->HO
 CE:O4
 fin:OD->Env->Sem Unit
 tf:List ε->St->Hp->(List ε->Hp->Prop)->Prop
 r0:∀{H h D},h.get? D=some {cls:=.type ty,dict:=none,data:=dt}->D≠QO->bj P w H h D (mo [])
 rO:∀{H h D ys},bj P w H h D (mo ys)->∃o,h.get? D=some o/\(∀v,o.data≠.cell v)/\∀{H' h'},h'.get? D=some o->bj P w H' h' D (mo ys)
 ht:∀it D env,(OP P w).den (.compLoop CE 0 it (.ref D) env)=(do
   Rp iter.pos
   match <-UU it with
   | none=>pure (.done .next)
   | some v=>
    T9 tg it v
    Vi tg env v
    let mut ok:=true
    for c in ifs do
     if ok then ok <-WL c env (Pq c env)
    if ok then fin D env
    again (.compLoop CE 0 it (.ref D) env):Sem Fin).onRaise λx=>do Sg x env;theTreesLotGoes x
 un:∀A it D env,Vj A (.compLoop CE 0 it D env)=A
 hs:∀{A R s it acc env},RX (OP P w) A (.compLoop CE 0 it acc env) R s->OM (OP P w) A (Xy it) (λit' s'=>RX (OP P w) A (.compLoop CE 0 it' acc env) R s') (notedBy (OP P w) A env λx s'=>R (.error x) s') s->RX (OP P w) A (.compStart CE 0 it acc env) R s
 ev:∀env,∃p,Pq CE env=Zv CE sc env p (newObj (.type ty) dt none) false (Pq iter env)
 eu:∀env f,∃p,evalThenUse CE env f=(do let _ <-Zv CE sc env p (newObj (.type ty) dt none) false (Pq iter env) (some f))
 cl:clausesOf CE=[⟨tg,iter,ifs,0⟩]
def PF{f:Type}{j:PQ}{i iter:O4}{h:List O4}(X:Cx)(G:Gt P w f j i iter h):Prop :=
 ∀(pins:List (OD×Obj)) (D:OD) (ys:List f) (s:OI) (σ:St) (H:Hp) (Q:List f->Hp->Prop),ay X pins σ H s->(∀{d s'},ay X pins σ d s'->bj X.prog X.w (λ_=>none) s'.heap D (G.mo ys))->ys.length<OR->G.tf ys σ H Q ->
  OM (OP X.prog X.w) X.A (G.fin D X.env) (λ_ s'=>∃c d g h' t',s'={g with heap:=h',toks:=t'}/\ay X pins σ d g/\QA D g.heap h'/\bj X.prog X.w (λ_=>none) h' D (G.mo c)/\Q c d) X.xe s
def Od{h:Type}{C:PQ}{z iter:O4}{f:List O4}(ix:List (Option Nat))(r:TI)(g:TG)(u:TT)(G:Gt P w h C z iter f):TE:=λσ H Q=>r σ H λJ H1=>∃W:Nat->Nat->List h->Hp->Prop,(∃m,W 0 m [] H1)/\∀i m ys H,W i m ys H->ys.length<OR /\
 ((J.stop i H/\∀p,H p=none->Q (.ref p) (upd H p<|G.mo ys))∨(J.go i H/\∀x l,J.yld i H x l->g x (jM ix σ) l λc L=>xO (jM ix σ) c/\u c L λb j=>
  if b=true then G.tf ys c j λo I=>∃d,d < m/\W (i+1) d o I else ∃d,d < m/\W (i+1) d ys j))
section
variable{sc:PQ}{Nc:List Str}{kx elt tg iter:O4}{ifs:List O4}{wi:TI}{g:TG}{tt:TT}{tk te:TE}{ε:Type}{G:Gt X.prog X.w ε sc tg iter ifs}
theorem vJ{f:OI}{it:OD}{Y:List OD}{tn:Nat->Pk->Prop}{J:It}{Z:Hp}{RR:OC->OD->Result->OI->Prop} 
  (hc:X.calm=true) (S:aX X.env.scope X.N sc Nc ix) (hg:∀C s H ex pn,PG (dP X sc Nc C s H ex pn) tg g) (hif:∀C s H ex pn,nW (dP X sc Nc C s H ex pn) ifs tt) (he:∀C s H ex pn,PF (dP X sc Nc C s H ex pn) G)
  (I:ay X pins σ Z f) (T:AF X.prog X.w X.K tg J Y it tn) (st:tn 0 f.heap) (hf:∀b∈Y,i7 X pins Z b)
  (W:Nat->Nat->List ε->Hp->Prop) (h0:∃m,W 0 m [] Z) (Qe:List ε->Hp->Prop)
  (turn:∀i m ys H,W i m ys H->ys.length<OR/\((J.stop i H/\Qe ys H)∨(J.go i H/\∀x j,J.yld i H x j->g x (jM ix σ) j λσ2 Z=>xO (jM ix σ) σ2/\tt σ2 Z λb H3=>
   if b=true then G.tf ys σ2 H3 λzs H4=>∃m',m' < m/\W (i+1) m' zs H4 else ∃m',m' < m/\W (i+1) m' ys H3)))
  (hRR:∀(D C:OD) (ys:List ε) (He:Hp) (se:OI),ay X pins σ (upd He D<|G.mo ys) se->He D=none->i7 X pins (upd He D<|G.mo ys) C->(∃m,se.heap.Ns C m)->C≠D->Qe ys He->RR (.ref D) C (.ok .next) se) :
  OM (OP X.prog X.w) X.A (newObj (.type G.ty) G.dt none) (λacc U=>OM (OP X.prog X.w) X.A (newFunctionEnv sc X.env.globals (jh X.env.cells sc.names []) [] X.env.qual none .none<|some X.env) (λcenv s₄=>
   RX (OP X.prog X.w) X.A (.compStart G.CE 0 (.ref it) acc {cenv with scope:=Vq sc X.env}) (RR acc cenv.locals) s₄) E U) E f:=by
 refine PB (TY S.nocell (by intro y hy;simp at hy) (λh₁ O L=>?_) S.kind) G.dk;dsimp only at O L ⊢;generalize hH2:f.heap.push {cls:=.type G.ty,dict:=none,data:=G.dt}=Q at O L ⊢;have hC:Q.objs.size=f.heap.objs.size+1:=by rw[<-hH2,RL]
 have k3:∀b o,f.heap.get? b=some o->Q.get? b=some o:=λb o e=>hH2▸OF _ e;have gD:bj X.prog X.w (λ_=>none) Q f.heap.objs.size (G.mo []):=G.r0 (hH2▸OQ _ G.fr) (Qp<|O0 I.big);have I3:ay X pins σ Z {f with heap:=Q}:=I.kept (t':=f.toks) k3;have nD:Z f.heap.objs.size=none:=I.hok.fresh (OU _);have fD:i7 X pins Z f.heap.objs.size:=I.fpOk (OU _) nD;have fpsz:∀b∈Y,b<f.heap.objs.size:=λb hb=>by
  obtain⟨o,e,_⟩:=T.obj 0 _ st b hb;exact OO e
 have rq:∀b∈f.heap.objs.size::Y,i7 X pins Z b:=λb hb=>by
  rcases OY.mp hb with e | hb
  ·subst e;exact fD
  ·exact hf b hb
 have k1:∀b o,Q.get? b=some o->h₁.get? b=some o:=λb o e=>L.extBut b o (O0<|OO e) (OF _ e);have I4:ay (dP X sc Nc Q.objs.size {f with heap:=Q} Z (f.heap.objs.size::Y)<|X.pn++pins) [] (jM ix σ) Z {f with heap:=h₁,toks:=f.toks+([]:List (Str×OC)).length} :=
  I3.lcStart S rq (λb hb=>by
   show b<Q.objs.size;rw[hC];rcases OY.mp hb with e | hb
   ·rw[e];exact P6 _
   ·exact Sk (fpsz b hb)) ⟨_,O⟩ k1
 generalize hXc:dP X sc Nc Q.objs.size {f with heap:=Q} Z (f.heap.objs.size::Y) (X.pn++pins)=l at I4;have eE:l.env=compEnvC sc (jh X.env.cells sc.names []) Q.objs.size X.env:=by rw[<-hXc]
 have eP:l.prog=X.prog:=by rw[<-hXc]
 have eW:l.w=X.w:=by rw[<-hXc]
 have eK:l.K=X.K:=by rw[<-hXc]
 have eA:l.A=X.A:=by rw[<-hXc]
 have eC:l.calm=true:=by rw[<-hXc];exact hc
 have eX:l.xe=λ_ _=>False:=by rw[<-hXc]
 have hg':PG l tg g:=by rw[<-hXc];exact hg _ _ _ _ _
 have hif':nW l ifs tt:=by rw[<-hXc];exact hif _ _ _ _ _
 have he':PF l G:=by rw[<-hXc];exact he _ _ _ _ _
 have eF:l.fs=io X.stack:=by rw[<-hXc]
 have eEx:l.ex=f.heap.objs.size::Y:=by rw[<-hXc]
 have ePn:l.pn=X.pn++pins:=by rw[<-hXc]
 have hcl:=I.lcCl S;have sub:∀x c,(jh X.env.cells sc.names []).lookup x=some c->X.env.cells.lookup x=some c:=λx c h=>ji hcl (λ_ _ z=>by simp at z) h;have szAll:∀b∈f.heap.objs.size::Y,b≠Q.objs.size:=λb hb=>by
  rw[hC];rcases OY.mp hb with e | hb
  ·rw[e];exact O0 (P6 _)
  ·exact O0 (Sk<|fpsz b hb)
 have fpD:∀b∈Y,f.heap.objs.size≠b:=λb hb=>So (fpsz b hb);have stat:∀{j:Hp} {pp:List (OD×Obj)},∀b∈f.heap.objs.size::Y,j b=none->(∀p∈pp,p.1≠b)->i7 l pp j b:=λ{j pp} b hb hn hpp=>by
  refine⟨hn,?_,?_,.inl<|by rw[eEx];exact hb,?_,?_⟩
  ·rw[eE];exact szAll b hb
  ·rw[eF];intro hm;rcases OY.mp (I.stkSub b hm) with z | z
   ·exact(rq b hb).2.1 z
   ·exact(rq b hb).2.2.1 z
  ·rw[eE];intro x c e;exact(rq b hb).2.2.2.2.1 x c (sub x c e)
  ·rw[ePn];intro p hp;rcases PN.mp hp with hp | hp
   ·exact(rq b hb).2.2.2.2.2 p hp
   ·exact hpp p hp
 obtain⟨m0,w0⟩:=h0;have loop:∀U:OI,U={f with heap:=h₁,toks:=f.toks+([]:List (Str×OC)).length} ->
   RX (OP X.prog X.w) X.A (.compLoop G.CE 0 (.ref it) (.ref f.heap.objs.size)<|compEnvC sc (jh X.env.cells sc.names []) Q.objs.size X.env) (RR (.ref f.heap.objs.size) Q.objs.size) U:=by
  rintro U rfl;refine codeAny_loop rfl (λn s'=>∃i j vs,ay l [] (jM ix σ) j s'/\tn i s'.heap/\(∀b∈f.heap.objs.size::Y,j b=none)/\bj X.prog X.w (λ_=>none) s'.heap f.heap.objs.size (G.mo vs)/\W i n vs j) ?_ m0
   ⟨0,Z,[],I4,T.keep _ _ _ st λb hb o e=>k1 b o (k3 b o e),λb hb=>(rq b hb).1,gD.stay (λb o _ e=>k1 b o e) (λ_ q=>q) λ_ _ q=>q,w0⟩
  rintro n s5 ⟨i,H5,vs,I5,st5,fr5,rv5,w5⟩;obtain⟨o5,hd5,hc5,hr5⟩:=G.rO rv5;rw[G.un,G.ht];refine wpAny_noted ?_;refine OB (Qm<|OB ?_);obtain⟨hsz,hturn⟩:=turn i n vs H5 w5;have pD:∀{j:Hp} {sx:OI} {σx:St} {o:Obj},ay l [] σx j sx->j f.heap.objs.size=none->sx.heap.get? f.heap.objs.size=some o->(∀v,o.data≠.cell v)->ay l [(f.heap.objs.size,o)] σx j sx:=λ{j sx σx o} Ix hn ho hd=>
   Ix.pins_of λp hp=>by
    have e:p=(f.heap.objs.size,o):=by simpa using hp
    subst e;have q:i7 l [] j f.heap.objs.size:=stat _ OW hn (λp hp=>by simp at hp);exact⟨ho,hn,q.2.1,q.2.2.1,hd⟩
  have f5:∀{j:Hp} {o:Obj},(∀b∈Y,j b=none)->∀b∈Y,i7 l [(f.heap.objs.size,o)] j b:=λ{j o} fr b hb=>stat b (OT _ hb) (fr b hb) (λp hp=>by
   have e:p=(f.heap.objs.size,o):=by simpa using hp
   subst e;exact fpD b hb)
  have I5p:=pD I5 (fr5 _ OW) hd5 hc5;have fr5':∀b∈Y,H5 b=none:=λb hb=>fr5 b (OT _ hb);rcases hturn with ⟨stop,qe⟩ | ⟨go,step⟩
  ·have q:=T.done l eP eW eK eC i _ s5 (jM ix σ) H5 (λ_ _=>False) I5p (f5 fr5') st5 stop;rw[eA] at q;refine Pf q (λr s6 ⟨hr,I6⟩=>?_) λ_ _ z=>z.elim;subst hr;refine OE ?_;have hD6:=I6.pin (f.heap.objs.size,_) (OV _ OW);have I6':ay (dP X sc Nc Q.objs.size {f with heap:=Q} Z (f.heap.objs.size::Y)<|X.pn++pins) [] (jM ix σ) H5 s6:=by rw[hXc];exact I6.pins_of (λp hp=>by simp at hp)
   have Ie:=I3.lcEnd (o:=G.mo vs) I6' rq hD6.2.1 (hr5 hD6.1);have fr6:H5 Q.objs.size=none:=I6'.free;have neC:Q.objs.size≠f.heap.objs.size:=Qp (szAll _ OW);obtain⟨m6,hn6,_⟩:=I6'.loc;refine hRR _ _ vs H5 s6 Ie hD6.2.1 (I3.fpOk (OU _) ?_) ⟨m6,hn6⟩ neC qe;rw[al neC];exact fr6
  ·have q:=T.item l eP eW eK eC i _ s5 (jM ix σ) H5 (λ_ _=>False) I5p (f5 fr5') st5 go;rw[eA] at q;refine Pf q (λr s6 ⟨u,hr,h6⟩=>?_) λ_ _ z=>z.elim;subst hr;refine OB (Pf h6 (λ_ s7 z9=>?_) λ_ _ z=>z.elim);obtain⟨x,H7,I7,r7,y7,st7,fr7⟩:=z9;have I7':=I7.pinned (f5 fr7) (T.obj _ _ st7);have q8:=hg' _ s7 (jM ix σ) H7 x u _ I7' r7 (step x H7 y7);rw[eP,eW,eA,eE,eX] at q8;refine OB (Pf q8 (λ_ s8 z9=>?_) λ_ _ z=>z.elim);obtain⟨σ8,H8,I8,q8⟩:=z9;obtain⟨kp,q8⟩:=q8;have q9:=hif' _ s8 σ8 H8 _ I8 q8;rw[eP,eW,eA,eE,eX] at q9;refine OB (Pf q9 (λb s9 ⟨H9,I9,q9⟩=>?_) λ_ _ z=>z.elim)
   -- what the pins say behind a step
   have back:∀{j:Hp} {sx:OI},ay l ([(f.heap.objs.size,o5)]++oW Y s7.heap) σ8 j sx ->
     ay l [] (jM ix σ) j sx/\tn (i+1) sx.heap/\(∀b∈f.heap.objs.size::Y,j b=none)/\bj X.prog X.w (λ_=>none) sx.heap f.heap.objs.size (G.mo vs):=λ{j sx} Ix=>by
    have pd:=Ix.pin (f.heap.objs.size,_) (OV _ OW);refine⟨(Ix.pins_of (pins':=[])<|λp hp=>by simp at hp).weak kp.1 kp.2,T.keep _ _ _ st7 λb hb o e=>(Ix.pin (b,o)<|OV _<|OV _<|iq hb e).1,λb hb=>?_,hr5 pd.1⟩;rcases OY.mp hb with e | hb
    ·rw[e];exact pd.2.1
    ·obtain⟨o,e,d⟩:=T.obj _ _ st7 b hb;exact(Ix.pin (b,o)<|OV _<|OV _<|iq hb e).2.1
   cases b with
   | false=>
    obtain⟨m',hm,w9⟩:=(by simpa using q9:∃m',m' < n/\W (i+1) m' vs H9)
    obtain⟨a1,a2,a3,a4⟩:=back I9;exact OE ⟨rfl,m',hm,i+1,H9,vs,a1,a2,a3,a4,w9⟩
   | true=>
    have q10:=he' _ f.heap.objs.size vs s9 σ8 H9 _ I9 (λIx=>by rw[eP,eW];exact(back Ix).2.2.2) hsz (by simpa using q9);rw[eP,eW,eA,eE,eX] at q10;refine OB (Pf q10 (λ_ s10 z9=>?_) λ_ _ z=>z.elim);obtain⟨ys,H10,s11,h',t',e10,I10,hsb,hp,m',hm,w10⟩:=z9;subst e10;obtain⟨a1,a2,a3,_⟩:=back I10;have fd:i7 l [] H10 f.heap.objs.size:=stat _ OW (a3 _ OW) (λp hp=>by simp at hp);exact OE ⟨rfl,m',hm,i+1,H10,ys,a1.turned (it:=f.heap.objs.size) (λb o hb e=>(hsb.2 b hb).trans e) fd.1 fd.2.1 fd.2.2.2.1 fd.2.2.2.2.1 fd.2.2.2.2.2,T.keep _ _ _ a2 λb hb o e=>(hsb.2 b<|Qp<|fpD b hb).trans e,a3,hp,w10⟩
 exact G.hs (loop _ rfl) (T.self _ 0 _ _ _ (T.keep _ _ _ st λb hb o e=>k1 b o (k3 b o e))<|loop _ rfl)

theorem ay.letGo{C:OD}{h':Pk}(I:ay X pins σ H s)(f:i7 X pins H C)(hs:QA C s.heap h'):ay X pins σ H {s with heap:=h'} :=
 I.turned (t':=s.toks) (λb o hb e=>(hs.2 b hb).trans e) f.1 f.2.1 f.2.2.2.1 f.2.2.2.2.1 f.2.2.2.2.2

theorem HM(u:X.calm=true)(S:aX X.env.scope X.N sc Nc ix)(l:PI X tg iter wi)(o:∀C s H ex pn,PG (dP X sc Nc C s H ex pn) tg g)(f:∀C s H ex pn,nW (dP X sc Nc C s H ex pn) ifs tt)(r:∀C s H ex pn,PF (dP X sc Nc C s H ex pn) G)(hs:∀x,Qu iter X.env x=pure x):PE X G.CE (Od ix wi g tt G):=by
 intro pins s σ H Q I h;obtain⟨_,e⟩:=G.ev X.env;rw[e];refine UW (use:=none) G.cl hs (j5<|I.lcCl S) S.kind S.loc (bi (l pins s σ H _ I h) λv s1 U=>bi U λj s2 O=>?_);obtain⟨it,fp,tn,J,H2,e,I2,T,c,Z,W,i,turn⟩:=O;subst e;refine vJ u S o f r I2 T c Z W i (λys H=>∀p,H p=none->Q (.ref p) (upd H p<|G.mo ys)) turn (RR:=λacc C=>compPost (OP X.prog X.w) X.A X.xe none (EP X pins σ Q) acc C) ?_;intro D C ys He se Ie z Y hn L q;obtain⟨m,hn⟩:=hn;exact⟨m,hn,λh' d=>⟨.ref D,_,Ie.letGo Y d,rfl,q D z⟩⟩
theorem vK{i:Nat}{x:Str}{pos' c:Pos}(hc:X.calm=true)(hN:X.N.Nodup)(Y:X.N[i]?=some x)(u:X.env.scope.names.lookup x=some .local)(S:aX X.env.scope X.N sc Nc ix)(hi:PI X tg iter wi)(hg:∀C s H ex pn,PG (dP X sc Nc C s H ex pn) tg g)
  (o:∀C s H ex pn,nW (dP X sc Nc C s H ex pn) ifs tt) (he:∀C s H ex pn,PF (dP X sc Nc C s H ex pn) G)
  (f:Qq G.CE (some<|.Name x pos') c.line X.env=pure true) (hs:∀x,Qu iter X.env x=pure x):PS X (.Assign [.Name x pos'] G.CE c) (jc (Od ix wi g tt G)<|fQ i):=by
 intro pins s σ H D I h;rw[exec_Assign_Name_used _ _ _ _ f];refine OB (Qm<|OB ?_);obtain⟨_,e⟩:=G.eu X.env (Vi (.Name x pos') X.env);rw[e];refine OB (Pf (UW (use:=some (Vi (.Name x pos') X.env)) (Q:=λ_ s'=>SP X pins D .next s') G.cl hs (j5<|I.lcCl S) S.kind S.loc
  (bi (hi pins s σ H _ I h) λv s1 h1=>bi h1 λU s2 h2=>?_)) (λ_ s' Z=>OE (OE Z)) λ_ _ e=>e)
 obtain⟨it,fp,tn,J,H2,e,I2,T,d,f2,W,z,turn⟩:=h2;subst e;refine vJ hc S hg o he I2 T d f2 W z (λys H=>∀p,H p=none->D.nx (σ.set i<|some<|.ref p) (upd H p<|G.mo ys)) turn (RR:=λacc C=>compPost (OP X.prog X.w) X.A X.xe (some<|Vi (.Name x pos') X.env) (λ_ s'=>SP X pins D .next s') acc C) ?_;intro L C ys He O Ie hD r hn hCD q;obtain⟨m,hn⟩:=hn;show OM _ X.A (Vi (.Name x pos') X.env<|.ref L) _ _ O;refine W4 (r9 (v:=.ref L) Ie hN Y (.inl u) rfl (λs' I' ⟨a,j,ha⟩=>?_)<|.inr u);have ne:C≠a:=by
  rcases ha with e | e
  ·rw[e];exact r.2.1
  ·exact Qp (r.2.2.2.2.1 x a e)
 exact⟨m,hn.sameBut j ne,λh' l=>⟨_,_,I'.letGo r l,q L hD⟩⟩
def gL(P:Ph)(w:Py)(elt:O4)(te:TE)(sc:PQ)(tg iter:O4)(ifs:List O4)(pos:Pos):Gt P w V sc tg iter ifs where
 ty:="list"
 dt:=.seq ([]:List OC).toArray
 dk:=by size_fits
 fr:=rfl
 mo:=.lst
 CE:=.ListComp elt [⟨tg,iter,ifs,0⟩] sc pos
 fin:=λD env=>do let _ <-call (.builtin "list.append") [.ref D,<-Pq elt env]
 tf:=λys σ H Q=>te σ H λy c=>Q (ys++[y]) c
 r0:=λe _=>⟨PY _,[],_,.nil,e⟩
 rO:=λ⟨z,its,n,v,e⟩=>⟨_,e,(λ_ z=>by cases z),λe=>⟨z,its,n,v,e⟩⟩
 ht:=λ_ _ _=>rfl
 un:=λ_ _ _ _=>rfl
 hs:=codeAny_compStart_list
 ev:=λ_=>⟨_,rfl⟩
 eu:=λ_ _=>⟨_,rfl⟩
 cl:=rfl
theorem Lx{P w}(m:PE X elt te):PF X (gL P w elt te sc tg iter ifs pos):=λpins D ys s σ H Q I o hz h=>OB (bi (m pins s σ H _ I h) λy i f=>da f λv H1 I1 r q=>by
 obtain⟨_,its,k,rv,e⟩:=o I1;refine OB (wpAny_list_append_plain (l:=D) (items:=its.toArray) ⟨k,e⟩ (λh' ⟨j,d⟩ c=>OE ⟨_,_,i,_,_,rfl,I1,c,⟨by rw[P3];exact hz,its++[y],j,rv.append<|.cons r .nil,?_⟩,q⟩)<|by rw[OJ,<-rv.length];exact QP hz);rw[List.push_toArray] at d;exact d)
theorem lB(i:X.calm=true)(S:aX X.env.scope X.N sc Nc ix)(d:PI X tg iter wi)(f:∀C s H ex pn,PG (dP X sc Nc C s H ex pn) tg g)(c:∀C s H ex pn,nW (dP X sc Nc C s H ex pn) ifs tt)(h:∀C s H ex pn,PE (dP X sc Nc C s H ex pn) elt te)
  (hs:∀x,Qu iter X.env x=pure x:=by with_unfolding_all (intro _;rfl)):PE X (.ListComp elt [⟨tg,iter,ifs,0⟩] sc pos) (FY ix wi g tt te):=HM (G:=gL X.prog X.w elt te sc tg iter ifs pos) i S d f c (λC s H ex pn=>Lx (h C s H ex pn)) hs
theorem pk{i:Nat}{x:Str}{pos' c:Pos}(p:X.calm=true)(r:X.N.Nodup)(h:X.N[i]?=some x)(j:X.env.scope.names.lookup x=some .local)(S:aX X.env.scope X.N sc Nc ix)(l:PI X tg iter wi)(m:∀C s H ex pn,PG (dP X sc Nc C s H ex pn) tg g)
  (f:∀C s H ex pn,nW (dP X sc Nc C s H ex pn) ifs tt) (o:∀C s H ex pn,PE (dP X sc Nc C s H ex pn) elt te)
  (d:Qq (.ListComp elt [⟨tg,iter,ifs,0⟩] sc pos) (some<|.Name x pos') c.line X.env=pure true:=by nofun)
  (hs:∀x,Qu iter X.env x=pure x:=by with_unfolding_all (intro _;rfl)):PS X (.Assign [.Name x pos'] (.ListComp elt [⟨tg,iter,ifs,0⟩] sc pos) c) (jc (FY ix wi g tt te)<|fQ i):=vK (G:=gL X.prog X.w elt te sc tg iter ifs pos) p r h j S l m f (λC s H ex pn=>Lx (o C s H ex pn)) d hs
end
inductive D where
 | non | bl (b:Bool) | int (i:Int) | str (x:Str) | tup (ds:List D) | lst (ds:List D)
mutual
def bX(H:Hp):D->V->Prop
 | .non,v=>v=.non
 | .bl b,v=>v=.bl b
 | .int i,v=>v=.int i
 | .str x,v=>v=.str x
 | .tup c,v=>∃a vs,v=.ref a/\H a=some (.tup vs)/\ci H c vs
 | .lst c,v=>∃a vs,v=.ref a/\H a=some (.lst vs)/\ci H c vs
def ci(H:Hp):List D->List V->Prop
 | [],vs=>vs=[]
 | d::c,vs=>∃v r,vs=v::r/\bX H d v/\ci H c r
end
mutual
theorem bX.mono{H f:Hp}(k:Jr H f):∀{d:D} {v:V},bX H d v->bX f d v
 | .non,_,h=>by simpa[bX] using h
 | .bl _,_,h=>by simpa[bX] using h
 | .int _,_,h=>by simpa[bX] using h
 | .str _,_,h=>by simpa[bX] using h
 | .tup g,v,h=>by
  rw[bX] at h ⊢;obtain⟨a,vs,e,c,r⟩:=h;exact⟨a,vs,e,k _ _ c,ci.mono k r⟩
 | .lst g,v,h=>by
  rw[bX] at h ⊢;obtain⟨a,vs,e,c,r⟩:=h;exact⟨a,vs,e,k _ _ c,ci.mono k r⟩
theorem ci.mono{H f:Hp}(k:Jr H f):∀{c:List D} {vs:List V},ci H c vs->ci f c vs
 | [],vs,h=>by rw[ci] at h ⊢;exact h
 | d::c,vs,h=>by
  rw[ci] at h ⊢;obtain⟨v,r,e,i,g⟩:=h;exact⟨v,r,e,bX.mono k i,ci.mono k g⟩
end
theorem ci.cons{H:Hp}{d:D}{c:List D}{v:V}{vs:List V}(h:bX H d v)(r:ci H c vs):ci H (d::c) (v::vs):=by
 rw[ci];exact⟨v,vs,rfl,h,r⟩
theorem ci.nil:ci H [] []:=by rw[ci]
theorem ci.uncons{d:D}{c:List D}(h:ci H (d::c) vs):∃v r,vs=v::r/\bX H d v/\ci H c r:=by
 rw[ci] at h;exact h
theorem ci.unnil(h:ci H [] vs):vs=[]:=by
 rw[ci] at h;exact h
theorem ci.length:∀{c:List D} {vs:List V},ci H c vs->vs.length=c.length
 | [],vs,h=>by rw[h.unnil];rfl
 | d::c,vs,h=>by
  obtain⟨v,r,rfl,_,f⟩:=h.uncons;simp[ci.length f]
theorem ci.get:∀{c:List D} {vs:List V} {i:Nat} {d:D},ci H c vs->c[i]?=some d->∃v,vs[i]?=some v/\bX H d v
 | [],_,_,_,_,e=>by simp at e
 | d::c,vs,0,d',h,e=>by
  obtain⟨v,r,rfl,g,_⟩:=h.uncons;simp at e;subst e;exact⟨v,rfl,g⟩
 | d::c,vs,i+1,d',h,e=>by
  obtain⟨v,r,rfl,_,f⟩:=h.uncons;obtain⟨w,l,j⟩:=ci.get (i:=i) f (by simpa using e);exact⟨w,by simpa using l,j⟩
mutual
theorem bX.inj{H:Hp}:∀{d e:D} {v:V},bX H d v->bX H e v->d=e
 | .non,e,v,h,h'=>by
  rw[bX] at h;subst h;cases e<;>simp[bX] at h'<;>rfl
 | .bl b,e,v,h,h'=>by
  rw[bX] at h;subst h;cases e<;>simp[bX] at h';rw[h']
 | .int b,e,v,h,h'=>by
  rw[bX] at h;subst h;cases e<;>simp[bX] at h';rw[h']
 | .str b,e,v,h,h'=>by
  rw[bX] at h;subst h;cases e<;>simp[bX] at h';rw[h']
 | .tup m,e,v,h,h'=>by
  rw[bX] at h;obtain⟨a,vs,rfl,j,r⟩:=h;cases e with
  | tup es=>
   rw[bX] at h';obtain⟨l,f,g,c,i⟩:=h';cases g;rw[j] at c;cases c;rw[ci.inj r i]
  | lst es=>
   rw[bX] at h';obtain⟨l,f,g,c,i⟩:=h';cases g;rw[j] at c;cases c
  | _=>simp[bX] at h'
 | .lst m,e,v,h,h'=>by
  rw[bX] at h;obtain⟨a,vs,rfl,j,r⟩:=h;cases e with
  | lst es=>
   rw[bX] at h';obtain⟨l,f,g,c,i⟩:=h';cases g;rw[j] at c;cases c;rw[ci.inj r i]
  | tup es=>
   rw[bX] at h';obtain⟨l,f,g,c,i⟩:=h';cases g;rw[j] at c;cases c
  | _=>simp[bX] at h'
theorem ci.inj{H:Hp}:∀{c es:List D} {vs:List V},ci H c vs->ci H es vs->c=es
 | [],[],_,_,_=>rfl
 | [],e::es,vs,h,h'=>by
  rw[h.unnil] at h';obtain⟨_,_,e,_⟩:=h'.uncons;cases e
 | d::c,[],vs,h,h'=>by
  rw[h'.unnil] at h;obtain⟨_,_,e,_⟩:=h.uncons;cases e
 | d::c,e::es,vs,h,h'=>by
  obtain⟨v,r,m,j,i⟩:=h.uncons;obtain⟨o,p,l,g,f⟩:=h'.uncons;subst m;cases l;rw[bX.inj j g,ci.inj i f]
end
theorem bX.tup_of{c:List D}{v:V}(h:bX H (.tup c) v):∃a vs,v=.ref a/\H a=some (.tup vs)/\ci H c vs:=by rw[bX] at h;exact h
theorem bX.lst_of{c:List D}{v:V}(h:bX H (.lst c) v):∃a vs,v=.ref a/\H a=some (.lst vs)/\ci H c vs:=by rw[bX] at h;exact h
theorem bX.tup{H:Hp}{c:List D}{a:OD}{vs:List V}(h:H a=some (.tup vs))(r:ci H c vs):bX H (.tup c) (.ref a):=by rw[bX];exact⟨a,vs,rfl,h,r⟩
theorem bX.lst{H:Hp}{c:List D}{a:OD}{vs:List V}(h:H a=some (.lst vs))(r:ci H c vs):bX H (.lst c) (.ref a):=by rw[bX];exact⟨a,vs,rfl,h,r⟩
theorem bX.int{i:Int}:bX H (.int i) (.int i):=by rw[bX]
theorem bX.non:bX H .non .non:=by rw[bX]
theorem bX.bl{b:Bool}:bX H (.bl b) (.bl b):=by rw[bX]
theorem bX.str{x:Str}:bX H (.str x) (.str x):=by rw[bX]
theorem bX.int_of{i:Int}{v:V}(h:bX H (.int i) v):v=.int i:=by rw[bX] at h;exact h
theorem bX.non_of{v:V}(h:bX H .non v):v=.non:=by rw[bX] at h;exact h
theorem bX.bl_of{b:Bool}{v:V}(h:bX H (.bl b) v):v=.bl b:=by rw[bX] at h;exact h
theorem bX.str_of{b:Str}{v:V}(h:bX H (.str b) v):v=.str b:=by rw[bX] at h;exact h
mutual
def dq:D->D->Bool
 | .non,.non=>true
 | .bl a,.bl b=>a==b
 | .bl a,.int b=>(if a then 1 else 0)==b
 | .int a,.bl b=>a==(if b then 1 else 0)
 | .int a,.int b=>a==b
 | .str a,.str b=>a==b
 | .tup xs,.tup ys=>jj xs ys
 | .lst xs,.lst ys=>jj xs ys
 | _,_=>false
def jj:List D->List D->Bool
 | [],[]=>true
 | x::xs,y::ys=>dq x y&&jj xs ys
 | _,_=>false
end
mutual
theorem vL:∀d:D,dq d d=true
 | .non=>by simp[dq]
 | .bl _=>by simp[dq]
 | .int _=>by simp[dq]
 | .str _=>by simp[dq]
 | .tup xs=>by rw[dq];exact mw xs
 | .lst xs=>by rw[dq];exact mw xs
theorem mw:∀xs:List D,jj xs xs=true
 | []=>by simp[jj]
 | x::xs=>by rw[jj,vL x,mw xs];rfl
end
mutual
def vp:D->Nat
 | .tup xs=>nX xs+1
 | .lst xs=>nX xs+1
 | _=>0
def nX:List D->Nat
 | []=>0
 | x::xs=>max (vp x) (nX xs)
end
theorem vM:∀{xs:List D} {i:Nat} {d:D},xs[i]?=some d->vp d≤nX xs
 | [],_,_,e=>by simp at e
 | x::xs,0,d,e=>by simp at e;subst e;rw[nX];exact Nat.le_max_left _ _
 | x::xs,i+1,d,e=>by
  have:=vM (i:=i) (xs:=xs) (d:=d) (by simpa using e);rw[nX];exact PV this (Nat.le_max_right _ _)
theorem pz:∀{xs ys:List D},xs.length≠ys.length->jj xs ys=false
 | [],[],h=>absurd rfl h
 | [],y::ys,_=>by simp[jj]
 | x::xs,[],_=>by simp[jj]
 | x::xs,y::ys,h=>by
  rw[jj,pz (xs:=xs) (ys:=ys) (λe=>h (by simp[e]))];simp
theorem pA:∀{xs ys:List D},xs.length=ys.length->jj xs ys=(RV xs.length).all λi=>dq (xs.getD i .non) (ys.getD i .non)
 | [],[],_=>by simp[jj]
 | [],y::ys,h=>by simp at h
 | x::xs,[],h=>by simp at h
 | x::xs,y::ys,h=>by
  rw[jj,pA (xs:=xs) (ys:=ys) (by simpa using h),P2,List.range_succ_eq_map,QM,Vp];rfl

section
theorem AU{d e:D}{x y:V}{u v:OC}(hd:bX H d x)(c:bX H e y)(i:aI x u)(h:aI y v)(g:et x=true)(f:et y=true):TC A s u v (dq d e):=by
 have q:=C8 (A:=A) (s:=s) i h g f;have e1:xo x y=dq d e:=by
  cases d<;>simp only[bX] at hd
  all_goals first | (subst hd) | (obtain⟨_,_,hd,_⟩:=hd;rw[hd] at g;cases g)
  all_goals (cases e<;>simp only[bX] at c)
  all_goals first | (subst c;simp[xo,dq]) | (obtain⟨_,_,c,_⟩:=c;rw[c] at f;cases f)
 rw[<-e1];exact q

def dE:D->Bool
 | .tup _=>true
 | .lst _=>true
 | _=>false
theorem Dl{xs ys:List D}{n m:Nat}(l1:n=xs.length)(d:m=ys.length) :
  (((RV<|min n m).all λi=>dq (xs.getD i .non) (ys.getD i .non))&&(n==m))=jj xs ys:=by
 subst l1 d;by_cases c:xs.length=ys.length
 ·rw[pA c,c];simp
 ·rw[pz c];simp[c]
theorem Nw(I:ay X pins σ H s){n:Nat}(ih:∀{d e:D} {x y:V} {u v:OC},vp d≤n->bX H d x->bX H e y->aI x u->aI y v->TC A.in1 s u v (dq d e))(hA:A.units+2<QK){d e:D}{x y:V}{u v:OC}(fd:dE d=true)(fe:dE e=true)(m:vp d≤n+1)(hd:bX H d x)(r:bX H e y)(L:aI x u)(o:aI y v) :
  SeqAt.RcAt A s u v (dq d e)/\SeqAt.RcNeAt A s u v (!dq d e):=by
 have it:∀{xs ys:List D} {vs g:List V} {its its':List OC},nX xs≤n->ci H xs vs->ci H ys g->aK vs its->aK g its'->its.toArray.size=xs.length->its'.toArray.size=ys.length->∀j (U:j<its.toArray.size) (Q:j<its'.toArray.size),TC A.in1 s its.toArray[j] its'.toArray[j] (dq (xs.getD j .non)<|ys.getD j .non):=by
  intro xs ys vs g its its' hx hr c rl rl' l1 l2 j U Q;have j1:j<xs.length:=by rw[<-l1];exact U
  have j2:j<ys.length:=by rw[<-l2];exact Q
  have Y:xs[j]?=some (xs.getD j .non):=by simp[TH,j1]
  have g2:ys[j]?=some (ys.getD j .non):=by simp[TH,j2]
  obtain⟨w1,a1,b1⟩:=hr.get Y;obtain⟨w2,a2,b2⟩:=c.get g2;obtain⟨u1,c1,d1⟩:=rl.get a1;obtain⟨Z,c2,d2⟩:=rl'.get a2;have k1:its.toArray[j]=u1:=by simpa using (OL.mp c1).2
  have k2:its'.toArray[j]=Z:=by simpa using (OL.mp c2).2
  rw[k1,k2];exact ih (by have:=vM Y;omega) b1 b2 d1 d2
 cases d with
 | tup xs=>
  obtain⟨a,vs,rfl,C,hr⟩:=hd.tup_of;cases L;obtain⟨its,rl,p,hz⟩:=I.tuple (g9.of C);have l1:its.toArray.size=xs.length:=by rw[OJ,<-rl.length,hr.length]
  cases e with
  | tup ys=>
   obtain⟨b,g,rfl,hb,c⟩:=r.tup_of;cases o;obtain⟨its',rl',f,h⟩:=I.tuple (g9.of hb);have l2:its'.toArray.size=ys.length:=by rw[OJ,<-rl'.length,c.length]
   have z:=it (by simp[vp] at m;omega) hr c rl rl' l1 l2;rw[dq,<-Dl l1 l2];exact⟨SeqAt.RcAt.tuples p f (by omega) z,aa5 p f (by omega) z⟩
  | lst ys=>
   obtain⟨b,g,rfl,hb,c⟩:=r.lst_of;cases o;obtain⟨its',rl',f,h⟩:=I.list (ip.of hb);simp only[dq];exact⟨Z0 p f.isList<|by omega,ZF p f.isList<|by omega⟩
  | _=>cases fe
 | lst xs=>
  obtain⟨a,vs,rfl,C,hr⟩:=hd.lst_of;cases L;obtain⟨its,rl,p,hz⟩:=I.list (ip.of C);have l1:its.toArray.size=xs.length:=by rw[OJ,<-rl.length,hr.length]
  cases e with
  | lst ys=>
   obtain⟨b,g,rfl,hb,c⟩:=r.lst_of;cases o;obtain⟨its',rl',f,h⟩:=I.list (ip.of hb);have l2:its'.toArray.size=ys.length:=by rw[OJ,<-rl'.length,c.length]
   by_cases l:xs.length=ys.length
   ·have z:=it (by simp[vp] at m;omega) hr c rl rl' l1 l2;have e1:((RV its.toArray.size).all λi=>dq (xs.getD i .non) (ys.getD i .non))=dq (.lst xs) (.lst ys):=by rw[l1,dq,pA l]
    rw[<-e1];exact⟨SeqAt.RcAt.lists p.isList f.isList (by rw[l1,l2,l]) (by omega) z,ab0 p.isList f.isList (by rw[l1,l2,l]) (by omega) z⟩
   ·have O:its.toArray.size≠its'.toArray.size:=by rw[l1,l2];exact l
    rw[dq,pz l];exact⟨Zw p.isList f.isList (by simpa using O)<|by omega,YC p.isList f.isList (by simpa using O)<|by omega⟩
  | tup ys=>
   obtain⟨b,g,rfl,hb,c⟩:=r.tup_of;cases o;obtain⟨its',rl',f,h⟩:=I.tuple (g9.of hb);simp only[dq];exact⟨Z1 p.isList f<|by omega,ZG p.isList f<|by omega⟩
  | _=>cases fe
 | _=>cases fd

theorem zu:∀{d:D} {x:V},bX H d x->dE d=false->et x=true
 | .non,_,h,_=>by rw[h.non_of];rfl
 | .bl _,_,h,_=>by rw[h.bl_of];rfl
 | .int _,_,h,_=>by rw[h.int_of];rfl
 | .str _,_,h,_=>by rw[h.str_of];rfl
theorem Dm:∀{d:D} {x:V},bX H d x->dE d=true->∃a,x=.ref a
 | .tup _,_,h,_=>by obtain⟨a,_,e,_⟩:=h.tup_of;exact⟨a,e⟩
 | .lst _,_,h,_=>by obtain⟨a,_,e,_⟩:=h.lst_of;exact⟨a,e⟩
theorem vN(I:ay X pins σ H s){d e:D}{x y:V}{u v:OC}(j:A.units<QK)(hd:bX H d x)(g:bX H e y)(f:aI x u)(c:aI y v)(i:(dE d&&dE e)=false):TC A s u v (dq d e):=by
 cases fd:dE d with
 | false=>
  cases fe:dE e with
  | false=>exact AU hd g f c (zu hd fd) (zu g fe)
  | true=>
   cases e with
   | tup ys=>
    obtain⟨b,h,rfl,hb,_⟩:=g.tup_of;cases c;obtain⟨_,_,p,_⟩:=I.tuple (g9.of hb);cases d with
    | non=>rw[hd.non_of] at f;cases f;simp only[dq];exact Z2 p (by omega)
    | bl a=>rw[hd.bl_of] at f;cases f;simp only[dq];exact Z3 a p (by omega)
    | int a=>rw[hd.int_of] at f;obtain⟨t,rfl⟩:=f;simp only[dq];exact SeqAt.EqAt.int_tuple a t p (by omega)
    | str a=>rw[hd.str_of] at f;obtain⟨t,rfl⟩:=f;simp only[dq];exact SeqAt.EqAt.str_tuple a t p (by omega)
    | _=>cases fd
   | lst ys=>
    obtain⟨b,h,rfl,hb,_⟩:=g.lst_of;cases c;obtain⟨_,_,p,_⟩:=I.list (ip.of hb);cases d with
    | non=>rw[hd.non_of] at f;cases f;simp only[dq];exact SeqAt.EqAt.none_list p.isList (by omega)
    | bl a=>rw[hd.bl_of] at f;cases f;simp only[dq];exact SeqAt.EqAt.bool_list a p.isList (by omega)
    | int a=>rw[hd.int_of] at f;obtain⟨t,rfl⟩:=f;simp only[dq];exact SeqAt.EqAt.int_list a t p.isList (by omega)
    | str a=>rw[hd.str_of] at f;obtain⟨t,rfl⟩:=f;simp only[dq];exact SeqAt.EqAt.str_list a t p.isList (by omega)
    | _=>cases fd
   | _=>cases fe
 | true=>
  have fe:dE e=false:=by rw[fd] at i;exact i
  cases d with
  | tup ys=>
   obtain⟨b,h,rfl,hb,_⟩:=hd.tup_of;cases f;obtain⟨_,_,p,_⟩:=I.tuple (g9.of hb);cases e with
   | non=>rw[g.non_of] at c;cases c;simp only[dq];exact Z4 p (by omega)
   | bl b=>rw[g.bl_of] at c;cases c;simp only[dq];exact Z5 b p (by omega)
   | int b=>rw[g.int_of] at c;obtain⟨t,rfl⟩:=c;simp only[dq];exact SeqAt.EqAt.tuple_int b t p (by omega)
   | str b=>rw[g.str_of] at c;obtain⟨t,rfl⟩:=c;simp only[dq];exact SeqAt.EqAt.tuple_str b t p (by omega)
   | _=>cases fe
  | lst ys=>
   obtain⟨b,h,rfl,hb,_⟩:=hd.lst_of;cases f;obtain⟨_,_,p,_⟩:=I.list (ip.of hb);cases e with
   | non=>rw[g.non_of] at c;cases c;simp only[dq];exact SeqAt.EqAt.list_none p.isList (by omega)
   | bl b=>rw[g.bl_of] at c;cases c;simp only[dq];exact SeqAt.EqAt.list_bool b p.isList (by omega)
   | int b=>rw[g.int_of] at c;obtain⟨t,rfl⟩:=c;simp only[dq];exact SeqAt.EqAt.list_int b t p.isList (by omega)
   | str b=>rw[g.str_of] at c;obtain⟨t,rfl⟩:=c;simp only[dq];exact SeqAt.EqAt.list_str b t p.isList (by omega)
   | _=>cases fe
  | _=>cases fd
theorem Dn(I:ay X pins σ H s):∀(n:Nat) {A:Qz} {d e:D} {x y:V} {u v:OC},vp d≤n->A.units+n+1<QK->bX H d x->bX H e y->aI x u->aI y v->TC A s u v (dq d e):=by
 intro n
 induction n with
 | zero=>
  intro A d e x y u v f m hd g i h;refine vN I (by omega) hd g i h ?_;cases d<;>first | rfl | (simp[vp] at f)
 | succ n l=>
  intro A d e x y u v f m hd g i h;cases c:dE d&&dE e with
  | false=>exact vN I (by omega) hd g i h c
  | true=>
   have c:=TZ.mp c;obtain⟨a,rfl⟩:=Dm hd c.1;obtain⟨b,rfl⟩:=Dm g c.2;have R:=(Nw I (λC z r p o=>l C (by show A.units+1+n+1<QK;omega) z r p o) (by omega) c.1 c.2 f hd g i h).1;cases i;cases h;by_cases j:a=b
   ·subst j;rw[bX.inj hd g,vL];exact X6 _
   ·exact SeqAt.EqAt.of_refs j R
end
def Ju(neg:Bool):R2:=λx y H Q=>∃d e,bX H d x/\bX H e y/\dE d=true/\dE e=true/\vp d≤50/\Q (.bl<|if neg then !dq d e else dq d e) H
section
theorem t9(p:X.A.units+52<QK):lq X (QH .Eq) (Ju false):=by
 rintro pins s σ H x y v u Q I f c ⟨d,e,hd,g,fd,fe,h,q⟩;exact(Nw I (n:=50) (λo m l j i=>Dn I 50 o (by show X.A.units+1+50+1<QK;omega) m l j i) (by omega) fd fe (by omega) hd g f c).1 _ _ _ _ ⟨.bl _,H,I,rfl,q⟩
theorem Do(p:X.A.units+52<QK):lq X (QH .NotEq) (Ju true):=by
 rintro pins s σ H x y v u Q I f c ⟨d,e,hd,g,fd,fe,h,q⟩;exact(Nw I (n:=50) (λo m l j i=>Dn I 50 o (by show X.A.units+1+50+1<QK;omega) m l j i) (by omega) fd fe (by omega) hd g f c).2 _ _ _ _ ⟨.bl _,H,I,rfl,q⟩

def FZ(H:Hp):V->Option String
 | .non=>some "NoneType"
 | .bl _=>some "bool"
 | .int _=>some "int"
 | .str _=>some "str"
 | .ref a=>match H a with
  | some (.lst _)=>some "list"
  | some (.tup _)=>some "tuple"
  | some (.dK _)=>some "dict"
  | some (.dT _)=>some "dict"
  | _=>none
 | _=>none
theorem Jv{x:V}{n:String}(h:FZ H x=some n):mn K H x (.type n):=by
 cases x with
 | non=>cases h;exact .non
 | bl b=>cases h;exact .bl b
 | int i=>cases h;exact .int i
 | str z=>cases h;exact .str z
 | ref a=>
  unfold FZ at h;cases e:H a with
  | none=>simp[e] at h
  | some o=>
   cases o<;>simp[e] at h
   ·subst h;exact .lst e
   ·subst h;exact .tup e
   ·subst h;exact .dK e
   ·subst h;exact .dT e
 | _=>cases h
def Dp:String->String->Option Bool
 | "int","bool"=>some false | "int","int"=>some true | "int","tuple"=>some false | "int","str"=>some false
 | "bool","bool"=>some true | "bool","int"=>some true | "bool","tuple"=>some false | "bool","str"=>some false
 | "str","bool"=>some false | "str","int"=>some false | "str","tuple"=>some false | "str","str"=>some true
 | "tuple","bool"=>some false | "tuple","int"=>some false | "tuple","tuple"=>some true | "tuple","str"=>some false
 | "list","bool"=>some false | "list","int"=>some false | "list","tuple"=>some false | "list","str"=>some false
 | "NoneType","bool"=>some false | "NoneType","int"=>some false | "NoneType","tuple"=>some false | "NoneType","str"=>some false
 | _,_=>none
theorem Dq{n c:String}{b:Bool}(h:Dp n c=some b):Yy K (.type n) (.type c)=some b:=by
 unfold Dp at h;split at h<;>first | (cases h;rfl) | cases h
def Dr:List V->Hp->VK->Prop:=λxs H Q=>match xs with
 | [x,.ty c]=>(match FZ H x with
  | some n=>(match Dp n c with
   | some b=>Q (.bl b) H
   | none=>False)
  | none=>False)
 | _=>False
theorem F0{Q:VK}(h:Dr xs H Q):∃x n c b,xs=[x,.ty c]/\FZ H x=some n/\Dp n c=some b/\Q (.bl b) H:=by
 unfold Dr at h;split at h
 ·split at h
  ·split at h
   ·exact⟨_,_,_,_,rfl,‹_›,‹_›,h⟩
   ·exact h.elim
  ·exact h.elim
 ·exact h.elim
theorem Dt:dj X (.builtin "isinstance") Dr:=by
 intro pins s σ H xs us Q I r h;obtain⟨x,n,c,b,rfl,ht,g,q⟩:=F0 h;obtain⟨u,i,rfl,f,d⟩:=vA r;cases d;exact AL I f (Jv ht) (Dq g) λtk=>⟨.bl b,H,I.tok tk,rfl,q⟩

def Ly(K:OK):V->Option Int->Option Int->Hp->VK->Prop:=λx lo c H Q=>∃a xs,x=.ref a/\g9 K H a xs/\HT.sIx xs.length 0 lo=0/\HT.sIx xs.length xs.length c=xs.length/\Q (.ref a) H
theorem jN{t sl:OD}{items:Array OC}{i g:OC}{lo j:Option Int}{Q:OC->OI->Prop}(ht:Wx s.heap t items)(hs:s.heap.IsSliceOf sl i g .none)(pl:Vl i lo)(l:Vl g j)
  (p:HT.sIx items.size 0 lo=0) (o:HT.sIx items.size items.size j=items.size) (h:Q (.ref t) s):OM (OP prog w) A (Ui (.ref t)<|.ref sl) Q E s:=by
 obtain⟨os,c,d,m⟩:=id hs;have f:s.TypeIs (.ref sl) "slice":=⟨os,c,d⟩
 unfold Ui;refine Pg (OB<|Xf ht.typeIs (by decide) ?_);refine OB (Q7 (name:=OG "__getitem__") ht.typeIs PD<|Qi PD ht.typeIs Wk ?_<|WR _ _);show OM _ _ (UB (.ref t) >>= _) _ _ s;refine OB (Zs ht<|OB<|Uj f ?_);rw[if_pos (by decide)];refine OB (HT.sliceApplied_gen hs pl l ?_);rw[p,o];show OM _ _ (if ((((0:Nat):Int)==0&&(1:Int)==1&&(items.size - 0)==items.size)=true) then _ else _) _ _ s;rw[if_pos (by simp)];refine OB (OB<|Uj ht.typeIs<|OE ?_);rw[if_pos (by decide)];exact OB (Tx<|OE ⟨_,rfl,OE h⟩)
theorem F1:Ln X (Ly X.K):=by
 intro pins s σ H x v m l lo o sl Q I d hs pl f h;obtain⟨a,xs,rfl,g,j,i,q⟩:=h;cases d;obtain⟨its,r,ht,hz⟩:=I.tuple g;have c:its.toArray.size=xs.length:=by rw[OJ];exact r.length.symm
 exact⟨"tuple",_,PD.lookup,ht.typeIs,jN ht hs pl f (by rw[c];exact j) (by rw[c];exact i) ⟨.ref a,H,I,rfl,q⟩⟩
def Nx:V->Option Int->Option Int->Hp->VK->Prop:=λx lo c H Q=>∃a xs,x=.ref a/\H a=some (.tup xs)/\(∀p,H p=none->Q (.ref p) (upd H p<|.tup<|mv xs lo c))/\(mv xs lo c=xs->Q (.ref a) H)
theorem F4:Ln X Nx:=by
 intro pins s σ H x v g f lo d sl Q I i hs pl j h;obtain⟨a,xs,rfl,l,q1,q2⟩:=h;by_cases c:HT.sIx xs.length 0 lo=0/\HT.sIx xs.length xs.length d=xs.length
 ·refine F1 pins s σ H _ v g f lo d sl Q I i hs pl j ⟨a,xs,rfl,g9.of l,c.1,c.2,q2 ?_⟩;unfold mv;rw[c.1,c.2];simp
 ·exact Ji pins s σ H _ v g f lo d sl Q I i hs pl j ⟨a,xs,rfl,g9.of l,c,q1⟩

def Lz:R2:=λx y H Q=>∃a b xs ys,x=.ref a/\y=.ref b/\H a=some (.tup xs)/\H b=some (.tup ys)/\xs.length+ys.length≤OR/\(xs=[]->Q (.ref b) H)/\(ys=[]->Q (.ref a) H)/\(∀p,H p=none->Q (.ref p) (upd H p<|.tup<|xs++ys))
theorem F5:lq X (Sb .Add) Lz:=by
 intro pins s σ H x y v u Q I m l h;obtain⟨a,b,xs,ys,rfl,rfl,p,hb,hz,q0,q1,q2⟩:=h;by_cases g:xs=[]
 ·cases m;cases l;obtain⟨its,r,ht,_⟩:=I.tuple (g9.of p);obtain⟨its',O,i,_⟩:=I.tuple (g9.of hb);obtain⟨⟨cls,dd,data,sl⟩,ho,o,n,hd⟩:=id ht;obtain⟨⟨z,j,data2,f⟩,c,d,C,hd2⟩:=id i;simp only at o hd d hd2;subst o hd d hd2;have L:its=[]:=r.nil_iff.mpr g;exact Xe ⟨_,ho,rfl⟩ ⟨_,c,rfl⟩ U2 WB Tf SS (Sy _ _)
   (tuple_addW0 a b its.toArray its'.toArray n C dd j sl f<|by rw[L];rfl) ⟨ho,c,⟨.ref b,H,I,rfl,q0 g⟩⟩
 ·exact FQ pins s σ H _ _ v u Q I m l ⟨a,b,xs,ys,rfl,rfl,g9.of p,g9.of hb,g,hz,q1,λ_=>q2⟩
end
namespace Zp
section
end
end Zp
end L2
namespace L2
open PySem PySem.Spec PyProof.Rows
section
end
theorem bM:PJ "tuple" = some (.type "tuple"):=by decide +kernel
theorem pB:PJ "list" = some (.type "list"):=by decide +kernel
theorem AW:PJ "int" = some (.type "int"):=by decide +kernel
theorem pC:PJ "bool" = some (.type "bool"):=by decide +kernel
theorem eB:PJ "isinstance" = some (.builtin "isinstance"):=by decide +kernel
theorem AX:PJ "min" = some (.builtin "min"):=by decide +kernel
theorem my:PJ "max" = some (.builtin "max"):=by decide +kernel
theorem bU:PJ "sorted" = some (.builtin "sorted"):=by decide +kernel
theorem AY:PJ "set" = some (.type "set"):=by decide +kernel
structure Mods(mg:Str->Option OC):Prop where
 len:mg "len" = none
 isinstance:mg "isinstance" = none
 int:mg "int" = none
 bool:mg "bool" = none
 tuple:mg "tuple" = none
 list:mg "list" = none
 range:mg "range" = none
 zip:mg "zip" = none
 min:mg "min" = none
 max:mg "max" = none
 sorted:mg "sorted" = none
 set:mg "set" = none
def cQ(K:OK)(mg:Str->Option OC)(x:Str)(st:Rs):Prop:=∃f fd,Fun K x x st f fd/\mg x=some (.ref f)
def HN(P:Ph)(w:Py)(K:OK)(mg:Str->Option OC)(base:Pk)(x:Str)(k:Nat)(ps:List Str)(sp:Sp):Prop :=
 ∃f fd,bG P w K mg base eY k f fd ps sp/\mg x=some (.ref f)/\Pn K (.ref f)=true/\cA K fd ps []
section
variable{x:Str}{k:Nat}{ps:List Str}{sp:Sp}{p pos:Pos}{e:O4}{t:TA}
theorem Du(c:HN X.prog X.w X.K X.mg X.base x k ps sp)(hr:a5 k X.A)(m:PA X (e::es) t)(j:Gl X x:=by nofun)(g:(x==("__debug__":Str))=false:=by decide)
  (l:hE9 X e es:=by nofun) (d:hP9 X pos es:=by nofun):PE X (.Call (.Name x p) (e::es) [] pos) (jY sp [] E0 t):=by
 obtain⟨f,fd,F,h,i,hb⟩:=c;exact zc F hr j h i hb .nil HL m g l d
theorem F6(c:HN X.prog X.w X.K X.mg X.base x k ps sp)(hr:a5 k X.A)(i:Gl X x:=by nofun)(d:(x==("__debug__":Str))=false:=by decide):PE X (.Call (.Name x p) [] [] pos) (jY sp [] E0 mq):=by
 obtain⟨f,fd,F,g,h,hb⟩:=c;exact CS F hr i g h hb .nil HL d
end
section
theorem cQ.ok{x:Str}{N ps:List Str}{k:Nat}{sp:Sp}(d:cQ K mg x st)(S:ai N ps (ae st))(len:∀vs H Q E,sp vs H Q E->vs.length=ps.length)
  (hb:∀(kV doc g:OC) (i:Option OD) (c ct:OC) (us:List OC),us.length=ps.length->RN (Pt x x (bq st) (aS st) (ae st) .none kV doc g i c ct) ⟨us,[]⟩=pure (ps.zip us))
  (hbody:∀(f:OD) (c:OC) (A:Qz) (outer:List Env) (s:OI) (H:Hp) (vs:List V) (Q:VK) (E:XK),a5 k (A.deeper<|Q4 x (ae st) s.heap.objs.size f c)->sp vs H Q E ->
   ∃t,gu (bQ eY P w K mg base N x (ae st) f c A outer s H E).nox (aS st) t/\t {nx:=λ_ j=>Q .non j,rt:=Q} (ff N vs) H):HN P w K mg base x (k+1) ps sp:=by
 obtain⟨f,fd,F,h⟩:=d;exact⟨f,fd,F.ok S len<|hbody f,h,F.kp,F.binds hb⟩
end
theorem AZ{k:Nat}(hr:a5 k A):A.units+52<QK:=UD (Wl (by decide:52≤64) _) hr.units
def gx(H:Hp):V->Option (List V)
 | .ref a=>match H a with
  | some (.lst xs)=>some xs
  | some (.tup xs)=>some xs
  | some (.frz _ (.lst xs))=>some xs
  | _=>none
 | _=>none
def hU(H:Hp):V->Option (List V)
 | .ref a=>match H a with
  | some (.tup xs)=>some xs
  | _=>none
 | _=>none
def on{c:Type}(o:Option c)(P:c->Prop):Prop:=match o with
 | some x=>P x
 | none=>False
theorem dH{c:Type}{o:Option c}{P:c->Prop}(h:on o P):∃x,o=some x/\P x:=by
 cases o with
 | none=>exact h.elim
 | some x=>exact⟨x,rfl,h⟩
theorem bN{c:Type}{x:c}{P:c->Prop}:on (some x) P=P x:=rfl
theorem lC{v:V}(h:hU H v=some xs):∃a,v=.ref a/\H a=some (.tup xs)/\g9 K H a xs:=by
 cases v with
 | ref a=>
  simp only[hU] at h;split at h
  ·cases h;exact⟨a,rfl,‹_›,g9.of ‹_›⟩
  ·cases h
 | _=>cases h
theorem lD{v:V}(h:gx H v=some xs):∃a,v=.ref a/\(ip K H a xs∨g9 K H a xs):=by
 cases v with
 | ref a=>
  simp only[gx] at h;split at h
  ·cases h;exact⟨a,rfl,.inl<|.inl<|.inl ‹_›⟩
  ·cases h;exact⟨a,rfl,.inr<|g9.of ‹_›⟩
  ·cases h;exact⟨a,rfl,.inl<|.inl<|.inr ⟨_,‹_›⟩⟩
  ·cases h
 | _=>cases h
theorem A0{a:OD}(h:H a=some (.lst xs)):gx H (.ref a)=some xs:=by simp[gx,h]
theorem A7{a:OD}(h:H a=some (.tup xs)):gx H (.ref a)=some xs:=by simp[gx,h]
theorem hV{a:OD}(h:H a=some (.tup xs)):hU H (.ref a)=some xs:=by simp[hU,h]
section
def zw:List V->Hp->VK->Prop:=λxs H Q=>match xs with
 | [x]=>on (gx H x) λys=>Q (.int ys.length) H
 | _=>False
theorem eD:dj X (.builtin "len") zw:=by
 intro pins s σ H xs us Q I r h;unfold zw at h;split at h
 ·obtain⟨ys,e,q⟩:=dH h;obtain⟨a,rfl,hs⟩:=lD (K:=X.K) e;exact lx pins s σ H _ us Q I r ⟨a,ys,rfl,hs,q⟩
 ·exact h.elim
def Jw:R2:=λx y H Q=>match y with
 | .int i=>on (gx H x) λxs=>on (FA xs i) λv=>Q v H
 | _=>False
theorem Ny:MP X Jw:=by
 intro f g pins s σ H x y v u Q I j i h c;unfold Jw at h;split at h
 ·obtain⟨xs,e,h⟩:=dH h;obtain⟨d,l,q⟩:=dH h;obtain⟨a,rfl,hs⟩:=lD (K:=X.K) e;rcases hs with hs | hs
  ·exact zm f g pins s σ H _ _ v u Q I j i ⟨a,xs,_,d,rfl,rfl,hs,l,q⟩ c
  ·exact Jj f g pins s σ H _ _ v u Q I j i ⟨a,xs,_,d,rfl,rfl,hs,l,q⟩ c
 ·exact h.elim
def HP(t:Cy)(n:Nat):TG:=λv σ H Q=>on (hU H v) λxs=>xs.length=n/\t xs σ H Q
theorem F7{k:Nat}{t:Cy}{n:Nat}(g:X.calm=true)(h:yW X es t)
  (hn:(Rk es X.env).length=n:=by nofun) (c:(Rk es X.env).findIdx? (·.1)=none:=by nofun):PG X (.Tuple es k pos) (HP t n):=by
 intro pins s σ H v u Q I r d;obtain⟨xs,e,f,q⟩:=dH d;obtain⟨a,rfl,_,hs⟩:=lC (K:=X.K) e;exact CD g h hn c pins s σ H _ u Q I r ⟨a,xs,rfl,hs,f,q⟩
def F8(neg:Bool):R2:=λx y H Q=>on (gx H y) λxs=>et x=true/\xs.all et=true/\Q (.bl<|if neg then !FC x xs else FC x xs) H
theorem ub:lq X (QH .In) (F8 false):=by
 intro pins s σ H x y v u Q I d c h;obtain⟨xs,e,g,f,q⟩:=dH h;obtain⟨a,rfl,hs⟩:=lD (K:=X.K) e;exact AM pins s σ H _ _ v u Q I d c ⟨a,xs,rfl,hs,g,f,q⟩
theorem A8:lq X (QH .NotIn) (F8 true):=by
 intro pins s σ H x y v u Q I d c h;obtain⟨xs,e,g,f,q⟩:=dH h;obtain⟨a,rfl,hs⟩:=lD (K:=X.K) e;exact lw pins s σ H _ _ v u Q I d c ⟨a,xs,rfl,hs,g,f,q⟩
def oy:List V->Hp->VK->Prop:=λxs H Q=>match xs with
 | [x]=>on (gx H x) λys=>(∀l,H l=none->Q (.ref l) (upd H l<|.tup ys))/\(hU H x=some ys->Q x H)
 | _=>False
theorem bY:dj X (.type "tuple") oy:=by
 intro pins s σ H xs us Q I r h;unfold oy at h;split at h
 ·rename_i x;obtain⟨ys,e,c,d⟩:=dH h;cases x with
  | ref a=>
   simp only[gx] at e;split at e
   ·cases e;exact gR pins s σ H _ us Q I r ⟨a,_,rfl,.inl ⟨.inl<|.inl ‹_›,c⟩⟩
   ·cases e;exact gR pins s σ H _ us Q I r ⟨a,_,rfl,.inr ⟨g9.of ‹_›,d<|hV ‹_›⟩⟩
   ·cases e;exact gR pins s σ H _ us Q I r ⟨a,_,rfl,.inl ⟨.inl<|.inr ⟨_,‹_›⟩,c⟩⟩
   ·cases e
  | _=>cases e
 ·exact h.elim
def HQ:V->Option Int->Option Int->Hp->VK->Prop:=λx lo c H Q=>on (hU H x) λxs=>(∀p,H p=none->Q (.ref p) (upd H p<|.tup<|mv xs lo c))/\(mv xs lo c=xs->Q x H)
theorem zx:Ln X HQ:=by
 intro pins s σ H x v d c lo i sl Q I f hs pl g h;obtain⟨xs,e,q1,q2⟩:=dH h;obtain⟨a,rfl,j,_⟩:=lC (K:=X.K) e;exact F4 pins s σ H _ v d c lo i sl Q I f hs pl g ⟨a,xs,rfl,j,q1,q2⟩
def pE:V->List V->Hp->VK->Prop:=λx vs H Q=>match x,vs with
 | .ref l,[y]=>(match H l with
  | some (.lst xs)=>xs.length<OR/\Q .non (upd H l<|.lst<|xs++[y])
  | _=>False)
 | _,_=>False
theorem cY:Np X "list.append" pE:=by
 intro pins s σ H x vs v us Q I c d h;unfold pE at h;split at h
 ·split at h
  ·exact AN pins s σ H _ _ v us Q I c d ⟨_,_,_,rfl,rfl,‹_›,h.1,h.2⟩
  ·exact h.elim
 ·exact h.elim
def Dv:R2:=λx y H Q=>match x,y with
 | .ref l,.ref b=>(match H l,H b with
  | some (.lst xs),some (.lst zs)=>xs.length+zs.length≤OR/\∀p,H p=none->Q (.ref p) (upd H p<|.lst<|xs++zs)
  | _,_=>False)
 | _,_=>False
theorem F9:lq X (Sb .Add) Dv:=by
 intro pins s σ H x y v u Q I d c h;unfold Dv at h;split at h
 ·split at h
  ·exact Jl pins s σ H _ _ v u Q I d c ⟨_,_,_,_,rfl,rfl,‹_›,‹_›,h.1,h.2⟩
  ·exact h.elim
 ·exact h.elim
def xP:R2:=λx y H Q=>on (hU H x) λxs=>on (hU H y) λys=>xs.length+ys.length≤OR/\(xs=[]->Q y H)/\(ys=[]->Q x H)/\∀p,H p=none->Q (.ref p) (upd H p<|.tup<|xs++ys)
theorem dQ:lq X (Sb .Add) xP:=by
 intro pins s σ H x y v u Q I d c h;obtain⟨xs,e,h⟩:=dH h;obtain⟨ys,m,l,j,i,g⟩:=dH h;obtain⟨a,rfl,f,_⟩:=lC (K:=X.K) e;obtain⟨b,rfl,hb,_⟩:=lC (K:=X.K) m;exact F5 pins s σ H _ _ v u Q I d c ⟨a,b,xs,ys,rfl,rfl,f,hb,l,j,i,g⟩
def qX:V->Option bh
 | .int i=>some (.inl i)
 | .str x=>some (.inr x)
 | _=>none
theorem ud{y:V}{k:bh}(h:qX y=some k):y=kV k:=by
 cases y<;>cases h<;>rfl
def hW(H:Hp):V->Option (List<|bh×V)
 | .ref a=>match H a with
  | some (.dK kvs)=>some kvs
  | _=>none
 | _=>none
theorem lE{v:V}{kvs:List (bh×V)}(h:hW H v=some kvs):∃a,v=.ref a/\H a=some (.dK kvs):=by
 cases v with
 | ref a=>
  simp only[hW] at h;split at h
  ·cases h;exact⟨a,rfl,‹_›⟩
  ·cases h
 | _=>cases h
theorem cK{a:OD}{kvs:List (bh×V)}(h:H a=some (.dK kvs)):hW H (.ref a)=some kvs:=by simp[hW,h]
def Dw(d ty:TE):TE:=λσ H Q=>d σ H λx H1=>ty σ H1 λy c=>on (hW c x) λkvs=>on (qX y) λk=>on (cX kvs k) λv=>Q v c
theorem jk{o i:O4}{f ty:TE}(O:X.A.units+1<QK)(ho:PE X o f)(U:PE X i ty)(hs:Db i):PE X (.Subscript o i pos) (Dw f ty):=by
 intro pins s σ H Q I h;refine tZ Sw.lookup hs (bi (ho pins s σ H _ I h) λu m c=>da c λx H1 I1 r q1=>bi (U pins m σ H1 _ I1 q1) λiv s2 c=>da c λy l j p q2=>?_);obtain⟨kvs,e,L⟩:=dH q2;obtain⟨k,ek,C⟩:=dH L;obtain⟨v,ev,z⟩:=dH C;obtain⟨a,rfl,Y⟩:=lE e;have Z:=ud ek;subst Z;obtain rfl:u=OX a:=r;have g:iw l a (kV k) (some v):=by rw[<-ev];exact iw.k Y
 exact⟨nh j g,sw O j g p λw' s3 I3 d=>⟨v,l,I3,d,z⟩⟩
def Dx(f ty d:TE):TS:=λh σ H=>d σ H λv H1=>f σ H1 λx g=>ty σ g λy c=>match x with
 | .ref a=>on (hW c x) λkvs=>on (qX y) λk=>kvs.length<OR/\h.nx σ (upd c a<|.dK<|dc kvs k v)
 | _=>False
theorem vO{o i value:O4}{f ty d:TE}{pos pos':Pos}(Q:X.A.units+1<QK)(ho:PE X o f)(Y:PE X i ty)(O:PE X value d)(hs:Qq value (some<|.Subscript o i pos') pos.line X.env=pure false) :
  PS X (.Assign [.Subscript o i pos'] value pos) (Dx f ty d):=by
 intro pins s σ H Dd I h;refine Vo (bi (O pins s σ H _ I h) λr l c=>da c λv H1 I1 z q1=>bi (ho pins l σ H1 _ I1 q1) λu j c=>da c λx H2 I2 p q2=>bi (Y pins j σ H2 _ I2 q2) λiv s3 c=>da c λy H3 I3 m g=>?_) hs;cases x with
 | ref a=>
  obtain⟨kvs,e,L⟩:=dH g;obtain⟨k,ek,U,C⟩:=dH L;obtain⟨a',ea,Z⟩:=lE e;cases ea;have ey:=ud ek;subst ey;obtain rfl:u=OX a:=p;exact sy Q I3 (qU.k Z U) m z λs4 I4=>⟨σ,_,I4,C⟩
 | _=>exact g.elim
def zy(f ty d:TE):TE:=λσ H Q=>f σ H λx H1=>on (hW H1 x) λ_=>ty σ H1 λy g=>d σ g λz c=>on (hW c x) λkvs=>on (qX y) λk=>Q ((cX kvs k).getD z) c
theorem A9{o e f:O4}{p ty l:TE}{d c:Pos}(hu:X.A.units+1<QK)(ho:PE X o p)(he:PE X e ty)(hf:PE X f l)(m:M2 X o "get" d e f c):PE X (.Call (.Attribute o "get" d) [e,f] [] c) (zy p ty l):=by
 intro pins s σ H Q I h;refine UQ m.base m.few m.line P0 Qx Tv (bi (ho pins s σ H _ I h) λu U g=>da g λx H1 I1 rx q1=>?_);obtain⟨kvs,e1,q1⟩:=dH q1;obtain⟨a,rfl,ha⟩:=lE e1;obtain rfl:u=OX a:=rx;obtain⟨L,C,_⟩:=xN I1 (.inl ⟨kvs,.inl ha⟩);refine⟨L,C,?_⟩;rw[m.trees];refine Re rfl (Q5<|QY<|bi (he pins U σ H1 _ I1 q1) λiv O g=>da g λy H2 I2 Z q2=>QY (bi (hf pins O σ H2 _ I2 q2) λfv s3 g=>da g λz H3 I3 Y q3=>Sj ?_));obtain⟨r,e2,q4⟩:=dH q3;obtain⟨k,ek,q5⟩:=dH q4;obtain⟨a',ea,j⟩:=lE e2;cases ea;have ey:=ud ek;subst ey;exact Dg hu I3 (iw.k j) Z Y λw' s4 I4 i=>⟨_,H3,I4,i,q5⟩
def qY(H:Hp):V->Option Bool
 | .non=>some false
 | .bl b=>some b
 | .int i=>some (i !=0)
 | .ref a=>match H a with
  | some (.lst xs)=>some !xs.isEmpty
  | some (.tup xs)=>some !xs.isEmpty
  | some (.frz _ (.lst xs))=>some !xs.isEmpty
  | some (.dK kvs)=>some !kvs.isEmpty
  | _=>none
 | _=>none
def Dy(c:TE):TT:=λσ H Q=>c σ H λx H1=>on (qY H1 x) λb=>Q b H1
theorem dR{a:O4}{c:TE}(l:PE X a c)(j:∀whole,WL a X.env whole=(do let v <-whole;Rp a.pos;Rq [v] (ZI v)):=by with_unfolding_all (intro _;rfl)):PT X a (Dy c):=by
 intro pins s σ H Q I h;refine W3 (bi (l pins s σ H _ I h) λv f d=>da d λx H1 I1 g q1=>xC pins f σ H1 x v Q I1 g ?_) (j _);obtain⟨b,e,q⟩:=dH q1;refine⟨b,?_,q⟩;cases x with
 | non=>cases e;rfl
 | bl b=>cases e;rfl
 | int i=>cases e;rfl
 | ref a=>
  simp only[qY] at e;split at e
  ·cases e;exact .inl ⟨_,.inl<|.inl ‹_›,rfl⟩
  ·cases e;exact .inr (.inl ⟨_,g9.of ‹_›,rfl⟩)
  ·cases e;exact .inl ⟨_,.inl<|.inr ⟨_,‹_›⟩,rfl⟩
  ·cases e;exact .inr (.inr ⟨_,‹_›,rfl⟩)
  ·cases e
 | _=>cases e
end
section
variable{Q:VK}{Qb:Bool->Hp->Prop}{Qs:List V->Hp->Prop}{Dd:qT}{ta tb tc:TE}{tt tu:TT}{ts tr:TS}{te:TA}{g:TG}{sp:Sp}{r:R2}
theorem zz:Cv ts tr Dd σ H=ts {Dd with nx:=tr Dd} σ H:=rfl
theorem Dz:HA Dd σ H=Dd.nx σ H:=rfl
theorem oz:K7 ta Dd σ H=ta σ H Dd.rt:=rfl
theorem Ga:K8 tt ts tr Dd σ H=tt σ H λb H1=>if b=true then ts Dd σ H1 else tr Dd σ H1:=rfl
theorem zA:jc ta g Dd σ H=ta σ H λx H1=>g x σ H1 Dd.nx:=rfl
theorem vP{i:Nat}{v:V}{c:St->Hp->Prop}:fQ i v σ H c=c (σ.set i<|some v) H:=rfl
theorem ue{i:Nat}:xv i σ H Q=on (σ[i]?.join) λv=>Q v H:=by
 unfold xv;cases e:σ[i]? with
 | none=>simp[on]
 | some o=>
  cases o with
  | none=>simp[on]
  | some v=>simp[on]
theorem HR{v:V}:tC v σ H Q=Q v H:=rfl
theorem xQ:IY r ta tb σ H Q=ta σ H λx H1=>tb σ H1 λy c=>r x y c Q:=rfl
theorem Jx:N3 tt ta tb σ H Q=tt σ H λc H1=>if c=true then ta σ H1 Q else tb σ H1 Q:=rfl
def Nz(x:V)(P:Bool->Prop):Prop:=match x with
 | .bl b=>P b
 | _=>False
theorem DA{b:Bool}{P:Bool->Prop}:Nz (.bl b) P=P b:=rfl
theorem Jy{x:V}{P:Bool->Prop}:(∃c,x=.bl c/\P c)=Nz x P:=by
 refine propext ⟨λh=>?_,λh=>?_⟩
 ·obtain⟨c,rfl,h⟩:=h;exact h
 ·cases x with
  | bl b=>exact⟨b,rfl,h⟩
  | _=>exact h.elim
theorem DB:vy ta σ H Qb=ta σ H λx H1=>Nz x λc=>Qb c H1:=by
 unfold vy;congr 1;funext x H1;exact Jy
theorem Jz{u:List V->Hp->VK->Prop}:Jg u te σ H Q=te σ H λvs H1=>u vs H1 Q:=rfl
theorem DC{dvs:List V}{E:XK}:jY sp dvs E te σ H Q=te σ H λvs H1=>sp (vs++dvs) H1 Q E:=rfl
theorem DD:jX ta te σ H Qs=ta σ H λx H1=>te σ H1 λxs c=>Qs (x::xs) c:=rfl
theorem zB:mq σ H Qs=Qs [] H:=rfl
theorem pF{f:Int->Int->V}{i j:Int}:AI f (.int i) (.int j) H Q=Q (f i j) H:=by
 unfold AI;refine propext ⟨λh=>?_,λh=>⟨i,j,rfl,rfl,h⟩⟩;obtain⟨m,l,d,c,h⟩:=h;cases d;cases c;exact h
theorem ni{C:Int->Int->Prop}{f:Int->Int->V}{i j:Int}:rI C f (.int i) (.int j) H Q=(C i j/\Q (f i j) H):=by
 unfold rI;refine propext ⟨λh=>?_,λh=>⟨i,j,rfl,rfl,h⟩⟩;obtain⟨m,l,d,c,h⟩:=h;cases d;cases c;exact h
theorem Ba:Dw ta tb σ H Q=ta σ H λx H1=>tb σ H1 λy c=>on (hW c x) λkvs=>on (qX y) λk=>on (cX kvs k) λv=>Q v c:=rfl
theorem xR:zy ta tb tc σ H Q=ta σ H λx H1=>on (hW H1 x) λ_=>tb σ H1 λy d=>tc σ d λz c=>on (hW c x) λkvs=>on (qX y) λk=>Q ((cX kvs k).getD z) c:=rfl
def HS(Dd:qT)(σ:St)(x y v:V)(H:Hp):Prop:=match x with
 | .ref a=>on (hW H x) λkvs=>on (qX y) λk=>kvs.length<OR/\Dd.nx σ (upd H a<|.dK<|dc kvs k v)
 | _=>False
theorem Bb:Dx ta tb tc Dd σ H=tc σ H λv H1=>ta σ H1 λx d=>tb σ d λy c=>HS Dd σ x y v c:=rfl
theorem pG{a:OD}{y v:V}:HS Dd σ (.ref a) y v H=on (hW H<|.ref a) λkvs=>on (qX y) λk=>kvs.length<OR/\Dd.nx σ (upd H a<|.dK<|dc kvs k v):=rfl
theorem lF{i:Int}:qX (.int i)=some (.inl i):=rfl
theorem DE{x:Str}:qX (.str x)=some (.inr x):=rfl
end
def Kp(h h':Pk):Prop:=∀b o,h.get? b=some o->h'.get? b=some o
theorem Kp.trans{h d c:Pk}(x:Kp h d)(y:Kp d c):Kp h c:=λb o e=>y b o (x b o e)
theorem Kp.push(h:Pk)(o:Obj):Kp h (h.push o):=λ_ _ e=>OF _ e
def oA(a:OD)(h h':Pk):Prop:=∀b o,b≠a->h.get? b=some o->h'.get? b=some o
theorem oA.upd(h:Pk)(a:OD)(g:Obj->Obj):oA a h (h.update a g):=λb o n e=>(P1 _ _ _ _ n).trans e
theorem oA.kp{a:OD}{h d c:Pk}(x:oA a h d)(y:Kp d c):oA a h c:=λb o n e=>y b o (x b o n e)
theorem oA.trans{a:OD}{h d c:Pk}(x:oA a h d)(y:oA a d c):oA a h c:=λb o n e=>y b o n (x b o n e)

section
variable{a kS:OD}{vs:List OC}{kz:List Int}{keys:Array OC}{e e1:Nat}{P:XE->OI->Prop}
theorem vQ{st:SortSt}(u:s.heap.get? kS=some (Pb "list" keys e))(x:s.heap.get? a=some (Pb "list" #[] e1))(f:kS≠a)
  (l:kz.length=vs.length) (m:TR keys.toList kz) (H:vs.length<64) (j:(U6 st).Perm (keys.zip vs.toArray)) (hs:SortedTo (U6 st) (U6 st).size) (g:U7 st=none)
  (h:∀h' out c,(∀b o,b≠a->b≠kS->s.heap.get? b=some o->h'.get? b=some o)->h'.get? a=some (Pb "list" out c)->ZP false kz vs out.toList->P (.done<|.ret .none) {s with heap:=h'}) :
  OM (OP prog w) A (YD a false e1 (.ref kS) st) P E s:=by
 have i:keys.size=vs.length:=by have:=m.length;rw[Px] at this;omega
 have r:(U6 st).size=vs.length:=by rw[j.size_eq,YE,i,OJ,ZQ]
 have p:((U6 st).map (·.2)).size=vs.length:=by rw[Array.size_map];exact r
 have d:(s.heap.update kS<|Po λ_=>(#[]:Array OC)).get? a=some (Pb "list" #[] e1):=(P1 _ _ _ _ f.symm).trans x;unfold YD;dsimp only;refine OB (QN u rfl ?_ (by rw[i,Pz];omega)<|PY _);refine OB (VX<|OB<|SU d rfl ?_);refine OB (QN d rfl ?_ (PY _)<|by simp only[O5,if_false];rw[p,Pz];omega);rw[g];simp only[bne_self_eq_false,O5,if_false];refine OE (h _ ((U6 st).map (·.2)) _ (λb o C z q=>?_) (Rz d λ_=>(U6 st).map (·.2))<|by simpa using ksk_out (b:=false) m j hs);exact(P1 _ _ _ _ C).trans ((P1 _ _ _ _ z).trans q)

theorem Gb(p:s.heap.get? kS=some (Pb "list" keys e))(u:s.heap.get? a=some (Pb "list" #[] e1))(g:kS≠a)
  (d:kz.length=vs.length) (l:TR keys.toList kz) (m:vs.length<64)
  (h:∀h' out c,(∀b o,b≠a->b≠kS->s.heap.get? b=some o->h'.get? b=some o)->h'.get? a=some (Pb "list" out c)->ZP false kz vs out.toList->P (.done<|.ret .none) {s with heap:=h'}) :
  OM (OP prog w) A (Yp a false vs.toArray e1 (.ref kS) keys) P E s:=by
 have C:keys.size=vs.length:=by have:=l.length;rw[Px] at this;omega
 have z:(keys.zip vs.toArray).size=vs.length:=by rw[YE,C,OJ,ZQ]
 unfold Yp;simp only[O5,if_false];by_cases f:vs.toArray.size<2
 ·rw[if_pos f,if_pos f];refine OB (OE ?_);rw[Vz];refine OB (OE ?_);refine vQ (st:=TJ YF (keys.zip vs.toArray) #[] 7 none) p u g d l m (X9 _) (λi j l1 I=>?_) rfl h;have l3:j<(keys.zip vs.toArray).size:=I;rw[z] at l3;rw[OJ] at f;obtain rfl:i=j:=by omega
  exact RD _
 ·rw[if_neg f,if_neg f];rw[OJ] at f;rw[ksk_kind l (by omega)];refine OB (OE ?_);refine OB (Pf (wpS_sortRuns (a₀:=keys.zip vs.toArray) (st:=TJ oneType' (keys.zip vs.toArray) #[] 7 none)
   (Q:=λ_ r=>(U6 r).Perm (keys.zip vs.toArray)/\U7 r=none/\SortedTo (U6 r) (keys.zip vs.toArray).size)
   (ksk_intKeys l) ⟨X9 _,rfl,rfl,rfl⟩ (by omega) (by omega) λr q1 q2 H=>⟨q1,q2,H⟩) ?_ λ_ _ q=>q)
  rintro ⟨⟨⟩,r⟩ s' ⟨rfl,x,L,hs⟩;exact vQ p u g d l m x (by rw[x.size_eq];exact hs) L h

theorem DF{f:OC}(Z:s.heap.get? kS=some (Pb "list" #[] 0))(na:s.heap.get? a=some (Pb "list" #[] e1))(z:kS≠a)(p:kz.length=vs.length)(L:vs.length<64)
  (turn:∀(i:Nat) (v:OC) (k:Int),vs[i]?=some v->kz[i]?=some k->∀(h:Pk) (tk:Nat),oA kS s.heap h ->
   OM (OP prog w) A (call f [v]) (λu s'=>∃h' I t,s'={s with heap:=h',toks:=I}/\Kp h h'/\u=.int k t) (λ_ _=>False) {s with heap:=h,toks:=tk})
  (h:∀h' tk out c,(∀b o,b≠a->b≠kS->s.heap.get? b=some o->h'.get? b=some o)->h'.get? a=some (Pb "list" out c)->ZP false kz vs out.toList->P (.done<|.ret .none) {s with heap:=h',toks:=tk}) :
  OM (OP prog w) A (YG a f false vs.toArray e1<|.ref kS) P E s:=by
 unfold YG;refine OB (Tx ?_)
 first
  | rw[WV]
  | (rw[<-WW];simp only[Wm])
 refine OB (ksk_fold (λi s'=>∃h' tk d e,s'={s with heap:=h',toks:=tk}/\oA kS s.heap h'/\h'.get? kS=some (Pb "list" d e)/\TR d.toList (kz.take i)) vs 0 s
  ⟨s.heap,s.toks,#[],0,rfl,λ_ _ _ q=>q,Z,by simpa using IntsAre.nil⟩ ?step ?done)
 case step=>
  rintro j x s' Q ⟨g,tk,d,e,rfl,kp,C,m⟩;simp only[Xg] at m ⊢;have hj:j<vs.length:=(OL.mp Q).1;have r:kz[j]?=some kz[j]:=Pd (by omega);have hz:d.size≤vs.length:=by have:=m.length;rw[Px,TB] at this;omega
  refine OB (RH<|Pf (turn j x _ Q r g tk kp) (λv Y he=>?_) λ_ _ q=>q.elim);obtain⟨g2,U,H,rfl,l,rfl⟩:=he;dsimp only;refine OB (QN (l _ _ C) rfl ?_ (by rw[Pz];omega)<|by rw[Yb,Pz];omega);refine OE ⟨rfl,_,_,d.push<|.int kz[j] H,_,rfl,(kp.kp l).trans (oA.upd _ _ _),Rz (l _ _ C) (·.push (.int kz[j] H)),?_⟩;have q1:kz.take (j+1)=kz.take j++[kz[j]]:=by rw[List.take_add_one,r];rfl
  have q2:(d.push<|RK kz[j] H).toList=d.toList++[RK kz[j] H]:=by simp
  rw[q1,q2];exact ksk_snoc m
 case done=>
  rintro s' ⟨g,tk,d,e,rfl,kp,C,m⟩;rw[Vr (by omega)] at m;refine OB (Um C rfl ?_);exact Gb (s:={s with heap:=g,toks:=tk}) C (kp a _ z.symm na) z p m L λh' out c kk ha ho=>h h' tk out c (λb o n1 O q=>kk b o n1 O (kp b o O q)) ha ho

theorem DG{f:OC}{n:Nat}(ho:s.heap.get? a=some (Pb "list" vs.toArray n))(l:kz.length=vs.length)(r:vs.length<64)
  (turn:∀(i:Nat) (v:OC) (k:Int),vs[i]?=some v->kz[i]?=some k->∀(h:Pk) (tk:Nat),oA a s.heap h ->
   OM (OP prog w) A (call f [v]) (λu s'=>∃h' p t,s'={s with heap:=h',toks:=p}/\Kp h h'/\u=.int k t) (λ_ _=>False) {s with heap:=h,toks:=tk})
  (h:∀h' tk out c,oA a s.heap h'->h'.get? a=some (Pb "list" out c)->ZP false kz vs out.toList->P (.done<|.ret .none) {s with heap:=h',toks:=tk}) :
  OM (OP prog w) A (ksk_tree a f false) P E s:=by
 have I:a<s.heap.objs.size:=OO ho;have x:((s.heap.update a<|Po λ_=>(#[]:Array OC)).push (Pb "tuple" vs.toArray 0)).objs.size=s.heap.objs.size+1:=by rw[size_push',Heap.size_update]
 have j:=Rz ho λ_=>(#[]:Array OC)
 unfold ksk_tree;have few:vs.length≤OR:=by rw[Pz];omega
 refine OB (Um ho rfl<|OB<|QN ho rfl (OB<|SU j rfl<|OB<|UF (OB<|SE (Pg ?_)<|PY _) few) (by rw[OJ];exact few)<|PY _);have d:oA a s.heap (((s.heap.update a<|Po λ_=>(#[]:Array OC)).push (Pb "tuple" vs.toArray 0)).push (Pb "list" #[] 0)):=((oA.upd _ _ _).kp (Kp.push _ _)).kp (Kp.push _ _);have lk:∀b o,s.heap.get? b=some o->b≠((s.heap.update a<|Po λ_=>(#[]:Array OC)).push (Pb "tuple" vs.toArray 0)).objs.size:=λb o q=>by
  rw[x];exact O0 (Sk<|OO q)
 refine DF (s:={s with heap:=((s.heap.update a<|Po λ_=>(#[]:Array OC)).push (Pb "tuple" vs.toArray 0)).push (Pb "list" #[] 0)}) (kS:=((s.heap.update a<|Po λ_=>(#[]:Array OC)).push (Pb "tuple" vs.toArray 0)).objs.size)
  (OQ _ rfl) (OF _<|OF _ j) (lk a _ ho).symm l r (λi v k q1 q2 g tk kp=>?_) λh' tk out c z H C=>?_
 ·exact turn i v k q1 q2 g tk λb o m q=>kp b o (lk b o q) (d b o m q)
 ·exact h h' tk out c (λb o m q=>z b o m (lk b o q) (d b o m q)) H C
end
section
variable{vs:List OC}{kz:List Int}{Q:OC->OI->Prop}
theorem xT{t q:OD}(ht:Wx s.heap t vs.toArray)(j:kz.length=vs.length)(p:vs.length<64)
  (turn:∀(i:Nat) (v:OC) (k:Int),vs[i]?=some v->kz[i]?=some k->∀(h:Pk) (tk:Nat),Kp s.heap h ->
   OM (OP prog w) A.in1.in1 (call (.ref q) [v]) (λu s'=>∃h' l t,s'={s with heap:=h',toks:=l}/\Kp h h'/\u=.int k t) (λ_ _=>False) {s with heap:=h,toks:=tk})
  (h:∀D h' tk out c,Kp s.heap h'->s.heap.get? D=none->h'.get? D=some (Pb "list" out c)->ZP false kz vs out.toList->Q (.ref D) {s with heap:=h',toks:=tk}) :
  OM (OP prog w) A (call (.builtin "sorted") [.ref t] [(OG "key",.ref q)]) Q E s:=by
 have few:vs.length≤OR:=by rw[Pz];omega
 obtain⟨o,ho,C,n,hd⟩:=ht;refine Vs X1 Xh Xi (ksk_s1 _ _) ?_;unfold QS.«sorted»;refine OB (m:=YH "sorted" 1 1 _) (OE<|OB<|UR t (.inr rfl) ho C hd (λg kg=>?_)<|by rw[OJ];exact few);refine OB (SE ?_ few);have f:(g.push<|Pb "list" vs.toArray 0).get? g.objs.size=some (Pb "list" vs.toArray 0):=OQ _ rfl;have d:Kp s.heap (g.push<|Pb "list" vs.toArray 0):=Kp.trans kg (Kp.push _ _);have fr:s.heap.get? g.objs.size=none:=by
  cases e:s.heap.get? g.objs.size with
  | none=>rfl
  | some ob=>exact absurd (OO<|kg _ _ e) (QL _)
 have r:∀b ob,s.heap.get? b=some ob->b≠g.objs.size:=λb ob e z=>by rw[z,fr] at e;cases e
 show OM _ _ _ _ _ {s with heap:=g.push (Pb "list" vs.toArray 0)};refine OB (Pg<|Wn VY ⟨_,f,rfl⟩ VA ?_<|ksk_l1 _ _);rw[ksk_t1];refine DG (s:={s with heap:=g.push (Pb "list" vs.toArray 0)}) f j p (λi v k q1 q2 I tk kp=>?_) λh' tk out c kp H x=>⟨_,rfl,?_⟩
 ·exact turn i v k q1 q2 I tk λb ob e=>kp b ob (r b ob e) (d b ob e)
 ·exact OE ⟨_,rfl,h _ h' tk out c (λb ob e=>kp b ob (r b ob e) (d b ob e)) fr H x⟩

theorem Gc{f c' t:OD}{qual x:Str}{params:RO}{scope:PQ}{L i:OC}{Y U O:Pos}{Z:Nat}{items:Array OC}{k:Int}{u:Tok}
  (ho:s.heap.get? f=some (Sd "<lambda>" qual params (.Subscript (.Name x Y) (.Constant (.int 0) Z U) O) scope [] L c' i)) (I:s.heap.CodeRec (.ref c') qual)
  (c:A.depth<RM) (m:s.heap.NoLimit)
  (hb:∀v,RN (RS "<lambda>" qual params (.Subscript (.Name x Y) (.Constant (.int 0) Z U) O) scope [] L (.ref c') i) ⟨[v],[]⟩=pure [(x,v)])
  (hx:scope.names.lookup x=some .local) (d:∀y∈scope.names,y.2≠.cell) (hk:scope.kind=.function) (H:scope.isCoroutine=false) (h:scope.isGenerator=false) (C:(x==("__debug__":Str))=false)
  (ht:Wx s.heap t items) (h0:items[0]?=some (.int k u)) (hsz:items.size<64) :
  OM (OP prog w) A (call (.ref f) [.ref t]) (λr s'=>∃h' l t',s'={s with heap:=h',toks:=l}/\Kp s.heap h'/\r=.int k t') E s:=by
 refine QF (VZ c ho rfl H h rfl I ?_);rw[hb];refine OE (TY d (λy hy=>?_) (λh₁ p o=>?_) hk)
 ·rw[Ql.mp hy];exact hx
 ·have kp:Kp s.heap h₁:=λb ob e=>o.extBut b ob (O0<|OO e) (OF _ e);refine⟨m.keeps kp,V0 ?_⟩;refine WS (WM (TW hk hx p (v:=.ref t) (by simp) ?_) C);refine WN ?_;have g:Wx h₁ t items:=ht.keeps kp;have h1:0<items.size:=by
   rcases Nat.eq_zero_or_pos items.size with z | z
   ·rw[Vt (by omega)] at h0;cases h0
   ·exact z
  refine Th (x:=.int k u) (T:="tuple") g.typeIs PD.lookup ?_;exact Zu (j:=0) g (by decide) (by decide) (by simp[ZD,h1]) h0 ⟨rfl,h₁,_,u,rfl,kp,rfl⟩
end
structure Bc(K:OK)(mg:Str->Option OC)(c P:OD):Prop where
 hd:∀h,K.In h->PySem.W.CodeHd h c P
 ng:Pe≠P
def fR(c':OD)(qual:Str):HO:=.ext λh=>h.CodeRec (.ref c') qual
def lG(H:Hp)(P:OD)(pos:Pos)(qual:Str):Prop :=
 ∃ps,H P=some (.tbl ps)/\TriplesOk ps.toList/\(SV pos ps.toList=none∨∃c',SV pos ps.toList=some (.ref c')/\H c'=some (fR c' qual))
def HU:OC->V
 | .ref a=>.ref a
 | _=>.non
def Gd(kz:List Int)(xs ys:List V):Prop:=∃ps:List (Int×V),ps.Perm (kz.zip xs)/\ys=ps.map Prod.snd/\ps.Pairwise λp q=>p.1≤q.1
def uf(K:OK)(P:OD)(d:Pos)(qual:Str)(f:TE):TE:=λσ H Q=>f σ H λv H1=>∃t xs kz,v=.ref t/\H1 t=some (.tup xs)/\xs.length<64/\kz.length=xs.length /\
 (∀(i:Nat) (x:V) (k:Int),xs[i]?=some x->kz[i]?=some k->∃b ys,x=.ref b/\H1 b=some (.tup (.int k::ys))/\ys.length<60)/\lG H1 P d qual /\
 ∀D c ys,H1 D=none->c D=some (.lst ys)->(∀b o,b≠P->H1 b=some o->c b=some o)->lG c P d qual->Gd kz xs ys->Q (.ref D) c
theorem bj.some{h:Pk}{a:OD}{o:HO}(x:bj P w H h a o):∃u,h.get? a=some u:=by
 cases o with
 | lst xs=>obtain⟨_,_,_,_,e⟩:=x;exact⟨_,e⟩
 | tup xs=>obtain⟨_,_,_,u,e,_⟩:=x;exact⟨u,e⟩
 | dK kvs=>obtain⟨_,_,_,_,u,_,_,e,_⟩:=x;exact⟨u,e⟩
 | dT kvs=>obtain⟨_,_,_,_,u,_,_,e,_⟩:=x;exact⟨u,e⟩
 | set S n=>obtain⟨u,_,_,_,e,_⟩:=x;exact⟨u,e⟩
 | ins C g fs=>obtain⟨_,_,_,e,_⟩:=x;exact⟨_,e⟩
 | own y=>exact x
 | xd fs=>obtain⟨_,⟨u,_,_,e,_⟩,_⟩:=x;exact⟨u,e⟩
 | rng lo d=>obtain⟨_,_,_,e⟩:=x;exact⟨_,e⟩
 | frz ob u=>exact⟨_,x.1⟩
 | tbl ps=>exact⟨_,x⟩
 | met f y=>exact⟨_,x⟩
 | ext c=>exact x.2.1
theorem vR:∀{l:List OC},(∀u∈l,aI (HU u) u)->aK (l.map HU) l
 | [],_=>.nil
 | u::l,h=>.cons (h u OW) (vR λv c=>h v (OT _ c))
theorem TriplesOk.snoc{a b:Int}{t u:Tok}{c:OC}:∀{l:List OC},TriplesOk l->TriplesOk (l++[.int a t,.int b u,c])
 | [],_=>trivial
 | .int _ _::.int _ _::_::rest,h=>TriplesOk.snoc (l:=rest) h
section
variable{c P:OD}
theorem vS{Q:VK}{qual x:Str}{h:RO}{d:PQ}{p1 p2 p3 lp:Pos}{kd:Nat}{pm ctv:OC}{F c' t:OD}{g:Pk}{tk:Nat}{ps l:Array OC}{kz:List Int}
  (I:ay X pins σ H s) (hroom:X.A.depth<RM)
  (hb:∀v,RN (RS "<lambda>" qual h (.Subscript (.Name x p1) (.Constant (.int 0) kd p2) p3) d [] pm (.ref c') ctv) ⟨[v],[]⟩=pure [(x,v)])
  (hx:d.names.lookup x=some .local) (hcell:∀y∈d.names,y.2≠.cell) (hk:d.kind=.function) (hco:d.isCoroutine=false) (hgen:d.isGenerator=false) (hdb:(x==("__debug__":Str))=false)
  (kB:oA P s.heap g) (f:H P=some (.tbl ps)) (hP:g.get? P=some (RG l)) (hmore:∃more,l=ps++more) (h3:TriplesOk l.toList) (hca:SV lp l.toList=some (.ref c'))
  (hF:g.get? F=some (Sd "<lambda>" qual h (.Subscript (.Name x p1) (.Constant (.int 0) kd p2) p3) d [] pm c' ctv)) (hcd:g.CodeRec (.ref c') qual)
  (hc:(s.heap.get? c'=none/\H c'=none)∨H c'=some (fR c' qual))
  (ht:H t=some (.tup xs)) (h64:xs.length<64) (hlen:kz.length=xs.length)
  (hxs:∀(i:Nat) (x:V) (k:Int),xs[i]?=some x->kz[i]?=some k->∃b ys,x=.ref b/\H b=some (.tup (.int k::ys))/\ys.length<60)
  (q:∀D H2 ys,H D=none->H2 D=some (.lst ys)->(∀b o,b≠P->H b=some o->H2 b=some o)->lG H2 P lp qual->Gd kz xs ys->Q (.ref D) H2) :
  OM (OP X.prog X.w) X.A (call (.builtin "sorted") [.ref t] [(OG "key",.ref F)]) (EP X pins σ Q) X.xe {s with heap:=g,toks:=tk}:=by
 obtain⟨z,us,rv,tp⟩:=I.hok t _ ht;have nP:∀b o,H b=some o->(∀ps,o≠.tbl ps)->b≠P:=λb o e n z=>by rw[z,f] at e;cases e;exact n _ rfl
 have tpg:Wx g t us.toArray:=by
  obtain⟨o,ho,r⟩:=tp;exact⟨o,kB _ _ (nP t _ ht λ_ z=>by cases z) ho,r⟩
 have hul:=rv.length
 -- all items are references
 have C:∀(i:Nat) (u:OC) (k:Int),us[i]?=some u->kz[i]?=some k->∃b items tt,u=.ref b/\Wx g b items/\items[0]?=some (.int k tt)/\items.size<64/\xs[i]?=some (.ref b):=λi u k e1 e2=>by
  have hi:i<us.length:=(OL.mp e1).1;obtain⟨x,ex⟩:∃x,xs[i]?=some x:=⟨_,Pd<|by omega⟩
  obtain⟨b,ys,rfl,hbt,hy⟩:=hxs i x k ex e2;obtain⟨u',eu,ru⟩:=rv.get ex;rw[e1] at eu;cases eu;cases ru;obtain⟨zb,its,rb,ob,hob,r⟩:=I.hok b _ hbt;obtain⟨v0,rest,rfl,r0,rr⟩:∃v0 rest,its=v0::rest/\aI (.int k) v0/\aK ys rest:=by
   cases rb with
   | cons ra rt=>exact⟨_,_,rfl,ra,rt⟩
  obtain⟨tt,rfl⟩:=r0;refine⟨b,_,tt,rfl,⟨ob,kB _ _ (nP b _ hbt λ_ z=>by cases z) hob,r⟩,by simp,?_,ex⟩;have:=rr.length;simp;omega
 refine xT (s:={s with heap:=g,toks:=tk}) (kz:=kz) tpg (by omega) (by omega) (λi u k e1 e2 h2 tk2 kp=>?_) λD h2 tk2 out cc kp fr hD hq=>?_
 ·obtain⟨b,items,tt,rfl,hbt,h0,hz,_⟩:=C i u k e1 e2;exact Gc (s:={s with heap:=h2,toks:=tk2}) (kp _ _ hF) (hcd.keeps kp) hroom (I.ok.mod.nolimit.keeps λb o e=>kp _ _ (kB b o (λz=>by have:=(I.bs b o e).2;rw[z,f] at this;cases this)<|I.bk b o e)) hb hx hcell hk hco hgen hdb (hbt.keeps kp) h0 hz
 ·obtain⟨prs,pm,eo,pw⟩:=hq;have nDc:D≠c':=λz=>by
   obtain⟨c2,oc,_,_,e2,L,_⟩:=hcd;cases e2;rw[<-z] at L;rw[show g.get? D=none from fr] at L;cases L
  have nDP:D≠P:=λz=>by have f':g.get? D=none:=fr;rw[z,hP] at f';cases f'
  have sD:s.heap.get? D=none:=by
   cases e:s.heap.get? D with
   | none=>rfl
   | some o=>exact absurd ((kB D o nDP e).symm.trans fr) (by simp)
  have HD:H D=none:=by
   cases e:H D with
   | none=>rfl
   | some o=>
    obtain⟨u,hu⟩:=(I.hok D o e).some;rw[sD] at hu;cases hu
  have ncP:c'≠P:=λz=>by
   rcases hc with ⟨_,n⟩ | n
   ·rw[z,f] at n;cases n
   ·rw[z,f] at n;cases n
  generalize hys:out.toList.map HU=ys;generalize hH:upd (upd (upd H P<|.tbl l) c'<|fR c' qual) D (.lst ys)=H3;have gD:H3 D=some (.lst ys):=by rw[<-hH];exact aq
  have gc:H3 c'=some (fR c' qual):=by rw[<-hH,al nDc.symm];exact aq
  have gP:H3 P=some (.tbl l):=by rw[<-hH,al nDP.symm,al ncP.symm];exact aq
  have go:∀b,b≠P->b≠c'->b≠D->H3 b=H b:=λb n1 n2 n3=>by rw[<-hH,al n3,al n2,al n1]
  have same:∀b o,b≠P->H b=some o->H3 b=some o:=λb o n e=>by
   by_cases Y:b=D
   ·rw[Y,HD] at e;cases e
   ·by_cases U:b=c'
    ·rcases hc with ⟨_,n'⟩ | n'
     ·rw[U,n'] at e;cases e
     ·rw[U,n'] at e;rw[U,gc];exact e
    ·rw[go b n U Y];exact e
  have j:∀b o,b≠P->s.heap.get? b=some o->h2.get? b=some o:=λb o n e=>kp _ _ (kB b o n e);have Z:∀u∈out.toList,aI (HU u) u:=λu hu=>by
   rw[eo] at hu;obtain⟨⟨k,u'⟩,hp,rfl⟩:=QC.mp hu;have hm:=pm.mem_iff.mp hp;obtain⟨i,hi⟩:=List.mem_iff_getElem?.mp hm;rw[UK] at hi;obtain⟨b,_,_,e,_⟩:=C i u' k hi.2 hi.1;show aI (HU u') u';rw[e];rfl
  have sorted:Gd kz xs ys:=by
   have exs:xs=us.map HU:=by
    apply List.ext_getElem?;intro i;rw[Pv];by_cases hi:i<us.length
    ·obtain⟨b,_,_,e,_,_,_,ex⟩:=C i us[i] kz[i] (Pd hi) (Pd<|by omega);rw[Pd hi,ex,e];rfl
    ·rw[VH (by omega),VH (by omega)];rfl
   refine⟨prs.map λp=>(p.1,HU p.2),?_,?_,?_⟩
   ·have:=pm.map λp:Int×OC=>(p.1,HU p.2)
    rw[exs,List.zip_map_right];exact this
   ·rw[<-hys,eo,Sr,Sr];rfl
   ·rw[US];simpa using pw
  refine⟨.ref D,H3,?_,rfl,q D H3 ys HD gD same ⟨l,gP,h3,.inr ⟨c',hca,gc⟩⟩ sorted⟩;show ay X pins σ H3 {s with heap:=h2,gens:=s.gens,drawn:=s.drawn,toks:=tk2};refine I.step (ch:=[]) (λ_ z=>nomatch z) (λb o _ _ _ e n=>j b o (λz=>by rw[z,f] at n;cases n) e) (λb o _ _ _ e n=>⟨o.slots,j b o (λz=>by rw[z,f] at n;cases n) e⟩)
   (λb o _ e n=>?_) (λb o _ e=>?_) (λb xs e=>same b _ (nP b _ e λ_ z=>by cases z) e) (λb o u e=>same b _ (nP b _ e λ_ z=>by cases z) e) (λb qs e=>?_) (λm hm=>?_) (λb o e=>?_) I.bare
  ·-- free
   by_cases Y:b=D
   ·rw[Y,sD] at e;cases e
   ·by_cases U:b=c'
    ·rcases hc with ⟨n',_⟩ | n'
     ·rw[U,n'] at e;cases e
     ·rw[U,n'] at n;cases n
    ·by_cases O:b=P
     ·rw[O,f] at n;cases n
     ·rw[go b O U Y];exact n
  ·by_cases O:b=P
   ·rw[O];exact⟨_,kp _ _ hP⟩
   ·exact⟨o,j b o O e⟩
  ·by_cases O:b=P
   ·rw[O,f] at e;cases e;obtain⟨more,em⟩:=hmore;exact⟨more,by rw[O,gP,em]⟩
   ·exact⟨#[],by rw[same b _ O e];simp⟩
  ·obtain⟨o,es,ep,ho,r⟩:=hm;exact⟨o,es,ep,j _ o (λz=>by have:=I.free;rw[z,f] at this;cases this) ho,r⟩
  ·by_cases Y:b=D
   ·rw[Y,gD] at e;cases e;rw[Y];have hl:ys.length=out.toList.length:=by rw[<-hys,Ps]
    refine⟨?_,out.toList,cc,?_,by rw[hD]⟩
    ·rw[hl,eo,Ps,pm.length_eq,List.length_zip];exact QP (bZ<|by omega)
    ·rw[<-hys];exact vR Z
   ·by_cases U:b=c'
    ·rw[U,gc] at e;cases e;rw[U];refine⟨hcd.keeps kp,?_,?_⟩
     ·obtain⟨c2,oc,_,_,e2,L,_⟩:=hcd.keeps kp;cases e2;exact⟨oc,L⟩
     ·rintro h4 h5 ⟨c2,oc,vs,tt,e2,L,r⟩ hk5;cases e2;exact⟨_,oc,vs,tt,rfl,hk5 oc L,r⟩
    ·by_cases O:b=P
     ·rw[O,gP] at e;cases e;rw[O];exact kp _ _ hP
     ·rw[go b O U Y] at e;refine(I.hok b o e).stay (λb' u hb' e'=>j b' u ?_ e') (λb' e'=>?_) λb' zs e'=>?_
      ·rcases hb' with rfl | e2
       ·exact O
       ·exact nP b' _ e2 λ_ z=>by cases z
      ·exact same b' _ (nP b' _ e' λ_ z=>by cases z) e'
      ·exact same b' _ (nP b' _ e' λ_ z=>by cases z) e'
theorem DH{e:O4}{te:TE}{x:Str}{f:RO}{d:PQ}{p p1 p2 p3 lp kp pos:Pos}{kd:Nat}(L:Bc X.K X.mg c P)(hB:X.base.BuiltinsAt X.mg P)(m:X.env.code=.ref c)(j:X.A.depth<RM)(hm:X.mg "sorted" = none)(he:PE X e te)
  (hdef:WX f X.env=([],[]):=by nofun) (hcl:UE d X.env=pure []:=by nofun)
  (hb:∀qual pm c' ctv v,RN (RS "<lambda>" qual f (.Subscript (.Name x p1) (.Constant (.int 0) kd p2) p3) d [] pm (.ref c') ctv) ⟨[v],[]⟩=pure [(x,v)]:=by with_unfolding_all (intros;rfl))
  (hx:d.names.lookup x=some .local:=by nofun) (r:∀y∈d.names,y.2≠.cell:=by with_unfolding_all decide) (hk:d.kind=.function:=by nofun) (hco:d.isCoroutine=false:=by nofun) (U:d.isGenerator=false:=by nofun) (hdb:(x==("__debug__":Str))=false:=by decide)
  (hg:Gl X "sorted":=by nofun) (Y:O1 [e] X.env=(false,Pq e X.env)::O1 [] X.env:=by nofun) :
  PE X (.Call (.Name "sorted" p) [e] [⟨some "key",.Lambda f (.Subscript (.Name x p1) (.Constant (.int 0) kd p2) p3) d lp,kp⟩] pos) (uf X.K P lp (X.env.qual++"<lambda>") te):=by
 intro pins s σ H Q I h;refine PR (oR I hg hm bU ?_);refine V1 (by rw[Y];rfl) (by rfl) (ZR (by rfl) ?_ Y);have ha:PA X [e] (jX te mq):=bK he cW Y;refine bi (ha pos pins s σ H (λvs H1=>match vs with
  | [v]=>∃t xs kz,v=.ref t/\H1 t=some (.tup xs)/\xs.length<64/\kz.length=xs.length /\
   (∀(i:Nat) (x:V) (k:Int),xs[i]?=some x->kz[i]?=some k->∃b ys,x=.ref b/\H1 b=some (.tup (.int k::ys))/\ys.length<60)/\lG H1 P lp (X.env.qual++"<lambda>") /\
   ∀D H2 ys,H1 D=none->H2 D=some (.lst ys)->(∀b o,b≠P->H1 b=some o->H2 b=some o)->lG H2 P lp (X.env.qual++"<lambda>")->Gd kz xs ys->Q (.ref D) H2
  | _=>False) I h) λus C z9=>da z9 λvs H1 I1 rv q1=>?_
 obtain⟨v,rfl⟩:∃v,vs=[v]:=by rcases vs with _ | ⟨v,_ | _⟩<;>first | exact⟨_,rfl⟩ | exact q1.elim
 obtain⟨t,xs,kz,ev,ht,h64,O,hxs,⟨ps,hP,h3,hps⟩,q⟩:=q1;subst ev;obtain⟨u,rfl,ru⟩:=iQ rv;cases ru;have Z:C.heap.get? P=some (RG ps):=I1.hok P _ hP;have ne:∀b o,X.base.get? b=some o->b≠P:=λb o e z=>by have:=(I1.bs b o e).2;rw[z,hP] at this;cases this
 have hbA:C.heap.BuiltinsAt X.mg P:=by
  obtain⟨bm,ob,b1,b2,b3,b4,b5,b6⟩:=hB;exact⟨bm,ob,b1,b2,b3,b4,I1.bk _ _ b5,b6⟩
 have hgl:X.env.globals=Pe:=I1.ok.glob;have hns:C.heap.Ns Pe X.mg:=I1.mod.glob.keeps I1.bk;show OM _ _ (ZN [do let v <-Pq (.Lambda f (.Subscript (.Name x p1) (.Constant (.int 0) kd p2) p3) d lp) X.env;Rp pos;pure v]) _ _ C;refine Ux (OB<|XF hdef ?_);rcases hps with hn | ⟨c',hc,hx'⟩
 ·refine UX (mg:=X.mg) hcl hgl hns m (L.hd _ I1.kIn) Z h3 hn L.ng hbA λc' ctv g tk hx1 hge hlt l htb=>?_;refine OB (Qm<|OE<|Td ?_);have fr:C.heap.get? c'=none:=Qa hge;refine vS (s:=C) (ps:=ps) I1 j (λv=>hb _ _ _ _ v) hx r hk hco U hdb (λb o n e=>OF _ (hx1 b o n e)) hP (OF _ htb) ⟨_,rfl⟩ ?_ ?_ (OQ _ rfl) (l.push _) (.inl ⟨fr,I1.hok.fresh hge⟩) ht h64 O hxs q
  ·simpa[Rl] using TriplesOk.snoc h3
  ·simpa using codeAmong_snoc _ h3 hn
 ·refine Uo (mg:=X.mg) hcl hgl hns m (L.hd _ I1.kIn) Z h3 hc hbA λctv g tk hk1 hsz=>?_;refine OB (Qm<|OE<|Td ?_);have l:C.heap.CodeRec (.ref c') (X.env.qual++"<lambda>"):=(I1.hok c' _ hx').1;exact vS (s:=C) (ps:=ps) I1 j (λv=>hb _ _ _ _ v) hx r hk hco U hdb (λb o n e=>OF _ (hk1 b o e)) hP (OF _<|hk1 _ _ Z) ⟨#[],by simp⟩ h3 hc (OQ _ rfl) ((l.keeps hk1).push _) (.inr hx') ht h64 O hxs q
end
section
end
section
def DI(K:OK)(mg:Str->Option OC)(x:Str)(st:Rs)(c:OD):Prop :=
 ∃(f:OD) (h:OC) (g:Option OD) (kV doc d:OC) (i:Option OD) (ct:OC) (osl:Array (Option OC)),
  K.lookup f=some ⟨h,g,.func<|Pt x x (bq st) (aS st) (ae st) .none kV doc d i (.ref c) ct,osl⟩/\Qk K (.ref c) x=true/\Pn K (.ref f)=true/\mg x=some (.ref f)
end
section
end
section
end
section
def xU:List V->Hp->VK->Prop:=λxs H Q=>match xs with
 | [.int i,.int j]=>Q (.int<|if j > i then j else i) H
 | _=>False
def xW:List V->Hp->VK->Prop:=λxs H Q=>match xs with
 | [.int i,.int j]=>Q (.int<|if j<i then j else i) H
 | _=>False
theorem kG(c:X.calm=true):dj X (.builtin "max") xU:=by
 intro pins s σ H xs us Q I r h;unfold xU at h;split at h
 ·exact AJ c pins s σ H _ us Q I r ⟨_,_,rfl,h⟩
 ·exact h.elim
theorem xX(c:X.calm=true):dj X (.builtin "min") xW:=by
 intro pins s σ H xs us Q I r h;unfold xW at h;split at h
 ·exact AK c pins s σ H _ us Q I r ⟨_,_,rfl,h⟩
 ·exact h.elim
end
theorem uh{g:Str×Rm->Rm}(c:∀p,p.2=.cell∨p.2=.free->g p=.cell∨g p=.free):∀{names:List (Str×Rm)} {x:Str},(names.lookup x=some .cell∨names.lookup x=some .free) ->
  ((names.map λp=>(p.1,g p)).lookup x=some .cell∨(names.map λp=>(p.1,g p)).lookup x=some .free)
 | [],x,h=>by simp at h
 | (n,k)::r,x,h=>by
  rw[O8,PL];rw[PL] at h;cases e:(x==n) with
  | true=>
   rw[e] at h;simp only at h ⊢;have:=c (n,k) (by simpa using h);simpa using this
  | false=>
   rw[e] at h;simp only at h ⊢;exact uh c h
theorem qZ(c:PQ)(env:Env):∃g:Str×Rm->Rm,(∀p,p.2=.cell∨p.2=.free->g p=.cell∨g p=.free)/\(Vq c env).names=c.names.map λp=>(p.1,g p):=by
 refine⟨λp=>if (p.2==Qo&&env.scope.kind==.function&&env.kindOf p.1==some .cell) then .cell else p.2,λp h=>?_,?_⟩
 ·dsimp only;split
  ·exact .inl rfl
  ·exact h
 ·unfold Vq;dsimp only;apply Uh;intro p _;obtain⟨n,k⟩:=p;dsimp only;split<;>rfl
theorem aX.re{up:PQ}{N:List Str}{c:PQ}{f:List Str}{env:Env}(S:aX up N c f ix):aX (Vq up env) N c f ix:=by
 obtain⟨g,d,e⟩:=qZ up env;refine⟨S.kind,S.nocell,S.loc,λy i h=>?_,S.nd,S.len,λp l=>?_⟩
 ·rw[e];exact uh d (S.free y i h)
 ·have:=S.map p l
  revert this
  cases p.2 with
  | none=>intro _;rfl
  | some j=>
   intro this;simp only[OZ,decide_eq_true_eq] at this ⊢;obtain⟨⟨⟨u,r⟩,o⟩,m⟩:=this;exact⟨⟨⟨u,by rw[e];exact uh d r⟩,o⟩,m⟩
end L2
namespace LT
open PySem PySem.Spec PyProof.Rows L2
theorem Be{mg mb:Str->Option OC}{k:Nat}{fa a:OD}{ts:List OD}{x:Str}{sp:Sp}{s₁:OI}{vs:List OC}{ns:List Int}
  (KX:K.In s₁.heap) (U:s₁.heap.Ns Pe mg) (hb:s₁.heap.Ns Yr mb) (hbb:∀x:Str,x≠"__name__" -> mb x=PJ x) (Y:s₁.heap.NoLimit) (hg:s₁.gens=#[])
  (hB:∀T∈ts,s₁.heap.BuiltinsAt mg T) (I:∀T∈ts,s₁.heap.get? T=some (RG #[])) (hKT:∀T∈ts,K.lookup T=none) (hct:∀T∈ts,isCodeTable s₁.heap T)
  (C:s₁.heap.get? a=some {cls:=.type "list",data:=.seq vs.toArray}) (hi:TR vs ns) (hl:ns.length≤OR) (hr:a5 k Wf)
  (F:∀base:Pk,K.In base->base.Ns Pe mg->(∀T∈ts,base.BuiltinsAt mg T)->bG P w K mg base eY k fa fd [x] sp) (p:∀(s:OI) (u:OC),Wd s fd ⟨[u],[]⟩ [(x,u)])
  (hsp:∀H:Hp,ip K H a (ns.map V.int)->(∀T∈ts,H T=some (.tbl #[]))->sp [.ref a] H (λv _=>v=.bl true) λ_ _ _=>False) :
  RX (OP P w) Wf (.call (.ref fa) ⟨[.ref a],[]⟩) (λr s'=>r=.ok (.ret<|.bool true)/\OldK s₁.heap s'.heap/\s'.os=s₁.os/\TN s'.gens) s₁:=by
 have rv:=sA hi;have Q:=hi.length;have L:a∉ts:=λz=>by rw[I a z] at C;cases C
 have i:∀H:Hp,ip K H a (ns.map V.int)->(∀T∈ts,H T=some (.tbl #[]))->i6 P w H s₁.heap->(∀b u,H b=some u->b∈ts∨(b=a/\∃o xs,u=.frz o (.lst xs)))->(H a≠none->K.lookup a=none) ->
   RX (OP P w) Wf (.call (.ref fa) ⟨[.ref a],[]⟩) (λr s'=>r=.ok (.ret<|.bool true)/\OldK s₁.heap s'.heap/\s'.os=s₁.os/\TN s'.gens) s₁:=by
  intro H hS hHT hok hA hK;have noA:∀{b:OD} {o:Obj} {es:Array Ry} {ep:Nat},s₁.heap.get? b=some o->o.data=.dict es ep->H b=none:=λ{b o es ep} e d=>by
   cases q:H b with
   | none=>rfl
   | some u=>
    rcases hA b u q with z | ⟨z,_⟩
    ·rw[I b z] at e;cases e;cases d
    ·rw[z,C] at e;cases e;cases d
  have f:∀{b:OD} {m:Str->Option OC},s₁.heap.Ns b m->(tO s₁.heap H).Ns b m:=λ{b m} ⟨o,es,ep,e,d,r⟩=>⟨o,es,ep,oP e<|noA e d,d,r⟩
  have Z:K.In (tO s₁.heap H):=λb o e=>oP (KX b o e) (by
   cases q:H b with
   | none=>rfl
   | some u=>
    rcases hA b u q with z | ⟨z,_⟩
    ·rw[hKT b z] at e;cases e
    ·have:H a≠none:=by rw[<-z,q];simp
     rw[z,hK this] at e;cases e)
  have hM:Mod K mg (tO s₁.heap H):=⟨Z,f U,⟨mb,f hb,hbb⟩,let ⟨mc,h1,h2⟩:=Y;⟨mc,f h1,h2⟩⟩
  have e0:jd P w K mg (tO s₁.heap H) Wf [] s₁ H:=⟨rfl,hM,λb o e=>FG e,W8<|AE _ _,trivial,λb z=>absurd (show b∈([]:List OD) from z) (by simp),hok,.of_eq hg⟩
  have hBb:∀T∈ts,(tO s₁.heap H).BuiltinsAt mg T:=λT O=>by
   obtain⟨bm,ob,b1,b2,b3,b4,b5,b6,b7,b8⟩:=hB T O;refine⟨bm,ob,b1,b2,b3,b4,oP b5 ?_,b6,b7,b8⟩;cases q:H bm with
   | none=>rfl
   | some u=>
    rcases hA bm u q with z | ⟨z,_⟩
    ·rw[I bm z] at b5;cases b5;cases b6
    ·rw[z,C] at b5;cases b5;simp at b6
  refine Qf ((F _ Z (f U) hBb).run Wf [] s₁ H ⟨[.ref a],[]⟩ [.ref a] [.ref a] _ _ hr e0 (p s₁<|.ref a) (.cons rfl .nil) (hsp H hS hHT)) λr s' h=>?_;cases r with
  | error e=>exact(show False from h).elim
  | ok fl=>
   cases fl with
   | next=>exact Pa h
   | brk=>exact Pa h
   | cont=>exact Pa h
   | ret u=>
    obtain⟨v,H',os,bare,un,g,r',q⟩:=h;have q':v=.bl true:=q;subst q';obtain rfl:u=QX true:=r';refine⟨rfl,⟨λb o e=>?_,λb o e=>un.there b o e (by simp)⟩,os,bare⟩;cases q:H b with
    | none=>exact .inl (un.keep b o e q (by intro z;exact absurd (show b∈([]:List OD) from z) (by simp))<|by simp)
    | some u=>
     rcases hA b u q with z | ⟨z,ob,xs,j⟩
     ·obtain⟨more,e2⟩:=un.tbls b #[] (hHT b z);have e3:=g b _ e2;rw[I b z] at e;cases e;exact .inr (.inl ⟨hct b z,rfl,#[],more,rfl,e3⟩)
     ·rw[j] at q;have z2:=un.frzs b ob _ q;obtain⟨e1,_⟩:=hok b _ q;obtain⟨e2,_⟩:=g b _ z2;rw[e] at e1;cases e1;exact .inl e2
 cases hk:K.lookup a with
 | some o=>
  have e:=KX a o hk;rw[C] at e;cases e;refine i (λb=>if b∈ts then some (.tbl #[]) else none) (.inr ⟨_,vs.toArray,_,hk,rfl,rfl,rfl,by rw[OJ,Q];exact hl,by simpa using rv⟩) (λT O=>if_pos O) (λb u z=>?_) (λb u z=>?_) λz=>absurd (if_neg L) z
  ·by_cases hb:b∈ts
   ·have l:=(if_pos hb).symm.trans z;cases l;exact I b hb
   ·cases(if_neg hb).symm.trans z
  ·by_cases hb:b∈ts
   ·exact .inl hb
   ·cases(if_neg hb).symm.trans z
 | none=>
  refine i (λb=>if b∈ts then some (.tbl #[]) else if b=a then some (.frz {cls:=.type "list",data:=.seq vs.toArray}<|.lst<|ns.map V.int) else none)
   (.inl<|.inr ⟨{cls:=.type "list",data:=.seq vs.toArray},(if_neg L).trans (if_pos rfl)⟩) (λT O=>if_pos O) (λb u z=>?_) (λb u z=>?_) λ_=>hk
  ·by_cases hb:b∈ts
   ·have l:=(if_pos hb).symm.trans z;cases l;exact I b hb
   ·have j:=(if_neg hb).symm.trans z;by_cases c:b=a
    ·have l:=(if_pos c).symm.trans j;cases l;subst c;exact⟨C,by rw[Ps];exact hl,vs,_,rv,C⟩
    ·cases(if_neg c).symm.trans j
  ·by_cases hb:b∈ts
   ·exact .inl hb
   ·have j:=(if_neg hb).symm.trans z;by_cases c:b=a
    ·have l:=(if_pos c).symm.trans j;cases l;exact .inr ⟨c,_,_,rfl⟩
    ·cases(if_neg c).symm.trans j
theorem walk_ofT{l:UJ}{n k:Nat}{q:Ph}{loose:List Str}{XP:(Str->Option OC)->Pk->Prop}{YP:Py->Pk->Prop}{d:DefRec}{K:VU->OK}{sp:Py->Sp}{x:Str}{ts:List OD}
  (hn:l.most=some n) (L:n≤OR) (Q:d.params.defaults=[]) (hr:a5 k Wf)
  (hY:∀(w:Py) (h:Pk),YP w h->(K w.params).In h/\∀T∈ts,h.get? T=some (RG #[]))
  (F:∀(w:Py) (mg:Str->Option OC) (r:OD) (h:Pk),(K w.params).In h->h.Ns Pe mg->mg d.name=some (.ref r) ->
   (∀T∈ts,(K w.params).lookup T=none/\∃c,Q1 (K w.params) c T=true)/\∃fd:TV,(∀(s:OI) (u:OC),Wd s fd ⟨[u],[]⟩ [(x,u)]) /\
    ∀base:Pk,(K w.params).In base->base.Ns Pe mg->(∀T∈ts,base.BuiltinsAt mg T)->bG l.prog w (K w.params) mg base eY k r fd [x] (sp w))
  (I:∀(w:Py) (H:Hp) (a:OD) (ns:List Int),ns.length≤n->ip (K w.params) H a (ns.map V.int)->(∀T∈ts,H T=some (.tbl #[]))->sp w [.ref a] H (λv _=>v=.bl true) λ_ _ _=>False) :
  PySem.W.WalkO q loose XP YP l.row.toRowW d [] (λf vs=>PySem.call f vs):=by
 refine Att.attach_call hn Q λw s₀ s₁ mg mb r o pm cd doc a vs ns G Y ho hd hcd O p j i hg=>?_;obtain⟨KX,hT⟩:=hY w _ Y;obtain⟨hK,fd,hb,hF⟩:=F w mg r _ KX G.T.g O;refine Be (ts:=ts) KX G.T.g G.T.b G.T.builtins G.T.nolimit hg (λT m=>?_) hT (λT m=>(hK T m).1) (λT m=>?_) p j (PV i L) hr hF hb λH hS Z=>I w H a ns i hS Z
 ·obtain⟨bm,ob,b1,b2,b3,b4,b5,b6⟩:=G.T.bmain;refine⟨bm,ob,b1,b2,λz=>?_,λz=>?_,b3,b4,b5,b6⟩
  ·obtain⟨o,es,ep,e,U,_⟩:=G.T.g;rw[z,e] at b3;cases b3;rw[U] at b6;cases b6
  ·rw[z,hT T m] at b3;cases b3;cases b4
 ·obtain⟨c,hc⟩:=(hK T m).2;obtain⟨oc,C,_,_,_,_,_,_,_,g1,g2,g3,g4,_⟩:=Wo KX hc;exact⟨c,oc,C,g1,g2,g3,g4⟩
end LT
namespace RB
open PySem L2
inductive AV where
 | non | bl (b:Bool) | int (s:Bool) (lo hi:Int) | str (i:Nat) | ref (n:Nat) | ext (i:Nat) | tn | tc (h t:AV)
inductive AO where
 | lst (xs:List AV)
 | dk (kvs:List (AV×AV))
 | dt (kvs:List (AV×AV))
 | ins (c:Nat) (fs:List (Nat×AV))
 /-- a dict that a loop walks: read,not written -/
 | fz (o:AO)
inductive Tr where
 | lf | nd (l:Tr) (o:AO) (r:Tr)
def Tr.get0:Tr->Nat->Option AO
 | .lf,_=>none
 | .nd l o r,n=>match OS n 0 with
  | true=>some o
  | false=>match OS (n%2) 1 with
   | true=>l.get0 (n / 2)
   | false=>r.get0 (n / 2 - 1)
def Tr.put0:Tr->Nat->AO->Tr
 | .lf,_,x=>.nd .lf x .lf
 | .nd l o r,n,x=>match OS n 0 with
  | true=>.nd l x r
  | false=>match OS (n%2) 1 with
   | true=>.nd (l.put0 (n / 2) x) o r
   | false=>.nd l o (r.put0 (n / 2 - 1) x)
structure aN where
 n:Nat
 sym:Bool
 t:Tr
def Tr.has:Tr->Nat->Prop
 | .lf,_=>False
 | .nd l _ r,n=>if n=0 then True else if n%2=1 then l.has (n / 2) else r.has (n / 2 - 1)
theorem gv(n m:Nat):OS n m=decide (n=m):=by
 cases e:OS n m with
 | true=>rw[ON e];simp
 | false=>rw[decide_eq_false (Nat.ne_of_beq_eq_false e)]
theorem Tr.put0_same:∀(t:Tr) (n:Nat) (x:AO),(t.has n∨∀i,i<n->t.has i)->(t.put0 n x).get0 n=some x
 | .lf,n,x,h=>by
  have:n=0:=by
   rcases h with h | h
   ·exact h.elim
   ·cases n with
    | zero=>rfl
    | succ n=>exact(h 0<|ZS _).elim
  subst this;rfl
 | .nd l o r,n,x,h=>by
  by_cases h0:n=0
  ·subst h0;rfl
  ·have f:OS n 0=false:=by rw[gv];simp[h0]
   by_cases d:n%2=1
   ·have c:OS (n%2) 1=true:=by rw[gv];simp[d]
    have j:l.has (n / 2)∨∀i,i<n / 2->l.has i:=by
     rcases h with h | h
     ·left;unfold Tr.has at h;simpa[h0,d] using h
     ·right;intro i m;have:=h (2*i+1) (by omega);unfold Tr.has at this;have z:(2*i+1) / 2=i:=by omega
      have g:(2*i+1)%2=1:=by omega
      simpa[z,g] using this
    have:=Tr.put0_same l (n / 2) x j;unfold Tr.put0;rw[f,c];dsimp only;unfold Tr.get0;rw[f,c];exact this
   ·have c:OS (n%2) 1=false:=by rw[gv];simp[d]
    have j:r.has (n / 2 - 1)∨∀i,i<n / 2 - 1->r.has i:=by
     rcases h with h | h
     ·left;unfold Tr.has at h;simpa[h0,d] using h
     ·right;intro i m;have:=h (2*i+2) (by omega);unfold Tr.has at this;have z:(2*i+2) / 2 - 1=i:=by omega
      have g:¬(2*i+2)%2=1:=by omega
      simpa[z,g] using this
    have:=Tr.put0_same r (n / 2 - 1) x j;unfold Tr.put0;rw[f,c];dsimp only;unfold Tr.get0;rw[f,c];exact this
theorem Tr.put0_ne:∀(t:Tr) (n m:Nat) (x:AO),(t.has n∨∀i,i<n->t.has i)->m≠n->(t.put0 n x).get0 m=t.get0 m
 | .lf,n,m,x,h,j=>by
  have:n=0:=by
   rcases h with h | h
   ·exact h.elim
   ·cases n with
    | zero=>rfl
    | succ n=>exact(h 0<|ZS _).elim
  subst this;show(Tr.nd .lf x .lf).get0 m=none;unfold Tr.get0;have d:OS m 0=false:=by rw[gv];simp[j]
  rw[d];dsimp only;split<;>rfl
 | .nd l o r,n,m,x,h,j=>by
  by_cases h0:n=0
  ·subst h0;have d:OS m 0=false:=by rw[gv];simp[j]
   show(Tr.nd l x r).get0 m=_;unfold Tr.get0;rw[d]
  ·have d:OS n 0=false:=by rw[gv];simp[h0]
   by_cases f:n%2=1
   ·have C:OS (n%2) 1=true:=by rw[gv];simp[f]
    have p:l.has (n / 2)∨∀i,i<n / 2->l.has i:=by
     rcases h with h | h
     ·left;unfold Tr.has at h;simpa[h0,f] using h
     ·right;intro i H;have:=h (2*i+1) (by omega);unfold Tr.has at this;have z:(2*i+1) / 2=i:=by omega
      have g:(2*i+1)%2=1:=by omega
      simpa[z,g] using this
    conv=>lhs;unfold Tr.put0
    rw[d,C];dsimp only;by_cases m0:m=0
    ·subst m0;rfl
    ·have u:OS m 0=false:=by rw[gv];simp[m0]
     unfold Tr.get0;rw[u];dsimp only;by_cases m1:m%2=1
     ·have c:OS (m%2) 1=true:=by rw[gv];simp[m1]
      rw[c];exact Tr.put0_ne l (n / 2) (m / 2) x p (by omega)
     ·have c:OS (m%2) 1=false:=by rw[gv];simp[m1]
      rw[c]
   ·have C:OS (n%2) 1=false:=by rw[gv];simp[f]
    have p:r.has (n / 2 - 1)∨∀i,i<n / 2 - 1->r.has i:=by
     rcases h with h | h
     ·left;unfold Tr.has at h;simpa[h0,f] using h
     ·right;intro i H;have:=h (2*i+2) (by omega);unfold Tr.has at this;have z:(2*i+2) / 2 - 1=i:=by omega
      have g:¬(2*i+2)%2=1:=by omega
      simpa[z,g] using this
    conv=>lhs;unfold Tr.put0
    rw[d,C];dsimp only;by_cases m0:m=0
    ·subst m0;rfl
    ·have u:OS m 0=false:=by rw[gv];simp[m0]
     unfold Tr.get0;rw[u];dsimp only;by_cases m1:m%2=1
     ·have c:OS (m%2) 1=true:=by rw[gv];simp[m1]
      rw[c]
     ·have c:OS (m%2) 1=false:=by rw[gv];simp[m1]
      rw[c];exact Tr.put0_ne r (n / 2 - 1) (m / 2 - 1) x p (by omega)
theorem Tr.has_of_get0:∀(t:Tr) (n:Nat) (o:AO),t.get0 n=some o->t.has n
 | .lf,_,_,h=>by cases h
 | .nd l o r,n,x,h=>by
  unfold Tr.get0 at h;rw[gv,gv] at h;unfold Tr.has;by_cases h0:n=0
  ·simp[h0]
  ·by_cases c:n%2=1
   ·simp only[h0,c,if_false,if_true,decide_true,decide_false] at h ⊢;exact Tr.has_of_get0 l _ _ h
   ·simp only[h0,c,if_false,decide_false] at h ⊢;exact Tr.has_of_get0 r _ _ h
def Tr.get(t:Tr):Nat->Option AO:=Tr.rec (motive:=λ_=>Nat->Option AO) (λ_=>none) (λ_ o _ d c n=>UG (motive:=λ_=>Option AO) (UG (motive:=λ_=>Option AO) (c<|Nat.sub (ZT n 2) 1) (d<|ZT n 2)<|OS (Nat.mod n 2) 1) (some o) (OS n 0)) t
def Tr.put(t:Tr):Nat->AO->Tr:=Tr.rec (motive:=λ_=>Nat->AO->Tr) (λ_ x=>.nd .lf x .lf) (λl o r pl pr n x=>UG (motive:=λ_=>Tr) (UG (motive:=λ_=>Tr) (.nd l o<|pr (Nat.sub (ZT n 2) 1) x) (.nd (pl (ZT n 2) x) o r)<|OS (Nat.mod n 2) 1) (.nd l x r) (OS n 0)) t
theorem Tr.get_eq:∀(t:Tr) (n:Nat),t.get n=t.get0 n
 | .lf,_=>rfl
 | .nd l o r,n=>by
  have hl:=Tr.get_eq l (n / 2);have hr:=Tr.get_eq r (n / 2 - 1);unfold Tr.get0;rw[<-hl,<-hr];show UG (motive:=λ_=>Option AO) (UG (motive:=λ_=>Option AO) (r.get<|n / 2 - 1) (l.get<|n / 2)<|OS (n%2) 1) (some o) (OS n 0)=_;cases OS n 0<;>cases OS (n%2) 1<;>rfl
theorem Tr.put_eq:∀(t:Tr) (n:Nat) (x:AO),t.put n x=t.put0 n x
 | .lf,_,_=>rfl
 | .nd l o r,n,x=>by
  have hl:=Tr.put_eq l (n / 2) x;have hr:=Tr.put_eq r (n / 2 - 1) x;unfold Tr.put0;rw[<-hl,<-hr];show UG (motive:=λ_=>Tr) (UG (motive:=λ_=>Tr) (.nd l o<|r.put (n / 2 - 1) x) (.nd (l.put (n / 2) x) o r)<|OS (n%2) 1) (.nd l x r) (OS n 0)=_;cases OS n 0<;>cases OS (n%2) 1<;>rfl
theorem Tr.put_same(t:Tr)(n:Nat)(x:AO)(h:t.has n∨∀i,i<n->t.has i):(t.put n x).get n=some x:=by rw[Tr.get_eq,Tr.put_eq];exact Tr.put0_same t n x h
theorem Tr.put_ne(t:Tr)(n m:Nat)(x:AO)(h:t.has n∨∀i,i<n->t.has i)(c:m≠n):(t.put n x).get m=t.get m:=by rw[Tr.get_eq,Tr.get_eq,Tr.put_eq];exact Tr.put0_ne t n m x h c
theorem Tr.has_of_get(t:Tr)(n:Nat)(o:AO)(h:t.get n=some o):t.has n:=by rw[Tr.get_eq] at h;exact Tr.has_of_get0 t n o h
end RB
namespace L2
open PySem PySem.Spec PyProof.Rows
def iR(H:Hp)(P:OD)(qual:Str):Prop :=
 ∃ps,H P=some (.tbl ps)/\TriplesOk ps.toList/\∀pos c,SV pos ps.toList=some c->∃c',c=.ref c'/\H c'=some (fR c' qual)
end L2
namespace RB
open PySem L2
def a8:List Str:=[OG "a",OG "again",OG "alone",OG "ask",OG "asks",OG "asleep",OG "attach",OG "awake",OG "b",OG "back",OG "bad kind",OG "bad mode",OG "bad stretch",OG "begin",OG "blocker",OG "both",OG "c",OG "cancel",OG "cancelled",OG "changes",OG "close",OG "count",OG "deeds",OG "do",OG "drop",OG "dup",OG "end",OG "ended",OG "ending",OG "fair",OG "file",OG "files",OG "fork",OG "fresh",OG "future",OG "given",OG "granted",OG "handles",OG "held",OG "is wrong",OG "is_asleep",OG "leads",OG "lock",OG "lock_whole",OG "locks",OG "mark",OG "no ask",OG "no back",OG "no file",OG "no handle",OG "no mark",OG "no task",OG "no text",OG "odd",OG "opened",OG "outcome",OG "outcomes",OG "past",OG "perform",OG "probe",OG "put",OG "read",OG "rests",OG "shared",OG "stuck",OG "tables",OG "task",OG "tasks",OG "told",OG "undo_to",OG "undone",OG "unlock",OG "unlock_whole",OG "waiting",OG "waits",OG "whole",OG "whole_locks",OG "why",OG "write",OG "zz"]
theorem ui:a8.Nodup:=by decide +kernel
theorem jD{c:Type}{xs:List c}(h:xs.Nodup){i j:Nat}{x:c}(l:xs[i]?=some x)(g:xs[j]?=some x):i=j:=by
 obtain⟨a,f⟩:=OL.mp l;obtain⟨b,d⟩:=OL.mp g;have p:=List.pairwise_iff_getElem.mp h;rcases Nat.lt_trichotomy i j with q | q | q
 ·exact absurd (f.trans d.symm) (p i j a b q)
 ·exact q
 ·exact absurd (d.trans f.symm) (p j i b a q)
theorem dF{i j:Nat}{x:Str}(d:a8[i]?=some x)(c:a8[j]?=some x):i=j:=by
 exact jD ui d c
def kH:List Nat:=[31,29,35,41,54,38,75,73,5,56,19,65,57,34]
structure Fx where
 ext:Nat->V
 own:OD->Prop
 J:Hp->Prop
 st:∀H H',J H->(∀b o,(own b∨∃φ,o=.ext φ)->H b=some o->H' b=some o)->J H'
structure Gy where
 cl:Nat->OD
 /-- the own errors' classes;the defs that are met as values -/
 xc:Nat->OD
 fe:Nat->OD
 /-- the code Z9 that a lambda's code comes into,where the lambda stands,its name -/
 tT:OD
 tP:Pos
 tQ:Str
 /-- .. and of the defs whose lambdas keep names -/
 tl:Nat->OD
 tq:Nat->Str
 /-- what a law knows of what is fixed from its ff on -/
 dr:Fx->Prop
structure Gx extends Gy where
 E:XK
section
variable(F:Fx)(y:Option Int)(ρ:List OD)(H:Hp)
def jO:AV->(V->Prop)×(List V->Prop)
 | .non=>(λv=>v=.non,λ_=>False)
 | .bl b=>(λv=>v=.bl b,λ_=>False)
 | .int false lo hi=>(λv=>∃z,v=.int z/\lo≤z/\z≤hi,λ_=>False)
 | .int true lo hi=>(λv=>∃x z,y=some x/\v=.int z/\x+lo≤z/\z≤x+hi,λ_=>False)
 | .str i=>(λv=>∃x,a8[i]?=some x/\v=.str x,λ_=>False)
 | .ref n=>(λv=>∃a,ρ[n]?=some a/\v=.ref a,λ_=>False)
 | .ext i=>(λv=>v=F.ext i,λ_=>False)
 | .tn=>(λv=>∃a,v=.ref a/\H a=some (.tup []),λc=>c=[])
 | .tc h t=>(λv=>∃a w c,v=.ref a/\H a=some (.tup (w::c))/\(jO h).1 w/\(jO t).2 c,λc=>∃w r,c=w::r/\(jO h).1 w/\(jO t).2 r)
abbrev aQ(av:AV)(v:V):Prop:=(jO F y ρ H av).1 v
abbrev rc(av:AV)(vs:List V):Prop:=(jO F y ρ H av).2 vs
abbrev aR:List AV->List V->Prop:=Paired (aQ F y ρ H)
def fB:Option AV->Option V->Prop
 | none,_=>True
 | some a,some v=>aQ F y ρ H a v
 | _,_=>False
abbrev gb:List (Option AV)->St->Prop:=Paired (fB F y ρ H)
def gw:AV->bh->Prop
 | .int false lo c,k=>lo=c/\k=.inl lo
 | .str i,k=>∃x,a8[i]?=some x/\k=.inr x
 | _,_=>False
def gz:AV->List bh->Prop
 | .tn,ks=>ks=[]
 | .tc h t,ks=>∃k r,ks=k::r/\gw h k/\gz t r
 | _,_=>False
def dO(g:Gx):AO->HO->Prop
 | .lst xs,o=>∃vs,o=.lst vs/\aR F y ρ H xs vs
 | .dk kvs,o=>∃ks,o=.dK ks/\Paired (λp q=>gw p.1 q.1/\aQ F y ρ H p.2 q.2) kvs ks
 | .dt kvs,o=>∃ks,o=.dT ks/\Paired (λp q=>gz p.1 q.1/\aQ F y ρ H p.2 q.2) kvs ks
 | .ins c fs,o=>∃f d,(c<2/\o=.ins (g.cl c) f d/\∀p∈fs,p.1∈kH)/\Paired (λp q=>a8[p.1]?=some q.1/\aQ F y ρ H p.2 q.2) fs d
 | .fz a,o=>∃ob u,o=.frz ob u/\dO g a u
end
structure Ge(g:Gx)(F:Fx):Prop where
 dr:g.dr F
 own:F.own g.tT
 lam:∀H,F.J H->lG H g.tT g.tP g.tQ
 re:∀H H',F.J H->lG H' g.tT g.tP g.tQ->(∀b o,b≠g.tT->H b=some o->H' b=some o)->F.J H'
 ownL:∀i,i<3->F.own (g.tl i)
 lamL:∀i,i<3->∀H,F.J H->iR H (g.tl i) (g.tq i)
 reL:∀i,i<3->∀H H',F.J H->iR H' (g.tl i) (g.tq i)->(∀b o,b≠g.tl i->H b=some o->H' b=some o)->F.J H'
structure aH(g:Gx)(F:Fx)(y:Option Int)(ρ:List OD)(S:aN)(H:Hp):Prop where
 n:S.n=ρ.length
 sym:S.sym=y.isSome
 pos:∀x,y=some x->1≤x
 nd:ρ.Nodup
 at_:∀i a,ρ[i]?=some a->∃o ho,S.t.get i=some o/\H a=some ho/\dO F y ρ H g o ho
 own:∀a∈ρ,¬F.own a
 fe:∀i,i<11->F.ext i=.ref (g.fe i)
 ol:∀b,F.own b->H b≠none
 J:F.J H
 fl:Ge g F
structure aA(F:Fx)(y:Option Int)(ρ:List OD)(H:Hp)(y':Option Int)(ρ':List OD)(H':Hp):Prop where
 y:∀x,y=some x->y'=some x
 pre:∃r,ρ'=ρ++r
 new:∀a∈ρ',a∈ρ∨H a=none
 keep:∀b o,H b=some o->b∉ρ->¬F.own b->H' b=some o
 tup:∀b vs,H b=some (.tup vs)->H' b=some (.tup vs)
 live:∀b,H' b=none->H b=none
 frz:∀b o u,H b=some (.frz o u)->H' b=some (.frz o u)
section
variable{g:Gx}{F:Fx}{y y1 y2:Option Int}{ρ ρ1 ρ2:List OD}{H H1 H2:Hp}{S S1:aN}
theorem aA.refl:aA F y ρ H y ρ H:=⟨λ_ h=>h,⟨[],by simp⟩,λ_ h=>.inl h,λ_ _ h _ _=>h,λ_ _ h=>h,λ_ h=>h,λ_ _ _ h=>h⟩
theorem aA.trans(a:aA F y ρ H y1 ρ1 H1)(b:aA F y1 ρ1 H1 y2 ρ2 H2):aA F y ρ H y2 ρ2 H2:=by
 refine⟨λx h=>b.y x (a.y x h),?_,λc d=>?_,λc o h n w=>?_,λc vs h=>b.tup c vs (a.tup c vs h),λc h=>a.live c (b.live c h),λc o u h=>b.frz c o u (a.frz c o u h)⟩
 ·obtain⟨r,rfl⟩:=a.pre;obtain⟨r',rfl⟩:=b.pre;exact⟨r++r',by simp⟩
 ·rcases b.new c d with h | h
  ·exact a.new c h
  ·exact .inr (a.live c h)
 ·refine b.keep c o (a.keep c o h n w) (λm=>?_) w;rcases a.new c m with h' | h'
  ·exact n h'
  ·rw[h'] at h;cases h
structure gA(F:Fx)(y:Option Int)(ρ:List OD)(H:Hp)(y':Option Int)(ρ':List OD)(H':Hp):Prop where
 y:∀x,y=some x->y'=some x
 pre:∃r,ρ'=ρ++r
 new:∀a∈ρ',a∈ρ∨H a=none
 keep:∀b o,H b=some o->b∉ρ->¬F.own b->H' b=some o
 tup:∀b vs,H b=some (.tup vs)->H' b=some (.tup vs)
 live:∀b,H' b=none->H b=none
theorem aA.to0(a:aA F y ρ H y1 ρ1 H1):gA F y ρ H y1 ρ1 H1:=⟨a.y,a.pre,a.new,a.keep,a.tup,a.live⟩
theorem gA.trans(a:gA F y ρ H y1 ρ1 H1)(b:gA F y1 ρ1 H1 y2 ρ2 H2):gA F y ρ H y2 ρ2 H2:=by
 refine⟨λx h=>b.y x (a.y x h),?_,λc d=>?_,λc o h n w=>?_,λc vs h=>b.tup c vs (a.tup c vs h),λc h=>a.live c (b.live c h)⟩
 ·obtain⟨r,rfl⟩:=a.pre;obtain⟨r',rfl⟩:=b.pre;exact⟨r++r',by simp⟩
 ·rcases b.new c d with h | h
  ·exact a.new c h
  ·exact .inr (a.live c h)
 ·refine b.keep c o (a.keep c o h n w) (λm=>?_) w;rcases a.new c m with h' | h'
  ·exact n h'
  ·rw[h'] at h;cases h
theorem aA.mem(a:aA F y ρ H y1 ρ1 H1){i:Nat}{c:OD}(h:ρ[i]?=some c):ρ1[i]?=some c:=by
 obtain⟨r,rfl⟩:=a.pre;obtain⟨d,e⟩:=OL.mp h;rw[Qr d];exact h
structure Mo(y:Option Int)(ρ:List OD)(H:Hp)(y':Option Int)(ρ':List OD)(H':Hp):Prop where
 y:∀x,y=some x->y'=some x
 mem:∀{i:Nat} {c:OD},ρ[i]?=some c->ρ'[i]?=some c
 tup:∀b vs,H b=some (.tup vs)->H' b=some (.tup vs)
theorem aA.mo(a:aA F y ρ H y1 ρ1 H1):Mo y ρ H y1 ρ1 H1:=⟨a.y,λh=>a.mem h,a.tup⟩
theorem jO.mono(a:Mo y ρ H y1 ρ1 H1):∀av:AV,(∀v,(jO F y ρ H av).1 v->(jO F y1 ρ1 H1 av).1 v)/\∀vs,(jO F y ρ H av).2 vs->(jO F y1 ρ1 H1 av).2 vs
 | .non=>⟨λ_ h=>h,λ_ h=>h⟩
 | .bl _=>⟨λ_ h=>h,λ_ h=>h⟩
 | .int false _ _=>⟨λ_ h=>h,λ_ h=>h⟩
 | .int true _ _=>⟨λ_ ⟨x,z,f,d⟩=>⟨x,z,a.y x f,d⟩,λ_ h=>h⟩
 | .str _=>⟨λ_ h=>h,λ_ h=>h⟩
 | .ref n=>⟨λ_ ⟨c,f,d⟩=>⟨c,a.mem f,d⟩,λ_ h=>h⟩
 | .ext _=>⟨λ_ h=>h,λ_ h=>h⟩
 | .tn=>⟨λ_ ⟨c,f,d⟩=>⟨c,f,a.tup _ _ d⟩,λ_ h=>h⟩
 | .tc h t=>⟨λ_ ⟨c,w,j,f,d,i,l⟩=>⟨c,w,j,f,a.tup _ _ d,(jO.mono a h).1 _ i,(jO.mono a t).2 _ l⟩,λ_ ⟨w,r,f,d,i⟩=>⟨w,r,f,(jO.mono a h).1 _ d,(jO.mono a t).2 _ i⟩⟩
theorem aQ.monoM(a:Mo y ρ H y1 ρ1 H1){av:AV}{v:V}(h:aQ F y ρ H av v):aQ F y1 ρ1 H1 av v:=(jO.mono a av).1 v h
theorem aQ.mono(a:aA F y ρ H y1 ρ1 H1){av:AV}{v:V}(h:aQ F y ρ H av v):aQ F y1 ρ1 H1 av v:=aQ.monoM a.mo h
theorem aT{d c:Type}{R f:d->c->Prop}(h:∀a b,R a b->f a b){xs:List d}{ys:List c}(p:Paired R xs ys):Paired f xs ys:=Paired.mapP p h
theorem aR.mono(a:aA F y ρ H y1 ρ1 H1){xs:List AV}(h:aR F y ρ H xs vs):aR F y1 ρ1 H1 xs vs:=aT (λ_ _=>aQ.mono a) h
theorem fB.mono(a:aA F y ρ H y1 ρ1 H1){x:Option AV}{v:Option V}(h:fB F y ρ H x v):fB F y1 ρ1 H1 x v:=by
 cases x with
 | none=>trivial
 | some x=>cases v with
  | none=>exact h
  | some v=>exact aQ.mono a (av:=x) h
theorem gb.mono(a:aA F y ρ H y1 ρ1 H1){xs:List (Option AV)}{vs:St}(h:gb F y ρ H xs vs):gb F y1 ρ1 H1 xs vs:=aT (λ_ _=>fB.mono a) h
def xq(d:OD)(u:OC):HO:=.ext λh=>∃c,h.Ns1 d c/\c "blocker" = some u
def DJ(F:Fx)(y:Option Int)(ρ:List OD)(H:Hp)(av:AV):Option OD->Prop
 | none=>av=.non
 | some c=>c∉ρ/\¬F.own c/\∃v u,aI v u/\H c=some (xq c u)/\aQ F y ρ H av v
theorem DJ.mono(a:aA F y ρ H y1 ρ1 H1){av:AV}:∀{d:Option OD},DJ F y ρ H av d->DJ F y1 ρ1 H1 av d
 | none,h=>h
 | some c,⟨n,o,v,u,f,h,r⟩=>⟨λm=>(a.new c m).elim n λz=>(by rw[z] at h;cases h),o,v,u,f,a.keep c _ h n o,r.mono a⟩
abbrev KE:=Nat->AV->aN->Bool
def lH(g:Gx)(F:Fx)(y:Option Int)(ρ:List OD)(H:Hp)(ke:KE):Prop :=
 ∀i f j h c av d,gA F y ρ H i f h->aH g F i f j h->DJ F i f h av d->ke c av j=true->g.E (.ref<|g.xc c) d h
theorem lH.mono0{ke:KE}(p:lH g F y ρ H ke)(a:gA F y ρ H y1 ρ1 H1):lH g F y1 ρ1 H1 ke:=λh f i j c av d b=>p h f i j c av d (a.trans b)
theorem lH.mono{ke:KE}(p:lH g F y ρ H ke)(a:aA F y ρ H y1 ρ1 H1):lH g F y1 ρ1 H1 ke:=p.mono0 a.to0
structure er where
 v:List (Option AV)
 ke:KE
structure bn(g:Gx)(F:Fx)(y:Option Int)(ρ:List OD)(H:Hp)(σa:er)(σ:St):Prop where
 v:gb F y ρ H σa.v σ
 e:lH g F y ρ H σa.ke
theorem bn.mono(a:aA F y ρ H y1 ρ1 H1){xs:er}{vs:St}(h:bn g F y ρ H xs vs):bn g F y1 ρ1 H1 xs vs:=⟨gb.mono a h.v,h.e.mono a⟩
theorem dO.monoM(a:Mo y ρ H y1 ρ1 H1):∀{o:AO} {ho:HO},dO F y ρ H g o ho->dO F y1 ρ1 H1 g o ho:=by
 intro o ho h;cases o with
 | lst xs=>obtain⟨vs,e,h⟩:=h;exact⟨vs,e,aT (λ_ _=>aQ.monoM a) h⟩
 | dk kvs=>obtain⟨vs,e,h⟩:=h;exact⟨vs,e,aT (λ_ _ q=>⟨q.1,aQ.monoM a q.2⟩) h⟩
 | dt kvs=>obtain⟨vs,e,h⟩:=h;exact⟨vs,e,aT (λ_ _ q=>⟨q.1,aQ.monoM a q.2⟩) h⟩
 | ins c fs=>obtain⟨d,vs,e,h⟩:=h;exact⟨d,vs,e,aT (λ_ _ q=>⟨q.1,aQ.monoM a q.2⟩) h⟩
 | fz o=>obtain⟨ob,u,e,h⟩:=h;exact⟨ob,u,e,dO.monoM a h⟩
theorem dO.mono(a:aA F y ρ H y1 ρ1 H1){o:AO}{ho:HO}(h:dO F y ρ H g o ho):dO F y1 ρ1 H1 g o ho:=dO.monoM a.mo h
def chain:List AV->AV
 | []=>.tn
 | x::r=>.tc x (chain r)
def vT:AV->Option (List AV)
 | .tn=>some []
 | .tc h t=>match vT t with
  | some r=>some (h::r)
  | none=>none
 | _=>none
theorem ge:∀{t:AV} {xs:List AV},vT t=some xs->t=chain xs
 | .tn,xs,h=>by cases h;rfl
 | .tc a t,xs,h=>by
  unfold vT at h;cases e:vT t with
  | none=>rw[e] at h;cases h
  | some r=>rw[e] at h;cases h;rw[ge e];rfl
 | .non,_,h=>by cases h
 | .bl _,_,h=>by cases h
 | .int _ _ _,_,h=>by cases h
 | .str _,_,h=>by cases h
 | .ref _,_,h=>by cases h
 | .ext _,_,h=>by cases h
theorem oB:∀{xs:List AV} {vs:List V},aR F y ρ H xs vs->rc F y ρ H (chain xs) vs
 | _,_,.nil=>rfl
 | _,_,.cons r t=>⟨_,_,rfl,r,oB t⟩
theorem mz:∀{xs:List AV} {vs:List V},rc F y ρ H (chain xs) vs->aR F y ρ H xs vs
 | [],_,h=>by cases h;exact .nil
 | x::r,_,⟨w,f,e,d,c⟩=>by subst e;exact .cons d (mz c)
theorem aQ.chain_of{xs:List AV}{v:V}(h:aQ F y ρ H (chain xs) v):∃a vs,v=.ref a/\H a=some (.tup vs)/\aR F y ρ H xs vs:=by
 cases xs with
 | nil=>obtain⟨a,e,h⟩:=h;exact⟨a,[],e,h,.nil⟩
 | cons x r=>obtain⟨a,w,c,e,h,f,d⟩:=h;exact⟨a,w::c,e,h,.cons f<|mz d⟩
theorem aQ.chain{xs:List AV}{a:OD}(h:H a=some (.tup vs))(r:aR F y ρ H xs vs):aQ F y ρ H (RB.chain xs) (.ref a):=by
 cases r with
 | nil=>exact⟨a,rfl,h⟩
 | cons r t=>exact⟨a,_,_,rfl,h,r,oB t⟩
theorem aH.live(C:aH g F y ρ S H){a:OD}(h:a∈ρ):∃ho,H a=some ho/\∀vs,ho≠.tup vs:=by
 obtain⟨i,e⟩:=T3 h;obtain⟨o,ho,_,d,c⟩:=C.at_ i a e;refine⟨ho,d,λvs z=>?_⟩;subst z;cases o with
 | lst _=>obtain⟨_,e,_⟩:=c;cases e
 | dk _=>obtain⟨_,e,_⟩:=c;cases e
 | dt _=>obtain⟨_,e,_⟩:=c;cases e
 | ins _ _=>obtain⟨_,_,⟨_,e,_⟩,_⟩:=c;cases e
 | fz _=>obtain⟨_,_,e,_⟩:=c;cases e
theorem aH.notExt(C:aH g F y ρ S H){a:OD}{u:HO}(h:a∈ρ)(e:H a=some u)(w:F.own a∨∃d,u=.ext d):False:=by
 rcases w with w | ⟨d,w⟩
 ·exact C.own a h w
 ·subst w;obtain⟨i,j⟩:=T3 h;obtain⟨o,ho,_,f,c⟩:=C.at_ i a j;rw[e] at f;cases f;cases o with
  | lst _=>obtain⟨_,e,_⟩:=c;cases e
  | dk _=>obtain⟨_,e,_⟩:=c;cases e
  | dt _=>obtain⟨_,e,_⟩:=c;cases e
  | ins _ _=>obtain⟨_,_,⟨_,e,_⟩,_⟩:=c;cases e
  | fz _=>obtain⟨_,_,e,_⟩:=c;cases e
theorem aH.fresh(C:aH g F y ρ S H){p:OD}(h:H p=none):p∉ρ:=λm=>by
 obtain⟨ho,e,_⟩:=C.live m;rw[h] at e;cases e
theorem aH.has(C:aH g F y ρ S H){i:Nat}(c:i<S.n):S.t.has i:=by
 rw[C.n] at c;obtain⟨o,_,e,_⟩:=C.at_ i ρ[i] (by simp[c]);exact Tr.has_of_get _ _ _ e
theorem aA.lay{p:OD}{o:HO}(h:H p=none):aA F y ρ H y ρ (upd H p o):=by
 have ne:∀b u,H b=some u->b≠p:=λb u e z=>by subst z;rw[h] at e;cases e
 refine⟨λ_ h=>h,⟨[],by simp⟩,λ_ h=>.inl h,λb u e _ _=>?_,λb vs e=>?_,λb e=>?_,λb o u e=>?_⟩
 ·rw[al (ne b u e)];exact e
 ·rw[al (ne b _ e)];exact e
 ·by_cases z:b=p
  ·rw[z];exact h
  ·rw[al z] at e;exact e
 ·rw[al (ne b _ e)];exact e
theorem aH.step(C:aH g F y ρ S H)(a:aA F y ρ H y ρ H1)(k:∀b∈ρ,H1 b=H b)(j:F.J H1):aH g F y ρ S H1:=by
 refine⟨C.n,C.sym,C.pos,C.nd,λi c e=>?_,C.own,C.fe,λb w e=>C.ol b w (a.live b e),j,C.fl⟩;obtain⟨o,ho,h,f,d⟩:=C.at_ i c e;exact⟨o,ho,h,by rw[k c (O9 e)];exact f,dO.mono a d⟩
theorem aH.lay(C:aH g F y ρ S H){p:OD}{o:HO}(h:H p=none):aH g F y ρ S (upd H p o):=by
 refine C.step (aA.lay h) (λb hb=>al λz=>C.fresh h (z▸hb)) (F.st _ _ C.J λb u _ e=>?_);have:b≠p:=λz=>by subst z;rw[h] at e;cases e
 rw[al this];exact e
def aN.add(S:aN)(o:AO):aN:=⟨S.n+1,S.sym,S.t.put S.n o⟩
theorem aA.add{p:OD}{o:HO}(h:H p=none):aA F y ρ H y (ρ++[p]) (upd H p o):=by
 have a:aA F y ρ H y ρ (upd H p o):=aA.lay h;refine⟨a.y,⟨[p],rfl⟩,λc d=>?_,a.keep,a.tup,a.live,a.frz⟩;rcases PN.mp d with h' | h'
 ·exact .inl h'
 ·rw[Ql.mp h'];exact .inr h
theorem aH.add(C:aH g F y ρ S H){p:OD}{o:AO}{ho:HO}(h:H p=none)(ob:dO F y (ρ++[p]) (upd H p ho) g o ho):aH g F y (ρ++[p]) (S.add o) (upd H p ho):=by
 have m:=C.fresh h;have st:aA F y ρ H y (ρ++[p]) (upd H p ho):=aA.add h;have d:S.t.has S.n∨∀i,i<S.n->S.t.has i:=.inr λi l=>C.has l;refine⟨by simp[aN.add,C.n],C.sym,C.pos,?_,λi c e=>?_,λc I=>?_,C.fe,λb w e=>C.ol b w (st.live b e),F.st _ _ C.J λb u _ e=>?_,C.fl⟩
 ·rw[Xj];exact⟨C.nd,by simp,λa L b hb e=>by rw[Ql.mp hb] at e;exact m (e▸L)⟩
 ·by_cases l:i<ρ.length
  ·have r:ρ[i]?=some c:=by rw[Qr l] at e;exact e
   obtain⟨x,f,U,Q,O⟩:=C.at_ i c r;refine⟨x,f,?_,?_,dO.mono st O⟩
   ·show(S.t.put S.n o).get i=_;rw[Tr.put_ne _ _ _ _ d (by rw[C.n];omega)];exact U
   ·rw[al λz=>m (by rw[<-z];exact O9 r)];exact Q
  ·have j:i=ρ.length:=by
    have:=(OL.mp e).1;simp at this;omega
   subst j;have:c=p:=by simpa using e.symm
   subst this;refine⟨o,ho,?_,aq,ob⟩;show(S.t.put S.n o).get ρ.length=_;rw[<-C.n];exact Tr.put_same _ _ _ d
 ·rcases PN.mp I with h' | h'
  ·exact C.own c h'
  ·rw[Ql.mp h'];exact λw=>C.ol p w h
 ·have:b≠p:=λz=>by subst z;rw[h] at e;cases e
  rw[al this];exact e
def aN.set(S:aN)(i:Nat)(o:AO):aN:=⟨S.n,S.sym,S.t.put i o⟩
theorem aA.set(C:aH g F y ρ S H){i:Nat}{a:OD}{o ho:HO}(h:ρ[i]?=some a)(d:H a=some ho)(j:∀o u,ho≠.frz o u:=by intro _ _ z;cases z):aA F y ρ H y ρ (upd H a o):=by
 have m:=O9 h;obtain⟨l,c,f⟩:=C.live m;rw[d] at c;cases c;refine⟨λ_ h=>h,⟨[],by simp⟩,λ_ h=>.inl h,λb u e n _=>?_,λb vs e=>?_,λb e=>?_,λb o u e=>?_⟩
 ·rw[al λz=>n (by rw[z];exact m)];exact e
 ·have:b≠a:=λz=>by
   subst z;rw[d] at e;cases e;exact f vs rfl
  rw[al this];exact e
 ·by_cases z:b=a
  ·subst z;rw[aq] at e;cases e
  ·rw[al z] at e;exact e
 ·have:b≠a:=λz=>by
   subst z;rw[d] at e;cases e;exact j _ _ rfl
  rw[al this];exact e
theorem aH.set(C:aH g F y ρ S H){i:Nat}{a:OD}{o:AO}{ho f:HO}(h:ρ[i]?=some a)(Q:H a=some f)(r:∀o u,f≠.frz o u:=by intro _ _ z;cases z)(ob:dO F y ρ (upd H a ho) g o ho):aH g F y ρ (S.set i o) (upd H a ho):=by
 have m:=O9 h;have st:aA F y ρ H y ρ (upd H a ho):=aA.set C h Q r;have x:i<S.n:=by rw[C.n];exact(OL.mp h).1
 have d:S.t.has i∨∀j,j<i->S.t.has j:=.inl (C.has x);refine⟨C.n,C.sym,C.pos,C.nd,λj c e=>?_,C.own,C.fe,λb w e=>C.ol b w (st.live b e),F.st _ _ C.J λb u w e=>?_,C.fl⟩
 ·by_cases z:j=i
  ·subst z;rw[h] at e;cases e;exact⟨o,ho,Tr.put_same _ _ _ d,aq,ob⟩
  ·obtain⟨p,l,O,L,I⟩:=C.at_ j c e;refine⟨p,l,?_,?_,dO.mono st I⟩
   ·show(S.t.put i o).get j=_;rw[Tr.put_ne _ _ _ _ d z];exact O
   ·rw[al]
    ·exact L
    ·intro w;subst w;exact z (jD C.nd e h)
 ·rw[al λz=>by subst z;exact C.notExt m e w];exact e
theorem aA.thaw(st:aA F y ρ H y1 ρ1 H1){a:OD}{u:HO}(h:a∈ρ)(c:H a=some u)(d:∀vs,u≠.tup vs)(f:∀o w,u≠.frz o w):aA F y ρ H y1 ρ1 (upd H1 a u):=by
 refine⟨st.y,st.pre,st.new,λb o e n w=>?_,λb vs e=>?_,λb e=>?_,λb o w e=>?_⟩
 ·rw[al λz=>n (by rw[z];exact h)];exact st.keep b o e n w
 ·rw[al λz=>by rw[z,c] at e;exact d vs (O6 e)];exact st.tup b vs e
 ·by_cases z:b=a
  ·subst z;rw[aq] at e;cases e
  ·rw[al z] at e;exact st.live b e
 ·rw[al λz=>by rw[z,c] at e;exact f o w (O6 e)];exact st.frz b o w e
theorem aH.thaw(C:aH g F y ρ S H){n:Nat}{a:OD}{ob:Obj}{u:HO}{o:AO}(h:ρ[n]?=some a)(e:H a=some (.frz ob u))(q:S.t.get n=some (.fz o)):aH g F y ρ (S.set n o) (upd H a u):=by
 have m:=O9 h;have mo:Mo y ρ H y ρ (upd H a u):=⟨λ_ h=>h,λh=>h,λb vs q=>by rw[al λz=>by rw[z,e] at q;cases q];exact q⟩
 have L:n<S.n:=by rw[C.n];exact(OL.mp h).1
 have f:S.t.has n∨∀j,j<n->S.t.has j:=.inl (C.has L);refine⟨C.n,C.sym,C.pos,C.nd,λj c d=>?_,C.own,C.fe,λb w d=>?_,F.st _ _ C.J λb u w d=>?_,C.fl⟩
 ·by_cases z:j=n
  ·subst z;rw[h] at d;cases d;obtain⟨x,i,p,l,r⟩:=C.at_ j a h;rw[q] at p;cases p;rw[e] at l;cases l;obtain⟨I,U,Q,O⟩:=r;cases Q;exact⟨o,u,Tr.put_same _ _ _ f,aq,dO.monoM mo O⟩
  ·obtain⟨x,i,p,l,r⟩:=C.at_ j c d;refine⟨x,i,?_,?_,dO.monoM mo r⟩
   ·show(S.t.put n o).get j=_;rw[Tr.put_ne _ _ _ _ f z];exact p
   ·rw[al]
    ·exact l
    ·intro w;subst w;exact z (jD C.nd d h)
 ·by_cases z:b=a
  ·subst z;rw[aq] at d;cases d
  ·rw[al z] at d;exact C.ol b w d
 ·rw[al λz=>by subst z;exact C.notExt m d w];exact d
def gS(g:Gx)(F:Fx)(y:Option Int)(ρ:List OD)(H:Hp)(k:AV->aN->Bool)(Q:VK):Prop :=
 ∀f c h d av v,aA F y ρ H f c d->aH g F f c h d->aQ F f c d av v->k av h=true->Q v d
def sB(g:Gx)(F:Fx)(y:Option Int)(ρ:List OD)(H:Hp)(k:Bool->aN->Bool)(Q:Bool->Hp->Prop):Prop :=
 ∀f c h d b,aA F y ρ H f c d->aH g F f c h d->k b h=true->Q b d
def LB(g:Gx)(F:Fx)(y:Option Int)(ρ:List OD)(H:Hp)(k:List AV->aN->Bool)(Q:List V->Hp->Prop):Prop :=
 ∀f c h d av v,aA F y ρ H f c d->aH g F f c h d->aR F f c d av v->k av h=true->Q v d
def lI(g:Gx)(F:Fx)(y:Option Int)(ρ:List OD)(H:Hp)(k:er->aN->Bool)(Q:St->Hp->Prop):Prop :=
 ∀h c i f d σ,aA F y ρ H h c f->aH g F h c i f->bn g F h c f d σ->k d i=true->Q σ f
theorem gS.mono{k:AV->aN->Bool}{Q:VK}(p:gS g F y ρ H k Q)(a:aA F y ρ H y1 ρ1 H1):gS g F y1 ρ1 H1 k Q:=λd c f h av v b=>p d c f h av v (a.trans b)
theorem sB.mono{k:Bool->aN->Bool}{Q:Bool->Hp->Prop}(p:sB g F y ρ H k Q)(a:aA F y ρ H y1 ρ1 H1):sB g F y1 ρ1 H1 k Q:=λd c f h av b=>p d c f h av (a.trans b)
theorem lI.mono{k:er->aN->Bool}{Q:St->Hp->Prop}(p:lI g F y ρ H k Q)(a:aA F y ρ H y1 ρ1 H1):lI g F y1 ρ1 H1 k Q:=λd c f h av v b=>p d c f h av v (a.trans b)
end
abbrev BE:=er->aN->(AV->aN->Bool)->Bool
abbrev BT:=er->aN->(Bool->aN->Bool)->Bool
abbrev BA:=er->aN->(List AV->aN->Bool)->Bool
structure Ds where
 nx:er->aN->Bool
 rt:AV->aN->Bool
 bk:er->aN->Bool
 ct:er->aN->Bool
abbrev BS:=Ds->er->aN->Bool
abbrev BG:=AV->er->aN->(er->aN->Bool)->Bool
theorem ez{o m l j i g:Type}{P:Prop}{A B C D:o->m->l->j->i->g->Prop}(h:∃a b c d e f,A a b c d e f/\B a b c d e f/\C a b c d e f/\D a b c d e f)(k:∀a b c d e f,A a b c d e f->B a b c d e f->C a b c d e f->D a b c d e f->P):P:=by
 obtain⟨a,b,c,d,e,f,p,q,r,s⟩:=h;exact k a b c d e f p q r s
theorem xY{o m l j i g:Type}{P:Prop}{A B C D E:o->m->l->j->i->g->Prop}(h:∃a b c d e f,A a b c d e f/\B a b c d e f/\C a b c d e f/\D a b c d e f/\E a b c d e f)(k:∀a b c d e f,A a b c d e f->B a b c d e f->C a b c d e f->D a b c d e f->E a b c d e f->P):P :=
 ez h λa b c d e f p q r s=>k a b c d e f p q r s.1 s.2
theorem MS{o m l j i g:Type}{P:Prop}{A B C D E F G:o->m->l->j->i->g->Prop}(h:∃a b c d e f,A a b c d e f/\B a b c d e f/\C a b c d e f/\D a b c d e f/\E a b c d e f/\F a b c d e f/\G a b c d e f)(k:∀a b c d e f,A a b c d e f->B a b c d e f->C a b c d e f->D a b c d e f->E a b c d e f->F a b c d e f->G a b c d e f->P):P :=
 ez h λa b c d e f p q r s=>k a b c d e f p q r s.1 s.2.1 s.2.2.1 s.2.2.2
section
variable(g:Gx)
def up(b:BE):TE:=λσ H Q=>∃F y ρ S c k,aH g F y ρ S H/\bn g F y ρ H c σ/\b c S k=true/\gS g F y ρ H k Q
def fE(b:BT):TT:=λσ H Q=>∃F y ρ S c k,aH g F y ρ S H/\bn g F y ρ H c σ/\b c S k=true/\sB g F y ρ H k Q
def jl(b:BA):TA:=λσ H Q=>∃F y ρ S c k,aH g F y ρ S H/\bn g F y ρ H c σ/\b c S k=true/\LB g F y ρ H k Q
def de(b:BS):TS:=λD σ H=>∃F y ρ S c d,aH g F y ρ S H/\bn g F y ρ H c σ/\b d c S=true/\lI g F y ρ H d.nx D.nx/\gS g F y ρ H d.rt D.rt/\lI g F y ρ H d.bk D.bk/\lI g F y ρ H d.ct D.ct
def LC(sl:List Nat)(σ c:St):Prop:=c.length=σ.length/\∀j,j∉sl->c[j]?=σ[j]?
def HV(g:Gx)(sl:List Nat)(σ:St)(F:Fx)(y:Option Int)(ρ:List OD)(H:Hp)(k:er->aN->Bool)(Q:St->Hp->Prop):Prop :=
 ∀i d j h f c,aA F y ρ H i d h->aH g F i d j h->bn g F i d h f c->LC sl σ c->k f j=true->Q c h
def nj(sl:List Nat)(b:BG):TG:=λv σ H Q=>∃F y ρ S av c k,aH g F y ρ S H/\aQ F y ρ H av v/\bn g F y ρ H c σ/\b av c S k=true/\HV g sl σ F y ρ H k Q
end
abbrev BF:=List AV->aN->(AV->aN->Bool)->KE->Bool
def jP(gy:Gy)(n:Nat)(b:BF):Sp:=λvs H Q E=>∃F y ρ S c k ke,aH ⟨gy,E⟩ F y ρ S H/\aR F y ρ H c vs/\vs.length=n/\b c S k ke=true/\gS ⟨gy,E⟩ F y ρ H k Q/\lH ⟨gy,E⟩ F y ρ H ke
theorem PE.imp{e:O4}{t t':TE}(h:∀σ H Q,t' σ H Q->t σ H Q)(p:PE X e t):PE X e t':=λpins s σ H Q I q=>p pins s σ H Q I (h _ _ _ q)
theorem PT.imp{e:O4}{t t':TT}(h:∀σ H Q,t' σ H Q->t σ H Q)(p:PT X e t):PT X e t':=λpins s σ H Q I q=>p pins s σ H Q I (h _ _ _ q)
theorem PW.imp{e:O4}{t t':TT}(h:∀σ H Q,t' σ H Q->t σ H Q)(p:PW X e t):PW X e t':=λc pins s σ H Q I q=>p c pins s σ H Q I (h _ _ _ q)
theorem PA.imp{e:List O4}{t t':TA}(h:∀σ H Q,t' σ H Q->t σ H Q)(p:PA X e t):PA X e t':=λpos pins s σ H Q I q=>p pos pins s σ H Q I (h _ _ _ q)
theorem PS.imp{e:Rs}{t t':TS}(h:∀D σ H,t' D σ H->t D σ H)(p:PS X e t):PS X e t':=λpins s σ H D I q=>p pins s σ H D I (h _ _ _ q)
theorem gu.imp{e:List Rs}{t t':TS}(h:∀D σ H,t' D σ H->t D σ H)(p:gu X e t):gu X e t':=λpins s σ H D I q=>p pins s σ H D I (h _ _ _ q)
theorem PG.imp{e:O4}{t t':TG}(h:∀v σ H Q,t' v σ H Q->t v σ H Q)(p:PG X e t):PG X e t':=λpins s σ H v u Q I r q=>p pins s σ H v u Q I r (h _ _ _ _ q)
theorem HW{c d:Type}{R:c->d->Prop}{a:c}{f:List c}{vs:List d}(h:Paired R (a::f) vs):∃x xs,vs=x::xs/\R a x/\Paired R f xs:=by
 cases h;exact⟨_,_,rfl,by assumption,by assumption⟩
def Gf(l:List (Option AV)):Nat->Option AV:=List.rec (motive:=λ_=>Nat->Option AV) (λ_=>none) (λx _ c n=>Wg (motive:=λ_=>Option AV) x (λm _=>c m) n) l
def LD(l:List (Option AV)):Nat->AV->List (Option AV):=List.rec (motive:=λ_=>Nat->AV->List (Option AV)) (λ_ _=>[]) (λx r c n v=>Wg (motive:=λ_=>List (Option AV)) (some v::r) (λm _=>x::c m v) n) l
def MT(σ:er)(i:Nat):Option AV:=Gf σ.v i
def Bf(σ:er)(i:Nat)(v:AV):er:=⟨LD σ.v i v,σ.ke⟩
def aU(i:Nat):BE:=λσ S k=>match MT σ i with
 | some v=>k v S
 | none=>false
def bC(v:AV):BE:=λ_ S k=>k v S
def mB(f:AV->AV->aN->(AV->aN->Bool)->Bool)(a b:BE):BE:=λσ S k=>a σ S λx d=>b σ d λy c=>f x y c k
def Op(f:AV->aN->(AV->aN->Bool)->Bool)(a:BE):BE:=λσ S k=>a σ S λx c=>f x c k
def bB(a:BE):BT:=λσ S k=>a σ S λx d=>match x with
 | .bl c=>k c d
 | _=>false
def Gg(a b:BT):BT:=λσ S k=>a σ S λc d=>match c with
 | true=>b σ d k
 | false=>k false d
def Oe(a b:BT):BT:=λσ S k=>a σ S λc d=>match c with
 | true=>k true d
 | false=>b σ d k
def NA(a:BT):BT:=λσ S k=>a σ S λc d=>k (!c) d
def HX(a b:BE):BE:=λσ S k=>a σ S λx c=>match x with
 | .bl true=>b σ c k
 | .bl false=>k (.bl false) c
 | _=>false
def NB(a b:BE):BE:=λσ S k=>a σ S λx c=>match x with
 | .bl true=>k (.bl true) c
 | .bl false=>b σ c k
 | _=>false
def LE(a:BE):BE:=λσ S k=>a σ S λx d=>match x with
 | .bl c=>k (.bl<|!c) d
 | _=>false
def LF(t:BT)(a b:BE):BE:=λσ S k=>t σ S λc d=>match c with
 | true=>a σ d k
 | false=>b σ d k
def bE:BA:=λ_ S k=>k [] S
def aG(a:BE)(r:BA):BA:=λσ S k=>a σ S λx d=>r σ d λxs c=>k (x::xs) c
def jm(a:BA):BE:=λσ S k=>a σ S λxs c=>match Pr xs.length 1000 with
 | true=>k (chain xs) c
 | false=>false
def LG(a:BA):BE:=λσ S k=>a σ S λxs c=>match Pr xs.length 1000 with
 | true=>k (.ref c.n) (c.add<|.lst xs)
 | false=>false
def nq(f:BF)(a:BA):BE:=λσ S k=>a σ S λxs c=>f xs c k σ.ke
section
variable{g:Gx}{F:Fx}{S:aN}
theorem pH:∀{c:List (Option AV)} {σ:St} {i:Nat} {av:AV},gb F y ρ H c σ->Gf c i=some av->∃v,σ[i]?=some (some v)/\aQ F y ρ H av v
 | _,_,_,_,.nil,e=>by cases e
 | _,_,0,av,.cons (a:=x) (b:=v) r _,e=>by
  change x=some av at e;subst e;cases v with
  | none=>exact r.elim
  | some v=>exact⟨v,rfl,r⟩
 | _,_,i+1,av,.cons _ t,e=>by
  obtain⟨v,f,d⟩:=pH (i:=i) (av:=av) t e;exact⟨v,by simpa using f,d⟩
theorem vU:∀{c:List (Option AV)} {σ:St} {i:Nat} {av:AV} {v:V},gb F y ρ H c σ->aQ F y ρ H av v->gb F y ρ H (LD c i av) (σ.set i<|some v)
 | _,_,_,_,_,.nil,_=>.nil
 | _,_,0,_,_,.cons _ t,r=>.cons r t
 | _,_,i+1,_,_,.cons q t,r=>.cons q (vU (i:=i) t r)
theorem vV{c:er}{i:Nat}{av:AV}(h:bn g F y ρ H c σ)(e:MT c i=some av):∃v,σ[i]?=some (some v)/\aQ F y ρ H av v:=pH h.v e
theorem cZ{c:er}{i:Nat}{av:AV}{v:V}(h:bn g F y ρ H c σ)(r:aQ F y ρ H av v):bn g F y ρ H (Bf c i av) (σ.set i<|some v):=⟨vU h.v r,h.e⟩
theorem bw{a b:Nat}(h:Pr a b=true):a≤b:=Qj h
def i8(g:Gx)(r:R2)(f:AV->AV->aN->(AV->aN->Bool)->Bool):Prop :=
 ∀F y ρ S H x z ax c k Q,aH g F y ρ S H->aQ F y ρ H ax x->aQ F y ρ H c z->f ax c S k=true->gS g F y ρ H k Q->r x z H Q
def NC(g:Gx)(r:V->Hp->VK->Prop)(f:AV->aN->(AV->aN->Bool)->Bool):Prop :=
 ∀F y ρ S H x ax k Q,aH g F y ρ S H->aQ F y ρ H ax x->f ax S k=true->gS g F y ρ H k Q->r x H Q
def nY(g:Gx)(r:List V->Hp->VK->Prop)(f:List AV->aN->(AV->aN->Bool)->Bool):Prop :=
 ∀F y ρ S H xs c k Q,aH g F y ρ S H->aR F y ρ H c xs->f c S k=true->gS g F y ρ H k Q->r xs H Q
theorem ar{b:BE}{Q:VK}{d:er}{k:AV->aN->Bool}(C:aH g F y ρ S H)(r:bn g F y ρ H d σ)(h:b d S k=true)
  (n:∀f c i H1 av v,aA F y ρ H f c H1->aH g F f c i H1->bn g F f c H1 d σ->aQ F f c H1 av v->k av i=true->Q v H1):up g b σ H Q :=
 ⟨F,y,ρ,S,d,k,C,r,h,λf c i H1 av v st C1 j q=>n f c i H1 av v st C1 (bn.mono st r) j q⟩
theorem fh{b:BT}{Q:Bool->Hp->Prop}{f:er}{k:Bool->aN->Bool}(C:aH g F y ρ S H)(r:bn g F y ρ H f σ)(h:b f S k=true)
  (n:∀i d j H1 c,aA F y ρ H i d H1->aH g F i d j H1->bn g F i d H1 f σ->k c j=true->Q c H1):fE g b σ H Q :=
 ⟨F,y,ρ,S,f,k,C,r,h,λi d j H1 c st C1 q=>n i d j H1 c st C1 (bn.mono st r) q⟩
theorem bF{b:BA}{Q:List V->Hp->Prop}{d:er}{k:List AV->aN->Bool}(C:aH g F y ρ S H)(r:bn g F y ρ H d σ)(h:b d S k=true)
  (n:∀f c i H1 av v,aA F y ρ H f c H1->aH g F f c i H1->bn g F f c H1 d σ->aR F f c H1 av v->k av i=true->Q v H1):jl g b σ H Q :=
 ⟨F,y,ρ,S,d,k,C,r,h,λf c i H1 av v st C1 j q=>n f c i H1 av v st C1 (bn.mono st r) j q⟩
theorem gS.here{k:AV->aN->Bool}{Q:VK}(p:gS g F y ρ H k Q)(C:aH g F y ρ S H){av:AV}{v:V}(r:aQ F y ρ H av v)(h:k av S=true):Q v H:=p y ρ S H av v .refl C r h
theorem sB.here{k:Bool->aN->Bool}{Q:Bool->Hp->Prop}(p:sB g F y ρ H k Q)(C:aH g F y ρ S H){b:Bool}(h:k b S=true):Q b H:=p y ρ S H b .refl C h
theorem lI.here{k:er->aN->Bool}{Q:St->Hp->Prop}(p:lI g F y ρ H k Q)(C:aH g F y ρ S H){c:er}(r:bn g F y ρ H c σ)(h:k c S=true):Q σ H:=p y ρ S H c σ .refl C r h
end
section
variable{g:Gx}{a b c e:O4}{ba bb:BE}{bt bu:BT}{br:BA}{es rest:List O4}
theorem DK(i:Nat){x:Str}(h:PE X (.Name x pos) (xv i)):PE X (.Name x pos) (up g<|aU i):=by
 refine PE.imp (λσ H Q f=>ez f λF y ρ S d k C r h p=>?_) h;unfold aU at h;cases q:MT d i with
 | none=>rw[q] at h;cases h
 | some av=>
  rw[q] at h;obtain⟨v,l,j⟩:=vV r q;exact⟨v,l,p.here C j h⟩
theorem Gh{v:V}{av:AV}(h:PE X e (tC v))(hr:∀F y ρ H,aQ F y ρ H av v):PE X e (up g<|bC av) :=
 PE.imp (λσ H Q f=>ez f λF y ρ S d k C r h p=>p.here C (hr F y ρ H) h) h
theorem ah{i:Int}{j}:PE X (.Constant (.int i) j pos) (up g<|bC<|.int false i i):=Gh cU λ_ _ _ _=>⟨i,rfl,RD _,RD _⟩
theorem hZ{d:Bool}{j}:PE X (.Constant (.bool d) j pos) (up g<|bC<|.bl d):=Gh KZ λ_ _ _ _=>rfl
theorem kJ{j}:PE X (.Constant .none j pos) (up g<|bC .non):=Gh xx λ_ _ _ _=>rfl
theorem ao(i:Nat){x:Str}{j}(h:a8[i]?=some x:=by decide +kernel):PE X (.Constant (.str x) j pos) (up g<|bC<|.str i):=Gh gO λ_ _ _ _=>⟨x,h,rfl⟩
theorem uj{r:R2}{f}(O:i8 g r f):∀σ H Q,up g (mB f ba bb) σ H Q->IY r (up g ba) (up g bb) σ H Q:=λσ H Q L=>ez L λF y ρ S j k C r h p=>
 ar C r h λy1 l S1 H1 ax x st C1 I u Y=>ar C1 I Y λm i S2 H2 Z z d C2 r2 o U=>O F m i S2 H2 x z ax Z k Q C2 (aQ.mono d u) o U (p.mono<|st.trans d)
theorem fi{d:Yu}{r:R2}{f}(ho:lq X (Sb d) r)(h:i8 g r f)(i:PE X a (up g ba))(hb:PE X b (up g bb)):PE X (.BinOp a d b pos) (up g<|mB f ba bb):=PE.imp (uj h) (fc ho i hb)
theorem gT{d:XT}{r:R2}{f}(ho:lq X (QH d) r)(i:i8 g r f)(j:PE X a (up g ba))(hb:PE X b (up g bb))(h:Qh d b=false):PE X (.Compare a [d] [b] pos) (up g<|mB f ba bb):=PE.imp (uj i) (FK ho j hb h)
theorem fk{t:TE}{d:BE}(h:∀σ H Q,up g d σ H Q->t σ H Q):∀σ H Q,fE g (bB d) σ H Q->vy t σ H Q:=λσ H Q ⟨F,y,ρ,S,j,k,C,r,q,p⟩=>
 h σ H _ (ar C r q λl f o H1 ax x st C1 u m i=>by
  cases ax with
  | bl c=>
   have:x=.bl c:=m;subst this;exact⟨c,rfl,p l f o H1 c st C1 i⟩
  | _=>cases i)
theorem bV{d:XT}{r:R2}{f}(ho:lq X (QH d) r)(i:i8 g r f)(j:PE X a (up g ba))(hb:PE X b (up g bb))(h:Qh d b=false):PT X (.Compare a [d] [b] pos) (fE g<|bB<|mB f ba bb):=PT.imp (fk<|uj i) (tW ho j hb h)
theorem c3(h:PE X e (up g ba))(d:∀whole,WL e X.env whole=(do let v <-whole;Rp e.pos;Rq [v] (ZI v)):=by with_unfolding_all (intro _;rfl)):PT X e (fE g<|bB ba) :=
 PT.imp (fk (t:=up g ba) λ_ _ _ h=>h) (show PT X e (vy<|up g ba) from IM h d)
theorem Gi:∀σ H Q,fE g (Gg bt bu) σ H Q->K0 (fE g bt) (fE g bu) σ H Q:=λσ H Q o=>ez o λF y ρ S f k C r h p=>
 fh C r h λi d l H1 c st C1 m j=>by
  cases c with
  | true=>exact qW ⟨F,i,d,l,f,k,C1,m,j,p.mono st⟩
  | false=>exact qV (p i d l H1 false st C1 j)
theorem JA:∀σ H Q,fE g (Oe bt bu) σ H Q->N2 (fE g bt) (fE g bu) σ H Q:=λσ H Q o=>ez o λF y ρ S f k C r h p=>
 fh C r h λi d l H1 c st C1 m j=>by
  cases c with
  | false=>exact qV ⟨F,i,d,l,f,k,C1,m,j,p.mono st⟩
  | true=>exact qW (p i d l H1 true st C1 j)
theorem uk(d:PT X a (fE g bt)):PW X (.BoolOp .And [a] pos) (fE g bt):=FJ d
theorem mC(d:PT X a (fE g bt)):PW X (.BoolOp .Or [a] pos) (fE g bt):=IN d
theorem xZ(d:PT X a (fE g bt))(hb:PW X (.BoolOp .And (b::rest) pos) (fE g bu)):PW X (.BoolOp .And (a::b::rest) pos) (fE g<|Gg bt bu):=PW.imp Gi (IP d hb)
theorem pI(d:PT X a (fE g bt))(hb:PW X (.BoolOp .Or (b::rest) pos) (fE g bu)):PW X (.BoolOp .Or (a::b::rest) pos) (fE g<|Oe bt bu):=PW.imp JA (K2 d hb)
theorem gf(j:PT X a (fE g bt)):PT X (.UnaryOp .Not a pos) (fE g<|NA bt) :=
 PT.imp (λσ H Q ⟨F,y,ρ,S,f,k,C,r,h,p⟩=>fh C r h λi d m H1 c st C1 o l=>p i d m H1 (!c) st C1 l) (IQ j)
theorem jn{d}(h:PE X a (up g ba)):PE X (.BoolOp d [a] pos) (up g ba):=IR h
theorem ul(z:PE X a (up g ba))(hb:PE X (.BoolOp .And (b::rest) pos) (up g bb)):PE X (.BoolOp .And (a::b::rest) pos) (up g<|HX ba bb):=by
 refine PE.imp (λσ H Q u=>ez u λF y ρ S f k C r h p=>?_) (IS z hb);refine ar C r h λj d l H1 ax x st C1 o m i=>?_;cases ax with
 | bl c=>
  have:x=.bl c:=m;subst this;refine⟨c,rfl,?_⟩;cases c with
  | true=>exact qW ⟨F,j,d,l,f,k,C1,o,i,p.mono st⟩
  | false=>exact qV (p j d l H1 (.bl false) _ st C1 rfl i)
 | _=>cases i
theorem DL(z:PE X a (up g ba))(hb:PE X (.BoolOp .Or (b::rest) pos) (up g bb)):PE X (.BoolOp .Or (a::b::rest) pos) (up g<|NB ba bb):=by
 refine PE.imp (λσ H Q u=>ez u λF y ρ S f k C r h p=>?_) (K5 z hb);refine ar C r h λj d l H1 ax x st C1 o m i=>?_;cases ax with
 | bl c=>
  have:x=.bl c:=m;subst this;refine⟨c,rfl,?_⟩;cases c with
  | false=>exact qV ⟨F,j,d,l,f,k,C1,o,i,p.mono st⟩
  | true=>exact qW (p j d l H1 (.bl true) _ st C1 rfl i)
 | _=>cases i
theorem JB(o:PE X a (up g ba)):PE X (.UnaryOp .Not a pos) (up g<|LE ba):=by
 refine PE.imp (λσ H Q m=>ez m λF y ρ S i k C r h p=>?_) (IT o);refine ar C r h λj d u H1 ax x st C1 z l f=>?_;cases ax with
 | bl c=>
  have:x=.bl c:=l;subst this;exact⟨c,rfl,p j d u H1 (.bl<|!c) _ st C1 rfl f⟩
 | _=>cases f
theorem fm(x:PT X c (fE g bt))(z:PE X a (up g ba))(hb:PE X b (up g bb)):PE X (.IfExp c a b pos) (up g<|LF bt ba bb):=by
 refine PE.imp (λσ H Q u=>ez u λF y ρ S f k C r h p=>?_) (oU x z hb);refine fh C r h λj i o H1 d st C1 l m=>?_;cases d with
 | true=>exact qW ⟨F,j,i,o,f,k,C1,l,m,p.mono st⟩
 | false=>exact qV ⟨F,j,i,o,f,k,C1,l,m,p.mono st⟩
theorem ad:PA X [] (jl g bE):=PA.imp (λσ H Q f=>ez f λF y ρ S d k C r h p=>p y ρ S H [] [] .refl C .nil h) cW
theorem aa(L:PE X e (up g ba))(hr:PA X es (jl g br))(hs:hE9 X e es:=by nofun):PA X (e::es) (jl g<|aG ba br) :=
 PA.imp (λσ H Q I=>ez I λF y ρ S i k C r h p=>ar C r h λy1 j S1 H1 ax x st C1 u o U=>bF C1 u U λl f Z H2 Y z d C2 r2 m O=>p l f Z H2 (ax::Y) (x::z) (st.trans d) C2 (.cons (aQ.mono d o) m) O) (bK L hr hs)
theorem aO{F:Fx}{xs:List AV}(h:aR F y ρ H xs vs):xs.length=vs.length:=Pm h
theorem zC{n:Nat}(h:Pr n 1000=true):n≤OR:=QP (bZ<|bw h)
theorem aC{x}(h:PA X es (jl g br)):PE X (.Tuple es x pos) (up g<|jm br):=by
 refine PE.imp (λσ H Q z=>ez z λF y ρ S u k C r h p=>?_) (CQ h);refine bF C r h λl d I H1 i xs st C1 L m j=>?_;cases q:Pr i.length 1000 with
 | false=>simp only[q] at j;cases j
 | true=>
  simp only[q] at j;refine⟨by rw[<-aO m];exact zC q,λpl o=>?_⟩;have f:aA F l d H1 l d (upd H1 pl<|.tup xs):=aA.lay o;exact p l d I _ (chain i) _ (st.trans f) (C1.lay o) (aQ.chain aq<|aR.mono f m) j
theorem fF(h:PA X es (jl g br)):PE X (.List es pos) (up g<|LG br):=by
 refine PE.imp (λσ H Q z=>ez z λF y ρ S x k C r h p=>?_) (Je h);refine bF C r h λl d I H1 i xs st C1 L m j=>?_;cases q:Pr i.length 1000 with
 | false=>simp only[q] at j;cases j
 | true=>
  simp only[q] at j;refine⟨by rw[<-aO m];exact zC q,λpl u=>?_⟩;have f:aA F l d H1 l (d++[pl]) (upd H1 pl<|.lst xs):=aA.add u;exact p l _ _ _ (.ref I.n) _ (st.trans f) (C1.add (o:=.lst i) u ⟨xs,rfl,aR.mono f m⟩) ⟨pl,by rw[C1.n];simp,rfl⟩ j
def nZ(n:Nat)(f:BF):BF:=λxs S k ke=>match OS xs.length n with
 | true=>f xs S k ke
 | false=>false
theorem DM{n:Nat}{f:BF}:∀σ H Q,up g (nq (nZ n f) br) σ H Q->jY (jP g.toGy n f) [] g.E (jl g br) σ H Q:=λσ H Q x=>ez x λF y ρ S j k C r h p=>
 bF C r h λo l z H1 i xs st C1 u m d=>by
  unfold nZ at d;cases q:OS i.length n with
  | false=>simp only[q] at d;cases d
  | true=>
   simp only[q] at d;rw[Ra];exact⟨F,o,l,z,i,k,j.ke,C1,m,by rw[<-aO m];exact ON q,d,p.mono st,u.e⟩
end
def DN:BS:=λd σ S=>d.nx σ S
def fU(a b:BS):BS:=λd σ S=>a {d with nx:=b d} σ S
def gB(a:BE):BS:=λd σ S=>a σ S λ_ c=>d.nx σ c
def x4(a:BE):BS:=λd σ S=>a σ S d.rt
def Gj(t:BT)(a b:BS):BS:=λd σ S=>t σ S λc f=>match c with
 | true=>a d σ f
 | false=>b d σ f
def x5:BS:=λ_ _ _=>false
def cy(i:Nat):BG:=λv σ S k=>k (Bf σ i v) S
def jQ(a:BE)(t:BG):BS:=λd σ S=>a σ S λx c=>t x σ c d.nx
section
variable{g:Gx}{rest:List Rs}{a b:BS}{e c:O4}{be:BE}{bt:BT}
theorem aV:gu X [] (de g DN):=gu.imp (λD σ H i=>xY i λF y ρ S f d C r h p _=>p.here C r h) yU
theorem af(m:PS X st (de g a))(Q:gu X rest (de g b)):gu X (st::rest) (de g<|fU a b) :=
 gu.imp (λD σ H O=>MS O λF y ρ S i d C r h p o x u=>⟨F,y,ρ,S,i,_,C,r,h,λI l U H1 j z f C1 L m=>⟨F,I,l,U,j,d,C1,L,m,p.mono f,o.mono f,x.mono f,u.mono f⟩,o,x,u⟩) (cV m Q)
theorem ag(d:PS X st (de g a)):gu X [st] (de g a):=lr d
theorem au(o:PE X e (up g be))(hs:Qq e none pos.line X.env=pure false:=by nofun):PS X (.Expr e pos) (de g<|gB be) :=
 PS.imp (λD σ H m=>xY m λF y ρ S f d C r h p _=>ar C r h λj i z H1 ax x st C1 l I u=>p j i z H1 f σ st C1 l u) (yV o hs)
theorem aB(j:PE X e (up g be)):PS X (.Return (some e) pos) (de g<|x4 be) :=
 PS.imp (λD σ H i=>MS i λF y ρ S f d C r h _ p _ _=>⟨F,y,ρ,S,f,d.rt,C,r,h,p⟩) (tR j)
theorem a9{m l:List Rs}(Q:PT X c (fE g bt))(U:gu X m (de g a))(hb:gu X l (de g b)):PS X (.If c m l pos) (de g<|Gj bt a b):=by
 refine PS.imp (λD σ H O=>MS O λF y ρ S f d C r h p u z x=>?_) (HB Q U hb);refine fh C r h λj i L H1 c st C1 o I=>?_;cases c with
 | true=>exact qW ⟨F,j,i,L,f,d,C1,o,I,p.mono st,u.mono st,z.mono st,x.mono st⟩
 | false=>exact qV ⟨F,j,i,L,f,d,C1,o,I,p.mono st,u.mono st,z.mono st,x.mono st⟩
theorem aP:PS X st (de g x5):=PS.imp (λD σ H i=>ez i λF y ρ S f d C r h _=>by cases h) Cw
theorem Gk{x:Str}(i:Nat)(h:PG X (.Name x pos) (fQ i)):PG X (.Name x pos) (nj g [i]<|cy i) :=
 PG.imp (λv σ H Q f=>by obtain⟨F,y,ρ,S,av,d,k,C,l,r,h,p⟩:=f;exact p y ρ S H _ _ .refl C (cZ r l) ⟨X5 ..,λj m=>Sn λe=>m (by simp[e])⟩ h) h
theorem Gm{t:BG}:∀D σ H,de g (jQ be t) D σ H->jc (up g be) (nj g sl t) D σ H:=λD σ H Q=>xY Q λF y ρ S f d C r h p _=>
 ar C r h λz m S1 H1 ax x st C1 O I Y=>⟨F,z,m,S1,ax,f,d.nx,C1,I,O,Y,λu l Z H2 j i o C2 L _ U=>p u l Z H2 j i (st.trans o) C2 L U⟩
theorem JC{x:Str}{p:Pos}(i:Nat)(h:PS X (.Assign [.Name x p] e pos) (jc (up g be)<|fQ i)):PS X (.Assign [.Name x p] e pos) (de g<|jQ be<|cy i) :=
 PS.imp (λD σ H u=>xY u λF y ρ S j d C r h p _=>ar C r h λl f I H1 ax x st C1 o m z=>p l f I H1 _ _ st C1 (cZ o m) z) h
end
def fA:Int->Int->Bool
 | .ofNat m,.ofNat n=>Pr m n
 | .negSucc m,.negSucc n=>Pr n m
 | .negSucc _,.ofNat _=>true
 | .ofNat _,.negSucc _=>false
theorem bO{a b:Int}:fA a b=true↔a≤b:=by
  cases a with
  | ofNat m=>cases b with
    | ofNat n=>
      show Pr m n=true↔(m:Int)≤(n:Int);rw[Nat.ble_eq];omega
    | negSucc n=>
      constructor
      · intro h;cases h
      · intro h;exfalso;have:(m:Int)≤X2 n:=h;omega
  | negSucc m=>cases b with
    | ofNat n=>
      constructor
      · intro _;show X2 m≤(n:Int);omega
      · intro _;rfl
    | negSucc n=>
      show Pr n m=true↔_;rw[Nat.ble_eq];omega
def DO(a b:Int):Bool:=!fA b a
theorem uo{a b:Int}:DO a b=true↔a<b:=by
 unfold DO;have:=bO (a:=b) (b:=a);cases h:fA b a
 ·rw[h] at this;simp at this ⊢;omega
 ·rw[h] at this;simp at this ⊢;omega
def Bg:Bool->Int->Int->Bool->Int->Int->Option Bool
 | false,lo,f,false,c,d=>match DO f c with
  | true=>some true
  | false=>match fA d lo with
   | true=>some false
   | false=>none
 | true,lo,f,true,c,d=>match DO f c with
  | true=>some true
  | false=>match fA d lo with
   | true=>some false
   | false=>none
 | true,lo,_,false,_,d=>match fA d (lo+1) with
  | true=>some false
  | false=>none
 | false,_,f,true,c,_=>match fA f c with
  | true=>some true
  | false=>none
def KM:Bool->Int->Int->Bool->Int->Int->Option Bool
 | s,lo,f,s',c,d=>match s,s' with
  | false,true=>match fA f c with
   | true=>some false
   | false=>none
  | true,false=>match fA d lo with
   | true=>some false
   | false=>none
  | _,_=>match DO f c with
   | true=>some false
   | false=>match DO d lo with
    | true=>some false
    | false=>match fA f c with
     | true=>match fA d lo with
      | true=>match fA f lo with
       | true=>match fA d c with
        | true=>some true
        | false=>none
       | false=>none
      | false=>none
     | false=>none
def Bd(y:Option Int)(s:Bool)(lo hi z:Int):Prop:=match s with
 | false=>lo≤z/\z≤hi
 | true=>∃x,y=some x/\x+lo≤z/\z≤x+hi
theorem a6{F:Fx}{s:Bool}{lo g:Int}{v:V}:aQ F y ρ H (.int s lo g) v↔∃z,v=.int z/\Bd y s lo g z:=by
 cases s with
 | false=>exact Iff.rfl
 | true=>exact⟨λ⟨x,z,f,d,c⟩=>⟨z,d,x,f,c⟩,λ⟨z,d,x,f,c⟩=>⟨x,z,f,d,c⟩⟩
theorem kK(r:∀x,y=some x->1≤x){s s':Bool}{lo hi lo' hi' z f:Int}{b:Bool}(o:Bd y s lo hi z)(m:Bd y s' lo' hi' f)(h:Bg s lo hi s' lo' hi'=some b):decide (z<f)=b:=by
 have close:∀{p q:Bool} {c d:Int},(DO hi lo'=p)->(fA hi' lo=q)->c+lo≤z->z≤c+hi->c+lo'≤f->f≤c+hi' ->
   (match p with | true=>some true | false=>match q with | true=>some false | false=>none)=some b->decide (z<f)=b:=by
  intro p q c _ H C l j i g e;cases p with
  | true=>
   cases e;rw[uo] at H;exact decide_eq_true (by omega)
  | false=>cases q with
   | true=>
    cases e;rw[bO] at C;exact decide_eq_false (by omega)
   | false=>cases e
 cases s<;>cases s'
 ·obtain⟨l,j⟩:=o;obtain⟨i,g⟩:=m;exact close (c:=0) (d:=0) rfl rfl (by omega) (by omega) (by omega) (by omega) h
 ·obtain⟨l,j⟩:=o;obtain⟨x,e,i,g⟩:=m;have:=r x e;cases q:fA hi lo' with
  | false=>simp only[Bg,q] at h;cases h
  | true=>simp only[Bg,q] at h;cases h;rw[bO] at q;exact decide_eq_true (by omega)
 ·obtain⟨x,e,l,j⟩:=o;obtain⟨i,g⟩:=m;have:=r x e;cases q:fA hi' (lo+1) with
  | false=>simp only[Bg,q] at h;cases h
  | true=>simp only[Bg,q] at h;cases h;rw[bO] at q;exact decide_eq_false (by omega)
 ·obtain⟨x,e,l,j⟩:=o;obtain⟨I,u,i,g⟩:=m;rw[e] at u;cases u;exact close (c:=x) (d:=0) rfl rfl l j i g h
theorem DP(I:∀x,y=some x->1≤x){s s':Bool}{lo hi lo' hi' z d:Int}{b:Bool}(m:Bd y s lo hi z)(l:Bd y s' lo' hi' d)(h:KM s lo hi s' lo' hi'=some b):decide (z=d)=b:=by
 have close:∀{c:Int},c+lo≤z->z≤c+hi->c+lo'≤d->d≤c+hi' ->
   (match DO hi lo' with
   | true=>some false
   | false=>match DO hi' lo with
    | true=>some false
    | false=>match fA hi lo' with
     | true=>match fA hi' lo with
      | true=>match fA hi lo with
       | true=>match fA hi' lo' with
        | true=>some true
        | false=>none
       | false=>none
      | false=>none
     | false=>none)=some b->decide (z=d)=b:=by
  intro c j i g f e;cases H:DO hi lo' with
  | true=>simp only[H] at e;cases e;rw[uo] at H;exact decide_eq_false (by omega)
  | false=>
   simp only[H] at e;cases C:DO hi' lo with
   | true=>simp only[C] at e;cases e;rw[uo] at C;exact decide_eq_false (by omega)
   | false=>
    simp only[C] at e;cases u:fA hi lo' with
    | false=>simp only[u] at e;cases e
    | true=>
     simp only[u] at e;cases r:fA hi' lo with
     | false=>simp only[r] at e;cases e
     | true=>
      simp only[r] at e;cases p:fA hi lo with
      | false=>simp only[p] at e;cases e
      | true=>
       simp only[p] at e;cases o:fA hi' lo' with
       | false=>simp only[o] at e;cases e
       | true=>
        simp only[o] at e;cases e;rw[bO] at u r p o;exact decide_eq_true (by omega)
 cases s<;>cases s'
 ·obtain⟨j,i⟩:=m;obtain⟨g,f⟩:=l;exact close (c:=0) (by omega) (by omega) (by omega) (by omega) h
 ·obtain⟨j,i⟩:=m;obtain⟨x,e,g,f⟩:=l;have:=I x e;cases q:fA hi lo' with
  | false=>simp only[KM,q] at h;cases h
  | true=>simp only[KM,q] at h;cases h;rw[bO] at q;exact decide_eq_false (by omega)
 ·obtain⟨x,e,j,i⟩:=m;obtain⟨g,f⟩:=l;have:=I x e;cases q:fA hi' lo with
  | false=>simp only[KM,q] at h;cases h
  | true=>simp only[KM,q] at h;cases h;rw[bO] at q;exact decide_eq_false (by omega)
 ·obtain⟨x,e,j,i⟩:=m;obtain⟨O,L,g,f⟩:=l;rw[e] at L;cases L;exact close (c:=x) j i g f h
def kb(o:Option Bool)(S:aN)(k:AV->aN->Bool):Bool:=match o with
 | some b=>k (.bl b) S
 | none=>false
def x6:AV->AV->aN->(AV->aN->Bool)->Bool:=λa b S k=>match a,b with
 | .int false lo hi,.int s lo' hi'=>k (.int s (lo+lo')<|hi+hi') S
 | .int true lo hi,.int false lo' hi'=>k (.int true (lo+lo')<|hi+hi') S
 | _,_=>false
def Oq:AV->AV->aN->(AV->aN->Bool)->Bool:=λa b S k=>match a,b with
 | .int s lo f,.int s' c d=>kb (Bg s lo f s' c d) S k
 | _,_=>false
def Of:AV->AV->aN->(AV->aN->Bool)->Bool:=λa b S k=>match a,b with
 | .int s lo f,.int s' c d=>kb (Bg s' c d s lo f) S k
 | _,_=>false
def Gn:Option Bool->Option Bool
 | some b=>some (!b)
 | none=>none
def Os:AV->AV->aN->(AV->aN->Bool)->Bool:=λa b S k=>match a,b with
 | .int s lo f,.int s' c d=>kb (Gn<|Bg s lo f s' c d) S k
 | _,_=>false
def HY:AV->AV->Option Bool
 | .non,.non=>some true
 | .non,.int _ _ _=>some false
 | .int _ _ _,.non=>some false
 | .non,.bl _=>some false
 | .bl _,.non=>some false
 | .non,.str _=>some false
 | .str _,.non=>some false
 | .int s lo f,.int s' c d=>KM s lo f s' c d
 | .bl a,.bl b=>some (a==b)
 | .str i,.str j=>some (OS i j)
 | .int _ _ _,.str _=>some false
 | .str _,.int _ _ _=>some false
 | .bl _,.str _=>some false
 | .str _,.bl _=>some false
 | _,_=>none
def MU:AV->AV->aN->(AV->aN->Bool)->Bool:=λa b S k=>kb (HY a b) S k
def Ot:AV->AV->aN->(AV->aN->Bool)->Bool:=λa b S k=>kb (Gn<|HY a b) S k
section
variable{g:Gx}{F:Fx}{S:aN}
theorem gC{o:Option Bool}{k:AV->aN->Bool}(h:kb o S k=true):∃b,o=some b/\k (.bl b) S=true:=by
 cases o with
 | none=>cases h
 | some b=>exact⟨b,rfl,h⟩
theorem mD{o:Option Bool}{b:Bool}(h:Gn o=some b):o=some (!b):=by
 cases o with
 | none=>cases h
 | some c=>cases h;simp
theorem gE:i8 g (AI λi j=>.int (i+j)) x6:=by
 intro F y ρ S H x z ax I k Q C o m h p;cases ax with
 | int s lo L=>cases I with
  | int s' r u=>
   obtain⟨i,rfl,b1⟩:=a6.mp o;obtain⟨j,rfl,b2⟩:=a6.mp m;refine⟨i,j,rfl,rfl,?_⟩;cases s with
   | false=>cases s' with
    | false=>exact p.here C (a6.mpr ⟨_,rfl,by obtain⟨l,f⟩:=b1;obtain⟨d,c⟩:=b2;exact⟨by omega,by omega⟩⟩) h
    | true=>exact p.here C (a6.mpr ⟨_,rfl,by obtain⟨l,f⟩:=b1;obtain⟨x,e,d,c⟩:=b2;exact⟨x,e,by omega,by omega⟩⟩) h
   | true=>cases s' with
    | false=>exact p.here C (a6.mpr ⟨_,rfl,by obtain⟨x,e,l,f⟩:=b1;obtain⟨d,c⟩:=b2;exact⟨x,e,by omega,by omega⟩⟩) h
    | true=>cases h
  | _=>cases s<;>cases h
 | _=>cases h
theorem mE:i8 g (AI λi j=>.bl (decide<|i<j)) Oq:=by
 intro F y ρ S H x z ax o k Q C d c h p;cases ax with
 | int s lo r=>cases o with
  | int s' f m=>
   obtain⟨i,rfl,b1⟩:=a6.mp d;obtain⟨j,rfl,b2⟩:=a6.mp c;obtain⟨b,e,l⟩:=gC h;refine⟨i,j,rfl,rfl,?_⟩;dsimp only;rw[kK C.pos b1 b2 e];exact p.here C (av:=.bl b) rfl l
  | _=>cases h
 | _=>cases h
theorem JD:i8 g (AI λi j=>.bl (decide<|j<i)) Of:=by
 intro F y ρ S H x z ax o k Q C d c h p;cases ax with
 | int s lo r=>cases o with
  | int s' f m=>
   obtain⟨i,rfl,b1⟩:=a6.mp d;obtain⟨j,rfl,b2⟩:=a6.mp c;obtain⟨b,e,l⟩:=gC h;refine⟨i,j,rfl,rfl,?_⟩;dsimp only;rw[kK C.pos b2 b1 e];exact p.here C (av:=.bl b) rfl l
  | _=>cases h
 | _=>cases h
theorem JE{i j:Int}:decide (i≤j)=!decide (j<i):=by
 by_cases h:i≤j
 ·have:¬j<i:=by omega
  simp[h,this]
 ·have:j<i:=by omega
  simp[h,this]
theorem JF:i8 g (AI λi j=>.bl (decide<|j≤i)) Os:=by
 intro F y ρ S H x z ax o k Q C d c h p;cases ax with
 | int s lo r=>cases o with
  | int s' f m=>
   obtain⟨i,rfl,b1⟩:=a6.mp d;obtain⟨j,rfl,b2⟩:=a6.mp c;obtain⟨b,e,l⟩:=gC h;have e:=mD e;refine⟨i,j,rfl,rfl,?_⟩;dsimp only;rw[JE,kK C.pos b1 b2 e,Xk];exact p.here C (av:=.bl b) rfl l
  | _=>cases h
 | _=>cases h
theorem x8(I:∀x,y=some x->1≤x){ax l:AV}{x z:V}{b:Bool}(m:aQ F y ρ H ax x)(f:aQ F y ρ H l z)(h:HY ax l=some b):CN x z=true/\decide (x=z)=b:=by
 cases ax with
 | non=>
  cases(show x=.non from m);cases l with
  | non=>cases(show z=.non from f);cases h;exact⟨rfl,rfl⟩
  | int s lo p=>obtain⟨j,rfl,_⟩:=a6.mp f;cases h;exact⟨rfl,rfl⟩
  | bl d=>cases(show z=.bl d from f);cases h;exact⟨rfl,rfl⟩
  | str i=>obtain⟨w,_,rfl⟩:=f;cases h;exact⟨rfl,rfl⟩
  | _=>cases h
 | int s lo p=>
  obtain⟨i,rfl,b1⟩:=a6.mp m;cases l with
  | non=>cases(show z=.non from f);cases h;exact⟨rfl,rfl⟩
  | int s' C L=>
   obtain⟨j,rfl,b2⟩:=a6.mp f;have:=DP I b1 b2 h;refine⟨rfl,?_⟩;rw[<-this];by_cases q:i=j
   ·subst q;simp
   ·have:¬(V.int i=V.int j):=λe=>q (by injection e);simp[q]
  | str i=>obtain⟨w,_,rfl⟩:=f;cases h;exact⟨rfl,rfl⟩
  | _=>cases h
 | bl c=>
  cases(show x=.bl c from m);cases l with
  | non=>cases(show z=.non from f);cases h;exact⟨rfl,rfl⟩
  | bl d=>
   cases(show z=.bl d from f);cases h;refine⟨rfl,?_⟩;cases c<;>cases d<;>rfl
  | str i=>obtain⟨w,_,rfl⟩:=f;cases h;exact⟨rfl,rfl⟩
  | _=>cases h
 | str i=>
  obtain⟨w,r,rfl⟩:=m;cases l with
  | non=>cases(show z=.non from f);cases h;exact⟨rfl,rfl⟩
  | int s lo p=>obtain⟨j,rfl,_⟩:=a6.mp f;cases h;exact⟨rfl,rfl⟩
  | bl d=>cases(show z=.bl d from f);cases h;exact⟨rfl,rfl⟩
  | str j=>
   obtain⟨u,o,rfl⟩:=f;cases h;refine⟨rfl,?_⟩;rw[gv];by_cases q:i=j
   ·subst q;rw[r] at o;cases o;simp
   ·have:¬(V.str w=V.str u):=λe=>q (by injection e with e;subst e;exact dF r o);simp[q,this]
  | _=>cases h
 | _=>cases l<;>cases h
theorem fG:i8 g N8 MU:=by
 intro F y ρ S H x z ax l k Q C d c h p;obtain⟨b,e,f⟩:=gC h;obtain⟨j,i⟩:=x8 C.pos d c e;refine⟨j,?_⟩;rw[i];exact p.here C (av:=.bl b) rfl f
theorem DQ:i8 g N9 Ot:=by
 intro F y ρ S H x z ax l k Q C d c h p;obtain⟨b,e,f⟩:=gC h;obtain⟨j,i⟩:=x8 C.pos d c (mD e);refine⟨j,?_⟩;rw[i,Xk];exact p.here C (av:=.bl b) rfl f
end
section
variable{g:Gx}{F:Fx}{S:aN}{n:Nat}{v:V}
theorem aH.obj(C:aH g F y ρ S H)(r:aQ F y ρ H (.ref n) v){o:AO}(e:S.t.get n=some o):∃a ho,v=.ref a/\ρ[n]?=some a/\H a=some ho/\dO F y ρ H g o ho:=by
 obtain⟨a,c,rfl⟩:=r;obtain⟨i,ho,d,h,f⟩:=C.at_ n a c;rw[e] at d;cases d;exact⟨a,ho,rfl,c,h,f⟩
theorem aH.lst(C:aH g F y ρ S H)(r:aQ F y ρ H (.ref n) v){xs:List AV}(e:S.t.get n=some (.lst xs)):∃a vs,v=.ref a/\ρ[n]?=some a/\H a=some (.lst vs)/\aR F y ρ H xs vs:=by
 obtain⟨a,ho,h,f,d,vs,rfl,c⟩:=C.obj r e;exact⟨a,vs,h,f,d,c⟩
theorem aH.dk(C:aH g F y ρ S H)(r:aQ F y ρ H (.ref n) v){xs:List (AV×AV)}(e:S.t.get n=some (.dk xs)):∃a ks,v=.ref a/\ρ[n]?=some a/\H a=some (.dK ks)/\Paired (λp q=>gw p.1 q.1/\aQ F y ρ H p.2 q.2) xs ks:=by
 obtain⟨a,ho,h,f,d,vs,rfl,c⟩:=C.obj r e;exact⟨a,vs,h,f,d,c⟩
theorem aH.dt(C:aH g F y ρ S H)(r:aQ F y ρ H (.ref n) v){xs:List (AV×AV)}(e:S.t.get n=some (.dt xs)):∃a ks,v=.ref a/\ρ[n]?=some a/\H a=some (.dT ks)/\Paired (λp q=>gz p.1 q.1/\aQ F y ρ H p.2 q.2) xs ks:=by
 obtain⟨a,ho,h,f,d,vs,rfl,c⟩:=C.obj r e;exact⟨a,vs,h,f,d,c⟩
theorem aH.ins(C:aH g F y ρ S H)(r:aQ F y ρ H (.ref n) v){c:Nat}{fs:List (Nat×AV)}(e:S.t.get n=some (.ins c fs)):∃a f d,v=.ref a/\ρ[n]?=some a/\c<2/\H a=some (.ins (g.cl c) f d)/\Paired (λp q=>a8[p.1]?=some q.1/\aQ F y ρ H p.2 q.2) fs d/\∀p∈fs,p.1∈kH:=by
 obtain⟨a,ho,o,m,l,f,d,⟨i,rfl,h⟩,j⟩:=C.obj r e;exact⟨a,f,d,o,m,i,l,j,h⟩
end
def ND:AV->Option Bool
 | .non=>some true
 | .ext _=>none
 | _=>some false
def JG(a:BE):BE:=λσ S k=>a σ S λx c=>kb (ND x) c k
def HZ(a:BE):BE:=λσ S k=>a σ S λx c=>kb (Gn<|ND x) c k
theorem DR{F:Fx}{ax:AV}{x:V}{b:Bool}(r:aQ F y ρ H ax x)(h:ND ax=some b):decide (x=.non)=b:=by
 cases ax with
 | non=>cases h;cases(show x=.non from r);rfl
 | bl c=>cases h;cases(show x=.bl c from r);rfl
 | int s lo d=>cases h;obtain⟨z,rfl,_⟩:=a6.mp r;rfl
 | str i=>cases h;obtain⟨w,_,rfl⟩:=r;rfl
 | ref n=>cases h;obtain⟨a,_,rfl⟩:=r;rfl
 | ext i=>cases h
 | tn=>cases h;obtain⟨a,rfl,_⟩:=r;rfl
 | tc p q=>cases h;obtain⟨a,_,_,rfl,_⟩:=r;rfl
section
variable{g:Gx}{a b e o:O4}{ba bb bc:BE}{br:BA}
theorem zD:∀σ H Q,up g (JG ba) σ H Q->Ct (up g ba) σ H Q:=λσ H Q j=>ez j λF y ρ S d k C r h p=>
 ar C r h λf c u H1 ax x st C1 z i m=>by
  obtain⟨b,e,l⟩:=gC m;rw[DR i e];exact p f c u H1 (.bl b) _ st C1 rfl l
theorem DS:∀σ H Q,up g (HZ ba) σ H Q->Cu (up g ba) σ H Q:=λσ H Q j=>ez j λF y ρ S d k C r h p=>
 ar C r h λf c u H1 ax x st C1 z i m=>by
  obtain⟨b,e,l⟩:=gC m;rw[DR i (mD e),Xk];exact p f c u H1 (.bl b) _ st C1 rfl l
theorem uq{n:O4}(h:PE X (.Compare a [.Is] [n] pos) (Ct<|up g ba)):PE X (.Compare a [.Is] [n] pos) (up g<|JG ba):=PE.imp zD h
theorem eG{n:O4}(h:PT X (.Compare a [.Is] [n] pos) (tB<|Ct<|up g ba)):PT X (.Compare a [.Is] [n] pos) (fE g<|bB<|JG ba):=PT.imp (fk zD) h
theorem Go{n:O4}(h:PT X (.Compare a [.IsNot] [n] pos) (tB<|Cu<|up g ba)):PT X (.Compare a [.IsNot] [n] pos) (fE g<|bB<|HZ ba):=PT.imp (fk DS) h
def vW(f:Nat):List (Nat×AV)->Option AV
 | []=>none
 | (i,v)::r=>match OS i f with
  | true=>some v
  | false=>vW f r
def kM(f:Nat)(a:BE):BE:=λσ S k=>a σ S λx d=>match x with
 | .ref n=>match d.t.get n with
  | some (.ins c fs)=>match vW f fs with
   | some v=>k v d
   | none=>false
  | _=>false
 | _=>false
theorem vX{F:Fx}{y:Option Int}{ρ:List OD}{H:Hp}{f:Nat}{x:Str}(d:a8[f]?=some x):∀{fs:List (Nat×AV)} {l:List (Str×V)} {av:AV},Paired (λp q=>a8[p.1]?=some q.1/\aQ F y ρ H p.2 q.2) fs l->vW f fs=some av->∃v,l.lookup x=some v/\aQ F y ρ H av v
 | _,_,_,.nil,h=>by cases h
 | _,_,av,.cons (a:=(i,w)) (b:=(z,v)) hd tl,h=>by
  unfold vW at h;obtain⟨c,j⟩:=hd;dsimp only at c j h;rw[gv] at h;by_cases q:i=f
  ·subst q;simp at h;subst h;rw[d] at c;cases c;exact⟨v,by simp[RC],j⟩
  ·simp[q] at h;obtain⟨m,u,r⟩:=vX d tl h;have:(x==z)=false:=by
    rw[beq_eq_false_iff_ne];intro e;subst e;exact q (dF c d)
   exact⟨m,by rw[RC,this];exact u,r⟩
theorem eJ{f:Str}(i:Nat)(U:a8[i]?=some f)(Z:∀c,c<2->ow X.K (g.cl c))(hn:∀c,c<2->cg X.K (g.cl c) f)(Y:PE X e (up g ba))(hb:Pi e f X.env (Pq e X.env)=Pq e X.env):PE X (.Attribute e f pos) (up g<|kM i ba):=by
 refine PE.imp (λσ H Q O=>ez O λF y ρ S u k C r h p=>?_) (Jc Y hb);refine ar C r h λz l m H1 ax x st C1 r1 I d=>?_;cases ax with
 | ref n=>
  dsimp only at d;cases q:m.t.get n with
  | none=>rw[q] at d;cases d
  | some ob=>
   rw[q] at d;cases ob with
   | ins c fs=>
    dsimp only at d;cases q2:vW i fs with
    | none=>rw[q2] at d;cases d
    | some av=>
     rw[q2] at d;obtain⟨a,dx,gs,rfl,_,j,ha,L,_⟩:=C1.ins I q;obtain⟨v,e1,e2⟩:=vX U L q2;exact⟨a,_,dx,gs,v,rfl,ha,Z c j,hn c j,e1,p z l m H1 av v st C1 e2 d⟩
   | _=>cases d
 | _=>cases d
def nu(f:Nat)(v:AV):List (Nat×AV)->List (Nat×AV)
 | []=>[(f,v)]
 | (i,x)::r=>match OS i f with
  | true=>(i,v)::r
  | false=>(i,x)::nu f v r
theorem vY{F:Fx}{y:Option Int}{ρ:List OD}{H:Hp}{f:Nat}{x:Str}{av:AV}{v:V}(c:a8[f]?=some x)(h:aQ F y ρ H av v):∀{fs:List (Nat×AV)} {l:List (Str×V)},Paired (λp q=>a8[p.1]?=some q.1/\aQ F y ρ H p.2 q.2) fs l->Paired (λp q=>a8[p.1]?=some q.1/\aQ F y ρ H p.2 q.2) (nu f av fs) (ir x v l)
 | _,_,.nil=>.cons ⟨c,h⟩ .nil
 | _,_,.cons (a:=(i,w)) (b:=(z,u)) hd tl=>by
  unfold nu ir;obtain⟨d,j⟩:=hd;dsimp only at d j ⊢;rw[gv];by_cases q:i=f
  ·subst q;rw[c] at d;cases d;simp;exact .cons ⟨c,h⟩ tl
  ·have:¬z=x:=λe=>by subst e;exact q (dF d c)
   simp[q,this];exact .cons ⟨d,j⟩ (vY c h tl)
def LH(f:Nat)(a v:BE):BS:=λd σ S=>v σ S λw i=>a σ i λx h=>match x with
 | .ref n=>match h.t.get n with
  | some (.ins c fs)=>match Pr fs.length 100 with
   | true=>d.nx σ (h.set n<|.ins c<|nu f w fs)
   | false=>false
  | _=>false
 | _=>false
theorem sC{f:Nat}{v:AV}(d:f∈kH):∀{fs:List (Nat×AV)},(∀p∈fs,p.1∈kH)->∀p∈nu f v fs,p.1∈kH
 | [],_,p,c=>by
  simp[nu] at c;subst c;exact d
 | (i,x)::r,h,p,c=>by
  unfold nu at c;split at c
  ·rcases OY.mp c with e | e
   ·subst e;exact h (i,x) OW
   ·exact h p (OT _ e)
  ·rcases OY.mp c with e | e
   ·subst e;exact h (i,x) OW
   ·exact sC d (λq j=>h q (OT _ j)) p e
theorem c4{f:Str}{pos':Pos}(i:Nat)(hi:a8[i]?=some f)(Z:i∈kH)(hc:∀c,c<2->ow X.K (g.cl c))(hn:∀c,c<2->cg X.K (g.cl c) f)(O:PE X o (up g ba))(hv:PE X e (up g bb))(hs:Qq e (some<|.Attribute o f pos') pos.line X.env=pure false) :
  PS X (.Assign [.Attribute o f pos'] e pos) (de g<|LH i ba bb):=by
 refine PS.imp (λD σ H hx=>xY hx λF y ρ S Q d C r h p _=>?_) (Jd O hv hs);refine ar C r h λy1 ρ1 S1 H1 aw w st C1 r1 Y h1=>ar C1 r1 h1 λU m S2 H2 ax x I C2 r2 rx j=>?_;cases ax with
 | ref n=>
  dsimp only at j;cases q:S2.t.get n with
  | none=>rw[q] at j;cases j
  | some ob=>
   rw[q] at j;cases ob with
   | ins c fs=>
    dsimp only at j;cases q2:Pr fs.length 100 with
    | false=>rw[q2] at j;cases j
    | true=>
     rw[q2] at j;obtain⟨a,dx,gs,rfl,L,u,O,pr,hfl⟩:=C2.ins rx q;have hl:=Pm pr;have hl2:=bw q2;have l:aA F U m H2 U m (upd H2 a<|.ins (g.cl c) dx<|ir f w gs):=aA.set C2 L O;refine⟨a,_,dx,gs,rfl,O,hc c u,hn c u,by omega,?_⟩;refine p U m _ _ Q σ ((st.trans I).trans l) (C2.set L O (o:=.ins c (nu i aw fs)) (ob:=⟨dx,_,⟨u,rfl,sC Z hfl⟩,vY hi (aQ.mono (I.trans l) Y)<|aT (λ_ _ z=>⟨z.1,aQ.mono l z.2⟩) pr⟩)) (bn.mono l r2) j
   | _=>cases j
 | _=>cases j
end
def fS:AV->Bool
 | .int false lo c=>fA lo c&&fA c lo
 | .str _=>true
 | _=>false
def fJ:AV->Bool
 | .tn=>true
 | .tc h t=>fS h&&fJ t
 | _=>false
def xr:AV->AV->Bool
 | .int _ lo _,.int _ f _=>fA lo f&&fA f lo
 | .str i,.str j=>OS i j
 | .tn,.tn=>true
 | .tc a b,.tc c d=>xr a c&&xr b d
 | _,_=>false
section
variable{F:Fx}
theorem dn{ax:AV}{x:V}(h:fS ax=true)(r:aQ F y ρ H ax x):∃k,gw ax k/\x=kV k:=by
 cases ax with
 | int s lo c=>cases s with
  | true=>cases h
  | false=>
   simp only[fS,OZ,bO] at h;obtain⟨z,rfl,f,d⟩:=r;have e:z=lo:=by omega
   subst e;exact⟨.inl z,⟨by omega,rfl⟩,rfl⟩
 | str i=>obtain⟨w,e,rfl⟩:=r;exact⟨.inr w,⟨w,e,rfl⟩,rfl⟩
 | _=>cases h
theorem vZ:∀{ax:AV} {xs:List V},fJ ax=true->rc F y ρ H ax xs->∃ks:List bh,gz ax ks/\xs=ks.map kV
 | .tn,_,_,r=>⟨[],rfl,r⟩
 | .tc a b,_,h,⟨w,i,e,g,f⟩=>by
  simp only[fJ,OZ] at h;obtain⟨k,d,rfl⟩:=dn h.1 g;obtain⟨ks,c,rfl⟩:=vZ h.2 f;exact⟨k::ks,⟨k,ks,rfl,d,c⟩,e⟩
 | .non,_,h,_=>by cases h
 | .bl _,_,h,_=>by cases h
 | .int _ _ _,_,h,_=>by cases h
 | .str _,_,h,_=>by cases h
 | .ref _,_,h,_=>by cases h
 | .ext _,_,h,_=>by cases h
theorem ur{ax:AV}{x:V}(h:fJ ax=true)(r:aQ F y ρ H ax x):∃(ks:List bh) (b:OD),gz ax ks/\x=.ref b/\H b=some (.tup<|ks.map kV):=by
 cases ax with
 | tn=>obtain⟨a,rfl,d⟩:=r;exact⟨[],a,rfl,rfl,d⟩
 | tc p q=>
  obtain⟨a,w,f,rfl,d,i,g⟩:=r;obtain⟨ks,c,e⟩:=vZ (ax:=.tc p q) (xs:=w::f) h ⟨w,f,rfl,i,g⟩;exact⟨ks,a,c,rfl,by rw[d,e]⟩
 | _=>cases h
theorem gF{a b:AV}{k l:bh}(f:gw a k)(d:gw b l):xr a b=decide (k=l):=by
 cases a with
 | int s lo p=>cases s with
  | true=>exact f.elim
  | false=>
   obtain⟨_,rfl⟩:=f;cases b with
   | int s' c g=>cases s' with
    | true=>exact d.elim
    | false=>
     obtain⟨_,rfl⟩:=d;unfold xr;by_cases q:lo=c
     ·subst q;simp[bO]
     ·have:¬(SI lo:bh)=SI c:=λe=>q (by injection e);rw[decide_eq_false this];cases e:(fA lo c&&fA c lo) with
      | false=>rfl
      | true=>simp only[OZ,bO] at e;exact absurd (by omega) q
   | str j=>
    obtain⟨x,_,rfl⟩:=d;simp[xr]
   | _=>exact d.elim
 | str i=>
  obtain⟨x,m,rfl⟩:=f;cases b with
  | int s' c g=>cases s' with
   | true=>exact d.elim
   | false=>
    obtain⟨_,rfl⟩:=d;simp[xr]
  | str j=>
   obtain⟨o,h,rfl⟩:=d;unfold xr;rw[gv];by_cases q:i=j
   ·subst q;rw[m] at h;cases h;simp
   ·have:¬(Si x:bh)=Si o:=λe=>q (by injection e with e;subst e;exact dF m h);simp[q,this]
  | _=>exact d.elim
 | _=>exact f.elim
theorem jo:∀{a b:AV} {k l:List bh},gz a k->gz b l->xr a b=decide (k=l)
 | .tn,.tn,_,_,g,f=>by cases g;cases f;simp[xr]
 | .tn,.tc c d,_,_,g,⟨k,r,e,_⟩=>by cases g;subst e;simp[xr]
 | .tc a b,.tn,_,_,⟨k,r,e,_⟩,f=>by cases f;subst e;simp[xr]
 | .tc a b,.tc c d,_,_,⟨k,r,e,g,f⟩,⟨j,i,p,o,m⟩=>by
  subst e p;unfold xr;rw[gF g o,jo f m];by_cases q:k=j<;>by_cases q2:r=i<;>simp[q,q2]
 | .non,_,_,_,h,_=>h.elim
 | .bl _,_,_,_,h,_=>h.elim
 | .int _ _ _,_,_,_,h,_=>h.elim
 | .str _,_,_,_,h,_=>h.elim
 | .ref _,_,_,_,h,_=>h.elim
 | .ext _,_,_,_,h,_=>h.elim
 | .tn,.non,_,_,_,h=>h.elim
 | .tn,.bl _,_,_,_,h=>h.elim
 | .tn,.int _ _ _,_,_,_,h=>h.elim
 | .tn,.str _,_,_,_,h=>h.elim
 | .tn,.ref _,_,_,_,h=>h.elim
 | .tn,.ext _,_,_,_,h=>h.elim
 | .tc _ _,.non,_,_,_,h=>h.elim
 | .tc _ _,.bl _,_,_,_,h=>h.elim
 | .tc _ _,.int _ _ _,_,_,_,h=>h.elim
 | .tc _ _,.str _,_,_,_,h=>h.elim
 | .tc _ _,.ref _,_,_,_,h=>h.elim
 | .tc _ _,.ext _,_,_,_,h=>h.elim
end
def dS:List (AV×AV)->AV->Option AV
 | [],_=>none
 | (k,v)::r,x=>match xr k x with
  | true=>some v
  | false=>dS r x
def v1:List (AV×AV)->AV->AV->List (AV×AV)
 | [],_,_=>[]
 | (k,v)::r,x,w=>match xr k x with
  | true=>(k,w)::v1 r x w
  | false=>(k,v)::v1 r x w
def nv:List (AV×AV)->AV->List (AV×AV)
 | [],_=>[]
 | (k,v)::r,x=>match xr k x with
  | true=>nv r x
  | false=>(k,v)::nv r x
def rf(kvs:List (AV×AV))(x w:AV):List (AV×AV):=match dS kvs x with
 | some _=>v1 kvs x w
 | none=>kvs++[(x,w)]
section
variable{κ:Type}[DecidableEq κ]{KR:AV->κ->Prop}{R:AV->V->Prop}(hK:∀a b k l,KR a k->KR b l->xr a b=decide (k=l)){ax:AV}{k:κ}(hx:KR ax k)
include hK hx
theorem h9:∀{kvs:List (AV×AV)} {ks:List (κ×V)},Paired (λp q=>KR p.1 q.1/\R p.2 q.2) kvs ks->(∀av,dS kvs ax=some av->∃v,cX ks k=some v/\R av v)/\(dS kvs ax=none->cX ks k=none)
 | _,_,.nil=>⟨λ_ h=>by(cases h),λ_=>rfl⟩
 | _,_,.cons (a:=(l,w)) (b:=(c,v)) hd tl=>by
  obtain⟨f,d⟩:=hd;dsimp only at f d;unfold dS;rw[hK l ax c k f hx];by_cases q:c=k
  ·subst q;simp[cX,Rc];exact d
  ·have g:=h9 tl;have e:∀r:List (κ×V),cX ((c,v)::r) k=cX r k:=λr=>ly q;simp only[q,decide_false];rw[e];exact g
theorem pJ{w:AV}{v:V}(c:R w v):∀{kvs:List (AV×AV)} {ks:List (κ×V)},Paired (λp q=>KR p.1 q.1/\R p.2 q.2) kvs ks->Paired (λp q=>KR p.1 q.1/\R p.2 q.2) (v1 kvs ax w) (ks.map λkv=>if kv.1=k then(kv.1,v) else kv)
 | _,_,.nil=>.nil
 | _,_,.cons (a:=(l,u)) (b:=(f,h)) hd tl=>by
  obtain⟨d,g⟩:=hd;dsimp only at d g;unfold v1;rw[hK l ax f k d hx,O8];by_cases q:f=k
  ·simp only[q,decide_true,if_true];exact .cons ⟨by rw[<-q];exact d,c⟩ (pJ c tl)
  ·simp only[q,decide_false,if_false];exact .cons ⟨d,g⟩ (pJ c tl)
theorem lJ:∀{kvs:List (AV×AV)} {ks:List (κ×V)},Paired (λp q=>KR p.1 q.1/\R p.2 q.2) kvs ks->Paired (λp q=>KR p.1 q.1/\R p.2 q.2) (nv kvs ax) (hO ks k)
 | _,_,.nil=>.nil
 | _,_,.cons (a:=(l,u)) (b:=(d,g)) hd tl=>by
  obtain⟨c,f⟩:=hd;dsimp only at c f;unfold nv hO;rw[hK l ax d k c hx,Rh];by_cases q:d=k
  ·simp only[q,decide_true,ne_eq,not_true,decide_false];exact lJ tl
  ·simp only[q,decide_false,ne_eq,not_false_eq_true,decide_true,if_true];exact .cons ⟨c,f⟩ (lJ tl)
theorem oC{w:AV}{v:V}(c:R w v){kvs:List (AV×AV)}{ks:List (κ×V)}(h:Paired (λp q=>KR p.1 q.1/\R p.2 q.2) kvs ks):Paired (λp q=>KR p.1 q.1/\R p.2 q.2) (rf kvs ax w) (dc ks k v):=by
 have q:=h9 hK hx h;have e:(ks.any λkv=>decide (kv.1=k))=(cX ks k).isSome:=o7 ..;unfold rf dc;rw[e];cases z:dS kvs ax with
 | none=>
  rw[q.2 z];simp only[Option.isSome_none,O5,if_false];exact X0 h ⟨hx,c⟩
 | some av=>
  obtain⟨f,d,_⟩:=q.1 av z;rw[d];simp only[WT,if_true];exact pJ hK hx c h
end
def iS(S:aN)(x y:AV):Option (Option AV):=match x with
 | .ref n=>match S.t.get n with
  | some (.dk kvs)=>match fS y with
   | true=>some (dS kvs y)
   | false=>none
  | some (.dt kvs)=>match fJ y with
   | true=>some (dS kvs y)
   | false=>none
  | some (.fz (.dk kvs))=>match fS y with
   | true=>some (dS kvs y)
   | false=>none
  | some (.fz (.dt kvs))=>match fJ y with
   | true=>some (dS kvs y)
   | false=>none
  | _=>none
 | _=>none
def zE(S:aN)(x y v:AV):Option aN:=match x with
 | .ref n=>match S.t.get n with
  | some (.dk kvs)=>match fS y&&Pr kvs.length 1000 with
   | true=>some (S.set n<|.dk<|rf kvs y v)
   | false=>none
  | some (.dt kvs)=>match fJ y&&Pr kvs.length 1000 with
   | true=>some (S.set n<|.dt<|rf kvs y v)
   | false=>none
  | _=>none
 | _=>none
section
variable{g:Gx}{F:Fx}{S:aN}
def NE(F:Fx)(y:Option Int)(ρ:List OD)(H:Hp):Option AV->Option V->Prop
 | some a,o=>∃v,o=some v/\aQ F y ρ H a v
 | none,o=>o=none
theorem zF{kvs:List (AV×AV)}{ks:List (bh×V)}{a:OD}(hr:Rd H a (.dK ks))(h:Paired (λp q=>gw p.1 q.1/\aQ F y ρ H p.2 q.2) kvs ks){c:AV}{k:V}(q2:fS c=true)(f:aQ F y ρ H c k):∃o,iw H a k o/\NE F y ρ H (dS kvs c) o:=by
 obtain⟨d,j,rfl⟩:=dn q2 f;obtain⟨l1,i⟩:=h9 (KR:=gw) (R:=aQ F y ρ H) (λ_ _ _ _ m l=>gF m l) j h;refine⟨cX ks d,.inl ⟨ks,d,hr,rfl,rfl⟩,?_⟩;cases z:dS kvs c with
 | none=>exact i z
 | some av=>exact l1 av z
theorem zG{kvs:List (AV×AV)}{ks:List (List bh×V)}{a:OD}(hr:Rd H a (.dT ks))(h:Paired (λp q=>gz p.1 q.1/\aQ F y ρ H p.2 q.2) kvs ks){c:AV}{k:V}(q2:fJ c=true)(f:aQ F y ρ H c k):∃o,iw H a k o/\NE F y ρ H (dS kvs c) o:=by
 obtain⟨d,b,j,rfl,hb⟩:=ur q2 f;obtain⟨l1,i⟩:=h9 (KR:=gz) (R:=aQ F y ρ H) (λ_ _ _ _ m l=>jo m l) j h;refine⟨cX ks d,.inr ⟨ks,d,b,hr,rfl,hb,rfl⟩,?_⟩;cases z:dS kvs c with
 | none=>exact i z
 | some av=>exact l1 av z
theorem jp(C:aH g F y ρ S H){ax j:AV}{x k:V}(z:aQ F y ρ H ax x)(l:aQ F y ρ H j k){r:Option AV}(h:iS S ax j=some r):∃a o,x=.ref a/\iw H a k o/\NE F y ρ H r o:=by
 cases ax with
 | ref n=>
  unfold iS at h;dsimp only at h;cases q:S.t.get n with
  | none=>rw[q] at h;cases h
  | some ob=>
   rw[q] at h;obtain⟨a,ho,rfl,_,m,c⟩:=C.obj z q;cases ob with
   | dk kvs=>
    dsimp only at h;cases q2:fS j with
    | false=>rw[q2] at h;cases h
    | true=>
     rw[q2] at h;cases h;obtain⟨ks,rfl,d⟩:=c;obtain⟨o,i,f⟩:=zF (.inl m) d q2 l;exact⟨a,o,rfl,i,f⟩
   | dt kvs=>
    dsimp only at h;cases q2:fJ j with
    | false=>rw[q2] at h;cases h
    | true=>
     rw[q2] at h;cases h;obtain⟨ks,rfl,d⟩:=c;obtain⟨o,i,f⟩:=zG (.inl m) d q2 l;exact⟨a,o,rfl,i,f⟩
   | fz p=>
    obtain⟨I,u,rfl,c⟩:=c;cases p with
    | dk kvs=>
     dsimp only at h;cases q2:fS j with
     | false=>rw[q2] at h;cases h
     | true=>
      rw[q2] at h;cases h;obtain⟨ks,rfl,d⟩:=c;obtain⟨o,i,f⟩:=zF (.inr ⟨_,m⟩) d q2 l;exact⟨a,o,rfl,i,f⟩
    | dt kvs=>
     dsimp only at h;cases q2:fJ j with
     | false=>rw[q2] at h;cases h
     | true=>
      rw[q2] at h;cases h;obtain⟨ks,rfl,d⟩:=c;obtain⟨o,i,f⟩:=zG (.inr ⟨_,m⟩) d q2 l;exact⟨a,o,rfl,i,f⟩
    | _=>cases h
   | _=>cases h
 | _=>cases h
theorem DT(C:aH g F y ρ S H){ax f l:AV}{x k w:V}(L:aQ F y ρ H ax x)(O:aQ F y ρ H f k)(i:aQ F y ρ H l w){Q:aN}(h:zE S ax f l=some Q) :
  ∃a I,x=.ref a/\qU H a k w I/\aA F y ρ H y ρ I/\aH g F y ρ Q I:=by
 cases ax with
 | ref n=>
  unfold zE at h;dsimp only at h;cases q:S.t.get n with
  | none=>rw[q] at h;cases h
  | some ob=>
   rw[q] at h;cases ob with
   | dk kvs=>
    dsimp only at h;cases q2:fS f&&Pr kvs.length 1000 with
    | false=>rw[q2] at h;cases h
    | true=>
     rw[q2] at h;cases h;rw[OZ] at q2;obtain⟨a,ks,rfl,c,d,j⟩:=C.dk L q;obtain⟨m,p,rfl⟩:=dn q2.1 O;have hl:=Pm j;have st:aA F y ρ H y ρ (upd H a<|.dK<|dc ks m w):=aA.set C c d;refine⟨a,_,rfl,qU.k d<|by rw[<-hl];exact bZ (bw q2.2),st,C.set c d (o:=.dk (rf kvs f l)) (ob:=⟨_,rfl,?_⟩)⟩;exact oC (KR:=gw) (R:=aQ F y ρ _) (λ_ _ _ _ u r=>gF u r) p (aQ.mono st i) (aT (λ_ _ z=>⟨z.1,aQ.mono st z.2⟩) j)
   | dt kvs=>
    dsimp only at h;cases q2:fJ f&&Pr kvs.length 1000 with
    | false=>rw[q2] at h;cases h
    | true=>
     rw[q2] at h;cases h;rw[OZ] at q2;obtain⟨a,ks,rfl,c,d,j⟩:=C.dt L q;obtain⟨m,b,p,rfl,hb⟩:=ur q2.1 O;have hl:=Pm j;have st:aA F y ρ H y ρ (upd H a<|.dT<|dc ks m w):=aA.set C c d;refine⟨a,_,rfl,qU.t d hb<|by rw[<-hl];exact bZ (bw q2.2),st,C.set c d (o:=.dt (rf kvs f l)) (ob:=⟨_,rfl,?_⟩)⟩;exact oC (KR:=gz) (R:=aQ F y ρ _) (λ_ _ _ _ u r=>jo u r) p (aQ.mono st i) (aT (λ_ _ z=>⟨z.1,aQ.mono st z.2⟩) j)
   | _=>cases h
 | _=>cases h
def mF(S:aN)(x:AV):Bool:=match x with
 | .ref n=>match S.t.get n with
  | some (.dk _)=>true
  | some (.dt _)=>true
  | _=>false
 | _=>false
theorem sE(C:aH g F y ρ S H){ax:AV}{x:V}(d:aQ F y ρ H ax x)(h:mF S ax=true):∃a,x=.ref a/\MR H a:=by
 cases ax with
 | ref n=>
  unfold mF at h;dsimp only at h;cases q:S.t.get n with
  | none=>rw[q] at h;cases h
  | some ob=>
   rw[q] at h;cases ob with
   | dk kvs=>
    obtain⟨a,ks,rfl,_,c,f⟩:=C.dk d q;exact⟨a,rfl,.inl ⟨ks,.inl c⟩⟩
   | dt kvs=>
    obtain⟨a,ks,rfl,_,c,f⟩:=C.dt d q;exact⟨a,rfl,.inr ⟨ks,.inl c⟩⟩
   | _=>cases h
 | _=>cases h
end
def Ig(a b:BE):BE:=λσ S k=>a σ S λx d=>b σ d λz c=>match iS c x z with
 | some (some v)=>k v c
 | _=>false
def JH(b a:BE):BE:=λσ S k=>b σ S λz d=>a σ d λx c=>match iS c x z with
 | some (some _)=>k (.bl true) c
 | some none=>k (.bl false) c
 | none=>false
def zH(b a:BE):BE:=λσ S k=>b σ S λz d=>a σ d λx c=>match iS c x z with
 | some (some _)=>k (.bl false) c
 | some none=>k (.bl true) c
 | none=>false
def LI(a b:BE):BE:=λσ S k=>a σ S λx d=>match mF d x with
 | true=>b σ d λz c=>match iS c x z with
  | some (some v)=>k v c
  | some none=>k .non c
  | none=>false
 | false=>false
def LJ(a b c:BE):BE:=λσ S k=>a σ S λx f=>match mF f x with
 | true=>b σ f λz g=>c σ g λw d=>match iS d x z with
  | some (some v)=>k v d
  | some none=>k w d
  | none=>false
 | false=>false
def Ih(a b c:BE):BS:=λd σ S=>c σ S λv i=>a σ i λx h=>b σ h λz g=>match zE g x z v with
 | some f=>d.nx σ f
 | none=>false
section
variable{g:Gx}{a b c e o i f value:O4}{ba bb bc:BE}{br:BA}{pos pos':Pos}
theorem bd(hu:X.A.units+1<QK)(ho:PE X o (up g ba))(hi:PE X i (up g bb))(hs:Db i):PE X (.Subscript o i pos) (up g<|Ig ba bb):=by
 refine PE.imp (λσ H Q hx=>ez hx λF y ρ S L k C r h p=>?_) (FT hu ho hi hs);refine ar C r h λy1 O S1 H1 ax x st C1 r1 Z h1=>ar C1 r1 h1 λU l u H2 az z j I r2 Y d=>?_;cases q:iS u ax az with
 | none=>simp only[q] at d;cases d
 | some o=>cases o with
  | none=>simp only[q] at d;cases d
  | some v=>
   simp only[q] at d;obtain⟨a,o,rfl,dg,w,rfl,m⟩:=jp I (aQ.mono j Z) Y q;exact⟨a,w,rfl,dg,p U l u H2 v w (st.trans j) I m d⟩
theorem zI:∀σ H Q,up g (JH bb ba) σ H Q->Lq (up g bb) (up g ba) σ H Q:=λσ H Q hx=>ez hx λF y ρ S U k C r h p=>
 ar C r h λy1 Y S1 H1 az z st C1 r1 Z h1=>ar C1 r1 h1 λI l m O ax x d u r2 rx j=>by
  cases q:iS m ax az with
  | none=>simp only[q] at j;cases j
  | some o=>
   obtain⟨a,L,rfl,dg,w⟩:=jp u rx (aQ.mono d Z) q;refine⟨a,L,rfl,dg,?_⟩;cases o with
   | none=>
    simp only[q] at j;cases(show L=none from w);exact p I l m O (.bl false) _ (st.trans d) u rfl j
   | some v=>
    simp only[q] at j;obtain⟨w,rfl,_⟩:=w;exact p I l m O (.bl true) _ (st.trans d) u rfl j
theorem x9:∀σ H Q,up g (zH bb ba) σ H Q->zo (up g bb) (up g ba) σ H Q:=λσ H Q hx=>ez hx λF y ρ S U k C r h p=>
 ar C r h λy1 Y S1 H1 az z st C1 r1 Z h1=>ar C1 r1 h1 λI l m O ax x d u r2 rx j=>by
  cases q:iS m ax az with
  | none=>simp only[q] at j;cases j
  | some o=>
   obtain⟨a,L,rfl,dg,w⟩:=jp u rx (aQ.mono d Z) q;refine⟨a,L,rfl,dg,?_⟩;cases o with
   | none=>
    simp only[q] at j;cases(show L=none from w);exact p I l m O (.bl true) _ (st.trans d) u rfl j
   | some v=>
    simp only[q] at j;obtain⟨w,rfl,_⟩:=w;exact p I l m O (.bl false) _ (st.trans d) u rfl j
theorem DU(d:X.A.units+1<QK)(h:PE X i (up g bb))(ho:PE X o (up g ba))(j:Qh .In o=false):PE X (.Compare i [.In] [o] pos) (up g<|JH bb ba):=PE.imp zI (oS (Dc d h ho) j)
theorem DV(d:X.A.units+1<QK)(h:PE X i (up g bb))(ho:PE X o (up g ba))(j:Qh .In o=false):PT X (.Compare i [.In] [o] pos) (fE g<|bB<|JH bb ba):=PT.imp (fk zI) (cP (Dc d h ho) j)
theorem sF(d:X.A.units+1<QK)(h:PE X i (up g bb))(ho:PE X o (up g ba))(j:Qh .NotIn o=false):PT X (.Compare i [.NotIn] [o] pos) (fE g<|bB<|zH bb ba):=PT.imp (fk x9) (cP (AR d h ho) j)
theorem Gp{j d:Pos}(hu:X.A.units+1<QK)(ho:PE X o (up g ba))(he:PE X e (up g bb))(m:M1 X o "get" j e d):PE X (.Call (.Attribute o "get" j) [e] [] d) (up g<|LI ba bb):=by
 refine PE.imp (λσ H Q hx=>ez hx λF y ρ S σa k C r h p=>?_) (Dh hu ho he m);refine ar C r h λy1 ρ1 S1 H1 ax x st C1 r1 rx L=>?_;cases q0:mF S1 ax with
 | false=>simp only[q0] at L;cases L
 | true=>
  simp only[q0] at L;obtain⟨a,rfl,U⟩:=sE C1 rx q0;refine⟨a,rfl,U,ar C1 r1 L λy2 I Y H2 az z l Z r2 rz u=>?_⟩;cases q:iS Y ax az with
  | none=>simp only[q] at u;cases u
  | some o=>
   obtain⟨a',ov,e,dg,w⟩:=jp Z (aQ.mono l rx) rz q;cases e;refine⟨ov,dg,?_⟩;cases o with
   | none=>
    simp only[q] at u;cases(show ov=none from w);exact p y2 I Y H2 .non _ (st.trans l) Z rfl u
   | some v=>
    simp only[q] at u;obtain⟨w,rfl,O⟩:=w;exact p y2 I Y H2 v _ (st.trans l) Z O u
theorem zJ{l j:Pos}(hu:X.A.units+1<QK)(ho:PE X o (up g ba))(he:PE X e (up g bb))(hf:PE X f (up g bc))(m:M2 X o "get" l e f j):PE X (.Call (.Attribute o "get" l) [e,f] [] j) (up g<|LJ ba bb bc):=by
 refine PE.imp (λσ H Q hx=>ez hx λF y ρ S σa k C r h p=>?_) (Di hu ho he hf m);refine ar C r h λy1 ρ1 S1 H1 ax x st C1 r1 rx Y=>?_;cases q0:mF S1 ax with
 | false=>simp only[q0] at Y;cases Y
 | true=>
  simp only[q0] at Y;obtain⟨a,rfl,Z⟩:=sE C1 rx q0;refine⟨a,rfl,Z,ar C1 r1 Y λy2 ρ2 S2 H2 az z I C2 r2 rz h2=>ar C2 r2 h2 λy3 U S3 H3 aw w d C3 r3 L O=>?_⟩;cases q:iS S3 ax az with
  | none=>simp only[q] at O;cases O
  | some o=>
   obtain⟨a',ov,e,dg,u⟩:=jp C3 (aQ.mono (I.trans d) rx) (aQ.mono d rz) q;cases e;refine⟨ov,dg,?_⟩;cases o with
   | none=>
    simp only[q] at O;cases(show ov=none from u);exact p y3 U S3 H3 aw _ ((st.trans I).trans d) C3 L O
   | some v=>
    simp only[q] at O;obtain⟨w,rfl,L⟩:=u;exact p y3 U S3 H3 v _ ((st.trans I).trans d) C3 L O
theorem ut(hu:X.A.units+1<QK)(ho:PE X o (up g ba))(hi:PE X i (up g bb))(hv:PE X value (up g bc))(hs:Qq value (some<|.Subscript o i pos') pos.line X.env=pure false):PS X (.Assign [.Subscript o i pos'] value pos) (de g<|Ih ba bb bc):=by
 refine PS.imp (λD σ H hx=>xY hx λF y ρ S I d C r h p _=>?_) (FU hu ho hi hv hs);refine ar C r h λy1 U S1 H1 av v st C1 r1 rv h1=>ar C1 r1 h1 λy2 Q S2 H2 ax x m C2 r2 rx h2=>ar C2 r2 h2 λY L S3 H3 az z j C3 r3 Z u=>?_;cases q:zE S3 ax az av with
 | none=>simp only[q] at u;cases u
 | some S4=>
  simp only[q] at u;obtain⟨a,O,rfl,dp,l,C4⟩:=DT C3 (aQ.mono j rx) Z (aQ.mono (m.trans j) rv) q;exact⟨a,O,rfl,dp,p Y L S4 O I σ (((st.trans m).trans j).trans l) C4 (bn.mono l r3) u⟩
def JI:BE:=λ_ S k=>k (.ref S.n) (S.add<|.dk [])
def JJ:BE:=λ_ S k=>k (.ref S.n) (S.add<|.dt [])
theorem ib:PE X (.Dict [] [] pos) (up g JI):=by
 refine PE.imp (λσ H Q l=>ez l λF y ρ S j k C r h p=>?_) vH;intro pl d;exact p y _ _ _ (.ref S.n) _ (aA.add d) (C.add (o:=.dk []) d ⟨[],rfl,.nil⟩) ⟨pl,by rw[C.n];simp,rfl⟩ h
theorem DW:PE X (.Dict [] [] pos) (up g JJ):=by
 refine PE.imp (λσ H Q l=>ez l λF y ρ S j k C r h p=>?_) Df;intro pl d;exact p y _ _ _ (.ref S.n) _ (aA.add d) (C.add (o:=.dt []) d ⟨[],rfl,.nil⟩) ⟨pl,by rw[C.n];simp,rfl⟩ h
def uu(S:aN):AV->Option (List AV)
 | .ref n=>match S.t.get n with
  | some (.lst xs)=>some xs
  | _=>none
 | .tn=>some []
 | .tc h t=>vT (.tc h t)
 | _=>none
theorem oE{F:Fx}{S:aN}(C:aH g F y ρ S H){ax:AV}{x:V}(d:aQ F y ρ H ax x){xs:List AV}(h:uu S ax=some xs):∃vs,gx H x=some vs/\aR F y ρ H xs vs:=by
 have ch:∀{ax:AV},aQ F y ρ H ax x->vT ax=some xs->∃vs,gx H x=some vs/\aR F y ρ H xs vs:=λ{ax} d h=>by
  rw[ge h] at d;obtain⟨a,vs,rfl,l,j⟩:=d.chain_of;exact⟨vs,A7 l,j⟩
 cases ax with
 | ref n=>
  unfold uu at h;cases q:S.t.get n with
  | none=>simp only[q] at h;cases h
  | some ob=>
   simp only[q] at h;cases ob with
   | lst ys=>
    cases h;obtain⟨a,vs,rfl,_,l,j⟩:=C.lst d q;exact⟨vs,A0 l,j⟩
   | _=>cases h
 | tn=>exact ch d h
 | tc p q=>exact ch d h
 | _=>cases h
def lK:AV->Option (List AV)
 | .tn=>some []
 | .tc h t=>vT (.tc h t)
 | _=>none
theorem ic:∀{ax:AV} {xs:List AV},lK ax=some xs->ax=chain xs
 | .tn,_,h=>by cases h;rfl
 | .tc _ _,_,h=>ge h
 | .non,_,h=>by cases h
 | .bl _,_,h=>by cases h
 | .int _ _ _,_,h=>by cases h
 | .str _,_,h=>by cases h
 | .ref _,_,h=>by cases h
 | .ext _,_,h=>by cases h
theorem gG{F:Fx}{ax:AV}{x:V}(d:aQ F y ρ H ax x){xs:List AV}(h:lK ax=some xs):∃a vs,x=.ref a/\H a=some (.tup vs)/\aR F y ρ H xs vs:=by
 rw[ic h] at d;exact d.chain_of
def MV(xs:List AV)(i:Int):Option AV:=match i with
 | .ofNat j=>xs[j]?
 | .negSucc j=>match Pr (j+1) xs.length with
  | true=>xs[xs.length - (j+1)]?
  | false=>none
theorem dU{F:Fx}{y:Option Int}{ρ:List OD}{H:Hp}:∀{xs:List AV} {vs:List V} {i:Nat} {av:AV},aR F y ρ H xs vs->xs[i]?=some av->∃v,vs[i]?=some v/\aQ F y ρ H av v
 | _,_,_,_,.nil,e=>by simp at e
 | _,_,0,_,.cons r _,e=>by simp at e;subst e;exact⟨_,rfl,r⟩
 | _,_,i+1,av,.cons _ t,e=>by
  obtain⟨v,h,d⟩:=dU (i:=i) (av:=av) t (by simpa using e);exact⟨v,by simpa using h,d⟩
theorem JK{F:Fx}{xs:List AV}{i:Int}{av:AV}(r:aR F y ρ H xs vs)(h:MV xs i=some av):∃v,FA vs i=some v/\aQ F y ρ H av v:=by
 cases i with
 | ofNat j=>
  obtain⟨v,h1,d⟩:=dU r h;exact⟨v,zk h1,d⟩
 | negSucc j=>
  unfold MV at h;dsimp only at h;cases q:Pr (j+1) xs.length with
  | false=>rw[q] at h;cases h
  | true=>
   rw[q] at h;have l:=aO r;have m:=bw q;obtain⟨v,h1,d⟩:=dU r h;refine⟨v,?_,d⟩;unfold FA CW;rw[if_neg (by omega),if_pos (by omega)];show vs[(X2 j+(vs.length:Int)).toNat]?=some v;rw[<-h1,l];congr 1;omega
def FD:AV->AV->aN->(AV->aN->Bool)->Bool:=λa b S k=>match b with
 | .int false lo d=>match fA lo d&&fA d lo with
  | true=>match uu S a with
   | some xs=>match MV xs lo with
    | some v=>k v S
    | none=>false
   | none=>false
  | false=>false
 | _=>false
theorem JL:i8 g Jw FD:=by
 intro F y ρ S H x z ax I k Q C l j h p;cases I with
 | int s lo d=>cases s with
  | true=>cases h
  | false=>
   unfold FD at h;dsimp only at h;cases q0:fA lo d&&fA d lo with
   | false=>rw[q0] at h;cases h
   | true=>
    rw[q0] at h;simp only[OZ,bO] at q0;obtain⟨i,rfl,O,L⟩:=j;have:i=lo:=by omega
    subst this;dsimp only at h;cases q:uu S ax with
    | none=>rw[q] at h;cases h
    | some xs=>
     rw[q] at h;dsimp only at h;cases q2:MV xs i with
     | none=>rw[q2] at h;cases h
     | some av=>
      rw[q2] at h;obtain⟨vs,e,r⟩:=oE C l q;obtain⟨v,u,m⟩:=JK r q2;show on (gx H x) λxs=>on (FA xs i) λv=>Q v H;rw[e,bN,u,bN];exact p.here C m h
 | _=>cases h
theorem bf(d:PE X a (up g ba))(hb:PE X b (up g bb))(hs:zl b):PE X (.Subscript a b pos) (up g<|mB FD ba bb):=PE.imp (uj JL) (HI Ny d hb hs)
def KN(f:List AV->aN->(AV->aN->Bool)->Bool)(r:BA):BE:=λσ S k=>r σ S λxs d=>f xs d k
theorem DX{r:List V->Hp->VK->Prop}{f}(z:nY g r f):∀σ H Q,up g (KN f br) σ H Q->Jg r (jl g br) σ H Q:=λσ H Q u=>ez u λF y ρ S j k C r h p=>
 bF C r h λl d L H1 ax x st C1 O m I=>z F l d L H1 x ax k Q C1 m I (p.mono st)
theorem bA{x:Str}{p:Pos}{id:String}{r:List V->Hp->VK->Prop}{f}(C:dj X (.builtin id) r)(u:nY g r f)(m:Gl X x)(l:X.mg x=none)(j:PJ x=some (.builtin id))(H:PA X (e::es) (jl g br))(hn:x≠"__name__":=by decide)(h:(x==("__debug__":Str))=false:=by decide)
  (z:hE9 X e es:=by nofun) (d:hP9 X pos es:=by nofun):PE X (.Call (.Name x p) (e::es) [] pos) (up g<|KN f br):=PE.imp (DX u) (hJ C m l j H hn h z d)
theorem b9{x:Str}{p:Pos}{T:String}{r:List V->Hp->VK->Prop}{f}(C:dj X (.type T) r)(u:nY g r f)(m:Gl X x)(l:X.mg x=none)(j:PJ x=some (.type T))(H:PA X (e::es) (jl g br))(hn:x≠"__name__":=by decide)(h:(x==("__debug__":Str))=false:=by decide)
  (z:hE9 X e es:=by nofun) (d:hP9 X pos es:=by nofun):PE X (.Call (.Name x p) (e::es) [] pos) (up g<|KN f br):=PE.imp (DX u) (su C m l j H hn h z d)
def Gq:List AV->aN->(AV->aN->Bool)->Bool:=λxs S k=>match xs with
 | [x]=>match uu S x with
  | some ys=>k (.int false (.ofNat ys.length)<|.ofNat ys.length) S
  | none=>false
 | _=>false
theorem iy:nY g zw Gq:=by
 intro F y ρ S H xs l k Q C d h p;cases d with
 | nil=>cases h
 | cons r t=>cases t with
  | cons _ _=>cases h
  | nil=>
   unfold Gq at h;dsimp only at h;split at h
   ·rename_i ys q;obtain⟨vs,e,j⟩:=oE C r q;unfold zw;dsimp only;rw[e,bN];have:=aO j;exact p.here C (av:=.int false _ _) ⟨_,rfl,by rw[<-this];exact RD _,by rw[<-this];exact RD _⟩ h
   ·cases h
def ya:List AV->aN->(AV->aN->Bool)->Bool:=λxs S k=>match xs with
 | [x]=>match uu S x with
  | some ys=>k (chain ys) S
  | none=>false
 | _=>false
theorem yb{S:aN}{F:Fx}{x:V}(C:aH g F y ρ S H):∀{ax:AV} {xs:List AV} {vs:List V},aQ F y ρ H ax x->uu S ax=some xs->hU H x=some vs->ax=chain xs
 | .ref n,xs,vs,r,h,t=>by
  unfold uu at h;cases q:S.t.get n with
  | none=>simp only[q] at h;cases h
  | some ob=>
   simp only[q] at h;cases ob with
   | lst ys=>
    obtain⟨a,j,rfl,_,d,l⟩:=C.lst r q;simp[hU,d] at t
   | _=>cases h
 | .tn,_,_,_,h,_=>by cases h;rfl
 | .tc _ _,_,_,_,h,_=>ge h
 | .non,_,_,_,h,_=>by cases h
 | .bl _,_,_,_,h,_=>by cases h
 | .int _ _ _,_,_,_,h,_=>by cases h
 | .str _,_,_,_,h,_=>by cases h
 | .ext _,_,_,_,h,_=>by cases h
theorem cM:nY g oy ya:=by
 intro F y ρ S H xs u k Q C j h p;cases j with
 | nil=>cases h
 | cons r t=>cases t with
  | cons _ _=>cases h
  | nil=>
   unfold ya at h;dsimp only at h;split at h
   ·rename_i ys q;obtain⟨vs,e,m⟩:=oE C r q;unfold oy;dsimp only;rw[e,bN];refine⟨λl d=>?_,λht=>?_⟩
    ·have st:aA F y ρ H y ρ (upd H l<|.tup vs):=aA.lay d;exact p y ρ S _ (chain ys) _ st (C.lay d) (aQ.chain aq<|aR.mono st m) h
    ·rw[yb C r q ht] at r;exact p.here C r h
   ·cases h
def Ii:AV->AV->aN->(AV->aN->Bool)->Bool:=λa b S k=>match lK a with
 | some xs=>match lK b with
  | some ys=>match Pr (xs.length+ys.length) 1000 with
   | true=>k (chain<|xs++ys) S
   | false=>false
  | none=>false
 | none=>false
theorem du{F:Fx}{y:Option Int}{ρ:List OD}{H:Hp}:∀{xs ys:List AV} {vs ws:List V},aR F y ρ H xs vs->aR F y ρ H ys ws->aR F y ρ H (xs++ys) (vs++ws)
 | _,_,_,_,.nil,s=>s
 | _,_,_,_,.cons r t,s=>.cons r (du t s)
theorem dW:i8 g xP Ii:=by
 intro F y ρ S H x z ax O k Q C m l h p;unfold Ii at h;split at h
 ·rename_i xs q;split at h
  ·rename_i ys q2;split at h
   ·rename_i u;obtain⟨a,vs,rfl,I,j⟩:=gG m q;obtain⟨b,ws,rfl,hb,d⟩:=gG l q2;have l1:=aO j;have L:=aO d;have l3:=bw u;unfold xP;rw[hV I,bN,hV hb,bN];refine⟨QP<|bZ<|by omega,λe=>?_,λe=>?_,λpl r=>?_⟩
    ·subst e;cases j;have e:=ic q2;subst e;exact p.here C l h
    ·subst e;cases d;have e:=ic q;rw[Ra] at h;subst e;exact p.here C m h
    ·have st:aA F y ρ H y ρ (upd H pl<|.tup<|vs++ws):=aA.lay r;exact p y ρ S _ _ _ st (C.lay r) (aQ.chain aq<|aR.mono st<|du j d) h
   ·cases h
  ·cases h
 ·cases h
def jR(S:aN):AV->Option (List AV)
 | .ref n=>match S.t.get n with
  | some (.lst xs)=>some xs
  | _=>none
 | _=>none
theorem dy{F:Fx}{S:aN}(C:aH g F y ρ S H){ax:AV}{x:V}(d:aQ F y ρ H ax x){xs:List AV}(h:jR S ax=some xs):∃n a vs,ax=.ref n/\x=.ref a/\ρ[n]?=some a/\H a=some (.lst vs)/\aR F y ρ H xs vs:=by
 cases ax with
 | ref n=>
  unfold jR at h;cases q:S.t.get n with
  | none=>simp only[q] at h;cases h
  | some ob=>
   simp only[q] at h;cases ob with
   | lst ys=>
    cases h;obtain⟨a,vs,rfl,m,l,j⟩:=C.lst d q;exact⟨n,a,vs,rfl,rfl,m,l,j⟩
   | _=>cases h
 | _=>cases h
def DY:AV->AV->aN->(AV->aN->Bool)->Bool:=λa b S k=>match jR S a with
 | some xs=>match jR S b with
  | some ys=>match Pr (xs.length+ys.length) 1000 with
   | true=>k (.ref S.n) (S.add<|.lst<|xs++ys)
   | false=>false
  | none=>false
 | none=>false
theorem DZ:i8 g Dv DY:=by
 intro F y ρ S H x z ax Z k Q C u r h p;unfold DY at h;split at h
 ·rename_i xs q;split at h
  ·rename_i ys q2;split at h
   ·rename_i I;obtain⟨n,a,vs,rfl,rfl,Y,L,j⟩:=dy C u q;obtain⟨m,b,ws,rfl,rfl,U,hb,d⟩:=dy C r q2;have l1:=aO j;have O:=aO d;have l3:=bw I;show(match H a,H b with
     | some (.lst xs),some (.lst zs)=>xs.length+zs.length≤OR/\∀p,H p=none->Q (.ref p) (upd H p<|.lst<|xs++zs)
     | _,_=>False)
    rw[L,hb];refine⟨QP<|bZ<|by omega,λpl l=>?_⟩;have st:aA F y ρ H y (ρ++[pl]) (upd H pl<|.lst<|vs++ws):=aA.add l;exact p y _ _ _ (.ref S.n) _ st (C.add (o:=.lst (xs++ys)) l ⟨_,rfl,aR.mono st<|du j d⟩) ⟨pl,by rw[C.n];simp,rfl⟩ h
   ·cases h
  ·cases h
 ·cases h
end
section
variable{g:Gx}{a b c e o:O4}{ba bb bc:BE}{bt:BT}{br:BA}
def rh(a b:Int):Int:=match fA a b with
 | true=>b
 | false=>a
def Bh(a b:Int):Int:=match fA a b with
 | true=>a
 | false=>b
theorem oF(a b:Int):rh a b=max a b:=by
 unfold rh;cases h:fA a b with
 | true=>rw[bO] at h;show b=_;omega
 | false=>
  have:¬a≤b:=λq=>by rw[bO.mpr q] at h;cases h
  show a=_;omega
theorem oG(a b:Int):Bh a b=min a b:=by
 unfold Bh;cases h:fA a b with
 | true=>rw[bO] at h;show a=_;omega
 | false=>
  have:¬a≤b:=λq=>by rw[bO.mpr q] at h;cases h
  show b=_;omega
def Ou:List AV->aN->(AV->aN->Bool)->Bool:=λxs S k=>match xs with
 | [.int false lo h,.int false d f]=>k (.int false (rh lo d)<|rh h f) S
 | [.int true lo h,.int true d f]=>k (.int true (rh lo d)<|rh h f) S
 | [.int false lo h,.int true d f]=>match fA h d with
  | true=>k (.int true d f) S
  | false=>false
 | [.int true lo h,.int false d f]=>match fA f lo with
  | true=>k (.int true lo h) S
  | false=>false
 | _=>false
def LL:List AV->aN->(AV->aN->Bool)->Bool:=λxs S k=>match xs with
 | [.int false lo h,.int false d f]=>k (.int false (Bh lo d)<|Bh h f) S
 | [.int true lo h,.int true d f]=>k (.int true (Bh lo d)<|Bh h f) S
 | [.int false lo h,.int true d f]=>match fA h d with
  | true=>k (.int false lo h) S
  | false=>false
 | [.int true lo h,.int false d f]=>match fA f lo with
  | true=>k (.int false d f) S
  | false=>false
 | _=>false
theorem Gr:nY g xW LL:=by
 intro F y ρ S H xs O k Q C l h p;unfold LL at h;split at h
 ·cases l with | cons r t=>cases t with | cons d t'=>cases t' with | nil=>
  obtain⟨i,rfl,I,z⟩:=r;obtain⟨j,rfl,u,m⟩:=d;show Q (.int<|if j<i then j else i) H;refine p.here C (av:=.int false _ _) ⟨_,rfl,?_⟩ h;rw[oG,oG];split<;>constructor<;>omega
 ·cases l with | cons r t=>cases t with | cons d t'=>cases t' with | nil=>
  obtain⟨x,i,e,rfl,I,z⟩:=r;obtain⟨L,j,f,rfl,u,m⟩:=d;rw[e] at f;cases f;show Q (.int<|if j<i then j else i) H;refine p.here C (av:=.int true _ _) ⟨x,_,e,rfl,?_⟩ h;rw[oG,oG];split<;>constructor<;>omega
 ·split at h
  ·rename_i q;rw[bO] at q;cases l with | cons r t=>cases t with | cons d t'=>cases t' with | nil=>
   obtain⟨i,rfl,I,z⟩:=r;obtain⟨L,j,f,rfl,u,m⟩:=d;have:=C.pos _ f;show Q (.int<|if j<i then j else i) H;refine p.here C (av:=.int false _ _) ⟨_,rfl,?_⟩ h;split<;>constructor<;>omega
  ·cases h
 ·split at h
  ·rename_i q;rw[bO] at q;cases l with | cons r t=>cases t with | cons d t'=>cases t' with | nil=>
   obtain⟨L,i,f,rfl,I,z⟩:=r;obtain⟨j,rfl,u,m⟩:=d;have:=C.pos _ f;show Q (.int<|if j<i then j else i) H;refine p.here C (av:=.int false _ _) ⟨_,rfl,?_⟩ h;split<;>constructor<;>omega
  ·cases h
 ·cases h
inductive KO | int | bool | tuple
def KO.name:KO->String
 | .int=>"int"
 | .bool=>"bool"
 | .tuple=>"tuple"
def LM(t:KO):AV->Option Bool
 | .non=>some false
 | .bl _=>match t with
  | .tuple=>some false
  | _=>some true
 | .int _ _ _=>match t with
  | .int=>some true
  | _=>some false
 | .str _=>some false
 | .tn=>match t with
  | .tuple=>some true
  | _=>some false
 | .tc _ _=>match t with
  | .tuple=>some true
  | _=>some false
 | _=>none
theorem Gs{F:Fx}{t:KO}{ax:AV}{x:V}{b:Bool}(r:aQ F y ρ H ax x)(h:LM t ax=some b):∃n,FZ H x=some n/\Dp n t.name=some b:=by
 cases ax with
 | non=>cases(show x=.non from r);cases t<;>cases h<;>exact⟨_,rfl,rfl⟩
 | bl c=>cases(show x=.bl c from r);cases t<;>cases h<;>exact⟨_,rfl,rfl⟩
 | int s lo f=>obtain⟨z,rfl,_⟩:=a6.mp r;cases t<;>cases h<;>exact⟨_,rfl,rfl⟩
 | str i=>obtain⟨w,_,rfl⟩:=r;cases t<;>cases h<;>exact⟨_,rfl,rfl⟩
 | tn=>
  obtain⟨a,rfl,d⟩:=r;have e:FZ H (.ref a)=some "tuple":=by simp[FZ,d]
  cases t<;>cases h<;>exact⟨_,e,rfl⟩
 | tc p q=>
  obtain⟨a,_,_,rfl,d,_⟩:=r;have e:FZ H (.ref a)=some "tuple":=by simp[FZ,d]
  cases t<;>cases h<;>exact⟨_,e,rfl⟩
 | _=>cases h
def NF(t:KO)(a:BE):BE:=λσ S k=>a σ S λx d=>kb (LM t x) d k
theorem yc(t:KO){p:Pos}{T:O4}(O:Gl X "isinstance")(I:X.mg "isinstance" = none)(U:PE X e (up g ba))(Y:PE X T (tC<|.ty t.name))
  (j:O1 [e,T] X.env=(false,Pq e X.env)::O1 [T] X.env:=by nofun) (i:O1 [T] X.env=(false,Pq T X.env)::O1 [] X.env:=by nofun) (f:(QE pos<|O1 [T] X.env).any (·.1)=false:=by nofun):PE X (.Call (.Name "isinstance" p) [e,T] [] pos) (up g<|NF t ba):=by
 refine PE.imp (λσ H Q z=>ez z λF y ρ S l k C r h p=>?_) (hJ Dt O I eB (bK U (bK Y cW i) j) (by decide) (by decide) j f);refine ar C r h λm d S1 H1 ax x st C1 r1 u Z=>?_;obtain⟨b,e,L⟩:=gC Z;obtain⟨n,e1,e2⟩:=Gs u e;show Dr [x,.ty t.name] H1 Q;unfold Dr;simp only[e1,e2];exact p m d S1 H1 (.bl b) _ st C1 rfl L
def Bi(S:aN):AV->Option Bool
 | .non=>some false
 | .bl b=>some b
 | .tn=>some false
 | .tc _ _=>some true
 | .ref n=>match S.t.get n with
  | some (.lst xs)=>some (!xs.isEmpty)
  | some (.dk xs)=>some (!xs.isEmpty)
  | _=>none
 | _=>none
theorem iz{f d:Type}{R:f->d->Prop}{xs:List f}{ys:List d}(p:Paired R xs ys):xs.isEmpty=ys.isEmpty:=by cases p<;>rfl
theorem zK{F:Fx}{S:aN}(C:aH g F y ρ S H){ax:AV}{x:V}{b:Bool}(r:aQ F y ρ H ax x)(h:Bi S ax=some b):qY H x=some b:=by
 cases ax with
 | non=>cases(show x=.non from r);exact h
 | bl c=>cases(show x=.bl c from r);exact h
 | tn=>obtain⟨a,rfl,d⟩:=r;cases h;simp[qY,d]
 | tc p q=>obtain⟨a,_,_,rfl,d,_⟩:=r;cases h;simp[qY,d]
 | ref n=>
  unfold Bi at h;cases q:S.t.get n with
  | none=>simp only[q] at h;cases h
  | some ob=>
   simp only[q] at h;cases ob with
   | lst ys=>
    cases h;obtain⟨a,vs,rfl,_,d,f⟩:=C.lst r q;simp only[qY,d,iz f]
   | dk ys=>
    cases h;obtain⟨a,vs,rfl,_,d,f⟩:=C.dk r q;simp only[qY,d,iz f]
   | _=>cases h
 | _=>cases h
def LN(a:BE):BT:=λσ S k=>a σ S λx d=>match Bi d x with
 | some b=>k b d
 | none=>false
theorem gg(h:PT X a (Dy<|up g ba)):PT X a (fE g<|LN ba):=by
 refine PT.imp (λσ H Q u=>ez u λF y ρ S j k C r h p=>?_) h;refine ar C r h λl f i H1 ax x st C1 z m d=>?_;cases q:Bi i ax with
 | none=>simp only[q] at d;cases d
 | some b=>
  simp only[q] at d;rw[zK C1 m q,bN];exact p l f i H1 b st C1 d
def sG:AV->Bool
 | .non=>true
 | .bl _=>true
 | .int _ _ _=>true
 | .str _=>true
 | _=>false
def Gu(x:AV):List AV->Option Bool
 | []=>some false
 | z::r=>match HY z x with
  | some true=>match r.all sG with
   | true=>some true
   | false=>none
  | some false=>Gu x r
  | none=>none
theorem pK{F:Fx}{ax:AV}{x:V}(r:aQ F y ρ H ax x)(h:sG ax=true):et x=true:=by
 cases ax with
 | non=>cases(show x=.non from r);rfl
 | bl c=>cases(show x=.bl c from r);rfl
 | int s lo d=>obtain⟨z,rfl,_⟩:=a6.mp r;rfl
 | str i=>obtain⟨w,_,rfl⟩:=r;rfl
 | _=>cases h
theorem Gv{x z:V}(h:CN x z=true)(d:et x=true):xo x z=decide (x=z):=by
 cases x<;>cases z<;>simp_all[CN,et,xo]<;>rfl
theorem D0{F:Fx}{y:Option Int}{ρ:List OD}{H:Hp}{ax d:AV}{b:Bool}(h:HY ax d=some b):sG ax=true/\sG d=true:=by
 cases ax<;>cases d<;>first | (cases h;done) | exact⟨rfl,rfl⟩
theorem zL{F:Fx}{y:Option Int}{ρ:List OD}{H:Hp}(l:∀x,y=some x->1≤x){ax:AV}{x:V}(r:aQ F y ρ H ax x):∀{j:List AV} {vs:List V} {b:Bool},aR F y ρ H j vs->Gu ax j=some b->FC x vs=b/\vs.all et=true
 | _,_,_,.nil,h=>by cases h;exact⟨rfl,rfl⟩
 | _,_,b,.cons (a:=I) (b:=z) (l₁:=l₁) (l₂:=l₂) f t,h=>by
  unfold Gu at h;cases q:HY I ax with
  | none=>simp only[q] at h;cases h
  | some c=>
   obtain⟨p,m⟩:=x8 l f r q;have d:=pK f (D0 (F:=F) (y:=y) (ρ:=ρ) (H:=H) q).1;have i:xo z x=c:=by rw[Gv p d];exact m
   cases c with
   | true=>
    simp only[q] at h;cases q2:l₁.all sG with
    | false=>rw[q2] at h;cases h
    | true=>
     rw[q2] at h;cases h;refine⟨by simp[FC,i],?_⟩;rw[QM,d,Bool.true_and];clear p m i d f q
     induction t with
     | nil=>rfl
     | cons u t' C=>
      rw[QM,OZ] at q2;rw[QM,pK u q2.1,C q2.2];rfl
   | false=>
    simp only[q] at h;obtain⟨k1,k2⟩:=zL l r t h;refine⟨?_,by rw[QM,d,k2];rfl⟩;have:FC x (z::l₂)=(xo z x||FC x l₂):=rfl;rw[this,i,k1];rfl
def MW(neg:Bool):AV->AV->aN->(AV->aN->Bool)->Bool:=λx s S k=>match sG x with
 | true=>match uu S s with
  | some d=>match Gu x d with
   | some b=>k (.bl<|match neg with | true=>!b | false=>b) S
   | none=>false
  | none=>false
 | false=>false
theorem pL{neg:Bool}:i8 g (F8 neg) (MW neg):=by
 intro F y ρ S H x z ax l k Q C d f h p;unfold MW at h;split at h
 ·rename_i q0;split at h
  ·rename_i j q;split at h
   ·rename_i b q2;obtain⟨vs,e,i⟩:=oE C f q;obtain⟨k1,k2⟩:=zL C.pos d i q2;unfold F8;rw[e,bN];refine⟨pK d q0,k2,?_⟩;rw[k1];refine p.here C (av:=.bl _) ?_ h;cases neg<;>rfl
   ·cases h
  ·cases h
 ·cases h
def rj(y:Option Int):AV->D->Prop
 | .non,d=>d=.non
 | .bl b,d=>d=.bl b
 | .int s lo f,d=>∃z,d=.int z/\Bd y s lo f z
 | .str i,d=>∃x,a8[i]?=some x/\d=.str x
 | .tn,d=>d=.tup []
 | .tc h t,d=>∃x r,d=.tup (x::r)/\rj y h x/\rj y t (.tup r)
 | _,_=>False
def JM:AV->AV->Option Bool
 | .tn,.tn=>some true
 | .tn,.tc _ _=>some false
 | .tc _ _,.tn=>some false
 | .tc a b,.tc c d=>match JM a c with
  | some true=>JM b d
  | some false=>some false
  | none=>none
 | .tn,.non=>some false | .tn,.bl _=>some false | .tn,.int _ _ _=>some false | .tn,.str _=>some false
 | .tc _ _,.non=>some false | .tc _ _,.bl _=>some false | .tc _ _,.int _ _ _=>some false | .tc _ _,.str _=>some false
 | .non,.tn=>some false | .bl _,.tn=>some false | .int _ _ _,.tn=>some false | .str _,.tn=>some false
 | .non,.tc _ _=>some false | .bl _,.tc _ _=>some false | .int _ _ _,.tc _ _=>some false | .str _,.tc _ _=>some false
 | a,b=>HY a b
def rm:AV->Option Nat
 | .tn=>some 1
 | .tc h t=>match rm h,rm t with
  | some m,some n=>some (max (m+1) n)
  | _,_=>none
 | .ref _=>none
 | .ext _=>none
 | _=>some 0
end
section
variable{F:Fx}
theorem Bj:∀(av:AV) {n:Nat},rm av=some n->(∀v,aQ F y ρ H av v->∃d,bX H d v/\rj y av d/\vp d≤n)/\(∀vs,rc F y ρ H av vs->∃c,ci H c vs/\rj y av (.tup c)/\nX c+1≤n)
 | .non,n,h=>by
  cases h;exact⟨λv r=>⟨.non,by cases(show v=.non from r);exact bX.non,rfl,by simp[vp]⟩,λ_ r=>r.elim⟩
 | .bl b,n,h=>by
  cases h;exact⟨λv r=>⟨.bl b,by cases(show v=.bl b from r);exact bX.bl,rfl,by simp[vp]⟩,λ_ r=>r.elim⟩
 | .int s lo Y,n,h=>by
  cases h;refine⟨λv r=>?_,λ_ r=>by cases s<;>exact r.elim⟩;obtain⟨z,rfl,b⟩:=a6.mp r;exact⟨.int z,bX.int,⟨z,rfl,b⟩,by simp[vp]⟩
 | .str i,n,h=>by
  cases h;refine⟨λv r=>?_,λ_ r=>r.elim⟩;obtain⟨x,e,rfl⟩:=r;exact⟨.str x,bX.str,⟨x,e,rfl⟩,by simp[vp]⟩
 | .ref _,_,h=>by cases h
 | .ext _,_,h=>by cases h
 | .tn,n,h=>by
  cases h;refine⟨λv r=>?_,λvs r=>?_⟩
  ·obtain⟨a,rfl,I⟩:=r;exact⟨.tup [],bX.tup I .nil,rfl,by simp[vp,nX]⟩
  ·cases(show vs=[] from r);exact⟨[],.nil,rfl,by simp[nX]⟩
 | .tc p q,n,h=>by
  unfold rm at h;cases g:rm p with
  | none=>simp only[g] at h;cases h
  | some m=>cases L:rm q with
   | none=>simp only[g,L] at h;cases h
   | some l=>
    simp only[g,L] at h;cases h;obtain⟨O,_⟩:=Bj p g;obtain⟨_,q2⟩:=Bj q L;have tl:∀w f,aQ F y ρ H p w->rc F y ρ H q f->∃c,ci H c (w::f)/\rj y (.tc p q) (.tup c)/\nX c+1≤max (m+1) l:=λw f o j=>by
     obtain⟨d,U,Q,Z⟩:=O w o;obtain⟨c,b1,b2,b3⟩:=q2 f j;refine⟨d::c,.cons U b1,⟨d,c,rfl,Q,b2⟩,?_⟩;rw[nX];omega
    refine⟨λv r=>?_,λvs r=>?_⟩
    ·obtain⟨a,w,f,rfl,I,C,u⟩:=r;obtain⟨c,b1,b2,b3⟩:=tl w f C u;exact⟨.tup c,bX.tup I b1,b2,by rw[vp];exact b3⟩
    ·obtain⟨w,f,rfl,C,u⟩:=r;exact tl w f C u
theorem LO(u:∀x,y=some x->1≤x){a b:AV}{d e:D}{c:Bool}(g:rj y a d)(f:rj y b e)(h:HY a b=some c):dq d e=c:=by
 cases a with
 | non=>
  cases(show d=.non from g);cases b with
  | non=>cases(show e=.non from f);cases h;simp[dq]
  | int s lo m=>obtain⟨j,rfl,_⟩:=f;cases h;simp[dq]
  | bl x=>cases(show e=.bl x from f);cases h;simp[dq]
  | str i=>obtain⟨w,_,rfl⟩:=f;cases h;simp[dq]
  | _=>cases h
 | int s lo m=>
  obtain⟨i,rfl,b1⟩:=g;cases b with
  | non=>cases(show e=.non from f);cases h;simp[dq]
  | int s' r C=>
   obtain⟨j,rfl,b2⟩:=f;have:=DP u b1 b2 h;rw[dq,<-this];by_cases q:i=j<;>simp[q]
  | str i=>obtain⟨w,_,rfl⟩:=f;cases h;simp[dq]
  | _=>cases h
 | bl x=>
  cases(show d=.bl x from g);cases b with
  | non=>cases(show e=.non from f);cases h;simp[dq]
  | bl z=>cases(show e=.bl z from f);cases h;simp[dq]
  | str i=>obtain⟨w,_,rfl⟩:=f;cases h;simp[dq]
  | _=>cases h
 | str i=>
  obtain⟨w,o,rfl⟩:=g;cases b with
  | non=>cases(show e=.non from f);cases h;simp[dq]
  | int s lo m=>obtain⟨j,rfl,_⟩:=f;cases h;simp[dq]
  | bl x=>cases(show e=.bl x from f);cases h;simp[dq]
  | str j=>
   obtain⟨p,l,rfl⟩:=f;cases h;rw[dq,gv];by_cases q:i=j
   ·subst q;rw[o] at l;cases l;simp
   ·have:¬w=p:=λe=>q (by subst e;exact dF o l);simp[q,this]
  | _=>cases h
 | _=>cases b<;>cases h
theorem v2{a:AV}{d:D}(h:rj y a d)(c:a=.tn∨∃p q,a=.tc p q):∃f,d=.tup f:=by
 rcases c with rfl | ⟨p,q,rfl⟩
 ·exact⟨[],h⟩
 ·obtain⟨x,r,e,_⟩:=h;exact⟨_,e⟩
theorem Ij(o:∀x,y=some x->1≤x)(a b:AV){d e:D}{c:Bool}:rj y a d->rj y b e->JM a b=some c->dq d e=c:=by
 induction a generalizing b d e c<;>cases b<;>intro g f h
 all_goals first | exact LO o g f h | exact g.elim | exact f.elim | skip
 case tc.tc a b m l p q=>
  obtain⟨x,r,rfl,I,H⟩:=g;obtain⟨L,O,rfl,C,u⟩:=f;unfold JM at h;cases z:JM a p with
  | none=>simp only[z] at h;cases h
  | some t=>
   have j:=m p I C z;cases t with
   | true=>
    simp only[z] at h;have i:=l q H u h;rw[dq] at i ⊢;rw[jj,j,i];rfl
   | false=>
    simp only[z] at h;cases h;rw[dq,jj,j];rfl
 all_goals cases h
 all_goals first | obtain rfl:=g | obtain⟨_,rfl,_⟩:=g | obtain⟨_,_,rfl⟩:=g | obtain⟨_,_,rfl,_⟩:=g
 all_goals first | obtain rfl:=f | obtain⟨_,rfl,_⟩:=f | obtain⟨_,_,rfl⟩:=f | obtain⟨_,_,rfl,_⟩:=f
 all_goals simp[dq,jj]
end
section
variable{g:Gx}{a b c e o:O4}{ba bb bc:BE}{bt:BT}{br:BA}
def NG(S:aN)(a b:AV):Option Bool:=match lK a with
 | some _=>match lK b with
  | some _=>match rm a,rm b with
   | some n,some _=>match Pr n 50 with
    | true=>JM a b
    | false=>none
   | _,_=>none
  | none=>none
 | none=>match jR S a with
  | some xs=>match jR S b with
   | some ys=>match rm (chain xs),rm (chain ys) with
    | some n,some _=>match Pr n 50 with
     | true=>JM (chain xs) (chain ys)
     | false=>none
    | _,_=>none
   | none=>none
  | none=>none
theorem JN{F:Fx}{S:aN}(C:aH g F y ρ S H){ax l:AV}{x z:V}{c:Bool}(Z:aQ F y ρ H ax x)(Y:aQ F y ρ H l z)(h:NG S ax l=some c) :
  ∃d e,bX H d x/\bX H e z/\dE d=true/\dE e=true/\vp d≤50/\dq d e=c:=by
 unfold NG at h;split at h
 ·rename_i xs q1;split at h
  ·rename_i U q2;split at h
   ·rename_i n m L I;split at h
    ·rename_i p;obtain⟨d,Q,j,O⟩:=(Bj ax L).1 x Z;obtain⟨e,u,i,f3⟩:=(Bj l I).1 z Y;have t1:∃f,d=.tup f:=v2 j (by rw[ic q1];cases xs;exact .inl rfl;exact .inr ⟨_,_,rfl⟩);have t2:∃f,e=.tup f:=v2 i (by rw[ic q2];cases U;exact .inl rfl;exact .inr ⟨_,_,rfl⟩);obtain⟨f,rfl⟩:=t1;obtain⟨es,rfl⟩:=t2;exact⟨_,_,Q,u,rfl,rfl,PV O<|bw p,Ij C.pos ax l j i h⟩
    ·cases h
   ·cases h
  ·cases h
 ·split at h
  ·rename_i xs q1;split at h
   ·rename_i U q2;split at h
    ·rename_i n m L I;split at h
     ·rename_i p;obtain⟨n1,a1,vs,rfl,rfl,_,ha,pr⟩:=dy C Z q1;obtain⟨n2,a2,ws,rfl,rfl,_,hb,r⟩:=dy C Y q2;obtain⟨f,Q,j,O⟩:=(Bj _ L).2 vs (oB pr);obtain⟨es,u,i,f3⟩:=(Bj _ I).2 ws (oB r);have k:=Ij C.pos _ _ j i h;refine⟨.lst f,.lst es,bX.lst ha Q,bX.lst hb u,rfl,rfl,?_,?_⟩
      ·rw[vp];exact PV O (bw p)
      ·simp only[dq] at k ⊢;exact k
     ·cases h
    ·cases h
   ·cases h
  ·cases h
def D1(neg:Bool):AV->AV->aN->(AV->aN->Bool)->Bool:=λa b S k=>match NG S a b with
 | some c=>k (.bl<|match neg with | true=>!c | false=>c) S
 | none=>false
theorem jE{neg:Bool}:i8 g (Ju neg) (D1 neg):=by
 intro F y ρ S H x z ax L k Q C i f h p;unfold D1 at h;split at h
 ·rename_i c q;obtain⟨d,e,I,u,r,m,l,j⟩:=JN C i f q;refine⟨d,e,I,u,r,m,l,?_⟩;rw[j];refine p.here C (av:=.bl _) ?_ h;cases neg<;>rfl
 ·cases h
def MX(f:AV->List AV->aN->(AV->aN->Bool)->Bool)(a:BE)(r:BA):BE:=λσ S k=>a σ S λx d=>match jR d x with
 | some _=>r σ d λxs h=>f x xs h k
 | none=>false
def Gw(g:Gx)(r:V->List V->Hp->VK->Prop)(f:AV->List AV->aN->(AV->aN->Bool)->Bool):Prop :=
 ∀F y ρ S H x xs ax d k Q,aH g F y ρ S H->aQ F y ρ H ax x->aR F y ρ H d xs->f ax d S k=true->gS g F y ρ H k Q->r x xs H Q
theorem JO{r:V->List V->Hp->VK->Prop}{f}(Y:Gw g r f):∀σ H Q,up g (MX f ba br) σ H Q->MQ K "list" r (up g ba) (jl g br) σ H Q:=λσ H Q U=>ez U λF y ρ S z k C r h p=>
 ar C r h λy1 I S1 H1 ax x st C1 O u i=>by
  cases q:jR S1 ax with
  | none=>simp only[q] at i;cases i
  | some ys=>
   simp only[q] at i;obtain⟨n,a,vs,rfl,rfl,_,Z,pr⟩:=dy C1 u q;refine⟨.inl ⟨rfl,vs,ip.of Z⟩,bF C1 O i λL j S2 H2 m xs d C2 r2 l h2=>?_⟩;exact Y F L j S2 H2 _ xs _ m k Q C2 (aQ.mono d u) l h2 (p.mono<|st.trans d)
theorem iT{r:V->List V->Hp->VK->Prop}{f}(d:Gw g r f)(h:PE X e (MQ K "list" r (up g ba) (jl g br))):PE X e (up g<|MX f ba br):=PE.imp (JO d) h
def oH:AV->List AV->aN->(AV->aN->Bool)->Bool:=λa xs S k=>match a,xs with
 | .ref n,[w]=>match jR S (.ref n) with
  | some ys=>match Pr ys.length 900 with
   | true=>k .non (S.set n<|.lst<|ys++[w])
   | false=>false
  | none=>false
 | _,_=>false
theorem c5:Gw g pE oH:=by
 intro F y ρ S H x xs ax r k Q C l f h p;unfold oH at h;split at h
 ·rename_i n w;split at h
  ·rename_i ys q;split at h
   ·rename_i q2;obtain⟨u,a,vs,e,rfl,d,i,j⟩:=dy C l q;cases e;cases f with | cons r0 t=>cases t with | nil=>
    rename_i z;have I:=aO j;have m:=bw q2;show(match H a with
     | some (.lst xs)=>xs.length<OR/\Q .non (upd H a<|.lst<|xs++[_])
     | _=>False)
    rw[i];have st:aA F y ρ H y ρ (upd H a<|.lst<|vs++[z]):=aA.set C d i;refine⟨bZ<|by omega,p y ρ _ _ .non _ st (C.set d i (o:=.lst (ys++[w])) (ob:=⟨_,rfl,du (aR.mono st j)<|.cons (aQ.mono st r0) .nil⟩)) rfl h⟩
   ·cases h
  ·cases h
 ·cases h
def zM:AV->List AV->aN->(AV->aN->Bool)->Bool:=λa xs S k=>match a,xs with
 | .ref n,[w]=>match jR S (.ref n) with
  | some ys=>match jR S w with
   | some zs=>match Pr (ys.length+zs.length) 900 with
    | true=>k .non (S.set n<|.lst<|ys++zs)
    | false=>false
   | none=>false
  | none=>false
 | _,_=>false
theorem iA:Gw g zn zM:=by
 intro F y ρ S H x xs ax I k Q C r i h p;unfold zM at h;split at h
 ·rename_i n w;split at h
  ·rename_i ys q;split at h
   ·rename_i zs q1;split at h
    ·rename_i q2;obtain⟨L,a,vs,e,rfl,f,j,l⟩:=dy C r q;cases e;cases i with | cons r0 t=>cases t with | nil=>
     obtain⟨m,b,ws,rfl,rfl,_,hb,d⟩:=dy C r0 q1;have O:=aO l;have u:=aO d;have z:=bw q2;have st:aA F y ρ H y ρ (upd H a<|.lst<|vs++ws):=aA.set C f j;exact⟨a,b,vs,ws,rfl,rfl,j,hb,QP<|bZ<|by omega,p y ρ _ _ .non _ st (C.set f j (o:=.lst (ys++zs)) (ob:=⟨_,rfl,du (aR.mono st l)<|aR.mono st d⟩)) rfl h⟩
    ·cases h
   ·cases h
  ·cases h
 ·cases h
end
section
variable{g:Gx}{a b c e o tg:O4}{ba bb bc:BE}{bt:BT}{br:BA}{s1 s2:BS}{body:List Rs}
abbrev Im:=List AV->er->aN->(er->aN->Bool)->Bool
def Bk(g:Gx)(sl:List Nat)(b:Im):Cy:=λvs σ H Q=>∃F y ρ S f d k,aH g F y ρ S H/\aR F y ρ H f vs/\bn g F y ρ H d σ/\b f d S k=true/\HV g sl σ F y ρ H k Q
def D2:Im:=λxs σ S k=>match xs with
 | []=>k σ S
 | _=>false
def pM(t:BG)(u:Im):Im:=λxs σ S k=>match xs with
 | x::r=>t x σ S λd f=>u r d f k
 | []=>false
def v4(n:Nat)(u:Im):BG:=λx σ S k=>match lK x with
 | some xs=>match OS xs.length n with
  | true=>u xs σ S k
  | false=>false
 | none=>false
theorem yW.imp{ts:List O4}{t t':Cy}(h:∀v σ H Q,t' v σ H Q->t v σ H Q)(p:yW X ts t):yW X ts t':=λpins s σ H v u Q I r q=>p pins s σ H v u Q I r (h _ _ _ _ q)
theorem a7:yW X [] (Bk g [] D2):=yW.imp (λvs σ H Q f=>by
 obtain⟨F,y,ρ,S,j,d,k,C,i,r,h,p⟩:=f;cases i with
 | nil=>exact⟨rfl,p y ρ S H _ _ .refl C r ⟨rfl,λ_ _=>rfl⟩ h⟩
 | cons _ _=>cases h) yX
theorem am{t:BG}{u:Im}{sl sl':List Nat}(O:PG X e (nj g sl t))(L:yW X es (Bk g sl' u))(hs:(Rk (e::es) X.env).map (·.2)=Vi e X.env::(Rk es X.env).map (·.2):=by nofun):yW X (e::es) (Bk g (sl++sl')<|pM t u) :=
 yW.imp (λvs σ H Q z9=>by
  obtain⟨F,y,ρ,S,avs,d,k,C,rv,r,h,p⟩:=z9;cases rv with
  | nil=>cases h
  | cons r0 t0=>exact⟨_,_,rfl,F,y,ρ,S,_,d,_,C,r0,r,h,λy1 z S1 H1 l σ2 st C1 r1 Y O=>⟨F,y1,z,S1,_,l,k,C1,aR.mono st t0,r1,O,λy2 x S2 H2 i f I C2 r2 U L=>p y2 x S2 H2 i f (st.trans I) C2 r2 ⟨U.1.trans Y.1,λj Z=>(U.2 j λm=>Z (OV _ m)).trans (Y.2 j λm=>Z (Qc _ m))⟩ L⟩⟩) (oV O L hs)
theorem Gz{u:Im}{k n:Nat}(h:PG X (.Tuple es k pos) (HP (Bk g sl u) n)):PG X (.Tuple es k pos) (nj g sl<|v4 n u):=by
 refine PG.imp (λv σ H Q i=>?_) h;obtain⟨F,y,ρ,S,av,d,k,C,j,r,h,p⟩:=i;unfold v4 at h;split at h
 ·rename_i xs q;split at h
  ·rename_i q2;obtain⟨a,vs,rfl,l,f⟩:=gG j q;show on (hU H<|.ref a) λxs=>xs.length=n/\Bk g sl u xs σ H Q;rw[hV l,bN];exact⟨by rw[<-aO f];exact ON q2,F,y,ρ,S,xs,d,k,C,f,r,h,p⟩
  ·cases h
 ·cases h
theorem bD{u:Im}{k n:Nat}(f:X.calm=true)(h:yW X es (Bk g sl u))(hn:(Rk es X.env).length=n:=by nofun)(d:(Rk es X.env).findIdx? (·.1)=none:=by nofun):PG X (.Tuple es k pos) (nj g sl<|v4 n u):=Gz (F7 (n:=n) f h hn d)
theorem c6{t:BG}(h:PS X (.Assign [tg] e pos) (jc (up g ba)<|nj g sl t)):PS X (.Assign [tg] e pos) (de g<|jQ ba t):=PS.imp Gm h
def NH(i j:Nat)(r:BA):BS:=λd σ S=>r σ S λxs f=>match xs with
 | [v,w]=>d.nx (Bf (Bf σ i v) j w) f
 | _=>false
theorem JP{i j:Nat}(h:PS X st (Le i j<|jl g br)):PS X st (de g<|NH i j br):=by
 refine PS.imp (λD σ H Q=>xY Q λF y ρ S u d C r h p _=>?_) h;refine bF C r h λx l Y H1 U xs st C1 O f m=>?_;split at m
 ·obtain⟨I,_,rfl,r0,f⟩:=HW f;obtain⟨z,_,rfl,L,f⟩:=HW f;cases f;exact⟨I,z,rfl,p x l Y H1 _ _ st C1 (cZ (cZ O r0) L) m⟩
 ·cases m
def LP(i:Nat)(f:AV->AV->aN->(AV->aN->Bool)->Bool)(a:BE):BS:=λd σ S=>match MT σ i with
 | some x=>a σ S λz j=>f x z j λw h=>d.nx (Bf σ i w) h
 | none=>false
theorem yd{i:Nat}{I:La}{f}(hf:i8 g I f)(h:PS X st (Lf i (up g ba) I)):PS X st (de g<|LP i f ba):=by
 refine PS.imp (λD σ H hx=>xY hx λF y ρ S L d C r h p _=>?_) h;unfold LP at h;split at h
 ·rename_i x q;obtain⟨v,e1,Y⟩:=vV r q;refine⟨v,e1,ar C r h λQ m S1 H1 az z st C1 Z U h1=>?_⟩;refine hf F Q m S1 H1 v z x az _ _ C1 (aQ.mono st Y) U h1 λO l S2 H2 aw w j C2 u h2=>?_;exact p O l S2 H2 _ _ (st.trans j) C2 (cZ (bn.mono j Z) u) h2
 ·cases h
theorem mG:i8 g (N5 λi j=>i+j) x6:=λF y ρ S H x z ax l k Q C f d h p=>gE F y ρ S H x z ax l k Q C f d h p
def Io(a b c:BE):BS:=λd σ S=>c σ S λv l=>a σ l λx i=>b σ i λz f=>match x,z with
 | .ref n,.int false lo h=>match fA lo h&&fA h lo with
  | true=>match jR f (.ref n) with
   | some xs=>match lo with
    | .ofNat j=>match QW j xs.length with
     | true=>d.nx σ (f.set n<|.lst<|xs.set j v)
     | false=>false
    | .negSucc j=>match Pr (j+1) xs.length with
     | true=>d.nx σ (f.set n<|.lst<|xs.set (xs.length - (j+1)) v)
     | false=>false
   | none=>false
  | false=>false
 | _,_=>false
theorem v5{F:Fx}{y:Option Int}{ρ:List OD}{H:Hp}{av:AV}{v:V}(r:aQ F y ρ H av v):∀{xs:List AV} {vs:List V} (i:Nat),aR F y ρ H xs vs->aR F y ρ H (xs.set i av) (vs.set i v)
 | _,_,_,.nil=>.nil
 | _,_,0,.cons _ t=>.cons r t
 | _,_,i+1,.cons q t=>.cons q (v5 r i t)
theorem GA{value:O4}(h:PS X st (jc (up g bc)<|Ld (up g ba) (up g bb) CY)):PS X st (de g<|Io ba bb bc):=by
 refine PS.imp (λD σ H hx=>xY hx λF y ρ S I d C r h p _=>?_) h;refine ar C r h λy1 ρ1 S1 H1 av v st C1 r1 rv h1=>ar C1 r1 h1 λy2 ρ2 S2 H2 ax x L C2 r2 rx h2=>ar C2 r2 h2 λQ m S3 H3 az z u C3 r3 rz f=>?_;have U:=aQ.mono u rx;have Y:=aQ.mono (L.trans u) rv;split at f
 ·rename_i n lo hi;split at f
  ·rename_i q0;simp only[OZ,bO] at q0;obtain⟨i,rfl,b1,b2⟩:=rz;have:i=lo:=by omega
   subst this;split at f
   ·rename_i xs q;obtain⟨n',a,vs,e,rfl,O,Z,pr⟩:=dy C3 U q;cases e;have hl:=aO pr;have fin:∀j:Nat,CW vs.length i=some j->d.nx I (S3.set n<|.lst<|xs.set j av)=true->CY (.ref a) (.int i) v H3 λH'=>D.nx σ H':=λj hj hn=>by
     have l:aA F Q m H3 Q m (upd H3 a<|.lst<|vs.set j v):=aA.set C3 O Z;exact⟨a,vs,i,j,rfl,rfl,Z,hj,p Q m _ _ I σ (((st.trans L).trans u).trans l) (C3.set O Z (o:=.lst (xs.set j av)) (ob:=⟨_,rfl,v5 (aQ.mono l Y) j<|aR.mono l pr⟩)) (bn.mono l r3) hn⟩
    split at f
    ·rename_i j;split at f
     ·rename_i q2;have q2:j+1≤xs.length:=bw q2;refine fin j ?_ f;unfold CW;rw[if_pos (by show(0:Int)≤(j:Int);omega),if_pos (by show(j:Int)<_;omega)];simp
     ·cases f
    ·rename_i j;split at f
     ·rename_i q2;have q2:=bw q2;refine fin _ ?_ f;unfold CW;rw[if_neg (by omega),if_pos (by omega)];congr 1;omega
     ·cases f
   ·cases f
  ·cases f
 ·cases f
def kN(fuel:Nat)(t:BT)(s:BS):BS:=λd=>Wg (motive:=λ_=>er->aN->Bool) (λ_ _=>false) (λ_ f σ S=>t σ S λc h=>match c with
 | true=>s ⟨f,d.rt,d.nx,f⟩ σ h
 | false=>d.nx σ h) fuel
theorem Bl{fuel:Nat}:∀D σ H,de g (kN fuel bt s1) D σ H->CG (fE g bt) (de g s1) D σ H:=by
 rintro D σ H ⟨F,y,ρ,S,σa,d,C,r,h,p,pr,pb,pc⟩;refine⟨λm l u=>∃I j Y i,aA F y ρ H I j u/\aH g F I j Y u/\bn g F I j u i l/\kN m bt s1 d i Y=true,⟨fuel,y,ρ,S,σa,.refl,C,r,h⟩,?_⟩;rintro m σ1 H1 ⟨y1,ρ1,Z,f,U,C1,r1,h1⟩;cases m with
 | zero=>cases h1
 | succ m=>
  refine fh C1 r1 (show bt f Z (λc Z=>match c with
   | true=>s1 ⟨kN m bt s1 d,d.rt,d.nx,kN m bt s1 d⟩ f Z
   | false=>d.nx f Z)=true from h1) λy2 O S2 H2 c Q C2 r2 h2=>?_
  cases c with
  | true=>
   refine qW ⟨λl u=>∃I j Y i,aA F y ρ H I j u/\aH g F I j Y u/\bn g F I j u i l/\kN m bt s1 d i Y=true,λl u q=>⟨m,P6 m,q⟩,?_⟩;have st:=U.trans Q;exact⟨F,y2,O,S2,f,_,C2,r2,h2,λy3 z S3 H3 x σ4 L C3 r3 h3=>⟨y3,z,S3,x,st.trans L,C3,r3,h3⟩,pr.mono st,p.mono st,λy3 z S3 H3 x σ4 L C3 r3 h3=>⟨y3,z,S3,x,st.trans L,C3,r3,h3⟩⟩
  | false=>exact qV (p y2 O S2 H2 f σ1 (U.trans Q) C2 r2 h2)
theorem jq(fuel:Nat)(d:Wb (OP X.prog X.w) X.A X.env X.xe)(f:PT X c (fE g bt))(hb:gu X body (de g s1)):PS X (.While c body [] pos) (de g<|kN fuel bt s1):=PS.imp Bl (CH d f hb)
inductive zN where
 | tup (xs:List AV)
 | lst (n:Nat)
 | rng (lo:Int) (n:Nat)
 | dit (n:Nat)
 | dks (n:Nat)
def ye(S:aN)(n:Nat):Option (List<|AV×AV):=match S.t.get n with
 | some (.fz (.dk kvs))=>some kvs
 | some (.fz (.dt kvs))=>some kvs
 | _=>none
def zN.nxt:zN->Nat->aN->Option (Option AV)
 | .tup xs,i,_=>some xs[i]?
 | .lst n,i,S=>match S.t.get n with
  | some (.lst xs)=>some xs[i]?
  | _=>none
 | .rng lo n,i,_=>match QW i n with
  | true=>some (some<|.int false (lo+.ofNat i)<|lo+.ofNat i)
  | false=>some none
 | .dit n,i,S=>match ye S n with
  | some kvs=>match kvs[i]? with
   | some (k,v)=>some (some<|.tc k<|.tc v .tn)
   | none=>some none
  | none=>none
 | .dks n,i,S=>match ye S n with
  | some kvs=>match kvs[i]? with
   | some (k,_)=>some (some k)
   | none=>some none
  | none=>none
abbrev BI:=er->aN->(zN->aN->Bool)->Bool
structure pN(g:Gx)(F:Fx)(y:Option Int)(ρ:List OD)(H:Hp)(src:zN)(J:It):Prop where
 turn:∀y1 ρ1 S1 H1 i,aA F y ρ H y1 ρ1 H1->aH g F y1 ρ1 S1 H1->(∀av,src.nxt i S1=some (some av)->J.go i H1/\∀x H',J.yld i H1 x H'->aA F y1 ρ1 H1 y1 ρ1 H'/\aH g F y1 ρ1 S1 H'/\aQ F y1 ρ1 H' av x)/\(src.nxt i S1=some none->J.stop i H1)
def FE(g:Gx)(b:BI):TI:=λσ H R=>∃F y ρ S f k,aH g F y ρ S H/\bn g F y ρ H f σ/\b f S k=true/\∀i d j H1 h J,aA F y ρ H i d H1->aH g F i d j H1->pN g F i d H1 h J->k h j=true->R J H1
theorem PI.imp{iter:O4}{t t':TI}(h:∀σ H R,t' σ H R->t σ H R)(p:PI X tg iter t):PI X tg iter t':=λpins s σ H R I q=>p pins s σ H R I (h _ _ _ q)
def GB(fuel:Nat)(it:BI)(t:BG)(s:BS):BS:=λd σ S=>it σ S λh m=>Wg (motive:=λ_=>Nat->er->aN->Bool) (λ_ _ _=>false) (λ_ j i σ S=>match h.nxt i S with
 | some (some x)=>t x σ S λf l=>s ⟨j<|i+1,d.rt,d.nx,j<|i+1⟩ f l
 | some none=>d.nx σ S
 | none=>false) fuel 0 σ m
def Bm(t:BG)(s:BS)(d:Ds)(h:zN)(fuel:Nat):Nat->er->aN->Bool:=Wg (motive:=λ_=>Nat->er->aN->Bool) (λ_ _ _=>false) (λ_ j i σ S=>match h.nxt i S with
 | some (some x)=>t x σ S λf l=>s ⟨j<|i+1,d.rt,d.nx,j<|i+1⟩ f l
 | some none=>d.nx σ S
 | none=>false) fuel
theorem v6{F:Fx}{Q:Option Int}{h:List OD}{S1:aN}{H1:Hp}{fuel:Nat}{t:BG}{j:zN}{J:It}{d:Ds}{D:qT}{σ:L2.St}{U:er}(C1:aH g F Q h S1 H1)(r1:bn g F Q h H1 U σ)(so:pN g F Q h H1 j J)(h1:Bm t s1 d j fuel 0 U S1=true)
  (p:lI g F Q h H1 d.nx D.nx) (pr:gS g F Q h H1 d.rt D.rt):∃W:Nat->Nat->L2.St->Hp->Prop,(∃m,W 0 m σ H1)/\∀i m σ H,W i m σ H ->
 (J.stop i H/\D.nx σ H)∨(J.go i H/\∃N:L2.St->Hp->Prop,(∀l z,N l z->∃m',m' < m/\W (i+1) m' l z)/\∀x z,J.yld i H x z->nj g sl t x σ z λC H2=>de g s1 {D with nx:=N,ct:=N,bk:=D.nx} C H2):=by
 refine⟨λi m l z=>∃y' r S' f,aA F Q h H1 y' r z/\aH g F y' r S' z/\bn g F y' r z f l/\Bm t s1 d j m i f S'=true,⟨fuel,Q,h,S1,U,.refl,C1,r1,h1⟩,?_⟩;rintro i m C H2 ⟨y2,ρ2,O,u,st2,C2,r2,L⟩;obtain⟨t1,t2⟩:=so.turn y2 ρ2 O H2 i st2 C2;cases m with
 | zero=>cases L
 | succ m=>
  have L:(match j.nxt i O with
   | some (some x)=>t x u O λC O=>s1 ⟨Bm t s1 d j m<|i+1,d.rt,d.nx,Bm t s1 d j m<|i+1⟩ C O
   | some none=>d.nx u O
   | none=>false)=true:=L
  cases q:j.nxt i O with
  | none=>rw[q] at L;cases L
  | some ox=>cases ox with
   | none=>
    rw[q] at L;exact .inl ⟨t2 q,p y2 ρ2 O H2 u C st2 C2 r2 L⟩
   | some ax=>
    rw[q] at L;obtain⟨go,yl⟩:=t1 ax q;refine .inr ⟨go,λl z=>∃y' r S' f,aA F Q h H1 y' r z/\aH g F y' r S' z/\bn g F y' r z f l/\Bm t s1 d j m (i+1) f S'=true,λl z q=>⟨m,P6 m,q⟩,λx H3 yx=>?_⟩;obtain⟨st3,C3,rx⟩:=yl x H3 yx;refine⟨F,y2,ρ2,O,ax,u,_,C3,rx,bn.mono st3 r2,L,λy4 ρ4 S4 H4 σ4 σ5 st4 C4 r4 _ h4=>?_⟩;have I:=(st2.trans st3).trans st4;exact⟨F,y4,ρ4,S4,σ4,_,C4,r4,h4,λy5 Z S5 H5 Y σ7 st5 C5 r5 h5=>⟨y5,Z,S5,Y,I.trans st5,C5,r5,h5⟩,pr.mono I,p.mono I,λy5 Z S5 H5 Y σ7 st5 C5 r5 h5=>⟨y5,Z,S5,Y,I.trans st5,C5,r5,h5⟩⟩
theorem GC{fuel:Nat}{it:BI}{t:BG}:∀D σ H,de g (GB fuel it t s1) D σ H->Lh (FE g it) (nj g sl t) (de g s1) D σ H:=by
 rintro D σ H ⟨F,y,ρ,S,f,d,C,r,h,p,m,I,z⟩;exact⟨F,y,ρ,S,f,_,C,r,h,λx i L H1 j J st C1 l u=>v6 C1 (bn.mono st r) l u (p.mono st) (m.mono st)⟩
theorem jr(fuel:Nat){iter:O4}{it:BI}{t:BG}(d:Wb (OP X.prog X.w) X.A X.env X.xe)(i:X.calm=true)(f:PI X tg iter (FE g it))(h:PG X tg (nj g sl t))(hb:gu X body (de g s1))
  (hs:∀x,Qu iter X.env x=pure x:=by with_unfolding_all (intro _;rfl)):PS X (.For tg iter body [] pos) (de g<|GB fuel it t s1):=PS.imp GC (CJ d i f h hb hs)
def Ip(a:BE):BI:=λσ S k=>a σ S λx d=>match lK x with
 | some xs=>k (.tup xs) d
 | none=>false
def Iq(a:BE):BI:=λσ S k=>a σ S λx d=>match x with
 | .ref n=>match d.t.get n with
  | some (.lst _)=>k (.lst n) d
  | _=>false
 | _=>false
theorem gh(h:PI X tg a (Lg X.K<|up g ba)):PI X tg a (FE g<|Ip ba):=by
 refine PI.imp (λσ H R hx=>ez hx λF y ρ S Q k C r h p=>?_) h;refine ar C r h λY j S1 H1 ax x st C1 r1 Z f=>?_;cases q:lK ax with
 | none=>simp only[q] at f;cases f
 | some xs=>
  simp only[q] at f;obtain⟨a,vs,rfl,L,I⟩:=gG Z q;refine⟨a,rfl,⟨vs,g9.of L⟩,p Y j S1 H1 (.tup xs) _ st C1 ⟨λy2 U S2 H2 i d C2=>?_⟩ f⟩;have u:g9 X.K H2 a vs:=g9.of (d.tup _ _ L);have m:=aR.mono d I;refine⟨λav e=>?_,λe=>?_⟩
  ·have e:xs[i]?=some av:=O6 e;obtain⟨v,O,h4⟩:=dU m e;refine⟨⟨vs,v,u,O⟩,λz H' l=>?_⟩;obtain⟨rfl,l⟩:=l;have:=l vs u;rw[O] at this;cases this;exact⟨.refl,C2,h4⟩
  ·have e:xs[i]?=none:=O6 e;have:=Pj.mp e;exact⟨vs,u,by rw[<-aO I];exact this⟩
theorem gU(h:PI X tg a (HC X.K<|up g ba)):PI X tg a (FE g<|Iq ba):=by
 refine PI.imp (λσ H R hx=>ez hx λF y ρ S σa k C r h p=>?_) h;refine ar C r h λy1 u S1 H1 ax x st C1 r1 Z f=>?_;cases ax with
 | ref n=>
  dsimp only at f;cases q:S1.t.get n with
  | none=>rw[q] at f;cases f
  | some ob=>rw[q] at f;cases ob with
   | lst xs=>
    obtain⟨a,vs,rfl,hρ,ha,pr⟩:=C1.lst Z q;refine⟨a,rfl,⟨vs,ip.of ha⟩,p y1 u S1 H1 (.lst n) _ st C1 ⟨λy2 m S2 H2 i L C2=>?_⟩ f⟩;have O:aQ F y2 m H2 (.ref n) (.ref a):=aQ.mono L Z;unfold zN.nxt;dsimp only;cases q2:S2.t.get n with
    | none=>exact⟨λ_ e=>(nomatch e),λe=>(nomatch e)⟩
    | some Q=>cases Q with
     | lst j=>
      obtain⟨a2,d,e2,_,Y,l⟩:=C2.lst O q2;cases e2;have U:ip X.K H2 a d:=ip.of Y;refine⟨λav e=>?_,λe=>?_⟩
      ·have e:j[i]?=some av:=O6 e;obtain⟨v,h3,h4⟩:=dU l e;refine⟨⟨d,v,U,h3⟩,λz H' I=>?_⟩;obtain⟨rfl,I⟩:=I;have:=I d U;rw[h3] at this;cases this;exact⟨.refl,C2,h4⟩
      ·have e:j[i]?=none:=O6 e;have:=Pj.mp e;exact⟨d,U,by rw[<-aO l];exact this⟩
     | _=>exact⟨λ_ e=>(nomatch e),λe=>(nomatch e)⟩
   | _=>cases f
 | _=>cases f
def LQ(σ:List (Option AV)):List (Option Nat)->List (Option AV)
 | []=>[]
 | some j::r=>Gf σ j::LQ σ r
 | none::r=>none::LQ σ r
def vq(ix:List (Option Nat))(σ:er):er:=⟨LQ σ.v ix,σ.ke⟩
theorem uw{F:Fx}{y:Option Int}{ρ:List OD}{H:Hp}{d:List (Option AV)}{σ:St}(r:gb F y ρ H d σ):∀ix:List (Option Nat),gb F y ρ H (LQ d ix) (jM ix σ)
 | []=>.nil
 | none::ix=>.cons trivial (uw r ix)
 | some j::ix=>by
  refine .cons ?_ (uw r ix);cases q:Gf d j with
  | none=>trivial
  | some av=>
   obtain⟨v,e,f⟩:=pH r q;show fB F y ρ H (some av) (σ[j]?.join);rw[e];exact f
theorem D3{F:Fx}{d:er}(r:bn g F y ρ H d σ)(ix:List (Option Nat)):bn g F y ρ H (vq ix d) (jM ix σ):=⟨uw r.v ix,r.e⟩
def JQ(σ:er)(t:BG)(l:BT)(m:BE)(k:AV->aN->Bool)(f:zN)(fuel:Nat):Nat->List AV->aN->Bool:=Wg (motive:=λ_=>Nat->List AV->aN->Bool) (λ_ _ _=>false) (λ_ h i ys S=>match Pr ys.length 900 with
 | false=>false
 | true=>match f.nxt i S with
  | some none=>k (.ref S.n) (S.add<|.lst ys)
  | some (some x)=>t x σ S λd r=>l d r λc j=>match c with
   | true=>m d j λz p=>h (i+1) (ys++[z]) p
   | false=>h (i+1) ys j
  | none=>false) fuel
def NI(fuel:Nat)(ix:List (Option Nat))(it:BI)(t:BG)(f:BT)(h:BE):BE:=λσ S k=>it σ S λd i=>JQ (vq ix σ) t f h k d fuel 0 [] i
def NJ:BT:=λ_ S k=>k true S
theorem zO{F:Fx}{Z:Option Int}{r:List OD}{S1:aN}{H1:Hp}{fuel:Nat}{t:BG}{tt:BT}{te:BE}{h:zN}{J:It}{k:AV->aN->Bool}{Q:VK}{σ:L2.St}{f:er}(hsl:∀j∈sl,ix[j]?=some none)(C1:aH g F Z r S1 H1)(r1:bn g F Z r H1 f σ)(so:pN g F Z r H1 h J)
  (h1:JQ (vq ix f) t tt te k h fuel 0 [] S1=true) (p:gS g F Z r H1 k Q):∃W:Nat->Nat->List V->Hp->Prop,(∃m,W 0 m [] H1)/\∀i m ys H,W i m ys H->ys.length<OR /\
 ((J.stop i H/\∀p,H p=none->Q (.ref p) (upd H p<|.lst ys))∨(J.go i H/\∀x H',J.yld i H x H'->nj g sl t x (jM ix σ) H' λl H2=>L2.xO (jM ix σ) l/\fE g tt l H2 λb H3=>
  if b=true then up g te l H3 λy H4=>∃m',m' < m/\W (i+1) m' (ys++[y]) H4 else ∃m',m' < m/\W (i+1) m' ys H3)):=by
 refine⟨λi m ys H'=>∃y' U S' d,aA F Z r H1 y' U H'/\aH g F y' U S' H'/\aR F y' U H' d ys/\JQ (vq ix f) t tt te k h m i d S'=true,⟨fuel,Z,r,S1,[],.refl,C1,.nil,h1⟩,?_⟩;rintro i m ys H2 ⟨Y,I,L,d,O,C2,r2,C⟩;obtain⟨t1,t2⟩:=so.turn Y I L H2 i O C2;cases m with
 | zero=>cases C
 | succ m=>
  have C:(match Pr d.length 900 with
   | false=>false
   | true=>match h.nxt i L with
    | some none=>k (.ref L.n) (L.add<|.lst d)
    | some (some x)=>t x (vq ix f) L λl L=>tt l L λc S3=>match c with
     | true=>te l S3 λz S4=>JQ (vq ix f) t tt te k h m (i+1) (d++[z]) S4
     | false=>JQ (vq ix f) t tt te k h m (i+1) d S3
    | none=>false)=true:=C
  cases q0:Pr d.length 900 with
  | false=>rw[q0] at C;cases C
  | true=>
   rw[q0] at C;have hl:=aO r2;have hl2:=bw q0;refine⟨bZ<|by omega,?_⟩;dsimp only at C;cases q:h.nxt i L with
   | none=>rw[q] at C;cases C
   | some ox=>cases ox with
    | none=>
     rw[q] at C;refine .inl ⟨t2 q,λpl hp=>?_⟩;have u:aA F Y I H2 Y (I++[pl]) (upd H2 pl<|.lst ys):=aA.add hp;exact p Y _ _ _ (.ref L.n) _ (O.trans u) (C2.add (o:=.lst d) hp ⟨ys,rfl,aR.mono u r2⟩) ⟨pl,by rw[C2.n];simp,rfl⟩ C
    | some ax=>
     rw[q] at C;obtain⟨go,yl⟩:=t1 ax q;refine .inr ⟨go,λx H3 yx=>?_⟩;obtain⟨u,C3,rx⟩:=yl x H3 yx;have rl:bn g F Y I H3 (vq ix f) (jM ix σ):=D3 (bn.mono (O.trans u) r1) ix;refine⟨F,Y,I,L,ax,_,_,C3,rx,rl,C,λy4 ρ4 S4 H4 σ4 σ5 st4 C4 r4 o4 h4=>⟨⟨o4.1.symm,λj v e=>?_⟩,?_⟩⟩
     ·rw[o4.2 j λm=>?_]
      ·exact e
      ·have z:=hsl j m;unfold jM at e;rw[Pv,z] at e;cases e
     ·refine fh C4 r4 h4 λy5 ρ5 S5 H5 c st5 C5 r5 h5=>?_;have stc:=((O.trans u).trans st4).trans st5;have r25:=aR.mono ((u.trans st4).trans st5) r2;cases c with
      | false=>exact qV ⟨m,P6 m,y5,ρ5,S5,d,stc,C5,r25,h5⟩
      | true=>
       refine qW (ar C5 r5 h5 λy6 ρ6 S6 H6 az z st6 C6 r6 rz h6=>?_);exact⟨m,P6 m,y6,ρ6,S6,d++[az],stc.trans st6,C6,du (aR.mono st6 r25)<|.cons rz .nil,h6⟩
theorem D4{fuel:Nat}{it:BI}{t:BG}{i:BT}{l:BE}(f:∀j∈sl,ix[j]?=some none):∀σ H Q,up g (NI fuel ix it t i l) σ H Q->FY ix (FE g it) (nj g sl t) (fE g i) (up g l) σ H Q:=by
 rintro σ H Q ⟨F,y,ρ,S,d,k,C,r,h,p⟩;exact⟨F,y,ρ,S,d,_,C,r,h,λI m L H1 u J st C1 x z=>zO f C1 (bn.mono st r) x z (p.mono st)⟩
theorem c7:nW X [] (fE g NJ):=λpins s σ H Q I f=>ez f λF y ρ S d k C r h p=>Dj pins s σ H Q I (p.here C h)
theorem jt{c:O4}(h:PT X c (fE g bt)):nW X [c] (fE g bt):=Dk h
theorem lM(fuel:Nat){it:BI}{t:BG}{f:BT}{i:BE}(d:∀j∈sl,ix[j]?=some none)(h:PE X e (FY ix (FE g it) (nj g sl t) (fE g f)<|up g i)):PE X e (up g<|NI fuel ix it t f i):=PE.imp (D4 d) h
theorem D5(fuel:Nat)(i:Nat){it:BI}{t:BG}{m:BT}{u:BE}(l:∀j∈sl,ix[j]?=some none)(h:PS X st (jc (FY ix (FE g it) (nj g sl t) (fE g m)<|up g u)<|fQ i)):PS X st (de g<|jQ (NI fuel ix it t m u)<|cy i) :=
 PS.imp (λD σ H Q=>xY Q λF y ρ S z d C r h p _=>D4 (fuel:=fuel) l σ H _ (ar C r h λI f Y H1 ax x st C1 O L U=>p I f Y H1 _ _ st C1 (cZ O L) U)) h
end
end RB
variable{F:RB.Fx}{gy:RB.Gy}{g:RB.Gx}
namespace RB
open PySem PySem.Spec PyProof.Rows L2
def zP:Nat->List (Option AV)
 | 0=>[]
 | n+1=>none::zP n
def mH:Nat->List AV->List (Option AV)
 | n,[]=>zP n
 | n,a::r=>some a::mH (n - 1) r
def bH(n:Nat)(b:BS):BF:=λc S k ke=>b ⟨λ_ d=>k .non d,k,λ_ _=>false,λ_ _=>false⟩ ⟨mH n c,ke⟩ S
section
theorem mI:∀n:Nat,gb F y ρ H (zP n) (Uy n none)
 | 0=>.nil
 | n+1=>.cons trivial (mI n)
theorem v7:∀{n:Nat} {c:List AV} {vs:List V},aR F y ρ H c vs->vs.length≤n->gb F y ρ H (mH n c) (vs.map some++Uy (n - vs.length) none)
 | n,_,_,.nil,_=>by simpa[mH] using mI n
 | n,_,_,.cons (l₂:=d) r t,h=>by
  simp at h;have:=v7 (n:=n - 1) t (by omega);unfold mH;refine .cons r ?_;have e:n - (d.length+1)=n - 1 - d.length:=by omega
  simp only[P2,e];exact this
end
section
theorem pO{n:Nat}{N ps:List Str}{b:BS}{CX:kr}{A:Qz}{outer:List Env}{s:OI}{Q:VK}{E:XK}{body:List Rs}(L:ps.length≤N.length)(x:ps.length=n)
  (h:jP gy n (bH N.length b) vs H Q E) (hb:gu X body (de ⟨gy,E⟩ b)):∃t,gu X body t/\t {nx:=λ_ z=>Q .non z,rt:=Q} (ff N vs) H:=by
 obtain⟨F,y,ρ,S,l,k,ke,C,r,I,h,p,u⟩:=h;refine⟨_,hb,F,y,ρ,S,⟨mH N.length l,ke⟩,_,C,⟨v7 r<|by omega,u⟩,h,?_,p,?_,?_⟩
 ·intro j c m H1 f d st C1 o i;exact p j c m H1 .non _ st C1 rfl i
 ·intro j c m H1 f d st C1 o i;cases i
 ·intro j c m H1 f d st C1 o i;cases i
def cF(P:Ph)(w:Py)(K:OK)(mg:Str->Option OC)(base:Pk)(gy:Gy)(CX:kr)(x:Str)(k n:Nat)(f:BF):Prop :=
 ∃c fd ps,ps.length=n/\bG P w K mg base CX k c fd ps (jP gy n f)/\mg x=some (.ref c)/\Pn K (.ref c)=true/\cA K fd ps []
theorem JR{x:Str}{N ps:List Str}{k n:Nat}{b:BS}(d:cQ K mg x st)(S:ai N ps (ae st))(hn:ps.length=n:=by decide)(m:ps.length≤N.length:=by decide)
  (hb:∀(kV doc i:OC) (o:Option OD) (c ct:OC) (us:List OC),us.length=ps.length->RN (Pt x x (bq st) (aS st) (ae st) .none kV doc i o c ct) ⟨us,[]⟩=pure (ps.zip us))
  (hbody:∀(f:OD) (c:OC) (A:Qz) (outer:List Env) (s:OI) (H:Hp) (E:XK),a5 k (A.deeper<|Q4 x (ae st) s.heap.objs.size f c)->gu (bQ eY P w K mg base N x (ae st) f c A outer s H E).nox (aS st) (de ⟨gy,E⟩ b)) :
  cF P w K mg base gy eY x (k+1) n (bH N.length b):=by
 obtain⟨f,fd,F,j⟩:=d;refine⟨f,fd,ps,hn,F.ok S (λvs H Q E h=>?_)<|λc A outer s H vs Q E hr h=>?_,j,F.kp,F.binds hb⟩
 ·obtain⟨_,_,_,_,_,_,_,_,_,l,_⟩:=h;rw[l,hn]
 ·exact pO (CX:=eY) (A:=A) (outer:=outer) (s:=s) m hn h (hbody f c A outer s H E hr)
end
section
variable{CX:kr}{a b c e o:O4}{ba bb bc:BE}{bt:BT}{br bk:BA}{s1 s2:BS}{pos apos:Pos}{x m:Str}{p:Pos}{k n:Nat}{f:BF}
theorem dX:cw eY X g.E:=λ_ _ _ _ _ _ _ h=>h.elim
theorem bg(c:cF X.prog X.w X.K X.mg X.base g.toGy CX x k n f)(hr:a5 k X.A)(i:cw CX X g.E)(z:PA X (e::es) (jl g br))(r:Gl X x:=by nofun)(h:(x==("__debug__":Str))=false:=by decide)
  (u:hE9 X e es:=by nofun) (d:hP9 X pos es:=by nofun):PE X (.Call (.Name x p) (e::es) [] pos) (up g<|nq (nZ n f) br):=by
 obtain⟨C,fd,ps,hn,F,j,l,hb⟩:=c;exact PE.imp DM (zc F hr r j l hb .nil i z h u d)
def eM(P:Ph)(w:Py)(K:OK)(mg:Str->Option OC)(base:Pk)(gy:Gy)(CX:kr)(c:Nat)(m:Str)(k n:Nat)(j:List AV)(f:BF):Prop :=
 ∃h fd ps i d,ps.length=n/\bG P w K mg base CX k h fd ps (jP gy n f)/\tX K (gy.cl c) m h/\cA K fd ps i/\aK d i/\∀F y ρ H,aR F y ρ H j d
theorem kO{F:Fx}{y:Option Int}{ρ:List OD}{H:Hp}{m:Str}(d:∀i∈kH,a8[i]?≠some m):∀{fs:List (Nat×AV)} {j:List (Str×V)},Paired (λp q=>a8[p.1]?=some q.1/\aQ F y ρ H p.2 q.2) fs j->(∀p∈fs,p.1∈kH)->j.lookup m=none
 | _,_,.nil,_=>rfl
 | _,_,.cons (a:=(i,w)) (b:=(z,v)) hd tl,h=>by
  have:(m==z)=false:=by
   rw[beq_eq_false_iff_ne];intro e;subst e;exact d i (h (i,w) OW) hd.1
  rw[RC,this];exact kO d tl λp l=>h p (OT _ l)
def dv(c n:Nat)(dA:List AV)(f:BF)(a:BE)(r:BA):BE:=λσ S k=>a σ S λx d=>match x with
 | .ref i=>match d.t.get i with
  | some (.ins c' _)=>match OS c' c with
   | true=>r σ d λxs h=>nZ n f (.ref i::(xs++dA)) h k σ.ke
   | false=>false
  | _=>false
 | _=>false
theorem pP{c:Nat}{dA:List AV}{dvs:List V}(hm:∀i∈kH,a8[i]?≠some m)(hd:∀F y ρ H,aR F y ρ H dA dvs):∀σ H Q,up g (dv c n dA f ba br) σ H Q->za (g.cl c) m (jP g.toGy n f) dvs g.E (up g ba) (jl g br) σ H Q:=λσ H Q hx=>ez hx λF y ρ S L k C r h p=>
 ar C r h λy1 ρ1 S1 H1 ax x st C1 r1 rx d=>by
  cases ax with
  | ref i=>
   dsimp only at d;cases q:S1.t.get i with
   | none=>rw[q] at d;cases d
   | some ob=>
    rw[q] at d;cases ob with
    | ins c' fs=>
     dsimp only at d;cases q2:OS c' c with
     | false=>rw[q2] at d;cases d
     | true=>
      rw[q2] at d;have ec:=ON q2;subst ec;obtain⟨a,dx,gs,rfl,hρ,hc2,ha,pr,Z⟩:=C1.ins rx q;refine⟨a,dx,gs,rfl,ha,kO hm pr Z,bF C1 r1 d λO l S2 H2 I xs u C2 r2 U z=>?_⟩;have j:aR F O l H2 (.ref i::(I++dA)) (.ref a::(xs++dvs)):=.cons (aQ.mono u rx) (du U<|hd F O l H2);unfold nZ at z;cases Y:OS (AV.ref i::(I++dA)).length n with
      | false=>simp only[Y] at z;cases z
      | true=>
       simp only[Y] at z;exact⟨F,O,l,S2,_,k,L.ke,C2,j,by rw[<-aO j];exact ON Y,z,p.mono<|st.trans u,r2.e⟩
    | _=>cases d
  | _=>cases d
theorem zQ{pl:Sem Bool}{c:Nat}{l:List AV}(M:eM X.prog X.w X.K X.mg X.base g.toGy CX c m k n l f)(C:ow X.K (g.cl c))(z:∀i∈kH,a8[i]?≠some m)(hr:a5 k X.A)(u:cw CX X g.E)(ho:PE X o (up g ba))(H:PA X (e::es) (jl g br))
  (d:hE9 X e es:=by nofun) (h:hP9 X pos es:=by nofun)
  (ht:Pq (.Call (.Attribute o m apos) (e::es) [] pos) X.env=(do
   let j <-Pq o X.env
   Rp apos.atName
   let (f,first) <-Rq [j] (Sf j m pl)
   Ta pos f first (QE pos<|O1 (e::es) X.env) (QI pos<|PZ [] X.env)):=by nofun) :
  PE X (.Call (.Attribute o m apos) (e::es) [] pos) (up g<|dv c n l f ba br):=by
 obtain⟨O,fd,ps,Q,L,hn,F,r,hb,hd,I⟩:=M;exact PE.imp (pP z I) (FN ho C r F hr hb hd u H d h ht)
theorem dY{pl:Sem Bool}{c:Nat}{O:List AV}(M:eM X.prog X.w X.K X.mg X.base g.toGy CX c m k n O f)(hc:ow X.K (g.cl c))(hm:∀i∈kH,a8[i]?≠some m)(hr:a5 k X.A)(hx:cw CX X g.E)(ho:PE X o (up g ba))
  (ht:Pq (.Call (.Attribute o m apos) [] [] pos) X.env=(do
   let L <-Pq o X.env
   Rp apos.atName
   let (f,first) <-Rq [L] (Sf L m pl)
   Ta pos f first (QE pos<|O1 [] X.env) (QI pos<|PZ [] X.env)):=by nofun) :
  PE X (.Call (.Attribute o m apos) [] [] pos) (up g<|dv c n O f ba bE):=by
 obtain⟨fa,fd,ps,ds,dvs,hn,F,me,hb,hd,hA⟩:=M;refine PE.imp (λσ H Q h=>?_) (CT ho hc me F hr hb hd hx ht);obtain⟨F',y,ρ,S,j,k,C,r,h,p⟩:=h;have:=pP (g:=g) (m:=m) (n:=n) (f:=f) (ba:=ba) (br:=bE) (c:=c) hm hA σ H Q ⟨F',y,ρ,S,j,k,C,r,h,p⟩
 -- the same but for the empty row of d
 obtain⟨F2,y2,z,S2,l,k2,C2,r2,h2,p2⟩:=this;refine⟨F2,y2,z,S2,l,k2,C2,r2,h2,λy' I S' U av v st C' rv hk=>?_⟩;obtain⟨a,dx,fs,e1,e2,e3,F3,Z,u,S3,Y,k3,C3,r3,h3,p3⟩:=p2 y' I S' U av v st C' rv hk;exact⟨a,dx,fs,e1,e2,e3,p3 Z u S3 U [] [] .refl C3 .nil h3⟩
inductive ux where
 | arg (i:Nat)
 | dfl (a:AV) (v:V) (u:OC)
def n5(d:List AV):List ux->List AV
 | []=>[]
 | .arg i::r=>d.getD i .non::n5 d r
 | .dfl a _ _::r=>a::n5 d r
def n6(d:List V):List ux->List V
 | []=>[]
 | .arg i::r=>d.getD i .non::n6 d r
 | .dfl _ v _::r=>v::n6 d r
def v8(d:List OC):List ux->List OC
 | []=>[]
 | .arg i::r=>d.getD i .none::v8 d r
 | .dfl _ _ u::r=>u::v8 d r
def uy:List ux->Prop
 | []=>True
 | .arg _::r=>uy r
 | .dfl a v u::r=>(∀F y ρ H,aQ F y ρ H a v)/\aI v u/\uy r
theorem D6{d:List V}{h:List OC}(r:aK d h)(i:Nat):aI (d.getD i .non) (h.getD i .none):=by
 cases e:d[i]? with
 | none=>simp[TH,e,r.none_of e,L2.aI]
 | some v=>
  obtain⟨u,l,j⟩:=r.get e;simp[TH,e,l,j]
theorem oJ{d:List V}{j:List OC}(r:aK d j):∀{tpl:List ux},uy tpl->aK (n6 d tpl) (v8 j tpl)
 | [],_=>.nil
 | .arg i::t,h=>.cons (D6 r i) (oJ r (tpl:=t) h)
 | .dfl a v u::t,h=>.cons h.2.1 (oJ r (tpl:=t) h.2.2)
theorem Bn{d:List AV}{h:List V}(r:aR F y ρ H d h)(i:Nat):aQ F y ρ H (d.getD i .non) (h.getD i .non):=by
 cases e:d[i]? with
 | none=>
  have C:=aO r;have:=Pj.mp e;have z:h[i]?=none:=Pj.mpr (by omega);simp[TH,e,z];rfl
 | some v=>
  obtain⟨u,l,j⟩:=dU r e;simp[TH,e,l];exact j
theorem lN{F:Fx}{y:Option Int}{ρ:List OD}{H:Hp}{d:List AV}{j:List V}(r:aR F y ρ H d j):∀{tpl:List ux},uy tpl->aR F y ρ H (n5 d tpl) (n6 j tpl)
 | [],_=>.nil
 | .arg i::t,h=>.cons (Bn r i) (lN r (tpl:=t) h)
 | .dfl a v u::t,h=>.cons (h.1 F y ρ H) (lN r (tpl:=t) h.2.2)
def lO(K:OK)(fd:TV)(ps ks:List Str)(h:Nat)(tpl:List ux):Prop :=
 ∀(s:OI) (us d:List OC),K.In s.heap->us.length=h->d.length=ks.length->Wd s fd ⟨us,ks.zip d⟩ (ps.zip<|us++v8 d tpl)
def v9(P:Ph)(w:Py)(K:OK)(mg:Str->Option OC)(base:Pk)(gy:Gy)(CX:kr)(c:Nat)(m:Str)(k n h:Nat)(ks:List Str)(tpl:List ux)(f:BF):Prop :=
 ∃d fd ps,ps.length=n/\bG P w K mg base CX k d fd ps (jP gy n f)/\tX K (gy.cl c) m d/\lO K fd ps ks h tpl/\uy tpl
theorem JS{z:OD}{ps ks:List Str}{l:Nat}{tpl:List ux}{sp:Sp}{σ:L2.St}{Q:VK}{us d:List OC}{vs j:List V}(F:bG X.prog X.w X.K X.mg X.base CX k z fd ps sp)(hr:a5 k X.A)(hb:lO X.K fd ps ks l tpl)(ht:uy tpl)(L:cw CX X g.E)
  (I:ay X pins σ H s) (r:aK vs us) (rz:aK j d) (U:vs.length=l) (O:j.length=ks.length) (h:sp (vs++n6 j tpl) H Q g.E):OM (OP X.prog X.w) X.A (call (.ref z) us<|ks.zip d) (EP X pins σ Q) X.xe s:=by
 have C:aK (vs++n6 j tpl) (us++v8 d tpl):=r.append (oJ rz ht);refine QF (Qf (F.run X.A X.stack s H ⟨us,ks.zip d⟩ _ _ Q g.E hr I.env0 (hb s us d I.kIn (by rw[<-r.length];exact U)<|by rw[<-rz.length];exact O) C h) λr s' i=>?_);cases r with
 | error e=>exact L pins σ H s e s' I i
 | ok fl=>
  cases fl with
  | ret u=>exact I.after i
  | next=>exact Pa i
  | brk=>exact Pa i
  | cont=>exact Pa i
def uz(c n j l:Nat)(tpl:List ux)(f:BF)(a:BE)(r u:BA):BE:=λσ S k=>a σ S λx h=>match x with
 | .ref i=>match h.t.get i with
  | some (.ins c' _)=>match OS c' c with
   | true=>r σ h λxs C=>u σ C λd z=>match OS (xs.length+1) j&&OS d.length l with
    | true=>nZ n f (.ref i::(xs++n5 d tpl)) z k σ.ke
    | false=>false
   | false=>false
  | _=>false
 | _=>false
theorem PK.imp{d:List Tc}{t t':TA}(h:∀σ H Q,t' σ H Q->t σ H Q)(p:PK X d t):PK X d t':=λpos pins s σ H Q I q=>p pos pins s σ H Q I (h _ _ _ q)
theorem fM:PK X [] (jl g bE):=PK.imp (λσ H Q i=>ez i λF y ρ S d k C r h p=>p y ρ S H [] [] .refl C .nil h) Jf
theorem dz{i:List Tc}{nm:Option Str}{j:Pos}(ha:PE X e (up g ba))(hr:PK X i (jl g br)):PK X (⟨nm,e,j⟩::i) (jl g<|aG ba br) :=
 PK.imp (λσ H Q Z=>ez Z λF y ρ S u k C r h p=>ar C r h λy1 I S1 H1 ax x st C1 Y U h1=>bF C1 Y h1 λL l S2 H2 az z d C2 r2 O h2=>p L l S2 H2 (ax::az) (x::z) (st.trans d) C2 (.cons (aQ.mono d U) O) h2) (FP ha hr)
theorem c8{pl:Sem Bool}{c np:Nat}{ks:List Str}{tpl:List ux}{O:List Tc}(M:v9 X.prog X.w X.K X.mg X.base g.toGy CX c m k n np ks tpl f)(hc:ow X.K (g.cl c))(hm:∀i∈kH,a8[i]?≠some m)(hr:a5 k X.A)(hx:cw CX X g.E)(ho:PE X o (up g ba))(ha:PA X (e::es) (jl g br))(hkw:PK X O (jl g bk))
  (hall:(QI pos<|PZ O X.env).all (·.1.isSome)=true:=by nofun) (hks:(QI pos<|PZ O X.env).filterMap (·.1)=ks:=by nofun)
  (hst:hE9 X e es:=by nofun)
  (hpl:((QE pos<|O1 (e::es) X.env).any (·.1)||(QI pos<|PZ O X.env).any (·.1.isNone))=false:=by nofun)
  (ht:Pq (.Call (.Attribute o m apos) (e::es) O pos) X.env=(do
   let ov <-Pq o X.env
   Rp apos.atName
   let (f,first) <-Rq [ov] (Sf ov m pl)
   Ta pos f first (QE pos<|O1 (e::es) X.env) (QI pos<|PZ O X.env)):=by nofun) :
  PE X (.Call (.Attribute o m apos) (e::es) O pos) (up g<|uz c n np ks.length tpl f ba br bk):=by
 obtain⟨fa,fd,ps,hn,Fn,me,hb,hk⟩:=M;rintro pins s σ H Q I ⟨F,y,ρ,S,j,kk,C,r,h,p⟩;refine Sh (pl:=pl) (bi (ho pins s σ H (λx H1=>∃i a y1 z S1 dx gs,x=.ref a/\aA F y ρ H y1 z H1/\aH g F y1 z S1 H1/\bn g F y1 z H1 j σ/\aQ F y1 z H1 (.ref i) (.ref a)/\H1 a=some (.ins (g.cl c) dx gs)/\gs.lookup m=none /\
   br j S1 (λxs S2=>bk j S2 λY S3=>match OS (xs.length+1) np&&OS Y.length ks.length with
    | true=>nZ n f (.ref i::(xs++n5 Y tpl)) S3 kk j.ke
    | false=>false)=true) I (ar C r h λy1 z S1 H1 ax x st C1 r1 rx U=>?_)) λu s1 z9=>?_) ht
 ·cases ax with
  | ref i=>
   dsimp only at U;cases q:S1.t.get i with
   | none=>rw[q] at U;cases U
   | some ob=>
    rw[q] at U;cases ob with
    | ins c' fs=>
     dsimp only at U;cases q2:OS c' c with
     | false=>rw[q2] at U;cases U
     | true=>
      rw[q2] at U;have ec:=ON q2;subst ec;obtain⟨a,dx,gs,rfl,hρ,hc2,ha,pr,hfl⟩:=C1.ins rx q;exact⟨i,a,y1,z,S1,dx,gs,rfl,st,C1,r1,rx,ha,kO hm pr hfl,U⟩
    | _=>cases U
  | _=>cases U
 ·obtain⟨x,H1,I1,rx,i,a,y1,z,S1,dx,gs,ex,st1,C1,r1,ri,ea,l,U⟩:=z9;subst ex;obtain rfl:u=OX a:=rx;refine iu I1 ea hc me l ?_;refine Wp (first:=[.ref a]) (h₀:=X.base) I.ok.mod.kin me.kp hall (bi (ha pos pins s1 σ H1 (λxs H2=>∃d y2 L S2,aA F y1 z H1 y2 L H2/\aH g F y2 L S2 H2/\bn g F y2 L H2 j σ/\aR F y2 L H2 d xs /\
    bk j S2 (λY S3=>match OS (d.length+1) np&&OS Y.length ks.length with
     | true=>nZ n f (.ref i::(d++n5 Y tpl)) S3 kk j.ke
     | false=>false)=true) I1 (bF C1 r1 U λy2 L S2 H2 d xs Z C2 r2 rxs h2=>⟨d,y2,L,S2,Z,C2,r2,rxs,h2⟩)) λus s2 z9=>?_) hpl hst
  obtain⟨vs,H2,I2,rv,d,y2,L,S2,Z,C2,r2,rxs,h2⟩:=z9;refine bi (hkw pos pins s2 σ H2 (λY H3=>Y.length=ks.length/\(V.ref a::vs).length=np/\jP g.toGy n f ((V.ref a::vs)++n6 Y tpl) H3 Q g.E) I2<|bF C2 r2 h2 λy3 ρ3 S3 H3 azs Y st3 C3 r3 rzs h3=>?_) λws s3 z9=>?_
  ·cases q:OS (d.length+1) np&&OS azs.length ks.length with
   | false=>simp only[q] at h3;cases h3
   | true=>
    simp only[q] at h3;simp only[OZ] at q;have e1:=ON q.1;have e2:=ON q.2;have l1:=aO rxs;have l2:=aO rzs;have rall:aR F y3 ρ3 H3 (.ref i::(d++n5 azs tpl)) (.ref a::(vs++n6 Y tpl)):=.cons (aQ.mono (Z.trans st3) ri) (du (aR.mono st3 rxs)<|lN rzs hk);refine⟨by omega,by simp;omega,?_⟩;unfold nZ at h3;cases q3:OS (AV.ref i::(d++n5 azs tpl)).length n with
    | false=>simp only[q3] at h3;cases h3
    | true=>
     simp only[q3] at h3;exact⟨F,y3,ρ3,S3,_,kk,j.ke,C3,rall,by rw[XG,<-aO rall];exact ON q3,h3,p.mono<|(st1.trans Z).trans st3,r3.e⟩
  ·obtain⟨Y,H3,I3,rz,hz,hv,q3⟩:=z9;rw[hks];refine⟨I3.kIn,?_⟩;exact JS (vs:=V.ref a::vs) Fn hr hb hk hx I3 (.cons (show L2.aI (.ref a) (OX a) from rfl) rv) rz hv hz q3
def Ir(c n:Nat)(f:BF)(r:BA):BE:=λσ S k=>r σ S λxs d=>nZ n f (.ref d.n::xs) (d.add<|.ins c []) (λv h=>match v with
 | .non=>k (.ref d.n) h
 | _=>false) σ.ke
theorem D7{c:Nat}(hc:c<2):∀σ H Q,up g (Ir c n f br) σ H Q->HG (g.cl c) (jP g.toGy n f) [] g.E (jl g br) σ H Q:=λσ H Q hx=>ez hx λF y ρ S σa k C r h p=>
 bF C r h λl d S1 H1 Z xs st C1 r1 rx Y=>by
  intro x i hx U ne;rw[Ra];have O:(upd H1 i<|.own x) x=none:=by rw[al (Qp ne)];exact hx
  have L:aA F l d H1 l d (upd H1 i<|.own x):=aA.lay U;have C2:=C1.lay (o:=.own x) U;have I:aA F l d (upd H1 i<|.own x) l (d++[x]) (upd (upd H1 i<|.own x) x<|.ins (g.cl c) i []):=aA.add O;have C3:=C2.add (o:=.ins c []) (ho:=.ins (g.cl c) i []) O ⟨i,[],⟨hc,rfl,λp hp=>(nomatch hp)⟩,.nil⟩;have z:=(st.trans L).trans I;have rn:∀{H':Hp},aQ F l (d++[x]) H' (.ref S1.n) (.ref x):=λ{H'}=>⟨x,by rw[C1.n];simp,rfl⟩
  have j:aR F l (d++[x]) (upd (upd H1 i<|.own x) x<|.ins (g.cl c) i []) (.ref S1.n::Z) (.ref x::xs):=.cons rn (aR.mono (L.trans I) rx);unfold nZ at Y;cases q3:OS (AV.ref S1.n::Z).length n with
  | false=>simp only[q3] at Y;cases Y
  | true=>
   simp only[q3] at Y;refine⟨F,l,_,_,_,_,σa.ke,C3,j,by rw[<-Pm j];exact ON q3,Y,λy5 ρ5 S5 H5 av v u C5 rv h5=>?_,r.e.mono z⟩;cases av with
   | non=>exact⟨rv,p y5 ρ5 S5 H5 (.ref S1.n) _ (z.trans u) C5 (aQ.mono (av:=.ref S1.n) u rn) h5⟩
   | _=>cases h5
def NK(P:Ph)(w:Py)(K:OK)(mg:Str->Option OC)(base:Pk)(gy:Gy)(CX:kr)(c:Nat)(x:Str)(k n:Nat)(f:BF):Prop :=
 ∃d fd ps,ps.length=n/\bG P w K mg base CX k d fd ps (jP gy n f)/\Mk K (gy.cl c) d/\mg x=some (.ref<|gy.cl c)/\cA K fd ps []
theorem GD{c:Nat}(u:c<2)(M:NK X.prog X.w X.K X.mg X.base g.toGy CX c x k n f)(hr:a5 (k+1) X.A)(i:cw CX X g.E)(z:PA X (e::es) (jl g br))(l:Gl X x:=by nofun)(h:(x==("__debug__":Str))=false:=by decide)
  (r:hE9 X e es:=by nofun) (d:hP9 X pos es:=by nofun):PE X (.Call (.Name x p) (e::es) [] pos) (up g<|Ir c n f br):=by
 obtain⟨C,fd,ps,hn,F,mk,j,hb⟩:=M;exact PE.imp (D7 u) (FO mk F hr l j hb .nil i z h r d)
end
section
theorem JT{x qual:Str}{d:OD}{N ps:List Str}{k n:Nat}{b:BS}(F:Fun K x qual st d fd)(S:ai N ps (ae st))(hn:ps.length=n:=by decide)(i:ps.length≤N.length:=by decide)
  (hbody:∀(c:OC) (A:Qz) (outer:List Env) (s:OI) (H:Hp) (E:XK),a5 k (A.deeper<|Q4 qual (ae st) s.heap.objs.size d c)->gu (bQ eY P w K mg base N qual (ae st) d c A outer s H E).nox (aS st) (de ⟨gy,E⟩ b)) :
  bG P w K mg base eY (k+1) d fd ps (jP gy n<|bH N.length b):=by
 refine F.ok S (λvs H Q E h=>?_) (λc A outer s H vs Q E hr h=>?_)
 ·obtain⟨_,_,_,_,_,_,_,_,_,f,_⟩:=h;rw[f,hn]
 ·exact pO (CX:=eY) (A:=A) (outer:=outer) (s:=s) i hn h (hbody c A outer s H E hr)
end
end RB
namespace RB
open PySem PySem.Spec L2
theorem Bo:PJ "any" = some (.builtin "any"):=by decide +kernel
theorem Bp:PJ "all" = some (.builtin "all"):=by decide +kernel
structure LR(mg:Str->Option OC):Prop extends Mods mg where
 any:mg "any" = none
 all:mg "all" = none
end RB
namespace L2
open PySem PySem.Spec PyProof.Rows
section
variable{a b:O4}{ta tb:TE}{rest:List O4}
theorem LU:Li X (λx H Q=>on (qY H x) λb=>Q b H):=by
 intro pins s σ H x v Q I c h;obtain⟨b,e,q⟩:=dH h;refine xC pins s σ H x v Q I c ⟨b,?_,q⟩;cases x with
 | non=>cases e;rfl
 | bl b=>cases e;rfl
 | int i=>cases e;rfl
 | ref a=>
  simp only[qY] at e;split at e
  ·cases e;exact .inl ⟨_,.inl<|.inl ‹_›,rfl⟩
  ·cases e;exact .inr (.inl ⟨_,g9.of ‹_›,rfl⟩)
  ·cases e;exact .inl ⟨_,.inl<|.inr ⟨_,‹_›⟩,rfl⟩
  ·cases e;exact .inr (.inr ⟨_,‹_›,rfl⟩)
  ·cases e
 | _=>cases e
def NL(ta tb:TE):TE:=λσ H Q=>ta σ H λx H1=>on (qY H1 x) λc=>if c=true then Q x H1 else tb σ H1 Q
theorem JU(o:PE X a ta)(hb:PE X (.BoolOp .Or (b::rest) pos) tb):PE X (.BoolOp .Or (a::b::rest) pos) (NL ta tb):=by
 intro pins s σ H Q I h;refine BoolOp_or (bi (o pins s σ H _ I h) λv m j=>da j λx H1 I1 f q1=>?_);refine bi (LU pins m σ H1 x v (λc d=>if c=true then Q x d else tb σ d Q) I1 f q1) λc l ⟨d,i,q2⟩=>?_;cases c with
 | false=>exact hb pins l σ d Q i q2
 | true=>exact⟨x,d,i,f,q2⟩
theorem uA:∀{bs:List Bool} {us:List OC},aK (bs.map V.bl) us->us=bs.map QX
 | [],_,r=>by cases r;rfl
 | b::bs,_,r=>by
  cases r with
  | cons h t=>cases h;rw[uA t];rfl
theorem wa(bs:List Bool):(RV bs.length).map (λi=>bs.getD i false)=bs:=by
 apply List.ext_getElem
 ·simp
 ·intro i c d;simp at c;simp[TH,c]
def Iu:List V->Hp->VK->Prop:=λxs H Q=>∃(a:OD) (bs:List Bool),xs=[.ref a]/\H a=some (.lst<|bs.map V.bl)/\Q (.bl<|bs.any id) H
def Iv:List V->Hp->VK->Prop:=λxs H Q=>∃(a:OD) (bs:List Bool),xs=[.ref a]/\H a=some (.lst<|bs.map V.bl)/\Q (.bl<|bs.all id) H
theorem wb(bs:List Bool):TruthOf prog w A (λi v=>(bs.map QX).toArray[i]?=some v) (λi=>bs.getD i false):=by
 intro i v s Q E hP hQ;rw[VI,Pv] at hP;cases e:bs[i]? with
 | none=>rw[e] at hP;cases hP
 | some c=>
  rw[e] at hP;cases hP;have:bs.getD i false=c:=by simp[TH,e]
  dsimp only at hQ;rw[this] at hQ;exact QR hQ
theorem Bq(l:X.calm=true):dj X (.builtin "any") Iu:=by
 intro pins s σ H xs us Q I r h;obtain⟨a,bs,rfl,p,q⟩:=h;obtain⟨u,rfl,f⟩:=iQ r;cases f;obtain⟨its,n,d,ho,hz⟩:=I.lst p;have e:=uA d;subst e;have j:s.heap.IsList a (bs.map QX).toArray:=⟨_,ho,rfl,n,rfl⟩
 have c:a≠s.heap.objs.size:=O0 (OO ho);have kp:∀b o,s.heap.get? b=some o->(s.heap.push {cls:=.type "list_iterator",data:=.fields #[.ref a,.int 0 0]}).get? b=some o:=λb o e=>OF _ e;refine call_any_walk (UO j ⟨_,_,_,_,_,_,_,rfl,ab1 (A:=X.A.in1) (I.ok.hd l) s.heap.objs.size a c (bs.map QX).toArray,⟨⟨_,OQ _ rfl,rfl,rfl⟩,⟨_,kp a _ ho,rfl,n,rfl⟩⟩,wb bs,λh' tk i=>?_⟩);refine⟨.bl<|bs.any id,H,I.kept λb o e=>i b o (λm=>?_) (kp b o e),?_,q⟩
 ·have:b=s.heap.objs.size:=by simpa using m
  exact absurd (OO e) (by rw[this];exact QL _)
 ·show QX _=QX _;congr 1
  conv=>rhs;rw[<-wa bs]
  rw[List.any_map];simp
theorem Br(l:X.calm=true):dj X (.builtin "all") Iv:=by
 intro pins s σ H xs us Q I r h;obtain⟨a,bs,rfl,p,q⟩:=h;obtain⟨u,rfl,f⟩:=iQ r;cases f;obtain⟨its,n,d,ho,hz⟩:=I.lst p;have e:=uA d;subst e;have j:s.heap.IsList a (bs.map QX).toArray:=⟨_,ho,rfl,n,rfl⟩
 have c:a≠s.heap.objs.size:=O0 (OO ho);have kp:∀b o,s.heap.get? b=some o->(s.heap.push {cls:=.type "list_iterator",data:=.fields #[.ref a,.int 0 0]}).get? b=some o:=λb o e=>OF _ e;refine call_all_walk (UO j ⟨_,_,_,_,_,_,_,rfl,ab1 (A:=X.A.in1) (I.ok.hd l) s.heap.objs.size a c (bs.map QX).toArray,⟨⟨_,OQ _ rfl,rfl,rfl⟩,⟨_,kp a _ ho,rfl,n,rfl⟩⟩,wb bs,λh' tk i=>?_⟩);refine⟨.bl<|bs.all id,H,I.kept λb o e=>i b o (λm=>?_) (kp b o e),?_,q⟩
 ·have:b=s.heap.objs.size:=by simpa using m
  exact absurd (OO e) (by rw[this];exact QL _)
 ·show QX _=QX _;congr 1
  conv=>rhs;rw[<-wa bs]
  rw[Vp];simp
theorem n8{a:OD}{its:Array OC}(hz:¬(its.size:Int)≥2 ^ 63) :
  Meets (QS.«bool.__new__» ⟨[.type "bool",.ref a],[]⟩) (λ_ R s=>s.heap.IsList a its/\R (.ok<|.ret<|.bool<|!its.isEmpty) {s with toks:=s.toks+1+1}) :=
 Meets.of_wp λj h r p st c=>by
  obtain⟨h0,m,o,i,l⟩:=st;obtain⟨f,hs⟩:=c;have d:=F.conv_sub_bool
  repeat (any_goals (first | assumption | (with_reducible refine W6 f (by omega) ?_) | wp_step))
  all_goals first | exact⟨_,rfl,hs⟩ | exact hs | skip
def D8:List V->Hp->VK->Prop:=λxs H Q=>∃a ys,xs=[.ref a]/\H a=some (.lst ys)/\Q (.bl<|!ys.isEmpty) H
theorem yf:dj X (.type "bool") D8:=by
 intro pins s σ H xs us Q I r h;obtain⟨a,ys,rfl,i,q⟩:=h;obtain⟨u,rfl,f⟩:=iQ r;cases f;obtain⟨its,n,c,ho,hz⟩:=I.lst i;have d:=c.length;have j:=ml;refine call_bool_1 (n8 (a:=a) (its:=its.toArray)<|by rw[OJ];omega) ⟨⟨_,ho,rfl,n,rfl⟩,?_⟩;exact⟨rfl,.bl<|!ys.isEmpty,H,(I.tok _).tok _,by rw[<-kq c];rfl,q⟩
end
end L2
namespace RB
open PySem L2
section
variable{a b c e o:O4}{ba bb bc:BE}{bt:BT}{br bk:BA}{s1 s2:BS}{es rest:List O4}
def NM(a b:BE):BE:=λσ S k=>a σ S λx d=>match Bi d x with
 | some true=>k x d
 | some false=>b σ d k
 | none=>false
theorem JV(L:PE X a (up g ba))(hb:PE X (.BoolOp .Or (b::rest) pos) (up g bb)):PE X (.BoolOp .Or (a::b::rest) pos) (up g<|NM ba bb):=by
 refine PE.imp (λσ H Q I=>ez I λF y ρ S j k C r h p=>?_) (JU L hb);refine ar C r h λm f l H1 ax x st C1 z u i=>?_;cases q:Bi l ax with
 | none=>simp only[q] at i;cases i
 | some d=>
  simp only[q] at i;rw[zK C1 u q,bN];cases d with
  | true=>exact qW (p m f l H1 ax x st C1 u i)
  | false=>exact qV ⟨F,m,f,l,j,k,C1,z,i,p.mono st⟩
def D9:List AV->Option (List Bool)
 | []=>some []
 | .bl b::r=>match D9 r with
  | some bs=>some (b::bs)
  | none=>none
 | _::_=>none
theorem uB{F:Fx}{y:Option Int}{ρ:List OD}{H:Hp}:∀{xs:List AV} {vs:List V} {bs:List Bool},aR F y ρ H xs vs->D9 xs=some bs->vs=bs.map V.bl
 | _,_,_,.nil,h=>by cases h;rfl
 | _,_,bs,.cons (a:=ax) r t,h=>by
  cases ax with
  | bl c=>
   unfold D9 at h;split at h
   ·rename_i d q;cases h;rw[uB t q];cases(show _=V.bl c from r);rfl
   ·cases h
  | _=>cases h
def LV:List AV->aN->(AV->aN->Bool)->Bool:=λxs S k=>match xs with
 | [x]=>match jR S x with
  | some ys=>match D9 ys with
   | some bs=>k (.bl<|bs.any id) S
   | none=>false
  | none=>false
 | _=>false
def rq:List AV->aN->(AV->aN->Bool)->Bool:=λxs S k=>match xs with
 | [x]=>match jR S x with
  | some ys=>match D9 ys with
   | some bs=>k (.bl<|bs.all id) S
   | none=>false
  | none=>false
 | _=>false
theorem GE:nY g Iu LV:=by
 intro F y ρ S H xs j k Q C d h p;unfold LV at h;split at h
 ·split at h
  ·rename_i ys q;split at h
   ·rename_i bs q2;cases d with | cons r t=>cases t with | nil=>
    obtain⟨n,a,vs,rfl,rfl,_,i,f⟩:=dy C r q;have e:=uB f q2;subst e;exact⟨a,bs,rfl,i,p.here C (av:=.bl _) rfl h⟩
   ·cases h
  ·cases h
 ·cases h
theorem GF:nY g Iv rq:=by
 intro F y ρ S H xs j k Q C d h p;unfold rq at h;split at h
 ·split at h
  ·rename_i ys q;split at h
   ·rename_i bs q2;cases d with | cons r t=>cases t with | nil=>
    obtain⟨n,a,vs,rfl,rfl,_,i,f⟩:=dy C r q;have e:=uB f q2;subst e;exact⟨a,bs,rfl,i,p.here C (av:=.bl _) rfl h⟩
   ·cases h
  ·cases h
 ·cases h
def Iw:List AV->aN->(AV->aN->Bool)->Bool:=λxs S k=>match xs with
 | [x]=>match jR S x with
  | some ys=>k (.bl<|!ys.isEmpty) S
  | none=>false
 | _=>false
theorem Ea:nY g D8 Iw:=by
 intro F y ρ S H xs j k Q C d h p;unfold Iw at h;split at h
 ·split at h
  ·rename_i ys q;cases d with | cons r t=>cases t with | nil=>
   obtain⟨n,a,vs,rfl,rfl,_,i,f⟩:=dy C r q;refine⟨a,vs,rfl,i,?_⟩;rw[<-iz f];exact p.here C (av:=.bl _) rfl h
  ·cases h
 ·cases h
def LW:AV->aN->(AV->aN->Bool)->Bool:=λx S k=>match x with
 | .int false lo hi=>k (.int false (-hi)<|-lo) S
 | _=>false
theorem GG:NC g (rU λi=>.int (-i)) LW:=by
 intro F y ρ S H x ax k Q C d h p;cases ax with
 | int s lo f=>cases s with
  | true=>cases h
  | false=>
   obtain⟨z,rfl,l,j⟩:=d;exact⟨z,rfl,p.here C (av:=.int false _ _) ⟨_,rfl,by omega,by omega⟩ h⟩
 | _=>cases h
def Eb(a:BE):BE:=Op LW a
theorem uC(l:PE X a (up g ba)):PE X (.UnaryOp .USub a pos) (up g<|Eb ba) :=
 PE.imp (λσ H Q ⟨F,y,ρ,S,f,k,C,r,h,p⟩=>ar C r h λi d u H1 ax x st C1 z j m=>GG F i d u H1 x ax k Q C1 j m (p.mono st)) (Lj Jb l)
def LX(xs:List AV):Nat->List AV
 | 0=>[]
 | n+1=>xs++LX xs n
def Ov:AV->AV->aN->(AV->aN->Bool)->Bool:=λa b S k=>match b with
 | .int false lo d=>match fA lo d&&fA d lo&&fA 0 lo&&fA lo 20 with
  | true=>match jR S a with
   | some xs=>match Pr xs.length 20 with
    | true=>k (.ref S.n) (S.add<|.lst<|LX xs lo.toNat)
    | false=>false
   | none=>false
  | false=>false
 | _=>false
def NN(n:Nat)(a:BE):BE:=λσ S k=>a σ S λx d=>match lK x with
 | some xs=>match Pr n xs.length with
  | true=>k (chain<|xs.drop n) d
  | false=>false
 | none=>false
theorem mJ{F:Fx}{y:Option Int}{ρ:List OD}{H:Hp}:∀{xs:List AV} {vs:List V} (n:Nat),aR F y ρ H xs vs->aR F y ρ H (xs.drop n) (vs.drop n)
 | _,_,0,r=>r
 | _,_,_+1,.nil=>.nil
 | _,_,n+1,.cons _ t=>mJ n t
theorem Bs(n:Nat)(xs:List V)(h:n≤xs.length):mv xs (some (n:Int)) none=xs.drop n:=by
 unfold mv;have e:HT.sIx xs.length 0 (some (n:Int))=min n xs.length:=HT.sIx_nat xs.length 0 n;rw[e,HT.sIx_none,Nat.min_eq_left h,Vr (by rw[U3];exact OU _)]
theorem Ec(n:Nat)(h:PE X e (Oa HQ (up g ba) (HH<|tC<|.int (n:Int)) zf)):PE X e (up g<|NN n ba):=by
 refine PE.imp (λσ H Q U=>ez U λF y ρ S L k C r h p=>?_) h;refine ar C r h λl d I H1 ax x st C1 Y O f=>⟨(n:Int),rfl,?_⟩
 cases q:lK ax with
 | none=>simp only[q] at f;cases f
 | some xs=>
  simp only[q] at f;split at f
  ·rename_i q2;obtain⟨a,vs,rfl,z,m⟩:=gG O q;have Z:=aO m;have hn:=bw q2;show on (hU H1<|.ref a) λxs=>(∀p,H1 p=none->Q (.ref p) (upd H1 p<|.tup<|mv xs (some (n:Int)) none))/\(mv xs (some (n:Int)) none=xs->Q (.ref a) H1);rw[hV z,bN,Bs n vs (by omega)];refine⟨λpl u=>?_,λe=>?_⟩
   ·have i:aA F l d H1 l d (upd H1 pl<|.tup<|vs.drop n):=aA.lay u;exact p l d I _ _ _ (st.trans i) (C1.lay u) (aQ.chain aq<|aR.mono i<|mJ n m) f
   ·have j:=mJ n m;rw[e] at j;exact p l d I H1 _ _ st C1 (aQ.chain z j) f
  ·cases f
abbrev BP:=er->aN->(List (AV×AV)->aN->Bool)->Bool
def pQ:BP:=λ_ S k=>k [] S
def dZ(a b:BE)(r:BP):BP:=λσ S k=>a σ S λx h=>b σ h λz f=>r σ f λps d=>k ((x,z)::ps) d
end
end RB
namespace L2
open PySem PySem.Spec PyProof.Rows
structure NO(h:Pk)(d:OD)(ob:Obj)(es:Array Ry)(ep:Nat):Prop where
 at_:h.get? d=some ob
 ex:ob.ExactDict
 dat:ob.data=.dict es ep
section
variable{d it:OD}{ob:Obj}{es:Array Ry}{ep i:Nat}{ok ov:OC}
theorem Ed(hd:(d==QO)=false):MeetsIn prog w (QS.«dict.items» ⟨[.ref d],[]⟩) (λ_ R s=>s.TypeIs (.ref d) "dict" /\
  R (.ok<|.ret<|.ref s.heap.objs.size) {s with heap:=s.heap.push {cls:=.type "dict_items",data:=.fields #[.ref d]}}) :=
 .of_wp λf c st ⟨ty,h⟩=>by
  unfold QS.«dict.items» aa6;refine OB (OB<|VJ ty ?_);show OM _ _ (pure d) _ _ st;refine OE (show OM _ _ (VL d >>= _) _ _ st from ?_);unfold VL;rw[if_neg (by rw[hd];decide)];exact OB (OE<|OB<|PB<|OE ⟨_,rfl,h⟩)
theorem Ee{v:OD}{Q:OC->OI->Prop}(f:s.heap.IsItemsView v d)(c:NO s.heap d ob es ep)
  (hQ:Q (.ref s.heap.objs.size) {s with heap:=s.heap.push {cls:=.type "dict_itemiterator",data:=.fields #[.none,.bool false,.ref d,.int 0 0,.int es.size 0,.int ep 0,.none,.none]}}) :
  OM (OP prog w) A (Xy<|.ref v) Q E s:=by
 obtain⟨l,j,m,h⟩:=id f;refine Tj f.typeIs Vu (Qi Vu f.typeIs F.entry_dict_items_iter ?_<|F.args_dict_items_iter_1 _);unfold QS.«dict_items.__iter__» Y8 XH;refine OB (OE<|OB<|OB<|QJ j h (x:=.ref d) rfl<|OE<|OB<|OB<|Tk c.at_ c.dat<|OB<|VB c.at_ c.dat ?_);have own:Se "dict_itemiterator" = true:=by decide
 rw[own];refine PB (OE ⟨_,rfl,"dict_itemiterator",_,⟨_,OQ _ rfl,rfl⟩,Qd.lookup,?_⟩) ?_
 ·simpa[Rl,SG] using hQ
 ·simp only[sizeOk,SG,if_true,OJ,P3,P2,Uc,Pz];omega
theorem Ef{Q:Option OC->OI->Prop}{e:Ry}(h:SO s.heap it d i es.size ep ok ov)(U:NO s.heap d ob es ep)(hx:es[i]?=some e)
  (hQ:∀h',WE h' it d (i+1) es.size ep e.key e.val s.heap.objs.size->h'.get? s.heap.objs.size=some {cls:=.type "tuple",data:=.seq #[e.key,e.val]}->h'.objs.size=s.heap.objs.size+1 ->
   (∀b o,b≠it->s.heap.get? b=some o->h'.get? b=some o)->Q (some<|.ref s.heap.objs.size) {s with heap:=h'}) :
  OM (OP prog w) A (UU<|.ref it) Q E s:=by
 obtain⟨h0,L,O,r,C⟩:=s;have ty:WF ⟨h0,L,O,r,C⟩ (.ref it) "dict_itemiterator":=⟨_,h,rfl⟩
 have own:Se "dict_itemiterator" = true:=by decide
 have hlt:i<es.size:=(P7.mp hx).1;unfold UU;refine OB (RH<|Q7 (name:=OG "__next__") ty Qd<|Qi Qd ty TK ?_<|Tt _);refine OB (OE<|OB<|OB ?_)
 first | refine OB (Q2 ty<|OE<|OB<|Tl h rfl ?_) | refine OB (Rv ty<|OE<|OB<|Tl h rfl ?_)
 rw[own];simp only[if_true];show OM _ _ (if (OX d==Pw)=true then _ else _) _ _ _;rw[if_neg (show ¬((OX d==Pw)=true) from O2)];refine OB (OE<|OB<|Tk U.at_ U.dat ?_);rw[if_neg (by simp)];refine OB (OE<|OB<|VB U.at_ U.dat ?_);rw[if_neg (by simp)];refine OE ?_;simp only[show ¬((i:Int)<0) from by omega,if_false,Tg,hx];refine OB ?_
 first | refine OB (Q2 ty<|OE<|OB<|R0 ty ?_) | refine OB (Rv ty<|OE<|OB<|R0 ty ?_)
 show OM _ _ (setField (.ref it) 3 (Rl<|(i:Int)+1) >>= _) _ _ ⟨h0,L,O,r,C⟩;refine OB (QG h (by simp) λf e1 b1=>?_);have u:QA it h0 f:=b1;have H:SO f it d (i+1) es.size ep ok ov:=by
  have z:((i+1:Nat):Int)=(i:Int)+1:=by omega
  show f.get? it=_;rw[z];simpa[Rl] using e1
 have p:WF ⟨f,L,O,r,C⟩ (.ref it) "dict_itemiterator":=⟨_,H,rfl⟩
 refine OB (Pg<|OB<|R0 p<|OB<|R0 p ?_);show OM _ _ (Tn (.ref it) 6 e.key e.val) _ _ ⟨f,L,O,r,C⟩;unfold Tn WG;refine OB (UF ?_);have sz1:f.objs.size=h0.objs.size:=u.1;have Y:it<h0.objs.size:=OO h;have c:SO (f.push {cls:=.type "tuple",data:=.seq #[e.key,e.val]}) it d (i+1) es.size ep ok ov:=OF _ H;have j:(f.push {cls:=.type "tuple",data:=.seq #[e.key,e.val]}).get? h0.objs.size=some {cls:=.type "tuple",data:=.seq #[e.key,e.val]}:=by rw[<-sz1];exact OQ _ rfl
 have l:(f.push {cls:=.type "tuple",data:=.seq #[e.key,e.val]}).objs.size=h0.objs.size+1:=by rw[RL,sz1]
 have m:∀b o,b≠it->h0.get? b=some o->(f.push {cls:=.type "tuple",data:=.seq #[e.key,e.val]}).get? b=some o:=λb o n q=>OF _ (u.extBut b o n q);show OM _ _ (_ >>= _) _ _ ⟨f.push {cls:=.type "tuple",data:=.seq #[e.key,e.val]},L,O,r,C⟩
 revert c j l m
 generalize f.push {cls:=.type "tuple",data:=.seq #[e.key,e.val]}=h2;intro c j l m;rw[sz1];refine OB (OB<|QJ c rfl (x:=.none) rfl<|OE ?_);simp only[if_true];refine OB (QJ c rfl (x:=ok) rfl<|OB<|QJ c rfl (x:=ov) rfl ?_);refine OB (QG c (by simp) λh3 e3 b3=>?_);have it3:SO h3 it d (i+1) es.size ep e.key ov:=e3;refine OB (QG it3 (by simp) λh4 e4 b4=>?_);have it4:SO h4 it d (i+1) es.size ep e.key e.val:=e4;refine OB (QG it4 (by simp) λh5 e5 b5=>?_);have it5:WE h5 it d (i+1) es.size ep e.key e.val h0.objs.size:=e5;refine OB (QG it5 (by simp) λI e6 b6=>?_);have Z:WE I it d (i+1) es.size ep e.key e.val h0.objs.size:=e6;have s3:QA it h2 h3:=b3;have s4:QA it h3 h4:=b4;have s5:QA it h4 h5:=b5;have s6:QA it h5 I:=b6;have all:∀b o,b≠it->h2.get? b=some o->I.get? b=some o:=λb o n q=>s6.extBut b o n (s5.extBut b o n<|s4.extBut b o n<|s3.extBut b o n q);refine OB (VX<|OE<|OE ⟨_,rfl,OE<|hQ I Z (all _ _ (So Y) j) ?_ λb o n q=>all b o n (m b o n q)⟩);show I.objs.size=h0.objs.size+1;rw[s6.1,s5.1,s4.1,s3.1,l]
theorem GH{Q:Option OC->OI->Prop}(j:A.handled=none)(c:SO s.heap it d i es.size ep ok ov)(f:NO s.heap d ob es ep)(h:es.size≤i)
  (hQ:∀h',aa3 it s.heap h'->Q none {s with heap:=h'}):OM (OP prog w) A (UU<|.ref it) Q E s:=by
 have ty:s.TypeIs (.ref it) "dict_itemiterator":=⟨_,c,rfl⟩
 have own:Se "dict_itemiterator" = true:=by decide
 unfold UU;refine OB (RH<|Q7 (name:=OG "__next__") ty Qd<|Qi Qd ty TK ?_<|Tt _);refine OB (OE<|OB<|OB ?_)
 first | refine OB (Q2 ty<|OE<|OB<|Tl c rfl ?_) | refine OB (Rv ty<|OE<|OB<|Tl c rfl ?_)
 rw[own];simp only[if_true];show OM _ _ (if (OX d==Pw)=true then _ else _) _ _ _;rw[if_neg (show ¬((OX d==Pw)=true) from O2)];refine OB (OE<|OB<|Tk f.at_ f.dat ?_);rw[if_neg (by simp)];refine OB (OE<|OB<|VB f.at_ f.dat ?_);rw[if_neg (by simp)];refine OE ?_;simp only[show ¬((i:Int)<0) from by omega,if_false,Tg,Vt h];refine OB ?_
 first | refine OB (Q2 ty<|OE ?_) | refine OB (Rv ty<|OE ?_)
 show OM _ _ (setField (.ref it) 2 .none >>= _) _ _ s;refine OB (To c rfl (by simp)<|show OM _ _ (newExc (.type "StopIteration") [] >>= _) _ _ _ from OB ?_);simp only[newExc,newTuple];refine OB (PB (OB (m:=UH _ _)<|SW (a:=Pw) (by first | rfl | (simp only[UH];rfl))<|PB ?_<|by size_fits)<|by size_fits);simp only[raiseNew];refine OB (WH ?_);rw[show A.in1.handled=none from j];refine OB (OE<|X3 ?_);refine OB (U8 (b:=true) (T:="StopIteration") ⟨_,OQ _ rfl,rfl⟩ YI ?_);exact OE (hQ _<|((Wq ..).extBut.push _).push _)
theorem Bt:YJ Z9 "dict_itemiterator.__iter__" = some QS.«dict_keyiterator.__iter__»:=V2 (id':="dict_keyiterator.__iter__") (by kernel_rfl) rfl (by decide +kernel) (by kernel_rfl)
theorem yg{Q:OC->OI->Prop}(c:SO s.heap it d i es.size ep ok ov)(h:Q (.ref it) s):OM (OP prog w) A (Xy<|.ref it) Q E s:=by
 have ty:s.TypeIs (.ref it) "dict_itemiterator":=⟨_,c,rfl⟩
 refine Tj ty T4 (Qi T4 ty Bt ?_<|F.args_dict_itemiterator_iter_1 _);show OM _ _ (ret<|OX it) _ _ s;exact OE ⟨_,rfl,"dict_itemiterator",_,ty,Qd.lookup,h⟩
end
section
variable{σ:L2.St}{a:OD}{o1 o2:HO}
theorem ay.ghost(I:ay X pins σ H s)(i:H a=some o1)(h:∀x,o1≠.own x)(d:∀xs,o1≠.tup xs)(f:∀ps,o1≠.tbl ps)(r:∀o u,X.H₀ a≠some (.frz o u))(new:bj X.prog X.w (upd H a o2) s.heap a o2) :
  ay X pins σ (upd H a o2) s:=by
 have ne:∀b,H b=none->b≠a:=λb e z=>by rw[z,i] at e;cases e
 refine⟨I.ok,I.os,I.bare,⟨I.base.keep,I.base.slot,λb o e n C=>?_,I.base.there,λb xs e=>?_,λb o u e=>?_,λb ps e=>?_⟩,I.loc,I.cell,?_,λx c e=>?_,λp L=>?_,λb o e=>?_,I.len⟩
 ·have q:=I.base.free b o e n C;rw[al (ne b q)];exact q
 ·have q:=I.base.tups b xs e;rw[al λz=>by rw[z,i] at q;exact d xs (O6 q)];exact q
 ·have q:=I.base.frzs b o u e;rw[al λz=>r o u (by rw[<-z];exact e)];exact q
 ·obtain⟨more,q⟩:=I.base.tbls b ps e;exact⟨more,by rw[al λz=>by rw[z,i] at q;exact f _ (O6 q)];exact q⟩
 ·rw[al (ne _ I.free)];exact I.free
 ·rw[al (ne _<|I.freeC x c e)];exact I.freeC x c e
 ·obtain⟨m,j,l⟩:=I.pin p L;exact⟨m,by rw[al (ne _ j)];exact j,l⟩
 ·by_cases z:b=a
  ·subst z;rw[aq] at e;cases e;exact new
  ·rw[al z] at e;refine(I.hok b o e).stay (λ_ _ _ q=>q) (λc q=>?_) λc xs q=>?_
   ·rw[al λw=>by rw[w,i] at q;exact h _ (O6 q)];exact q
   ·rw[al λw=>by rw[w,i] at q;exact d _ (O6 q)];exact q
def pR:HO->Bool
 | .dK _=>true
 | .dT _=>true
 | _=>false
theorem uD{u:HO}(h:pR u=true):(∀x,u≠.own x)/\(∀xs,u≠.tup xs)/\(∀ps,u≠.tbl ps)/\∀o w,u≠.frz o w:=by
 cases u<;>first | (cases h;done) | exact⟨λ_ z=>(nomatch z),λ_ z=>(nomatch z),λ_ z=>(nomatch z),λ_ _ z=>(nomatch z)⟩
theorem ay.freeze{u:HO}{ob:Obj}(I:ay X pins σ H s)(m:pR u=true)(d:H a=some u)(ho:s.heap.get? a=some ob):ay X pins σ (upd H a<|.frz ob u) s/\∀o w,X.H₀ a≠some (.frz o w):=by
 obtain⟨i,h,l,j⟩:=uD m;have f:∀o w,X.H₀ a≠some (.frz o w):=λo w e=>by
  have:=I.base.frzs a o w e;rw[d] at this;exact j o w (O6 this)
 refine⟨I.ghost d i h l f ⟨ho,(I.hok a u d).stay (λ_ _ _ q=>q) (λc q=>?_) λc xs q=>?_⟩,f⟩
 ·rw[al λw=>by rw[w,d] at q;exact i _ (O6 q)];exact q
 ·rw[al λw=>by rw[w,d] at q;exact h _ (O6 q)];exact q
theorem ay.thaw{u:HO}{ob:Obj}(I:ay X pins σ H s)(d:H a=some (.frz ob u))(f:∀o w,X.H₀ a≠some (.frz o w)):ay X pins σ (upd H a u) s:=by
 refine I.ghost d (λ_ z=>nomatch z) (λ_ z=>nomatch z) (λ_ z=>nomatch z) f ?_;obtain⟨_,ok⟩:=I.hok a _ d;refine ok.stay (λ_ _ _ q=>q) (λc q=>?_) λc xs q=>?_
 ·rw[al λw=>by rw[w,d] at q;cases q];exact q
 ·rw[al λw=>by rw[w,d] at q;cases q];exact q
end
inductive j6 (H:Hp):HO->List (V×V)->Prop where
 | k {kvs:List (bh×V)}:j6 H (.dK kvs) (kvs.map λp=>(kV p.1,p.2))
 | t {kvs:List (List bh×V)} {prs:List (V×V)}:Paired (λ(p:List bh×V) (q:V×V)=>(∃b,q.1=.ref b/\H b=some (.tup<|p.1.map kV))/\p.2=q.2) kvs prs->j6 H (.dT kvs) prs
structure Iy(ob:Obj)(es:Array Ry)(ep:Nat)(prs:List (V×V)):Prop where
 ex:ob.ExactDict
 dat:ob.data=.dict es ep
 len:es.size=prs.length
 get:∀(i:Nat) (k v:V),prs[i]?=some (k,v)->∃e,es[i]?=some e/\aI k e.key/\aI v e.val
theorem Eg{k:bh}{u:OC}(h:(aW prog w).is k u=true):aI (kV k) u:=by
 cases k with
 | inl n=>
  have h:SR n u=true:=h;cases u<;>simp[SR] at h;exact⟨_,by rw[h]⟩
 | inr x=>
  have h:UT x u=true:=h;cases u<;>simp[UT,Value.isStr] at h;exact⟨_,by rw[h]⟩
theorem Bu{kvs:List (bh×V)}{vs:List (bh×OC)}(r:KV kvs vs){l:List Ry}(p:Pairs (aW prog w) l vs):l.length=kvs.length/\∀(i:Nat) (k v:V),(kvs.map λp=>(kV p.1,p.2))[i]?=some (k,v)->∃e,l[i]?=some e/\aI k e.key/\aI v e.val:=by
 induction r generalizing l with
 | nil=>cases p;exact⟨rfl,λi k v e=>by simp at e⟩
 | @cons x q xs qs h t f=>
  cases p with
  | @cons e _ es _ m j p=>
   obtain⟨l1,d⟩:=f p;refine⟨by simp[l1],λi k v c=>?_⟩;cases i with
   | zero=>
    simp at c;obtain⟨rfl,rfl⟩:=c;refine⟨e,rfl,?_,by rw[j];exact h.2⟩;have h0:=m;rw[<-h.1] at h0;exact Eg h0
   | succ i=>
    simp only[O8,Q8] at c ⊢;exact d i k v c
theorem Bv{h:Pk}{a:OD}{u:HO}(ok:bj P w H h a u)(hu:pR u=true):∃ob es ep c,h.get? a=some ob/\Iy ob es ep c/\j6 H u c/\(a==QO)=false:=by
 cases u with
 | dK kvs=>
  obtain⟨z,hd,vs,r,o,es,ep,L,I,C,j,O,e6⟩:=ok;obtain⟨l1,Y⟩:=Bu r O;refine⟨o,es,ep,_,L,⟨I,C,by rw[Ps,<-l1];simp,λi k v q=>?_⟩,.k,hd⟩;obtain⟨e,q1,q2⟩:=Y i k v q;exact⟨e,by simpa using q1,q2⟩
 | dT kvs=>
  obtain⟨z,hd,xs,r,o,es,ep,L,I,C,j,O⟩:=ok;have key:∀{l:List (List bh×V)} {m:List (List bh×OD×OC)},Paired (λ(p:List bh×V) (q:List bh×OD×OC)=>p.1=q.1/\H q.2.1=some (.tup<|p.1.map kV)/\aI p.2 q.2.2) l m ->
    ∃c:List (V×V),Paired (λ(p:List bh×V) (q:V×V)=>(∃b,q.1=.ref b/\H b=some (.tup<|p.1.map kV))/\p.2=q.2) l c/\c.length=m.length/\∀(i:Nat) (k v:V),c[i]?=some (k,v)->∃x,m[i]?=some x/\k=.ref x.2.1/\aI v x.2.2:=by
   intro l m U
   induction U with
   | nil=>exact⟨[],.nil,rfl,λi k v e=>by simp at e⟩
   | @cons p q ps qs h t Z=>
    obtain⟨c,f,d,i3⟩:=Z;refine⟨(.ref q.2.1,p.2)::c,.cons ⟨⟨q.2.1,rfl,h.2.1⟩,rfl⟩ f,by simp[d],λi k v e=>?_⟩;cases i with
    | zero=>
     simp at e;obtain⟨rfl,rfl⟩:=e;exact⟨q,rfl,rfl,h.2.2⟩
    | succ i=>
     simp only[Q8] at e ⊢;exact i3 i k v e
  obtain⟨c,f,d,i3⟩:=key r;have hsz:es.size=xs.length:=by rw[<-Px,j,Ps]
  refine⟨o,es,ep,c,L,⟨I,C,by rw[hsz,d],λi k v q=>?_⟩,.t f,hd⟩;obtain⟨x,q1,rfl,Q⟩:=i3 i k v q;refine⟨Yq (Tw<|aW P w) x,?_,rfl,Q⟩;rw[<-Rr,j,Pv,q1];rfl
 | _=>cases hu
def NP(a:OD)(ob:Obj)(u:HO)(c:List (V×V)):It :=
 ⟨λi H=>H a=some (.frz ob u)/\i<c.length,λi H x d=>∃T k v,H T=none/\c[i]?=some (k,v)/\x=.ref T/\d=upd H T (.tup [k,v]),λi H=>H a=some (.frz ob u)/\c.length≤i⟩
def NQ(a:OD)(ob:Obj)(u:HO)(c:List (V×V)):It :=
 ⟨λi H=>H a=some (.frz ob u)/\i<c.length,λi H x d=>d=H/\∃v,c[i]?=some (x,v),λi H=>H a=some (.frz ob u)/\c.length≤i⟩
section
theorem yh{m:List O4}{r:Nat}{a it:OD}{ob:Obj}{u:HO}{es:Array Ry}{ep:Nat}{c:List (V×V)}(j:Iy ob es ep c) :
  AF P w K (.Tuple m r pos) (NP a ob u c) [it] it (λi h=>∃ok d,SO h it a i es.size ep ok d) where
 mem:=by simp
 obj:=λi h st b hb=>by
  have e:b=it:=by simpa using hb
  subst e;obtain⟨ok,d,e⟩:=st;exact⟨_,e,λv z=>by cases z⟩
 keep:=λi h h' st k=>by
  obtain⟨ok,d,e⟩:=st;exact⟨ok,d,k it (by simp) _ e⟩
 item:=by
  intro X hP C U hc i pins s σ H E I Q st O;subst hP C U;obtain⟨hz,L⟩:=O;obtain⟨ok,d,st⟩:=st;obtain⟨f,_⟩:=I.hok a _ hz;obtain⟨⟨k,v⟩,hp⟩:∃p,c[i]?=some p:=⟨c[i],by simp[L]⟩
  obtain⟨e,he,rk,rv⟩:=j.get i k v hp;obtain⟨l,f1,f2,f3,Z,Y⟩:=Q it (by simp);have hne:a≠it:=λz=>by rw[z,l] at hz;cases hz
  have lt:it<s.heap.objs.size:=OO st;refine Ef st ⟨f,j.ex,j.dat⟩ he λh1 o1 t1 z1 k1=>⟨_,rfl,?_⟩
  refine wpAny_letOwnedTupleGo_items (s:={s with heap:=h1}) o1 λx i2 s2=>?_;have hT:=I.hok.fresh (OU s.heap.objs.size);have r:∀b o,b≠it->h1.get? b=some o->x.get? b=some o:=λb o n q=>(s2.2 b n).trans q;have tT:x.get? s.heap.objs.size=some {cls:=.type "tuple",data:=.seq #[e.key,e.val]}:=r _ _ (So lt) t1;have Il:ay X pins σ (upd H s.heap.objs.size<|.tup [k,v]) {s with heap:=s.heap.push {cls:=.type "tuple",data:=.seq #[e.key,e.val]}} :=
   I.laid (t':=s.toks) (λb o q=>OF _ q) (OU _) ⟨by show 2≤OR;decide,[e.key,e.val],.cons rk<|.cons rv .nil,⟨_,OQ _ rfl,rfl,_,rfl⟩⟩
  have Ic:ay X pins σ (upd H s.heap.objs.size<|.tup [k,v]) {s with heap:=x}:=by
   refine ay.turned (s:={s with heap:=s.heap.push {cls:=.type "tuple",data:=.seq #[e.key,e.val]}}) (t':=s.toks) (h':=x) (it:=it) Il (λb o n q=>?_) (by rw[al (O0 lt)];exact l) f1 f3 Z Y;rcases Heap.get?_push_cases q with ⟨z1,z2⟩ | q
   ·subst z1 z2;exact tT
   ·exact r b o n (k1 b o n q)
  exact⟨.ref s.heap.objs.size,_,Ic,rfl,⟨_,k,v,hT,hp,rfl,rfl⟩,⟨_,_,i2⟩,λb hb=>by
   have:b=it:=by simpa using hb
   subst this;rw[al (O0 lt)];exact l⟩
 done:=by
  intro X hP C U hc i pins s σ H E I Q st O;subst hP C U;obtain⟨hz,L⟩:=O;obtain⟨ok,d,st⟩:=st;obtain⟨f,_⟩:=I.hok a _ hz;obtain⟨l,f1,f2,f3,Z,Y⟩:=Q it (by simp);exact GH (I.ok.hd hc) st ⟨f,j.ex,j.dat⟩ (by rw[j.len];exact L) λh' eb=>⟨rfl,I.turned (t':=s.toks) (λb o hb e=>eb b o hb e) l f1 f3 Z Y⟩
 self:=λ_ i _ _ _ st h=>by
  obtain⟨ok,d,st⟩:=st;exact yg st h
def yi(H₀:Hp)(d:TE):TI:=λσ H R=>d σ H λx H1=>∃a u,x=.ref a/\H1 a=some u/\pR u=true/\∀ob c,j6 H1 u c->(∀o w,H₀ a≠some (.frz o w))->R (NP a ob u c) (upd H1 a<|.frz ob u)
theorem wc{C:List O4}{kk:Nat}{p i f:Pos}{o:O4}{O:TE}(ho:PE X o O)(m:Pi o "items" X.env (Pq o X.env)=Pq o X.env:=by nofun)(l:(i.endLine==f.line)=true:=by nofun) :
  PI X (.Tuple C kk p) (.Call (.Attribute o "items" i) [] [] f) (yi X.H₀ O):=by
 intro pins s σ H R I h;refine wpAny_Call_method0_late m l (bi (ho pins s σ H _ I h) λv c Y=>?_);obtain⟨x,H1,I1,Z,a,u,ex,U,Q,q⟩:=Y;subst ex;cases Z;obtain⟨ob,es,ep,L,j,r,pr,z⟩:=Bv (I1.hok a u U) Q;have ty:c.TypeIs (.ref a) "dict":=⟨ob,j,r.ex.1⟩
 refine⟨"dict","dict.items",P0,U9,PySem.F.type_dict_items,ty,λb e=>by cases e;exact⟨ob,j,r.ex.2.1⟩,Re rfl<|PySem.evalArgs_none ?_⟩;refine Sq U9 ty PySem.F.entry_dict_items (PySem.F.args_dict_items_1 _) (Ed z) ⟨ty,?_⟩;have I2:ay X pins σ H1 {c with heap:=c.heap.push {cls:=.type "dict_items",data:=.fields #[.ref a]}}:=I1.kept (t':=c.toks) λb o e=>OF _ e;have d:(c.heap.push {cls:=.type "dict_items",data:=.fields #[.ref a]}).get? a=some ob:=OF _ j;refine Ee (s:={c with heap:=c.heap.push {cls:=.type "dict_items",data:=.fields #[.ref a]}}) ⟨_,OQ _ rfl,rfl,rfl⟩ ⟨d,r.ex,r.dat⟩ ?_;obtain⟨If,nf⟩:=I2.freeze Q U d;have I3:=If.kept (h':=(c.heap.push {cls:=.type "dict_items",data:=.fields #[.ref a]}).push {cls:=.type "dict_itemiterator",data:=.fields #[.none,.bool false,.ref a,.int 0 0,.int es.size 0,.int ep 0,.none,.none]}) (t':=c.toks) λb o e=>OF _ e;refine⟨_,[(c.heap.push {cls:=.type "dict_items",data:=.fields #[.ref a]}).objs.size],_,_,_,rfl,I3,yh r,⟨.none,.none,OQ _ rfl⟩,λb hb=>?_,q ob L pr nf⟩;have e:b=(c.heap.push {cls:=.type "dict_items",data:=.fields #[.ref a]}).objs.size:=by simpa using hb
 subst e;exact If.fpOk (OU _) (If.hok.fresh<|OU _)
theorem Bw{tg:O4}{a it:OD}{ob:Obj}{kvs:List (bh×V)}{vs:List (bh×OC)}{ep:Nat}(U:KV kvs vs)(j:∃es,ob.ExactDict/\ob.data=.dict es ep/\KeysOf (aW P w) es/\Pairs (aW P w) es.toList vs/\(vs.map (·.1)).Nodup) :
  AF P w K tg (NQ a ob (.dK kvs)<|kvs.map λp=>(kV p.1,p.2)) [it] it (λi h=>h.IsKeyIter it a i vs.length ep) where
 mem:=by simp
 obj:=λi h st b hb=>by
  have e:b=it:=by simpa using hb
  subst e;obtain⟨o,e,c,d⟩:=st;exact⟨o,e,λv z=>by rw[d] at z;cases z⟩
 keep:=λi h h' st k=>st.at λo e=>k it (by simp) o e
 item:=by
  intro X hP Q Z hc i pins s σ H E I L st Y;subst hP Q Z;obtain⟨hz,C⟩:=Y;obtain⟨f,_⟩:=I.hok a _ hz;obtain⟨es,j⟩:=j;rw[Ps] at C;have hl:=Pm U;have hv:i<vs.length:=by omega
  have hx:vs[i]?=some (vs[i].1,vs[i].2):=Pd hv;obtain⟨f0,f1,f2,f3,f4,f5⟩:=L it (by simp);refine wpAny_pyNext_dict_item st ⟨ob,es,f,j⟩ hx λkey h' x u sb=>?_;have I1:ay X pins σ H {s with heap:=h'}:=I.turned (t':=s.toks) (λb o hb e=>(sb.2 b hb).trans e) f0 f1 f3 f4 f5;obtain⟨o,e,c,d⟩:=id u;have kp:∀{l:List (bh×V)} {m:List (bh×OC)} (r:KV l m) (i:Nat) (O:i<l.length) (h2:i<m.length),l[i].1=m[i].1:=by
   intro l m r;unfold KV at r
   induction r with
   | nil=>intro i O;simp at O
   | cons h t ih=>
    intro i O h2;cases i with
    | zero=>exact h.1
    | succ i=>exact ih i (by simpa using O) (by simpa using h2)
  refine⟨key,rfl,CI (s:={s with heap:=h'}) e c d (by decide) ⟨kV kvs[i].1,H,I1,?_,⟨rfl,kvs[i].2,by simp[C]⟩,u,λb hb=>(L b hb).1⟩⟩;rw[kp U i C (by omega)];exact Eg x
 done:=by
  intro X hP Q Z hc i pins s σ H E I L st Y;subst hP Q Z;obtain⟨hz,C⟩:=Y;obtain⟨f,_⟩:=I.hok a _ hz;obtain⟨es,j⟩:=j;rw[Ps] at C;have hl:=Pm U;obtain⟨f0,f1,f2,f3,f4,f5⟩:=L it (by simp);exact wpAny_pyNext_dict_end (I.ok.hd hc) st ⟨ob,es,f,j⟩ (by simp;omega) λh' eb=>⟨rfl,I.turned (t':=s.toks) (λb o hb e=>eb b o hb e) f0 f1 f3 f4 f5⟩
 self:=λ_ _ _ _ _ st h=>wpAny_pyIter_keyiter st h
def wd(H₀:Hp)(c:TE):TI:=λσ H R=>c σ H λx H1=>∃a kvs,x=.ref a/\H1 a=some (.dK kvs)/\∀ob,(∀o w,H₀ a≠some (.frz o w))->R (NQ a ob (.dK kvs)<|kvs.map λp=>(kV p.1,p.2)) (upd H1 a<|.frz ob<|.dK kvs)
theorem zR{m o:O4}{d:TE}(ho:PE X o d):PI X m o (wd X.H₀ d):=by
 intro pins s σ H R I h;refine bi (ho pins s σ H _ I h) λv c l=>?_;obtain⟨x,H1,I1,p,a,kvs,ex,i,q⟩:=l;subst ex;cases p;obtain⟨z,hd,vs,r,ob,es,ep,j,f⟩:=I1.hok a _ i;refine wpAny_pyIter_dict hd ⟨ob,es,j,f⟩ ?_;obtain⟨If,C⟩:=I1.freeze (u:=.dK kvs) rfl i j;have I3:=If.kept (h':=c.heap.push {cls:=.type "dict_keyiterator",data:=.fields #[.ref a,.int 0 0,.int vs.length 0,.int ep 0]}) (t':=c.toks) λb o e=>OF _ e;refine⟨_,[c.heap.objs.size],_,_,_,rfl,I3,Bw r ⟨es,f⟩,⟨_,OQ _ rfl,rfl,rfl⟩,λb hb=>?_,q ob C⟩;have e:b=c.heap.objs.size:=by simpa using hb
 subst e;exact If.fpOk (OU _) (If.hok.fresh<|OU _)
end
def yj(H₀:Hp)(Q:Hp->Prop)(H:Hp):Prop:=∃a ob u,H a=some (.frz ob u)/\(∀o w,H₀ a≠some (.frz o w))/\Q (upd H a u)
theorem PS.thaw{t:TS}(h:PS X st t):PS X st (λD σ H=>t {D with nx:=λc d=>yj X.H₀ (D.nx c) d} σ H):=by
 intro pins s σ H D I q;refine bi (h pins s σ H _ I q) λf m q1=>?_;cases f with
 | next=>
  obtain⟨c,d,l,a,ob,u,j,i,q2⟩:=q1;exact⟨c,_,l.thaw j i,q2⟩
 | ret v=>exact q1
 | brk=>exact q1
 | cont=>exact q1
end L2
namespace RB
open PySem L2
def JW(S:aN)(x:AV):Option (Nat×aN):=match x with
 | .ref n=>match S.t.get n with
  | some (.dk kvs)=>some (n,S.set n (.fz<|.dk kvs))
  | some (.dt kvs)=>some (n,S.set n (.fz<|.dt kvs))
  | _=>none
 | _=>none
def JX(S:aN)(x:AV):Option (Nat×aN):=match x with
 | .ref n=>match S.t.get n with
  | some (.dk kvs)=>some (n,S.set n (.fz<|.dk kvs))
  | _=>none
 | _=>none
def zS(S:aN)(n:Nat):Option aN:=match S.t.get n with
 | some (.fz o)=>some (S.set n o)
 | _=>none
def Eh(n:Nat)(k:er->aN->Bool):er->aN->Bool:=λσ S=>match zS S n with
 | some c=>k σ c
 | none=>false
def we(n:Nat)(k:AV->aN->Bool):AV->aN->Bool:=λv S=>match zS S n with
 | some c=>k v c
 | none=>false
def yk(keys:Bool)(S:aN)(x:AV):Option (Nat×aN):=match keys with
 | true=>JX S x
 | false=>JW S x
def Ei(keys:Bool)(n:Nat):zN:=match keys with
 | true=>.dks n
 | false=>.dit n
def LY(fuel:Nat)(keys:Bool)(a:BE)(t:BG)(s:BS):BS:=λd σ S=>a σ S λx f=>match yk keys f x with
 | some (n,c)=>Bm t s ⟨Eh n d.nx,d.rt,d.bk,d.ct⟩ (Ei keys n) fuel 0 σ c
 | none=>false
def Ej(fuel:Nat)(keys:Bool)(ix:List (Option Nat))(a:BE)(t:BG)(c:BT)(d:BE):BE:=λσ S k=>a σ S λx h=>match yk keys h x with
 | some (n,f)=>JQ (vq ix σ) t c d (we n k) (Ei keys n) fuel 0 [] f
 | none=>false
section
variable{S:aN}
theorem pS{c:AV}{k:bh}(h:gw c k):aQ F y ρ H c (kV k):=by
 cases c with
 | int s lo d=>cases s with
  | true=>exact h.elim
  | false=>obtain⟨e,rfl⟩:=h;exact⟨lo,rfl,RD _,by omega⟩
 | str i=>obtain⟨x,e,rfl⟩:=h;exact⟨x,e,rfl⟩
 | _=>exact h.elim
theorem pU:∀{c:AV} {ks:List bh},gz c ks->rc F y ρ H c (ks.map kV)
 | .tn,_,h=>by cases h;rfl
 | .tc a b,_,⟨k,r,e,f,d⟩=>by subst e;exact⟨kV k,r.map kV,rfl,pS f,pU d⟩
 | .non,_,h=>h.elim
 | .bl _,_,h=>h.elim
 | .int _ _ _,_,h=>h.elim
 | .str _,_,h=>h.elim
 | .ref _,_,h=>h.elim
 | .ext _,_,h=>h.elim
theorem Bx{c:AV}{ks:List bh}{b:OD}(h:gz c ks)(hb:H b=some (.tup<|ks.map kV)):aQ F y ρ H c (.ref b):=by
 have t:=pU (F:=F) (y:=y) (ρ:=ρ) (H:=H) h;cases c with
 | tn=>cases h;exact⟨b,rfl,hb⟩
 | tc p q=>
  obtain⟨w,d,e,i,f⟩:=t;exact⟨b,w,d,rfl,by rw[hb,e],i,f⟩
 | _=>exact h.elim
theorem zT(C:aH g F y ρ S H){ax:AV}{x:V}(i:aQ F y ρ H ax x){n:Nat}{j:aN}(h:JW S ax=some (n,j)):∃a u,x=.ref a/\ax=.ref n/\ρ[n]?=some a/\H a=some u/\pR u=true /\
  ∀ob,aA F y ρ H y ρ (upd H a<|.frz ob u)/\aH g F y ρ j (upd H a<|.frz ob u):=by
 cases ax with
 | ref m=>
  unfold JW at h;dsimp only at h;cases q:S.t.get m with
  | none=>rw[q] at h;cases h
  | some o=>
   rw[q] at h;cases o with
   | dk kvs=>
    cases h;obtain⟨a,ks,rfl,c,d,f⟩:=C.dk i q;refine⟨a,.dK ks,rfl,rfl,c,d,rfl,λob=>?_⟩;have st:aA F y ρ H y ρ (upd H a<|.frz ob<|.dK ks):=aA.set C c d;exact⟨st,C.set c d (o:=.fz (.dk kvs)) (ob:=⟨ob,_,rfl,ks,rfl,aT (λ_ _ z=>⟨z.1,aQ.mono st z.2⟩) f⟩)⟩
   | dt kvs=>
    cases h;obtain⟨a,ks,rfl,c,d,f⟩:=C.dt i q;refine⟨a,.dT ks,rfl,rfl,c,d,rfl,λob=>?_⟩;have st:aA F y ρ H y ρ (upd H a<|.frz ob<|.dT ks):=aA.set C c d;exact⟨st,C.set c d (o:=.fz (.dt kvs)) (ob:=⟨ob,_,rfl,ks,rfl,aT (λ_ _ z=>⟨z.1,aQ.mono st z.2⟩) f⟩)⟩
   | _=>cases h
 | _=>cases h
theorem zU(C:aH g F y ρ S H){ax:AV}{x:V}(i:aQ F y ρ H ax x){n:Nat}{f:aN}(h:JX S ax=some (n,f)):∃a ks,x=.ref a/\ax=.ref n/\ρ[n]?=some a/\H a=some (.dK ks) /\
  ∀ob,aA F y ρ H y ρ (upd H a<|.frz ob<|.dK ks)/\aH g F y ρ f (upd H a<|.frz ob<|.dK ks):=by
 cases ax with
 | ref m=>
  unfold JX at h;dsimp only at h;cases q:S.t.get m with
  | none=>rw[q] at h;cases h
  | some o=>
   rw[q] at h;cases o with
   | dk kvs=>
    cases h;obtain⟨a,ks,rfl,c,d,j⟩:=C.dk i q;refine⟨a,ks,rfl,rfl,c,d,λob=>?_⟩;have st:aA F y ρ H y ρ (upd H a<|.frz ob<|.dK ks):=aA.set C c d;exact⟨st,C.set c d (o:=.fz (.dk kvs)) (ob:=⟨ob,_,rfl,ks,rfl,aT (λ_ _ z=>⟨z.1,aQ.mono st z.2⟩) j⟩)⟩
   | _=>cases h
 | _=>cases h
theorem GI{u:HO}{c:List (V×V)}{kvs:List (AV×AV)}{o:AO}(l:j6 H u c)(ho:dO F y ρ H g o u)(e:o=.dk kvs∨o=.dt kvs):Paired (λp q=>aQ F y ρ H p.1 q.1/\aQ F y ρ H p.2 q.2) kvs c:=by
 cases l with
 | @k ks=>
  rcases e with rfl | rfl
  ·obtain⟨f,e,d⟩:=ho;cases e
   induction d with
   | nil=>exact .nil
   | cons h t i=>exact .cons ⟨pS h.1,h.2⟩ i
  ·obtain⟨_,e,_⟩:=ho;cases e
 | @t ks c j=>
  rcases e with rfl | rfl
  ·obtain⟨_,e,_⟩:=ho;cases e
  ·obtain⟨f,e,d⟩:=ho;cases e
   induction d generalizing c with
   | nil=>cases j;exact .nil
   | cons h t i=>
    cases j with
    | cons h' t'=>
     obtain⟨⟨b,r,m⟩,e3⟩:=h';refine .cons ⟨?_,?_⟩ (i t')
     ·rw[r];exact Bx h.1 m
     ·rw[<-e3];exact h.2
theorem pV{H d:Hp}(ht:∀b vs,H b=some (.tup vs)->d b=some (.tup vs)){u:HO}{c:List (V×V)}(h:j6 H u c):j6 d u c:=by
 cases h with
 | k=>exact .k
 | t f=>exact .t (Paired.mapP f λ_ _ ⟨⟨b,l,j⟩,i⟩=>⟨⟨b,l,ht _ _ j⟩,i⟩)
theorem kP{c d:Type}{R:c->d->Prop}:∀{xs:List c} {ys:List d} {i:Nat} {a:c},Paired R xs ys->xs[i]?=some a->∃b,ys[i]?=some b/\R a b
 | _,_,_,_,.nil,e=>by simp at e
 | _,_,0,_,.cons r _,e=>by simp at e;subst e;exact⟨_,rfl,r⟩
 | _,_,i+1,a,.cons _ t,e=>by
  obtain⟨v,h,f⟩:=kP (i:=i) (a:=a) t (by simpa using e);exact⟨v,by simpa using h,f⟩
theorem GJ{c:aN}{n:Nat}{kvs:List (AV×AV)}(h:ye c n=some kvs):∃o,c.t.get n=some (.fz o)/\(o=.dk kvs∨o=.dt kvs):=by
 unfold ye at h;split at h
 ·cases h;exact⟨_,‹_›,.inl rfl⟩
 ·cases h;exact⟨_,‹_›,.inr rfl⟩
 ·cases h
theorem zV{a:OD}{ob:Obj}{u:HO}{d:List (V×V)}{n:Nat}(i:ρ[n]?=some a)(C:H a=some (.frz ob u))(z:j6 H u d){f:Option Int}{c:List OD}{r:aN}{H1:Hp}(st:aA F y ρ H f c H1)(C1:aH g F f c r H1){kvs:List (AV×AV)}(h:ye r n=some kvs) :
  H1 a=some (.frz ob u)/\Paired (λp q=>aQ F f c H1 p.1 q.1/\aQ F f c H1 p.2 q.2) kvs d:=by
 have j:=st.frz a ob u C;obtain⟨o,e,O⟩:=GJ h;obtain⟨Y,ho,m,l,L⟩:=C1.at_ n a (st.mem i);rw[e] at m;cases m;rw[j] at l;cases l;obtain⟨x,U,Q,I⟩:=L;cases Q;exact⟨j,GI (pV st.tup z) I O⟩
theorem sH{a:OD}{ob:Obj}{u:HO}{f:List (V×V)}{n:Nat}(h:ρ[n]?=some a)(O:H a=some (.frz ob u))(L:j6 H u f):pN g F y ρ H (.dit n) (NP a ob u f):=by
 refine⟨λj d Z H1 i st C1=>?_⟩;unfold zN.nxt;dsimp only;cases q:ye Z n with
 | none=>exact⟨λ_ e=>(nomatch e),λe=>(nomatch e)⟩
 | some kvs=>
  obtain⟨o,l⟩:=zV h O L st C1 q;have hl:=Pm l;dsimp only;cases q2:kvs[i]? with
  | none=>
   refine⟨λ_ e=>(nomatch e),λ_=>⟨o,?_⟩⟩;have:=Pj.mp q2;omega
  | some p=>
   obtain⟨Y,av⟩:=p;obtain⟨⟨k,v⟩,Q,I,C⟩:=kP l q2;have hi:=(OL.mp q2).1;refine⟨λU e=>⟨⟨o,by omega⟩,λx H' z=>?_⟩,λe=>(nomatch e)⟩;cases e;obtain⟨T,k',v',m,r,rfl,rfl⟩:=z;rw[Q] at r;cases r;have c:aA F j d H1 j d (upd H1 T<|.tup [k,v]):=aA.lay m;exact⟨c,C1.lay m,aQ.chain (xs:=[Y,av]) aq<|.cons (aQ.mono c I)<|.cons (aQ.mono c C) .nil⟩
theorem wf{a:OD}{ob:Obj}{u:HO}{c:List (V×V)}{n:Nat}(d:ρ[n]?=some a)(z:H a=some (.frz ob u))(r:j6 H u c):pN g F y ρ H (.dks n) (NQ a ob u c):=by
 refine⟨λO l L H1 i st C1=>?_⟩;unfold zN.nxt;dsimp only;cases q:ye L n with
 | none=>exact⟨λ_ e=>(nomatch e),λe=>(nomatch e)⟩
 | some kvs=>
  obtain⟨h,f⟩:=zV d z r st C1 q;have Y:=Pm f;dsimp only;cases q2:kvs[i]? with
  | none=>
   refine⟨λ_ e=>(nomatch e),λ_=>⟨h,?_⟩⟩;have:=Pj.mp q2;omega
  | some p=>
   obtain⟨ak,av⟩:=p;obtain⟨⟨k,v⟩,C,o,U⟩:=kP f q2;have Z:=(OL.mp q2).1;refine⟨λI e=>⟨⟨h,by omega⟩,λx H' m=>?_⟩,λe=>(nomatch e)⟩;cases e;obtain⟨rfl,Q,j⟩:=m;rw[C] at j;cases j;exact⟨.refl,C1,o⟩
theorem By{a:OD}{ob:Obj}{u:HO}{n:Nat}{c:er}{σ:L2.St}(d:ρ[n]?=some a)(e:H a=some (.frz ob u))(r:bn g F y ρ H c σ):bn g F y ρ (upd H a u) c σ:=by
 have f:∀b vs,H b=some (.tup vs)->(upd H a u) b=some (.tup vs):=λb vs q=>by rw[al λz=>by rw[z,e] at q;cases q];exact q
 have mo:Mo y ρ H y ρ (upd H a u):=⟨λ_ h=>h,λh=>h,f⟩
 refine⟨aT (λx v i=>?_) r.v,r.e.mono0 ⟨λ_ h=>h,⟨[],by simp⟩,λ_ h=>.inl h,λb o q n _=>?_,f,λb q=>?_⟩⟩
 ·cases x with
  | none=>trivial
  | some x=>cases v with
   | none=>exact i
   | some v=>exact aQ.monoM mo (av:=x) i
 ·rw[al λz=>n (by rw[z];exact O9 d)];exact q
 ·by_cases z:b=a
  ·subst z;rw[aq] at q;cases q
  ·rw[al z] at q;exact q
theorem wg{a:OD}{ob:Obj}{u:HO}{av:AV}{v:V}(e:H a=some (.frz ob u))(r:aQ F y ρ H av v):aQ F y ρ (upd H a u) av v :=
 aQ.monoM ⟨λ_ h=>h,λh=>h,λb vs q=>by rw[al λz=>by rw[z,e] at q;cases q];exact q⟩ r
theorem uE{a:OD}{ob:Obj}{u:HO}{n:Nat}{H0 H1:Hp}{f:Option Int}{c:List OD}{m l:aN}(d:ρ[n]?=some a)(z:H a=some u)(x:pR u=true)(st:aA F y ρ (upd H a<|.frz ob u) f c H1)(i:aA F y ρ H y ρ (upd H a<|.frz ob u))(C1:aH g F f c m H1)(h:zS m n=some l) :
  H1 a=some (.frz ob u)/\aA F y ρ H f c (upd H1 a u)/\aH g F f c l (upd H1 a u):=by
 have j:=st.frz a ob u aq;obtain⟨I,r,C,p⟩:=uD x;unfold zS at h;split at h
 ·rename_i o q;cases h;exact⟨j,(i.trans st).thaw (O9 d) z r p,C1.thaw (st.mem d) j q⟩
 ·cases h
end
section
variable{a b c e o tg:O4}{ba bb bc:BE}{bt:BT}{br:BA}{s1 s2:BS}{body:List Rs}
theorem zW(fuel:Nat){z:List O4}{kk:Nat}{l i f:Pos}{t:BG}(hp:Wb (OP X.prog X.w) X.A X.env X.xe)(hc:X.calm=true)(ho:PE X o (up g ba))(hg:PG X (.Tuple z kk l) (nj g sl t))(hb:gu X body (de g s1))
  (O:Pi o "items" X.env (Pq o X.env)=Pq o X.env:=by nofun) (L:(i.endLine==f.line)=true:=by nofun)
  (hs:∀x,Qu (.Call (.Attribute o "items" i) [] [] f) X.env x=pure x:=by with_unfolding_all (intro _;rfl)) :
  PS X (.For (.Tuple z kk l) (.Call (.Attribute o "items" i) [] [] f) body [] pos) (de g<|LY fuel false ba t s1):=by
 refine PS.imp (λD σ H hx=>MS hx λF y ρ S σa d C r h p pr pb pc=>?_) (PS.thaw<|CJ hp hc (wc ho O L) hg hb hs);refine ar C r h λy1 ρ1 S1 H1 ax x st C1 r1 rx h1=>?_;cases q:yk false S1 ax with
 | none=>simp only[q] at h1;cases h1
 | some m=>
  obtain⟨n,S2⟩:=m;simp only[q] at h1;obtain⟨a,u,rfl,rfl,I,ha,hu,fr⟩:=zT C1 rx q;refine⟨a,u,rfl,ha,hu,λob prs Z nf=>?_⟩;obtain⟨j,Cf⟩:=fr ob;refine v6 Cf (bn.mono j r1) (sH I aq<|pV j.tup Z) h1 (λy3 ρ3 S3 H3 U σ4 Y C3 r3 Q=>?_) ((pr.mono st).mono j);have Q:Eh n d.nx U S3=true:=Q;unfold Eh at Q;split at Q
  ·rename_i S4 q4;obtain⟨t1,t2,t3⟩:=uE (H0:=H1) I ha hu Y j C3 q4;obtain⟨m1,m2,m3,m4⟩:=uD hu;refine⟨a,ob,u,t1,nf,p y3 ρ3 S4 _ U σ4 (st.trans t2) t3 ?_ Q⟩;exact By (Y.mem I) t1 r3
  ·cases Q
theorem wj(fuel:Nat)(keys:Bool){t:BG}{tt:BT}{te:BE}{n:Nat}{a:OD}{ob:Obj}{u:HO}{y h:Option Int}{ρ d:List OD}{S2:aN}{H H1:Hp}{k:AV->aN->Bool}{Q:VK}{σ:L2.St}{l:er}{J:It}{H₀:Hp}
  (Y:∀j∈sl,ix[j]?=some none) (st:aA F y ρ H h d H1) (r1:bn g F h d H1 l σ) (U:d[n]?=some a) (ha:H1 a=some u) (hu:pR u=true) (r:aA F h d H1 h d (upd H1 a<|.frz ob u)) (Cf:aH g F h d S2 (upd H1 a<|.frz ob u)) (nf:∀o w,H₀ a≠some (.frz o w))
  (so:pN g F h d (upd H1 a<|.frz ob u) (Ei keys n) J) (h1:JQ (vq ix l) t tt te (we n k) (Ei keys n) fuel 0 [] S2=true) (p:gS g F y ρ H k Q):∃W:Nat->Nat->List V->Hp->Prop,(∃m,W 0 m [] (upd H1 a<|.frz ob u))/\∀i m ys H,W i m ys H->ys.length<OR /\
 ((J.stop i H/\∀p,H p=none->yj H₀ (Q<|.ref p) (upd H p<|.lst ys))∨(J.go i H/\∀x I,J.yld i H x I->nj g sl t x (jM ix σ) I λf H2=>L2.xO (jM ix σ) f/\fE g tt f H2 λb Z=>
  if b=true then up g te f Z λy H4=>∃z,z < m/\W (i+1) z (ys++[y]) H4 else ∃z,z < m/\W (i+1) z ys Z)):=by
 refine zO (Q:=λv I=>yj H₀ (Q v) I) Y Cf (bn.mono r r1) so h1 λy3 L S3 Z av v O C3 rv C=>?_;unfold we at C;split at C
 ·rename_i S4 q4;obtain⟨t1,t2,t3⟩:=uE (H0:=H1) U ha hu O r C3 q4;exact⟨a,ob,u,t1,nf,p y3 L S4 _ av v (st.trans t2) t3 (wg t1 rv) C⟩
 ·cases C
theorem GK(fuel:Nat){t:BG}{I:BT}{L:BE}{H₀:Hp}(z:∀j∈sl,ix[j]?=some none):∀σ H Q,up g (Ej fuel false ix ba t I L) σ H Q->FY ix (yi H₀<|up g ba) (nj g sl t) (fE g I) (up g L) σ H (λv H'=>yj H₀ (Q v) H'):=λσ H Q hx=>ez hx λF y ρ S Y k C r h p=>
 ar C r h λy1 Z S1 H1 ax x st C1 r1 rx l=>by
  cases q:yk false S1 ax with
  | none=>simp only[q] at l;cases l
  | some m=>
   obtain⟨n,S2⟩:=m;simp only[q] at l;obtain⟨a,u,rfl,rfl,f,U,O,fr⟩:=zT C1 rx q;refine⟨a,u,rfl,U,O,λob prs i nf=>?_⟩;obtain⟨d,Cf⟩:=fr ob;exact wj fuel false z st r1 f U O d Cf nf (sH f aq<|pV d.tup i) l p
theorem GL(fuel:Nat){t:BG}{u:BT}{z:BE}{H₀:Hp}(l:∀j∈sl,ix[j]?=some none):∀σ H Q,up g (Ej fuel true ix ba t u z) σ H Q->FY ix (wd H₀<|up g ba) (nj g sl t) (fE g u) (up g z) σ H (λv H'=>yj H₀ (Q v) H'):=λσ H Q hx=>ez hx λF y ρ S L k C r h p=>
 ar C r h λy1 O S1 H1 ax x st C1 Y U f=>by
  cases q:yk true S1 ax with
  | none=>simp only[q] at f;cases f
  | some m=>
   obtain⟨n,S2⟩:=m;simp only[q] at f;obtain⟨a,ks,rfl,rfl,d,I,fr⟩:=zU C1 U q;refine⟨a,ks,rfl,I,λob Z=>?_⟩;obtain⟨i,Cf⟩:=fr ob;exact wj fuel true l st Y d I rfl i Cf Z (wf d aq .k) f p
theorem Bz(fuel:Nat)(i:Nat){t:BG}{m:BT}{u:BE}(l:∀j∈sl,ix[j]?=some none)(h:PS X st (jc (FY ix (yi X.H₀<|up g ba) (nj g sl t) (fE g m)<|up g u)<|fQ i)):PS X st (de g<|jQ (Ej fuel false ix ba t m u)<|cy i) :=
 PS.imp (λD σ H Q=>xY Q λF y ρ S z d C r h p _=>GK fuel l σ H _ (ar C r h λI f Y H1 ax x st C1 O L U=>p I f Y H1 _ _ st C1 (cZ O L) U)) (PS.thaw h)
end
end RB
namespace L2
open PySem PySem.Spec PyProof.Rows
def JY(ix:List (Option Nat))(j:TI)(g:TG)(l:TT)(tk o:TE):TE:=λσ H Q=>j σ H λJ H1=>∃W:Nat->Nat->List (bh×V)->Hp->Prop,(∃m,W 0 m [] H1)/\∀i m ys H,W i m ys H->ys.length<OR /\
 ((J.stop i H/\∀p,H p=none->Q (.ref p) (upd H p<|.dK ys))∨(J.go i H/\∀x h,J.yld i H x h->g x (jM ix σ) h λc z=>xO (jM ix σ) c/\l c z λb f=>
  if b=true then tk c f λkv u=>o c u λy r=>∃k,kv=kV k/\∃d,d < m/\W (i+1) d (dc ys k y) r else ∃d,d < m/\W (i+1) d ys f))
section
variable{sc:PQ}{Nc:List Str}{kx vx tg iter:O4}{ifs:List O4}{wi:TI}{g:TG}{tt:TT}{tk te:TE}
def gD(P:Ph)(w:Py)(kx vx:O4)(tk te:TE)(sc:PQ)(tg iter:O4)(ifs:List O4)(pos:Pos):Gt P w (bh×V) sc tg iter ifs where
 ty:="dict"
 dt:=.dict #[]
 dk:=by size_fits
 fr:=rfl
 mo:=.dK
 CE:=.DictComp kx vx [⟨tg,iter,ifs,0⟩] sc pos
 fin:=λD env=>do
  let kv <-Pq kx env;let c <-Rq [kv] (Pq vx env)
  Rp {kx.pos with endLine:=vx.pos.endLine,endCol:=vx.pos.endCol}
  Rq [kv,c] (dictSet D kv c)
 tf:=λys σ H Q=>tk σ H λkv H1=>te σ H1 λy j=>∃k,kv=kV k/\Q (dc ys k y) j
 r0:=λ{_ h D} e n=>⟨PY _,beq_eq_false_iff_ne.mpr n,[],.nil,_,#[],0,e,⟨rfl,rfl,rfl⟩,rfl,(λ_ z=>by simp at z),.nil,.nil⟩
 rO:=λx=>by
  obtain⟨z,n,its,v,d⟩:=x;obtain⟨o,es,ep,e,_,hd,_⟩:=id d;exact⟨o,e,(λv z=>by rw[hd] at z;cases z),λi=>⟨z,n,its,v,d.at λo f=>by rw[e] at f;cases f;exact i⟩⟩
 ht:=λ_ _ _=>rfl
 un:=λ_ _ _ _=>rfl
 hs:=codeAny_compStart_dict
 ev:=λ_=>⟨_,rfl⟩
 eu:=λ_ _=>⟨_,rfl⟩
 cl:=rfl
theorem LZ(x:PE X kx tk)(z:PE X vx te):PF X (gD X.prog X.w kx vx tk te sc tg iter ifs pos):=λpins D ys s σ H Q I C hz h=>OB (bi (x pins s σ H _ I h) λU j i=>da i λkv Hk O o p=>OB (Pg (bi (z pins j σ Hk _ O p) λy m ⟨v,H1,I1,r,k,L,q⟩=>by
 subst L;obtain⟨_,n,its,c,d⟩:=C I1;have l:=c.length;exact OB (Qm<|Pg<|wpAny_dictSet_pairs (hsz:=by rw[<-l];exact QP hz) (jg o) d λh' u f=>⟨_,_,m,_,_,rfl,I1,f,⟨by have:=(c.put k r).length;have:=stored_length_le its k y;omega,n,_,c.put k r,u⟩,q⟩))))
theorem Iz(j:X.calm=true)(S:aX X.env.scope X.N sc Nc ix)(f:PI X tg iter wi)(h:∀C s H ex pn,PG (dP X sc Nc C s H ex pn) tg g)(c:∀C s H ex pn,nW (dP X sc Nc C s H ex pn) ifs tt)(d:∀C s H ex pn,PE (dP X sc Nc C s H ex pn) kx tk)(i:∀C s H ex pn,PE (dP X sc Nc C s H ex pn) vx te)
  (hs:∀x,Qu iter X.env x=pure x:=by with_unfolding_all (intro _;rfl)):PE X (.DictComp kx vx [⟨tg,iter,ifs,0⟩] sc pos) (JY ix wi g tt tk te):=HM (G:=gD X.prog X.w kx vx tk te sc tg iter ifs pos) j S f h c (λC s H ex pn=>LZ (d C s H ex pn) (i C s H ex pn)) hs
theorem wl{i:Nat}{x:Str}{pos' c:Pos}(r:X.calm=true)(u:X.N.Nodup)(h:X.N[i]?=some x)(j:X.env.scope.names.lookup x=some .local)(S:aX X.env.scope X.N sc Nc ix)(m:PI X tg iter wi)(o:∀C s H ex pn,PG (dP X sc Nc C s H ex pn) tg g)
  (f:∀C s H ex pn,nW (dP X sc Nc C s H ex pn) ifs tt) (l:∀C s H ex pn,PE (dP X sc Nc C s H ex pn) kx tk) (p:∀C s H ex pn,PE (dP X sc Nc C s H ex pn) vx te)
  (d:Qq (.DictComp kx vx [⟨tg,iter,ifs,0⟩] sc pos) (some<|.Name x pos') c.line X.env=pure true:=by nofun)
  (hs:∀x,Qu iter X.env x=pure x:=by with_unfolding_all (intro _;rfl)):PS X (.Assign [.Name x pos'] (.DictComp kx vx [⟨tg,iter,ifs,0⟩] sc pos) c) (jc (JY ix wi g tt tk te)<|fQ i):=vK (G:=gD X.prog X.w kx vx tk te sc tg iter ifs pos) r u h j S m o f (λC s H ex pn=>LZ (l C s H ex pn) (p C s H ex pn)) d hs
end
end L2
namespace RB
open PySem L2
def KP(σ:er)(t:BG)(m:BT)(tk o:BE)(k:AV->aN->Bool)(f:zN)(fuel:Nat):Nat->List (AV×AV)->aN->Bool:=Wg (motive:=λ_=>Nat->List (AV×AV)->aN->Bool) (λ_ _ _=>false) (λ_ j i ys S=>match Pr ys.length 900 with
 | false=>false
 | true=>match f.nxt i S with
  | some none=>k (.ref S.n) (S.add<|.dk ys)
  | some (some x)=>t x σ S λd u=>m d u λc l=>match c with
   | true=>tk d l λh r=>o d r λz p=>match fS h with
    | true=>j (i+1) (rf ys h z) p
    | false=>false
   | false=>j (i+1) ys l
  | none=>false) fuel
def NR(fuel:Nat)(ix:List (Option Nat))(it:BI)(t:BG)(d:BT)(tk f:BE):BE:=λσ S k=>it σ S λc h=>KP (vq ix σ) t d tk f k c fuel 0 [] h
def L3(fuel:Nat)(keys:Bool)(ix:List (Option Nat))(a:BE)(t:BG)(c:BT)(tk d:BE):BE:=λσ S k=>a σ S λx h=>match yk keys h x with
 | some (n,f)=>KP (vq ix σ) t c tk d (we n k) (Ei keys n) fuel 0 [] f
 | none=>false
section
variable{a b c e o tg:O4}{ba bb bc:BE}{bt:BT}{br:BA}{s1 s2:BS}{body:List Rs}
abbrev BB(F:Fx)(y:Option Int)(ρ:List OD)(H:Hp):List (AV×AV)->List (bh×V)->Prop:=Paired λp q=>gw p.1 q.1/\aQ F y ρ H p.2 q.2
theorem BB.mono{y f:Option Int}{ρ d:List OD}{H H1:Hp}(st:aA F y ρ H f d H1){p:List (AV×AV)}{q:List (bh×V)}(h:BB F y ρ H p q):BB F f d H1 p q:=aT (λ_ _ z=>⟨z.1,aQ.mono st z.2⟩) h
theorem zX{Z:Option Int}{u:List OD}{S1:aN}{H1:Hp}{fuel:Nat}{t:BG}{tt:BT}{tk te:BE}{l:zN}{J:It}{k:AV->aN->Bool}{Q:VK}{σ:L2.St}{h:er}(hsl:∀j∈sl,ix[j]?=some none)(C1:aH g F Z u S1 H1)(r1:bn g F Z u H1 h σ)(so:pN g F Z u H1 l J)
  (h1:KP (vq ix h) t tt tk te k l fuel 0 [] S1=true) (p:gS g F Z u H1 k Q):∃W:Nat->Nat->List (bh×V)->Hp->Prop,(∃m,W 0 m [] H1)/\∀i m ys H,W i m ys H->ys.length<OR /\
 ((J.stop i H/\∀p,H p=none->Q (.ref p) (upd H p<|.dK ys))∨(J.go i H/\∀x H',J.yld i H x H'->nj g sl t x (jM ix σ) H' λf H2=>L2.xO (jM ix σ) f/\fE g tt f H2 λb H3=>
  if b=true then up g tk f H3 λkv H4=>up g te f H4 λy H5=>∃k,kv=kV k/\∃m',m' < m/\W (i+1) m' (dc ys k y) H5 else ∃m',m' < m/\W (i+1) m' ys H3)):=by
 refine⟨λi m ys H'=>∃y' U S' d,aA F Z u H1 y' U H'/\aH g F y' U S' H'/\BB F y' U H' d ys/\KP (vq ix h) t tt tk te k l m i d S'=true,⟨fuel,Z,u,S1,[],.refl,C1,.nil,h1⟩,?_⟩;rintro i m ys H2 ⟨Y,I,L,d,O,C2,r2,r⟩;obtain⟨t1,t2⟩:=so.turn Y I L H2 i O C2;cases m with
 | zero=>cases r
 | succ m=>
  have r:(match Pr d.length 900 with
   | false=>false
   | true=>match l.nxt i L with
    | some none=>k (.ref L.n) (L.add<|.dk d)
    | some (some x)=>t x (vq ix h) L λf L=>tt f L λc S3=>match c with
     | true=>tk f S3 λky S4=>te f S4 λz S5=>match fS ky with
      | true=>KP (vq ix h) t tt tk te k l m (i+1) (rf d ky z) S5
      | false=>false
     | false=>KP (vq ix h) t tt tk te k l m (i+1) d S3
    | none=>false)=true:=r
  cases q0:Pr d.length 900 with
  | false=>rw[q0] at r;cases r
  | true=>
   rw[q0] at r;have hl:=Pm r2;have hl2:=bw q0;refine⟨bZ<|by omega,?_⟩;dsimp only at r;cases q:l.nxt i L with
   | none=>rw[q] at r;cases r
   | some ox=>cases ox with
    | none=>
     rw[q] at r;refine .inl ⟨t2 q,λpl hp=>?_⟩;have C:aA F Y I H2 Y (I++[pl]) (upd H2 pl<|.dK ys):=aA.add hp;exact p Y _ _ _ (.ref L.n) _ (O.trans C) (C2.add (o:=.dk d) hp ⟨ys,rfl,BB.mono C r2⟩) ⟨pl,by rw[C2.n];simp,rfl⟩ r
    | some ax=>
     rw[q] at r;obtain⟨go,yl⟩:=t1 ax q;refine .inr ⟨go,λx H3 yx=>?_⟩;obtain⟨C,C3,rx⟩:=yl x H3 yx;have rl:bn g F Y I H3 (vq ix h) (jM ix σ):=D3 (bn.mono (O.trans C) r1) ix;refine⟨F,Y,I,L,ax,_,_,C3,rx,rl,r,λy4 ρ4 S4 H4 σ4 σ5 st4 C4 r4 o4 h4=>⟨⟨o4.1.symm,λj v e=>?_⟩,?_⟩⟩
     ·rw[o4.2 j λm=>?_]
      ·exact e
      ·have z:=hsl j m;unfold jM at e;rw[Pv,z] at e;cases e
     ·refine fh C4 r4 h4 λy5 ρ5 S5 H5 c st5 C5 r5 h5=>?_;have stc:=((O.trans C).trans st4).trans st5;have r25:=BB.mono ((C.trans st4).trans st5) r2;cases c with
      | false=>exact qV ⟨m,P6 m,y5,ρ5,S5,d,stc,C5,r25,h5⟩
      | true=>
       refine qW (ar C5 r5 h5 λy6 ρ6 S6 H6 ak kv st6 C6 r6 rk h6=>ar C6 r6 h6 λy7 ρ7 S7 H7 az z st7 C7 r7 rz h7=>?_);cases qk:fS ak with
       | false=>simp only[qk] at h7;cases h7
       | true=>
        simp only[qk] at h7;obtain⟨kk,hk,rfl⟩:=RB.dn qk rk;refine⟨kk,rfl,m,P6 m,y7,ρ7,S7,rf d ak az,(stc.trans st6).trans st7,C7,?_,h7⟩;exact oC (KR:=gw) (R:=aQ F y7 ρ7 _) (λ_ _ _ _ h1 r=>gF h1 r) hk rz (BB.mono (st6.trans st7) r25)
theorem Ek{fuel:Nat}{it:BI}{t:BG}{i:BT}{tk l:BE}(f:∀j∈sl,ix[j]?=some none):∀σ H Q,up g (NR fuel ix it t i tk l) σ H Q->JY ix (FE g it) (nj g sl t) (fE g i) (up g tk) (up g l) σ H Q:=by
 rintro σ H Q ⟨F,y,ρ,S,d,k,C,r,h,p⟩;exact⟨F,y,ρ,S,d,_,C,r,h,λI m L H1 u J st C1 x z=>zX f C1 (bn.mono st r) x z (p.mono st)⟩
theorem IA(fuel:Nat){it:BI}{t:BG}{f:BT}{tk i:BE}(d:∀j∈sl,ix[j]?=some none)(h:PE X e (JY ix (FE g it) (nj g sl t) (fE g f) (up g tk)<|up g i)):PE X e (up g<|NR fuel ix it t f tk i):=PE.imp (Ek d) h
theorem El(fuel:Nat)(i:Nat){it:BI}{t:BG}{m:BT}{tk u:BE}(l:∀j∈sl,ix[j]?=some none)(h:PS X st (jc (JY ix (FE g it) (nj g sl t) (fE g m) (up g tk)<|up g u)<|fQ i)):PS X st (de g<|jQ (NR fuel ix it t m tk u)<|cy i) :=
 PS.imp (λD σ H Q=>xY Q λF y ρ S z d C r h p _=>Ek (fuel:=fuel) l σ H _ (ar C r h λI f Y H1 ax x st C1 O L U=>p I f Y H1 _ _ st C1 (cZ O L) U)) h
theorem GM(fuel:Nat){t:BG}{O:BT}{tk U:BE}{H₀:Hp}(I:∀j∈sl,ix[j]?=some none):∀σ H Q,up g (L3 fuel true ix ba t O tk U) σ H Q->JY ix (wd H₀<|up g ba) (nj g sl t) (fE g O) (up g tk) (up g U) σ H (λv L=>yj H₀ (Q v) L):=λσ H Q hx=>ez hx λF y ρ S σa k C r h p=>
 ar C r h λy1 ρ1 S1 H1 ax x st C1 r1 rx l=>by
  cases q:yk true S1 ax with
  | none=>simp only[q] at l;cases l
  | some m=>
   obtain⟨n,S2⟩:=m;simp only[q] at l;obtain⟨a,ks,rfl,rfl,f,Z,fr⟩:=zU C1 rx q;refine⟨a,ks,rfl,Z,λob nf=>?_⟩;obtain⟨d,Cf⟩:=fr ob;refine zX (Q:=λv L=>yj H₀ (Q v) L) I Cf (bn.mono d r1) (wf f aq .k) l λy3 u S3 H3 av v z C3 rv i=>?_;unfold we at i;split at i
   ·rename_i S4 q4;obtain⟨Y,t2,t3⟩:=uE (H0:=H1) f Z rfl z d C3 q4;exact⟨a,ob,_,Y,nf,p y3 u S4 _ av v (st.trans t2) t3 (wg Y rv) i⟩
   ·cases i
theorem BC(fuel:Nat)(i:Nat){t:BG}{m:BT}{tk u:BE}(l:∀j∈sl,ix[j]?=some none)(h:PS X st (jc (JY ix (wd X.H₀<|up g ba) (nj g sl t) (fE g m) (up g tk)<|up g u)<|fQ i)):PS X st (de g<|jQ (L3 fuel true ix ba t m tk u)<|cy i) :=
 PS.imp (λD σ H Q=>xY Q λF y ρ S z d C r h p _=>GM fuel l σ H _ (ar C r h λI f Y H1 ax x st C1 O L U=>p I f Y H1 _ _ st C1 (cZ O L) U)) (PS.thaw h)
end
end RB
namespace L2
open PySem PySem.Spec PyProof.Rows PySem.W
def rA{c:Type}(f:Nat->Nat->Option Bool):KasT c->Option c
 | .ret a=>some a
 | .ask i j k=>match f i j with
  | some b=>rA f (k b)
  | none=>none
theorem sI{d:Type}{c:Nat->Nat->(Bool->OI->Prop)->OI->Prop}{s:OI}{f:Nat->Nat->Option Bool}(h:∀i j b,f i j=some b->∀C:Bool->OI->Prop,C b s->c i j C s){G:d->OI->Prop}{a:d}(l:G a s) :
  ∀(t:KasT d),rA f t=some a->t.kasWp c G s
 | .ret b,e=>by cases e;exact l
 | .ask i j k,e=>by
  unfold rA at e;cases q:f i j with
  | none=>rw[q] at e;cases e
  | some b=>
   rw[q] at e;exact h i j b q _ (sI h l (k b) e)
def wm(c:Bool)(kz:List Int)(i j:Nat):Option Bool:=match kz[i]?,kz[j]? with
 | some a,some b=>if c=true/\a=b then none else some (decide<|a<b)
 | _,_=>none
def BD(H:Hp)(c:Bool):List Int->List V->Prop:=Paired λk x=>match c with
 | true=>∃b ys,x=.ref b/\H b=some (.tup (.int k::ys))
 | false=>x=.int k
def zY(prog:Ph)(w:Py)(A:Qz)(us vs:List OC)(p:Array Nat)(s:OI):Prop :=
 ∀(Q:SortSt->OI->Prop) (E:OC->OI->Prop),(∀c,p.size=vs.length->U6 c=p.map (kas_item<|us.toArray.zip vs.toArray)->U7 c=none->Q c s) ->
  OM (OP prog w) A (keyKind' us.toArray) (λf s'=>OM (OP prog w) A ((sortRuns').run (TJ f (us.toArray.zip vs.toArray) #[] 7 none)) (λr d=>Q r.2 d) E s') E s
theorem sJ{H:Hp}:∀{kz:List Int} {ks:List V} {us:List OC},BD H false kz ks->aK ks us->TR us kz
 | _,_,_,.nil,r=>by cases r;exact .nil
 | _,_,_,.cons e t,r=>by
  cases r with
  | cons c rt=>
   cases(show _=V.int _ from e);obtain⟨t',rfl⟩:=c;exact .cons _ _ (sJ (H:=H) t rt)
theorem pW:∀{kz:List Int} {us:List OC} {i:Nat} {k:Int},TR us kz->kz[i]?=some k->∃t,us[i]?=some (.int k t)
 | _,_,_,_,.nil,e=>by simp at e
 | _,_,0,_,.cons n t _,e=>by simp at e;subst e;exact⟨t,rfl⟩
 | _,_,i+1,k,.cons _ _ r,e=>by
  obtain⟨t,h⟩:=pW (i:=i) (k:=k) r (by simpa using e);exact⟨t,by simpa using h⟩
theorem sK{P:Ph}{w:Py}{H:Hp}{h:Pk}(ok:i6 P w H h):∀{kz:List Int} {ks:List V} {us:List OC},BD H true kz ks->aK ks us->∃fs,KatTups h us fs/\TR fs kz /\
  ∀(i:Nat) (k:Int),kz[i]?=some k->∃a o xs n t,us[i]?=some (.ref a)/\h.get? a=some o/\o.data=.seq xs n/\xs.toList.head?=some (.int k t)
 | _,_,_,.nil,r=>by cases r;exact⟨[],KatTups.nil,.nil,λi k e=>by simp at e⟩
 | _,_,_,.cons (a:=k0) e t,r=>by
  cases r with
  | cons m rt=>
   obtain⟨b,ys,rfl,hb⟩:=e;cases(show _=OX b from m);obtain⟨fs,I,C,x⟩:=sK ok t rt;obtain⟨z,its,l,o,j,L,n,f⟩:=ok b _ hb;cases l with
   | cons r0 O=>
    obtain⟨d,rfl⟩:=r0;refine⟨_::fs,KatTups.cons j L f rfl I,.cons k0 d C,λi k c=>?_⟩;cases i with
    | zero=>simp at c;subst c;exact⟨b,o,_,n,d,rfl,j,f,rfl⟩
    | succ i=>
     obtain⟨a,p,xs,u,t',q⟩:=x i k (by simpa using c);exact⟨a,p,xs,u,t',by simpa using q⟩
theorem Em{xs ys:List OC}{p q:OC}(d:xs.head?=some p)(c:ys.head?=some q):∃r,xs.zip ys=(p,q)::r:=by
 cases xs with
 | nil=>cases d
 | cons x xs=>cases ys with
  | nil=>cases c
  | cons y ys=>cases d;cases c;exact⟨_,rfl⟩
theorem En{l:Bool}{kz:List Int}{ks:List V}{us vs:List OC}{p:Array Nat}(ok:i6 prog w H s.heap)(L:BD H l kz ks)(I:aK ks us)(hl:us.length=vs.length)(h2:2≤vs.length)(Z:vs.length<64)
  (hr:rA (wm l kz) (YK vs.length)=some p):zY prog w A us vs p s:=by
 intro Q E hq;have step:∀m,(∀i j b,wm l kz i j=some b->∀C:Bool->OI->Prop,C b s->kas_ask prog w A m us i j C s)->OM (OP prog w) A ((sortRuns').run (TJ m (us.toArray.zip vs.toArray) #[] 7 none)) (λr x=>Q r.2 x) E s:=λm hc=>
  kat_run (Q:=Q) (G:=λp' s'=>p'=p/\s'=s) hl h2 Z (λp' u s' z h f e3=>by obtain⟨rfl,rfl⟩:=e3;exact hq u z h f) (sI hc ⟨rfl,rfl⟩ _ hr)
 have gd:∀{i:Nat} {v:OC},us[i]?=some v->us.getD i Pw=v:=λ{i v} e=>by rw[P8,e];rfl
 cases l with
 | false=>
  have U:=sJ L I;have hk:=ksk_kind (keys:=us.toArray) (by simpa using U) (by simpa[hl] using h2);rw[hk];refine OE (step _ λi j b e C Y=>?_);unfold wm at e;split at e
  ·rename_i a c h f;simp at e;obtain⟨t1,g1⟩:=pW U h;obtain⟨o,g2⟩:=pW U f;unfold kas_ask;rw[gd g1,gd g2];refine kat_lt_int ?_;rw[e];exact Y
  ·cases e
 | true=>
  obtain⟨fs,t1,o,t3⟩:=sK ok L I;have O:0<fs.length:=by
   have q1:=o.length;have q2:=Pm L;have q3:=I.length;omega
  refine kat_kind (T:=.type "int") t1 O (λv hv=>?_) rfl (step _ λi j b e C Y=>?_)
  ·obtain⟨n,t,rfl⟩:=o.all v hv;exact .now
  ·unfold wm at e;split at e
   ·rename_i a c h f;split at e
    ·cases e
    ·rename_i d;simp at e d;obtain⟨a1,o1,xs1,n1,u1,g1,g2,g3,g4⟩:=t3 i a h;obtain⟨a2,o2,xs2,n2,u2,k1,k2,k3,k4⟩:=t3 j c f;unfold kas_ask;rw[gd g1,gd k1];refine kat_lt g2 g3 k2 k3 ?_;obtain⟨r,hz⟩:=Em g4 k4;rw[hz];refine kat_cons (Xv ?_);have:(a==c)=false:=by simpa using d
     rw[this];refine kat_no (oneLt_int ?_);rw[e];exact Y
   ·cases e
def Eo(prog:Ph)(w:Py)(A:Qz)(us vs out:List OC)(s:OI):Prop :=
 (vs.length<2/\out=vs)∨(2≤vs.length/\∃p:Array Nat,zY prog w A us vs p s/\out=p.toList.map λi=>vs.getD i Pw)
section
variable{a kS:OD}{vs us out:List OC}{e e1:Nat}{P:XE->OI->Prop}
theorem L4{n:Nat}(ho:s.heap.get? a=some (Pb "list" vs.toArray n))(O:vs.length<64)
  (hs:∀h' o,oA a s.heap h'->Eo prog w A vs vs out {s with heap:=h',toks:=o})
  (h:∀h' c,oA a s.heap h'->h'.get? a=some (Pb "list" out.toArray c)->P (.done<|.ret .none) {s with heap:=h'}) :
  OM (OP prog w) A (QS.«list.sort» ⟨[.ref a],[]⟩) P E s:=by
 have few:vs.length≤OR:=by rw[Pz];omega
 obtain⟨e1,m⟩:∃e1,(s.heap.update a (Po λ_=>(#[]:Array OC))).get? a=some (Pb "list" #[] e1):=⟨_,Rz ho λ_=>#[]⟩
 rw[list_sort_plain];refine OB (Um ho rfl<|OB<|QN ho rfl (OB<|SU m rfl<|OB<|UF (OB<|SE (Pg ?_)<|PY _) few) (by rw[OJ];exact few)<|PY _);have l:oA a s.heap (((s.heap.update a<|Po λ_=>(#[]:Array OC)).push (Pb "tuple" vs.toArray 0)).push (Pb "list" #[] 0)):=((oA.upd _ _ _).kp (Kp.push _ _)).kp (Kp.push _ _);have d:(((s.heap.update a<|Po λ_=>(#[]:Array OC)).push (Pb "tuple" vs.toArray 0)).push (Pb "list" #[] 0)).get? a=_:=OF _ (OF _ m);have u:=hs _ s.toks l;show OM (OP prog w) A _ P E {s with heap:=((s.heap.update a<|Po λ_=>(#[]:Array OC)).push (Pb "tuple" vs.toArray 0)).push (Pb "list" #[] 0)};dsimp only;rcases u with ⟨C,rfl⟩ | ⟨C,p,I,rfl⟩
 ·have f:out.toArray.size<2:=by rw[OJ];exact C
  rw[if_pos f,if_pos f];refine OB (OE ?_);rw[Vz];refine OB (OE ?_);have H1:(U6<|TJ YF (out.toArray.zip out.toArray) #[] 7 none).map (·.2)=out.toArray:=by
   show(out.toArray.zip out.toArray).map (·.2)=out.toArray;apply Va.mp;rw[Vb,ksk_zip];simp[XI]
  have z:U7 (TJ YF (out.toArray.zip out.toArray) #[] 7 none)=none:=rfl;dsimp only;rw[H1];refine OB (SU d rfl ?_);refine OB (QN d rfl ?_ (PY _)<|by rw[OJ];omega)
  (try rw[z])
  simp only[bne_self_eq_false,O5,if_false];exact OE (h _ _ (l.trans<|oA.upd _ _ _)<|Rz d λ_=>_)
 ·have f:¬vs.toArray.size<2:=by rw[OJ];omega
  rw[if_neg f,if_neg f];refine OB (Pf (I (λj s'=>p.size=vs.length/\U6 j=p.map (kas_item<|vs.toArray.zip vs.toArray)/\U7 j=none/\s'=_) E λj q1 q2 r=>⟨q1,q2,r,rfl⟩) (λQ s' L=>OB (Pf L ?_ λ_ _ x=>x)) λ_ _ x=>x);rintro ⟨⟨⟩,j⟩ H ⟨q1,q2,r,rfl⟩;have H1:=kat_snds rfl q2;have z:=r;have U:(p.toList.map λi=>vs.getD i Pw).length≤OR:=by rw[Ps,Px,q1];exact few
  dsimp only;rw[H1];refine OB (SU d rfl ?_);refine OB (QN d rfl ?_ (PY _)<|by rw[OJ];omega)
  (try rw[z])
  simp only[bne_self_eq_false,O5,if_false];exact OE (h _ _ (l.trans<|oA.upd _ _ _)<|Rz d λ_=>_)
end
def Og(prog:Ph)(w:Py)(a:OD)(xs:List V)(s:OI):Prop :=
 ∀(A:Qz) (Q:List OC->OI->Prop) (E:OC->OI->Prop),A.handled=none->(∀vs g tk,aK xs vs->Kp s.heap g->Q vs {s with heap:=g,toks:=tk})->OM (OP prog w) A (collect<|.ref a) Q E s
inductive uF (w:Py) (H:Hp):OD->List V->Prop where
 | lst {a:OD} {xs:List V}:H a=some (.lst xs)->uF w H a xs
 | tup {a:OD} {xs:List V}:H a=some (.tup xs)->uF w H a xs
 | dk {a:OD} {kvs:List (bh×V)}:H a=some (.dK kvs)->uF w H a (kvs.map λp=>kV p.1)
theorem sL{kvs:List (bh×V)}{vs:List (bh×OC)}(r:KV kvs vs)(c:us.length=vs.length)(h:∀(i:Nat) v,us[i]?=some v->∃k x,vs[i]?=some (k,x)/\(aW prog w).is k v=true):aK (kvs.map λp=>kV p.1) us:=by
 induction r generalizing us with
 | nil=>
  cases us with
  | nil=>exact .nil
  | cons _ _=>simp at c
 | @cons p q ps qs h0 t f=>
  cases us with
  | nil=>simp at c
  | cons u us=>
   obtain⟨k,x,e,j⟩:=h 0 u rfl;simp at e;obtain⟨rfl⟩:=e;refine .cons ?_ (f (by simpa using c) λi v e=>by simpa using h (i+1) v (by simpa using e));have d:=h0.1;dsimp only at d;show aI (kV p.1) u;rw[d];exact Eg j
section
theorem Ep{σ:L2.St}{a:OD}(I:ay X pins σ H s)(c:uF X.w H a xs):Og X.prog X.w a xs s:=by
 intro A Q E l q;cases c with
 | lst h=>
  obtain⟨its,n,rv,ho,z⟩:=I.lst h;exact UR a (.inl rfl) ho rfl rfl (λg d=>q _ g s.toks rv d) (by rw[OJ,<-rv.length];exact z)
 | tup h=>
  obtain⟨z,its,rv,o,ho,m,n,hd⟩:=I.hok a _ h;exact UR a (.inr rfl) ho m hd (λg d=>q _ g s.toks rv d) (by rw[OJ,<-rv.length];exact z)
 | @dk kvs h=>
  obtain⟨z,hd,vs,rv,dd⟩:=o8 I.hok h;obtain⟨ep,dat⟩:=dd.dictAt;refine kdu_collect (kdl_dict (knd:=aW X.prog X.w) (kvs:=vs) (ep:=ep) hd) l dat (by rw[<-rv.length];exact z) λh' tk acc j f=>?_;refine q _ h' tk (sL (prog:=X.prog) (w:=X.w) rv (by rw[Px];exact f.1) λi v e=>?_) j;exact f.2 i v (by rw[<-Rr];exact e)
def eZ(H:Hp)(ks xs out:List V):Prop :=
 (xs.length<2/\out=xs)∨(2≤xs.length/\∃c kz p,BD H c kz ks/\rA (wm c kz) (YK xs.length)=some p/\p.size≤64/\out=p.toList.map λi=>xs.getD i .non)
theorem mK:∀{xs:List V} {vs:List OC} (i:Nat),aK xs vs->aI (xs.getD i .non) (vs.getD i Pw)
 | _,_,_,.nil=>rfl
 | _,_,0,.cons r _=>r
 | _,_,i+1,.cons _ t=>by simpa using mK i t
theorem sM{xs:List V}{vs:List OC}(r:aK xs vs):∀l:List Nat,aK (l.map λi=>xs.getD i .non) (l.map λi=>vs.getD i Pw)
 | []=>.nil
 | i::l=>.cons (mK i r) (sM r l)
theorem lP{ks xs out:List V}{us vs:List OC}(h:eZ H ks xs out)(i:aK ks us)(r:aK xs vs)(m:us.length=vs.length)(f:vs.length<64) :
  ∃c,aK out c/\c.length≤64/\∀s:OI,i6 prog w H s.heap->Eo prog w A us vs c s:=by
 have j:=r.length;rcases h with ⟨d,rfl⟩ | ⟨d,o,kz,p,k,hr,l,rfl⟩
 ·exact⟨vs,r,by omega,λs _=>.inl ⟨by omega,rfl⟩⟩
 ·rw[j] at hr d;exact⟨_,sM r _,by rw[Ps,Px];exact l,λs ok=>.inr ⟨d,p,En ok k i m d f hr,rfl⟩⟩
def zZ(w:Py):List V->Hp->VK->Prop:=λvs H Q=>∃a xs out,vs=[.ref a]/\uF w H a xs/\xs.length<64/\eZ H xs xs out/\∀p,H p=none->Q (.ref p) (upd H p<|.lst out)
theorem pX{σ:L2.St}{a:OD}{ys out:List V}{Q:VK}(L:X.calm=true)(I:ay X pins σ H s)(col:Og X.prog X.w a ys s)(U:ys.length<64)(x:eZ H ys ys out)(q:∀p,H p=none->Q (.ref p) (upd H p<|.lst out)) :
  OM (OP X.prog X.w) X.A (call (.builtin "sorted") [.ref a]) (EP X pins σ Q) X.xe s:=by
 have C:=I.ok.hd L;refine Calls.call_function_entry X1 Xh Xi (args_sorted1 _) ?_;unfold QS.«sorted»;refine OB (m:=YH "sorted" 1 1 _) (OE<|OB<|col _ _ _ C λvs g tk i r=>?_);have Z:=i.length;have few:vs.length≤OR:=by rw[Pz];omega
 refine OB (SE ?_ few);have f:(g.push<|Pb "list" vs.toArray 0).get? g.objs.size=some (Pb "list" vs.toArray 0):=OQ _ rfl;have z:Kp s.heap (g.push<|Pb "list" vs.toArray 0):=Kp.trans r (Kp.push _ _);have I1:ay X pins σ H {s with heap:=g,toks:=tk}:=I.kept r;have kL:Kp g (g.push<|Pb "list" vs.toArray 0):=Kp.push _ _;have l:∀b ob,g.get? b=some ob->b≠g.objs.size:=λb ob e=>O0 (OO e);obtain⟨d,j,lo,u⟩:=lP (prog:=X.prog) (w:=X.w) (A:=X.A.in1.in1) x i i rfl (by omega);show OM _ _ _ _ _ {s with heap:=g.push (Pb "list" vs.toArray 0),toks:=tk};refine OB (Pg<|Qi VY ⟨_,f,rfl⟩ VA ?_<|args_list_sort _);refine L4 (s:={s with heap:=g.push (Pb "list" vs.toArray 0),toks:=tk}) f (by omega) (λh' h kp=>u _ ?_) λh' c kp O=>⟨_,rfl,OE ⟨_,rfl,?_⟩⟩
 ·exact(I1.kept (h':=h') (t':=h) λb ob e=>kp b ob (l b ob e) (kL b ob e)).hok
 ·have Y:out.length≤OR:=by rw[j.length,Pz];omega
  exact⟨.ref g.objs.size,_,I1.laid (a:=g.objs.size) (h':=h') (o:=.lst out) (t':=tk) (λb ob e=>kp b ob (l b ob e) (kL b ob e)) (OU _) ⟨Y,d,c,j,O⟩,rfl,q _<|I1.hok.fresh<|OU _⟩
theorem dI(j:X.calm=true):dj X (.builtin "sorted") (zZ X.w):=by
 intro pins s σ H xs us Q I r h;obtain⟨a,ys,out,rfl,c,d,f,q⟩:=h;obtain⟨u,rfl,i⟩:=iQ r;cases i;exact pX j I (Ep I c) d f q
def Er:List V->Hp->VK->Prop:=λvs H Q=>∃a kvs,vs=[.ref a]/\H a=some (.dK kvs)/\∀p,H p=none->Q (.ref p) (upd H p<|.lst<|kvs.map λp=>kV p.1)
theorem pY(m:X.calm=true):dj X (.type "list") Er:=by
 intro pins s σ H xs us Q I r h;obtain⟨a,kvs,rfl,d,q⟩:=h;obtain⟨u,rfl,f⟩:=iQ r;cases f;obtain⟨z,hd,vs,rv,dd⟩:=o8 I.hok d;obtain⟨ep,dat⟩:=dd.dictAt;refine kdl_call (kdl_dict (knd:=aW X.prog X.w) (kvs:=vs) (ep:=ep) hd) (I.ok.hd m) dat (by rw[<-rv.length];exact z) λh' tk acc c l x d=>?_;have j:aK (kvs.map λp=>kV p.1) acc.toList:=sL (prog:=X.prog) (w:=X.w) rv (by rw[Px];exact d.1) λi v e=>d.2 i v (by rw[<-Rr];exact e);exact⟨.ref s.heap.objs.size,_,I.laid (a:=s.heap.objs.size) (h':=h') (o:=.lst (kvs.map λp=>kV p.1)) (t':=tk) l (OU _) ⟨by rw[Ps];exact z,acc.toList,c,j,by rw[x]⟩,rfl,q _<|I.hok.fresh<|OU _⟩
end
def nw(sp:Sp)(E:XK)(D kS:OD)(ob:Obj)(Fin:List V->Hp->Prop):List V->List V->Hp->Prop
 | [],ks,H=>Fin ks H
 | x::r,ks,H=>sp [x] H (λk c=>c D=some (.frz ob<|.lst [])/\c kS=some (.lst ks)/\nw sp E D kS ob Fin r (ks++[k]) (upd c kS<|.lst<|ks++[k])) E
def z4(w:Py)(sp:Sp)(E:XK)(d:TE):TE:=λσ H Q=>d σ H λv H1=>∃a xs,v=.ref a/\uF w H1 a xs/\xs.length<64/\∀D kS ob,H1 D=none->H1 kS=none->kS≠D ->
 nw sp E D kS ob (λks c=>∃out,eZ c ks xs out/\c D=some (.frz ob<|.lst [])/\c kS=some (.lst ks)/\Q (.ref D) (upd (upd c kS<|.lst []) D<|.lst out)) xs [] (upd (upd H1 D<|.frz ob<|.lst []) kS<|.lst [])
section
variable{σ:L2.St}
theorem ay.noFrz{a:OD}(I:ay X pins σ H s)(h:H a=some (.lst xs)):∀o u,X.H₀ a≠some (.frz o u):=λo u e=>by
 have:=I.base.frzs a o u e;rw[h] at this;cases this
theorem ym{D kS:OD}{l e2:Nat}{ks xs out:List V}{us vs:List OC}{P:XE->OI->Prop}(I:ay X pins σ H s)(nf:∀o u,X.H₀ D≠some (.frz o u))(U:H D=some (.frz (Pb "list" #[] l)<|.lst []))(L:H kS=some (.lst ks))
  (ho:s.heap.get? kS=some {cls:=.type "list",data:=.seq us.toArray e2}) (rk:aK ks us) (rv:aK xs vs) (C:us.length=vs.length) (Y:vs.length<64) (so:eZ H ks xs out)
  (h:∀s',ay X pins σ (upd (upd H kS<|.lst []) D<|.lst out) s'->P (.done<|.ret .none) s') :
  OM (OP X.prog X.w) A (Yp D false vs.toArray l (.ref kS) us.toArray) P E s:=by
 obtain⟨c,Z,lo,sr⟩:=lP (prog:=X.prog) (w:=X.w) (A:=A) so rk rv C Y;have r:s.heap.get? D=some (Pb "list" #[] l):=(I.hok D _ U).1;have ne:kS≠D:=λz=>by rw[z,U] at L;cases L
 have zs:us.toArray.size≤OR:=by rw[OJ,Pz];omega
 -- the tail
 have tail:∀st:SortSt,(U6 st).map (·.2)=c.toArray->U7 st=none->OM (OP X.prog X.w) A (YD D false l (.ref kS) st) P E s:=λst h1 h3=>by
  unfold YD;dsimp only;rw[h1];have j:(s.heap.update kS<|Po λ_=>(#[]:Array OC)).get? D=some (Pb "list" #[] l):=(P1 _ _ _ _ ne.symm).trans r;refine OB (QN ho rfl ?_ zs<|PY _);refine OB (VX<|OB<|SU j rfl ?_);refine OB (QN j rfl ?_ (PY _)<|by simp only[O5,if_false];rw[OJ,Pz];omega);rw[h3];simp only[bne_self_eq_false,O5,if_false];refine OE (h _ ?_);have Ia:=I.lstUpd (ys:=[]) (its':=[]) (f:=Po λ_=>(#[]:Array OC)) L ho rfl .nil (PY _) s.toks;have Q:(upd H kS<|.lst []) D=some (.frz (Pb "list" #[] l)<|.lst []):=by rw[al ne.symm];exact U
  have Ib:=Ia.thaw Q nf;have O:(upd (upd H kS<|.lst []) D<|.lst []) D=some (.lst []):=aq;have Ic:=Ib.lstUpd (ys:=out) (its:=[]) (its':=c) (n:=l) (f:=Po λ_=>c.toArray) O j rfl Z (by rw[Z.length,Pz];omega) s.toks;rw[oo] at Ic;exact Ic
 unfold Yp;simp only[O5,if_false];rcases sr s I.hok with ⟨h2,rfl⟩ | ⟨h2,p,hp,rfl⟩
 ·have i:c.toArray.size<2:=by rw[OJ];exact h2
  rw[if_pos i,if_pos i];refine OB (OE ?_);rw[Vz];refine OB (OE ?_);refine tail (TJ YF (us.toArray.zip c.toArray) #[] 7 none) ?_ rfl;show(us.toArray.zip c.toArray).map (·.2)=c.toArray;apply Va.mp;rw[Vb,ksk_zip];simp[XI,C]
 ·have i:¬vs.toArray.size<2:=by rw[OJ];omega
  rw[if_neg i,if_neg i];refine OB (Pf (hp (λd s'=>p.size=vs.length/\U6 d=p.map (kas_item<|us.toArray.zip vs.toArray)/\U7 d=none/\s'=s) E λd q1 q2 m=>⟨q1,q2,m,rfl⟩) (λκ s' hk=>OB (Pf hk ?_ λ_ _ x=>x)) λ_ _ x=>x);rintro ⟨⟨⟩,d⟩ s'' ⟨q1,q2,m,rfl⟩;exact tail d (kat_snds C q2) m
theorem wn{k:Nat}{f D kS:OD}{ps:List Str}{sp:Sp}{EX:XK}{m:Nat}{P:XE->OI->Prop}{vs:List OC}{Fin:List V->Hp->Prop}
  (F:bG X.prog X.w X.K X.mg X.base eY k f fd ps sp) (hr:a5 k A) (henv:∀s H,jd X.prog X.w X.K X.mg X.base X.A X.stack s H->jd X.prog X.w X.K X.mg X.base A X.stack s H) (hb:cA X.K fd ps []) (I:ay X pins σ H s) (rv:aK xs vs) (h64:vs.length<64) (ho:s.heap.get? kS=some (Pb "list" #[] 0)) (hS:H kS=some (.lst [])) (hD:H D=some (.frz (Pb "list" #[] m)<|.lst []))
  (h:nw sp EX D kS (Pb "list" #[] m) Fin xs [] H)
  (fin:∀ks us c s' n,ay X pins σ c s'->c D=some (.frz (Pb "list" #[] m)<|.lst [])->c kS=some (.lst ks)->s'.heap.get? kS=some {cls:=.type "list",data:=.seq us.toArray n}->aK ks us->us.length=vs.length->Fin ks c->OM (OP X.prog X.w) A (Yp D false vs.toArray m (.ref kS) us.toArray) P E s') :
  OM (OP X.prog X.w) A (YG D (.ref f) false vs.toArray m<|.ref kS) P E s:=by
 unfold YG;refine OB (Tx ?_)
 first
  | rw[WV]
  | (rw[<-WW];simp only[Wm])
 have hxl:=rv.length;refine OB (ksk_fold (λi s'=>∃c ks,ay X pins σ c s'/\c D=some (.frz (Pb "list" #[] m)<|.lst [])/\c kS=some (.lst ks)/\ks.length=i/\nw sp EX D kS (Pb "list" #[] m) Fin (xs.drop i) ks c) vs 0 s
  ⟨H,[],I,hD,hS,rfl,h⟩ ?step ?done)
 case step=>
  rintro j x s' hx ⟨c,ks,O,hD',p,hk,l⟩;simp only[Xg] at hk l ⊢;have hj:j<vs.length:=(OL.mp hx).1;obtain⟨L,Y⟩:∃L,xs[j]?=some L:=⟨_,Pd<|by omega⟩
  have rx:aI L x:=by
   have q:=mK j rv;rw[P8,P8,Y,hx] at q;exact q
  have ed:xs.drop j=L::xs.drop (j+1):=by
   obtain⟨hjj,e⟩:=OL.mp Y;rw[<-e];exact List.drop_eq_getElem_cons hjj
  rw[ed] at l;obtain⟨QQ,hQQ⟩:∃QQ:VK,QQ=λk c=>c D=some (.frz (Pb "list" #[] m) (.lst []))/\c kS=some (.lst ks)/\nw sp EX D kS (Pb "list" #[] m) Fin (xs.drop (j+1)) (ks++[k]) (upd c kS (.lst (ks++[k]))):=⟨_,rfl⟩
  have l:sp [L] c QQ EX:=by rw[hQQ];exact l
  have hln:=F.len _ _ _ _ l;refine OB (RH<|Pf (Q:=EP X pins σ QQ) (E:=λ_ _=>False) (QF<|Qf (F.run A X.stack s' c ⟨[x],[]⟩ [x] [L] QQ EX hr (henv s' c O.env0) (by have:=hb s' [x] O.kIn (by simpa using hln);simpa using this) (.cons rx .nil) l) λr s2 Z=>?_) (λu s2 hu=>?_) λ_ _ q=>q.elim)
  ·cases r with
   | error e=>exact Z
   | ok fl=>
    cases fl with
    | ret u=>exact O.after Z
    | next=>exact Pa Z
    | brk=>exact Pa Z
    | cont=>exact Pa Z
  ·obtain⟨v,H2,I2,ru,hu⟩:=hu;rw[hQQ] at hu;obtain⟨C,o,g2⟩:=hu;obtain⟨its,n,U,d,z⟩:=I2.lst o;have hkl:=U.length;dsimp only;refine OB (QN d rfl ?_ (by rw[OJ,Pz];omega)<|by rw[Yb,OJ,Pz];omega);have I3:=I2.lstUpd (ys:=ks++[v]) (its':=its++[u]) (f:=Po (·.push u)) o d (by simp[Po];rfl) (U.append<|.cons ru .nil) (by rw[P3,VG,Pz];omega) s2.toks;refine OE ⟨rfl,_,ks++[v],I3,?_,aq,by simp[hk],g2⟩;rw[al λz=>by rw[z,o] at C;cases C];exact C
 case done=>
  rintro s' ⟨c,ks,O,hD',p,hk,l⟩;simp only[Xg] at hk l;obtain⟨its,n,U,d,z⟩:=O.lst p;have hkl:=U.length;rw[<-hxl,List.drop_length] at l;refine OB (Um d rfl ?_);exact fin ks its c s' n O hD' p d U (by omega) l
theorem wo{k:Nat}{f a:OD}{ps:List Str}{sp:Sp}{EX:XK}{Q:VK}(F:bG X.prog X.w X.K X.mg X.base eY k f fd ps sp)(hc:X.calm=true)(hr:a5 (k+2) X.A)(hb:cA X.K fd ps [])(I:ay X pins σ H s)(r:uF X.w H a xs)(h64:xs.length<64)
  (h:∀D kS ob,H D=none->H kS=none->kS≠D->nw sp EX D kS ob (λks p=>∃out,eZ p ks xs out/\p D=some (.frz ob<|.lst [])/\p kS=some (.lst ks)/\Q (.ref D) (upd (upd p kS<|.lst []) D<|.lst out)) xs [] (upd (upd H D<|.frz ob<|.lst []) kS<|.lst [])) :
  OM (OP X.prog X.w) X.A (call (.builtin "sorted") [.ref a] [(OG "key",.ref f)]) (EP X pins σ Q) X.xe s:=by
 have hh:=I.ok.hd hc;refine Vs X1 Xh Xi (ksk_s1 _ _) ?_;unfold QS.«sorted»;refine OB (m:=YH "sorted" 1 1 _) (OE<|OB<|Ep I r _ _ _ hh λvs g tk u kg=>?_);have hl:=u.length;have few:vs.length≤OR:=by rw[Pz];omega
 refine OB (SE ?_ few);have c:(g.push<|Pb "list" vs.toArray 0).get? g.objs.size=some (Pb "list" vs.toArray 0):=OQ _ rfl;have I1:ay X pins σ H {s with heap:=g,toks:=tk}:=I.kept kg;have nD:∀b ob,g.get? b=some ob->b≠g.objs.size:=λb ob e=>O0 (OO e);show OM _ _ _ _ _ {s with heap:=g.push (Pb "list" vs.toArray 0),toks:=tk};refine OB (Pg<|Wn VY ⟨_,c,rfl⟩ VA ?_<|ksk_l1 _ _);rw[ksk_t1];obtain⟨j,d⟩:∃j,((g.push (Pb "list" vs.toArray 0)).update g.objs.size (Po λ_=>(#[]:Array OC))).get? g.objs.size=some (Pb "list" #[] j):=⟨_,Rz c λ_=>#[]⟩
 unfold ksk_tree;refine OB (Um c rfl<|OB<|QN c rfl (OB<|SU d rfl<|OB<|UF (OB<|SE (Pg ?_)<|PY _) few) (by rw[OJ];exact few)<|PY _);have fD:H g.objs.size=none:=I1.hok.fresh (OU _);have Ia:ay X pins σ (upd H g.objs.size<|.lst []) {s with heap:=(g.push<|Pb "list" vs.toArray 0).update g.objs.size (Po λ_=>(#[]:Array OC)),toks:=tk} :=
  I1.laid (a:=g.objs.size) (o:=.lst []) (t':=tk) (λb ob e=>(P1 _ _ _ _<|nD b ob e).trans (OF _ e)) (OU _) ⟨PY _,[],j,.nil,d⟩
 have Z:=Ia.noFrz aq;have Ib:ay X pins σ (upd (upd H g.objs.size<|.lst []) g.objs.size<|.frz (Pb "list" #[] j)<|.lst []) {s with heap:=(g.push<|Pb "list" vs.toArray 0).update g.objs.size (Po λ_=>(#[]:Array OC)),toks:=tk} :=
  Ia.ghost aq (λ_ z=>nomatch z) (λ_ z=>nomatch z) (λ_ z=>nomatch z) Z ⟨d,PY _,[],j,.nil,d⟩
 rw[oo] at Ib;have Ic:=Ib.kept (h':=((g.push<|Pb "list" vs.toArray 0).update g.objs.size (Po λ_=>(#[]:Array OC))).push (Pb "tuple" vs.toArray 0)) (t':=tk) λ_ _ e=>OF _ e;have i:(((g.push<|Pb "list" vs.toArray 0).update g.objs.size (Po λ_=>(#[]:Array OC))).push (Pb "tuple" vs.toArray 0) |>.push (Pb "list" #[] 0)).get? (((g.push<|Pb "list" vs.toArray 0).update g.objs.size (Po λ_=>(#[]:Array OC))).push (Pb "tuple" vs.toArray 0)).objs.size=some (Pb "list" #[] 0):=OQ _ rfl;have Id:=Ic.laid (a:=(((g.push<|Pb "list" vs.toArray 0).update g.objs.size (Po λ_=>(#[]:Array OC))).push (Pb "tuple" vs.toArray 0)).objs.size) (h':=(((g.push<|Pb "list" vs.toArray 0).update g.objs.size (Po λ_=>(#[]:Array OC))).push (Pb "tuple" vs.toArray 0)).push (Pb "list" #[] 0)) (o:=.lst []) (t':=tk)
  (λ_ _ e=>OF _ e) (OU _) ⟨PY _,[],0,.nil,i⟩
 have l:=Ic.hok.fresh (OU _);have x:(((g.push<|Pb "list" vs.toArray 0).update g.objs.size (Po λ_=>(#[]:Array OC))).push (Pb "tuple" vs.toArray 0)).objs.size≠g.objs.size:=λz=>by rw[z,aq] at l;cases l
 have Y:H (((g.push<|Pb "list" vs.toArray 0).update g.objs.size (Po λ_=>(#[]:Array OC))).push (Pb "tuple" vs.toArray 0)).objs.size=none:=by rw[al x] at l;exact l
 refine wn F (A:=X.A.in1.in1) hr.in1.in1 (λ_ _ e=>e.in1.in1) hb Id u (by omega) i aq (by rw[al x.symm];exact aq) (h _ _ _ fD Y x) λks us H' s' n I' U O C rk L z9=>?_;obtain⟨out,so,h1,h2,q⟩:=z9;exact ym I' Z U O C rk u L (by omega) so λs2 I2=>⟨_,rfl,OE ⟨_,rfl,.ref _,_,I2,rfl,q⟩⟩
theorem BH{k:Nat}{f:OD}{ps:List Str}{sp:Sp}{C:XK}{e:O4}{i:TE}{x:Str}{p z kp pos:Pos}(F:bG X.prog X.w X.K X.mg X.base eY k f fd ps sp)(hc:X.calm=true)(hr:a5 (k+2) X.A)(hb:cA X.K fd ps [])(Z:X.mg x=some (.ref f))(l:X.mg "sorted" = none)(he:PE X e i)
  (hg:Gl X x:=by nofun) (o:(x==("__debug__":Str))=false:=by decide) (m:Gl X "sorted":=by nofun) (c:O1 [e] X.env=(false,Pq e X.env)::O1 [] X.env:=by nofun) :
  PE X (.Call (.Name "sorted" p) [e] [⟨some "key",.Name x z,kp⟩] pos) (z4 X.w sp C i):=by
 intro pins s σ H Q I h;refine PR (oR I m l bU ?_);refine V1 (by rw[c];rfl) (by rfl) (ZR (by rfl) ?_ c);have ha:PA X [e] (jX i mq):=bK he cW c;refine bi (ha pos pins s σ H (λvs H1=>match vs with
  | [v]=>∃a xs,v=.ref a/\uF X.w H1 a xs/\xs.length<64/\∀D kS ob,H1 D=none->H1 kS=none->kS≠D ->
   nw sp C D kS ob (λks d=>∃out,eZ d ks xs out/\d D=some (.frz ob<|.lst [])/\d kS=some (.lst ks)/\Q (.ref D) (upd (upd d kS<|.lst []) D<|.lst out)) xs [] (upd (upd H1 D<|.frz ob<|.lst []) kS<|.lst [])
  | _=>False) I h) λus O L=>da L λvs H1 I1 U q1=>?_
 obtain⟨v,rfl⟩:∃v,vs=[v]:=by rcases vs with _ | ⟨v,_ | _⟩<;>first | exact⟨_,rfl⟩ | exact q1.elim
 obtain⟨a,xs,rfl,j,r,q⟩:=q1;obtain⟨u,rfl,Y⟩:=iQ U;cases Y;show OM _ _ (ZN [do let v <-Pq (.Name x z) X.env;Rp pos;pure v]) _ _ O;refine Ux (OB<|db I1 hg Z ?_ o);refine OB (Qm<|OE<|Td ?_);exact wo F hc hr hb I1 j r q
end
end L2
namespace RB
open PySem L2 PySem.W
def wp:List (AV×AV)->List AV
 | []=>[]
 | (k,_)::r=>k::wp r
def Es(S:aN)(x:AV):Option (List AV):=match lK x with
 | some xs=>some xs
 | none=>match x with
  | .ref n=>match S.t.get n with
   | some (.lst xs)=>some xs
   | some (.dk kvs)=>some (wp kvs)
   | _=>none
  | _=>none
def wq(d:Bool):List AV->Option (List AV)
 | []=>some []
 | x::r=>match wq d r with
  | some ns=>match d,x with
   | false,.int s lo c=>some (.int s lo c::ns)
   | true,.tc (.int s lo c) _=>some (.int s lo c::ns)
   | _,_=>none
  | none=>none
def MY(a b:AV):Option Bool:=match a,b with
 | .int s lo f,.int s' c d=>Bg s lo f s' c d
 | _,_=>none
def JZ(c:Bool)(ns:List AV)(i j:Nat):Option Bool:=match ns[i]?,ns[j]? with
 | some a,some b=>match MY a b with
  | some true=>some true
  | some false=>match c with
   | false=>some false
   | true=>match MY b a with
    | some true=>some false
    | _=>none
  | none=>none
 | _,_=>none
def Et(xs:List AV):List Nat->List AV
 | []=>[]
 | i::r=>xs.getD i .non::Et xs r
def L5:List AV->Bool
 | .tc _ _::_=>true
 | _=>false
def sN(ks xs:List AV):Option (List AV):=match QW xs.length 2 with
 | true=>some xs
 | false=>match QW xs.length 64 with
  | false=>none
  | true=>match wq (L5 ks) ks with
   | some ns=>match rA (JZ (L5 ks) ns) (YK xs.length) with
    | some p=>match Pr p.size 64 with
     | true=>some (Et xs p.toList)
     | false=>none
    | none=>none
   | none=>none
section
variable{S:aN}
theorem uG:∀{kvs:List (AV×AV)} {ks:List (bh×V)},Paired (λp q=>gw p.1 q.1/\aQ F y ρ H p.2 q.2) kvs ks->aR F y ρ H (wp kvs) (ks.map λp=>kV p.1)
 | _,_,.nil=>.nil
 | _,_,.cons (a:=(k,v)) h t=>.cons (pS h.1) (uG t)
theorem z5(w:Py)(C:aH g F y ρ S H){ax:AV}{x:V}(f:aQ F y ρ H ax x){xs:List AV}(h:Es S ax=some xs):∃a vs,x=.ref a/\uF w H a vs/\aR F y ρ H xs vs:=by
 unfold Es at h;split at h
 ·rename_i ys q;cases h;obtain⟨a,vs,rfl,d,c⟩:=gG f q;exact⟨a,vs,rfl,.tup d,c⟩
 ·split at h
  ·rename_i n _;split at h
   ·rename_i ys q;cases h;obtain⟨a,ho,rfl,_,d,vs,rfl,c⟩:=C.obj f q;exact⟨a,vs,rfl,.lst d,c⟩
   ·rename_i kvs q;cases h;obtain⟨a,ks,rfl,_,d,c⟩:=C.dk f q;exact⟨a,_,rfl,.dk d,uG c⟩
   ·cases h
  ·cases h
theorem yn(d:∀x,y=some x->1≤x){a b:AV}{i j:Int}{c:Bool}(l:aQ F y ρ H a (.int i))(f:aQ F y ρ H b (.int j))(h:MY a b=some c):decide (i<j)=c:=by
 unfold MY at h;split at h
 ·obtain⟨z,e,b1⟩:=a6.mp l;obtain⟨o,m,b2⟩:=a6.mp f;cases e;cases m;exact kK d b1 b2 h
 ·cases h
theorem z6{c:Bool}:∀{ks ns:List AV} {vs:List V},aR F y ρ H ks vs->wq c ks=some ns->∃kz,BD H c kz vs/\aR F y ρ H ns (kz.map V.int)
 | _,_,_,.nil,h=>by cases h;exact⟨[],.nil,.nil⟩
 | x::r,ns,_,.cons r0 t,h=>by
  unfold wq at h;cases q:wq c r with
  | none=>simp only[q] at h;cases h
  | some o=>
   simp only[q] at h;obtain⟨kz,i,f⟩:=z6 t q;cases c with
   | false=>
    cases x with
    | int s lo l=>
     cases h;obtain⟨z,rfl,b1⟩:=a6.mp r0;exact⟨z::kz,.cons rfl i,.cons r0 f⟩
    | _=>cases h
   | true=>
    cases x with
    | tc hd tl=>
     cases hd with
     | int s lo l=>
      cases h;obtain⟨a,w,j,rfl,m,d,_⟩:=r0;obtain⟨z,rfl,b1⟩:=a6.mp d;exact⟨z::kz,.cons ⟨a,j,rfl,m⟩ i,.cons d f⟩
     | _=>cases h
    | _=>cases h
theorem L6{kz:List Int}{i:Nat}{v:V}(h:(kz.map V.int)[i]?=some v):∃k,kz[i]?=some k/\v=.int k:=by
 rw[Pv] at h;cases e:kz[i]? with
 | none=>rw[e] at h;cases h
 | some k=>rw[e] at h;cases h;exact⟨k,rfl,rfl⟩
theorem J0{d:Bool}(o:∀x,y=some x->1≤x){ns:List AV}{kz:List Int}(h:aR F y ρ H ns (kz.map V.int)){i j:Nat}{b:Bool}(e:JZ d ns i j=some b):wm d kz i j=some b:=by
 unfold JZ at e;split at e
 ·rename_i a c O L;obtain⟨v,I,m⟩:=dU h O;obtain⟨u,C,f⟩:=dU h L;obtain⟨k1,q1,rfl⟩:=L6 I;obtain⟨k2,q2,rfl⟩:=L6 C;unfold wm;rw[q1,q2];dsimp only;split at e
  ·rename_i l;cases e;have:=yn o m f l;simp at this;rw[if_neg (by omega)];simp[this]
  ·rename_i l;have z:=yn o m f l;simp at z;cases d with
   | false=>cases e;simp;omega
   | true=>
    dsimp only at e;split at e
    ·rename_i r;cases e;have p:=yn o f m r;simp at p;rw[if_neg (by omega)];simp;omega
    ·cases e
  ·cases e
 ·cases e
theorem sO{c:Type}{f d:Nat->Nat->Option Bool}(h:∀i j b,f i j=some b->d i j=some b):∀(t:KasT c) {a:c},rA f t=some a->rA d t=some a
 | .ret _,_,e=>e
 | .ask i j k,a,e=>by
  unfold rA at e ⊢;cases q:f i j with
  | none=>rw[q] at e;cases e
  | some b=>rw[q] at e;rw[h i j b q];exact sO h (k b) e
theorem BJ{xs:List AV}(r:aR F y ρ H xs vs)(i:Nat):aQ F y ρ H (xs.getD i .non) (vs.getD i .non):=by
 rw[P8,P8];cases e:xs[i]? with
 | none=>
  have hl:=aO r;have:vs[i]?=none:=Pj.mpr (by rw[<-hl];exact Pj.mp e);rw[this];rfl
 | some a=>
  obtain⟨v,d,c⟩:=dU r e;rw[d];exact c
theorem wr{xs:List AV}{vs:List V}(r:aR F y ρ H xs vs):∀l:List Nat,aR F y ρ H (Et xs l) (l.map λi=>vs.getD i .non)
 | []=>.nil
 | i::l=>.cons (BJ r i) (wr r l)
theorem wt(o:∀x,y=some x->1≤x){ks xs out:List AV}{us vs:List V}(d:aR F y ρ H ks us)(r:aR F y ρ H xs vs)(h:sN ks xs=some out):∃c,eZ H us vs c/\aR F y ρ H out c:=by
 have hl:=aO r;unfold sN at h;split at h
 ·rename_i q;cases h;have q:xs.length+1≤2:=bw q;exact⟨vs,.inl ⟨by omega,rfl⟩,r⟩
 ·rename_i q;have q:2≤xs.length:=by
   rcases ZU xs.length 2 with z | z
   ·have:QW xs.length 2=true:=by simp[YL];exact z
    rw[this] at q;cases q
   ·exact z
  split at h
  ·cases h
  ·split at h
   ·rename_i ns m;split at h
    ·rename_i p l;split at h
     ·rename_i f;cases h;obtain⟨kz,C,u⟩:=z6 d m;refine⟨_,.inr ⟨by omega,_,kz,p,C,?_,bw f,rfl⟩,wr r _⟩;rw[<-hl];exact sO (λi j b e=>J0 o u e) _ l
     ·cases h
    ·cases h
   ·cases h
def z7:List AV->aN->(AV->aN->Bool)->Bool:=λxs S k=>match xs with
 | [x]=>match Es S x with
  | some ys=>match QW ys.length 64 with
   | true=>match sN ys ys with
    | some out=>k (.ref S.n) (S.add<|.lst out)
    | none=>false
   | false=>false
  | none=>false
 | _=>false
theorem eO:nY g (zZ w) z7:=by
 intro F y ρ S H xs u k Q C l h p;unfold z7 at h;split at h
 ·rename_i x;split at h
  ·rename_i ys q;split at h
   ·rename_i q2;split at h
    ·rename_i out r;cases l with | cons r0 t=>cases t with | nil=>
     obtain⟨a,vs,rfl,d,f⟩:=z5 w C r0 q;obtain⟨c,j,m⟩:=wt C.pos f f r;have z:=aO f;have q2:ys.length+1≤64:=bw q2;refine⟨a,vs,c,rfl,d,by omega,j,λpl i=>?_⟩;have st:aA F y ρ H y (ρ++[pl]) (upd H pl<|.lst c):=aA.add i;exact p y _ _ _ (.ref S.n) _ st (C.add (o:=.lst out) i ⟨c,rfl,aR.mono st m⟩) ⟨pl,by rw[C.n];simp,rfl⟩ h
    ·cases h
   ·cases h
  ·cases h
 ·cases h
def Eu:List AV->aN->(AV->aN->Bool)->Bool:=λxs S k=>match xs with
 | [.ref n]=>match S.t.get n with
  | some (.dk kvs)=>k (.ref S.n) (S.add<|.lst<|wp kvs)
  | _=>false
 | _=>false
theorem sP:nY g Er Eu:=by
 intro F y ρ S H xs j k Q C d h p;unfold Eu at h;split at h
 ·rename_i n;split at h
  ·rename_i kvs q;cases d with | cons r0 t=>cases t with | nil=>
   obtain⟨a,ks,rfl,_,i,f⟩:=C.dk r0 q;refine⟨a,ks,rfl,i,λpl c=>?_⟩;have st:aA F y ρ H y (ρ++[pl]) (upd H pl<|.lst<|ks.map λp=>kV p.1):=aA.add c;exact p y _ _ _ (.ref S.n) _ st (C.add (o:=.lst (wp kvs)) c ⟨_,rfl,aR.mono st<|uG f⟩) ⟨pl,by rw[C.n];simp,rfl⟩ h
  ·cases h
 ·cases h
end
end RB
namespace RB
open PySem PySem.Spec PyProof.Rows L2 PySem.W
section
variable{y y1 y2:Option Int}{ρ ρ1 ρ2:List OD}{H H1 H2:Hp}{S S1:aN}
theorem aH.over(C:aH g F y ρ S H)(e:∀b∈ρ,H1 b=H b)(t:∀b vs,H b=some (.tup vs)->H1 b=some (.tup vs))(o:∀b,F.own b->H1 b=H b)(x:∀b f,H b=some (.ext f)->H1 b=some (.ext f)):aH g F y ρ S H1:=by
 refine⟨C.n,C.sym,C.pos,C.nd,λi c d=>?_,C.own,C.fe,λb w d=>C.ol b w (by rw[<-o b w];exact d),F.st _ _ C.J λb u w d=>?_,C.fl⟩
 ·obtain⟨ob,ho,m,l,j⟩:=C.at_ i c d;exact⟨ob,ho,m,by rw[e c (O9 d)];exact l,dO.monoM ⟨λ_ h=>h,λh=>h,t⟩ j⟩
 ·rcases w with w | ⟨f,rfl⟩
  ·rw[o b w];exact d
  ·exact x b f d
theorem aA.over(st:aA F y ρ H y1 ρ1 H1){a:OD}{o:HO}(e:H a=none):aA F y ρ H y1 ρ1 (upd H1 a o):=by
 have ne:∀b u,H b=some u->b≠a:=λb u q z=>by rw[z,e] at q;cases q
 refine⟨st.y,st.pre,st.new,λb u q n w=>?_,λb vs q=>?_,λb q=>?_,λb c u q=>?_⟩
 ·rw[al (ne b _ q)];exact st.keep b u q n w
 ·rw[al (ne b _ q)];exact st.tup b vs q
 ·by_cases z:b=a
  ·rw[z];exact e
  ·rw[al z] at q;exact st.live b q
 ·rw[al (ne b _ q)];exact st.frz b c u q
theorem aA.more(st:aA F y ρ H y1 ρ1 H1){a:OD}(e:H a=none):aA F y ρ H y1 (ρ1++[a]) H1:=by
 refine⟨st.y,?_,λb hb=>?_,st.keep,st.tup,st.live,st.frz⟩
 ·obtain⟨r,rfl⟩:=st.pre;exact⟨r++[a],by simp⟩
 ·rcases PN.mp hb with hb | hb
  ·exact st.new b hb
  ·rw[Ql.mp hb];exact .inr e
end
def Ev(f:BF)(ke:KE)(k:List AV->aN->Bool):List AV->List AV->aN->Bool
 | [],ks,S=>k ks S
 | x::r,ks,S=>f [x] S (λz c=>Ev f ke k r (ks++[z]) c) ke
def z8(f:BF)(a:BE):BE:=λσ S k=>a σ S λx d=>match Es d x with
 | some xs=>match QW xs.length 64 with
  | true=>Ev f σ.ke (λks c=>match sN ks xs with
   | some out=>k (.ref c.n) (c.add<|.lst out)
   | none=>false) xs [] d
  | false=>false
 | none=>false
section
theorem sQ{F:Fx}{f:BF}{k:List AV->aN->Bool}{D kS:OD}{ob:Obj}{Fin:List V->Hp->Prop}{ke:KE}{U:Option Int}{j:List OD}{H0:Hp}(e1:H0 D=none)(e2:H0 kS=none)(ne:kS≠D)(o1:¬F.own D)(Z:¬F.own kS)(p:lH g F U j H0 ke)
  (i:∀y ρ S H ks ksv,aA F U j H0 y ρ H->aH g F y ρ S H->D∉ρ->kS∉ρ->H D=some (.frz ob<|.lst [])->H kS=some (.lst ksv)->aR F y ρ H ks ksv->k ks S=true->Fin ksv H) :
  ∀(xs:List AV) (o:List V) (ks:List AV) (ksv:List V) (y:Option Int) (ρ:List OD) (S:aN) (H:Hp),aA F U j H0 y ρ H->aH g F y ρ S H->D∉ρ->kS∉ρ->H D=some (.frz ob<|.lst [])->H kS=some (.lst ksv)->aR F y ρ H xs o->aR F y ρ H ks ksv ->
   Ev f ke k xs ks S=true->nw (jP g.toGy 1 f) g.E D kS ob Fin o ksv H
 | _,_,ks,ksv,y,ρ,S,H,st,C,nD,L,Q,O,.nil,Y,h=>i y ρ S H ks ksv st C nD L Q O Y h
 | _,_,ks,ksv,y,ρ,S,H,st,C,nD,L,Q,O,.cons (l₁:=r) (l₂:=rv) r0 t,Y,h=>by
  refine⟨F,y,ρ,S,[_],_,ke,C,.cons r0 .nil,rfl,h,λI d S1 H1 az z c C1 rz h1=>?_,p.mono st⟩;have x:=c.frz _ _ _ Q;have l:=c.keep _ _ O L Z;have nD1:D∉d:=λm=>by
   rcases c.new D m with q | q
   ·exact nD q
   ·rw[Q] at q;cases q
  have u:kS∉d:=λm=>by
   rcases c.new kS m with q | q
   ·exact L q
   ·rw[O] at q;cases q
  refine⟨x,l,?_⟩;have mo:Mo I d H1 I d (upd H1 kS<|.lst<|ksv++[z]):=⟨λ_ h=>h,λh=>h,λb vs q=>by rw[al λw=>by rw[w,l] at q;cases q];exact q⟩
  have C2:aH g F I d S1 (upd H1 kS<|.lst<|ksv++[z]):=C1.over (λb hb=>al λw=>u (w▸hb)) mo.tup (λb w=>al λq=>Z (q▸w)) (λb φ q=>by rw[al λw=>by rw[w,l] at q;cases q];exact q);refine sQ e1 e2 ne o1 Z p i r rv (ks++[az]) (ksv++[z]) I d S1 _ ((st.trans c).over e2) C2 nD1 u (by rw[al ne.symm];exact x) aq ?_ ?_ h1
  ·exact aT (λ_ _ q=>aQ.monoM mo q) (aR.mono c t)
  ·exact du (aT (λ_ _ q=>aQ.monoM mo q)<|aR.mono c Y) (.cons (aQ.monoM mo rz) .nil)
end
section
variable{e:O4}{ba:BE}{pos p p1 kp:Pos}{x:Str}{k:Nat}{f:BF}
theorem yo:∀σ H Q,up g (z8 f ba) σ H Q->z4 w (jP g.toGy 1 f) g.E (up g ba) σ H Q:=λσ H Q hx=>ez hx λF y ρ S σa k C r h p=>
 ar C r h λU l S1 H1 ax x st C1 r1 rx O=>by
  cases q:Es S1 ax with
  | none=>simp only[q] at O;cases O
  | some xs=>
   simp only[q] at O;split at O
   ·rename_i q2;obtain⟨a,vs,rfl,src,pr⟩:=z5 w C1 rx q;have hl:=aO pr;have q2:xs.length+1≤64:=bw q2;refine⟨a,vs,rfl,src,by omega,λD kS ob I e2 ne=>?_⟩;have o1:¬F.own D:=λw=>C1.ol D w I;have o2:¬F.own kS:=λw=>C1.ol kS w e2;have eK:(upd H1 D<|.frz ob<|.lst []) kS=none:=by rw[al ne];exact e2
    have Y:aA F U l H1 U l (upd (upd H1 D<|.frz ob<|.lst []) kS<|.lst []):=(aA.lay I).trans (aA.lay eK);have CA:aH g F U l S1 (upd (upd H1 D<|.frz ob<|.lst []) kS<|.lst []):=(C1.lay I).lay eK;refine sQ (k:=λks S2=>match sN ks xs with
     | some out=>k (.ref S2.n) (S2.add<|.lst out)
     | none=>false) I e2 ne o1 o2 r1.e ?_ xs vs [] [] U l S1 _ Y CA (C1.fresh I) (C1.fresh e2) (by rw[al ne.symm];exact aq) aq (aR.mono Y pr) .nil O
    intro L j S2 m ks ksv Z C2 nD nK hD hK rk h2;cases q3:sN ks xs with
    | none=>simp only[q3] at h2;cases h2
    | some out=>
     simp only[q3] at h2;obtain⟨d,so,ro⟩:=wt C2.pos rk (aR.mono Z pr) q3;refine⟨d,so,hD,hK,?_⟩;have stF:aA F U l H1 L (j++[D]) (upd (upd m kS<|.lst []) D<|.lst d):=((Z.over e2).over I).more I;have tD:∀b o,m b=some o->(∀o' u,o≠.frz o' u)->b≠D:=λb o q n w=>by rw[w,hD] at q;cases q;exact n _ _ rfl
     have tK:∀b o,m b=some o->(∀u,o≠.lst u)->b≠kS:=λb o q n w=>by rw[w,hK] at q;cases q;exact n _ rfl
     have moF:Mo L j m L (j++[D]) (upd (upd m kS<|.lst []) D<|.lst d):=⟨λ_ h=>h,λ{i c} h=>by
       rw[Qr (OL.mp h).1];exact h,λb vs q=>by
       rw[al (tD b _ q λ_ _ z=>nomatch z),al (tK b _ q λ_ z=>nomatch z)];exact q⟩
     have roF:aR F L (j++[D]) (upd (upd m kS<|.lst []) D<|.lst d) out d:=aT (λ_ _ q=>aQ.monoM moF q) ro;have CB:aH g F L j S2 (λb=>if b=D then none else(upd m kS<|.lst []) b):=C2.over
      (λb hb=>(if_neg λw=>nD (by rw[<-w];exact hb)).trans (al λw=>nK (by rw[<-w];exact hb)))
      (λb vs q=>by rw[if_neg (tD b _ q λ_ _ z=>nomatch z),al (tK b _ q λ_ z=>nomatch z)];exact q)
      (λb w=>(if_neg λq=>o1 (by rw[<-q];exact w)).trans (al λq=>o2 (by rw[<-q];exact w)))
      (λb φ q=>by rw[if_neg (tD b _ q λ_ _ z=>nomatch z),al (tK b _ q λ_ z=>nomatch z)];exact q)
     have eq:upd (λb=>if b=D then none else(upd m kS<|.lst []) b) D (.lst d)=upd (upd m kS<|.lst []) D (.lst d):=by
      funext b;by_cases z:b=D
      ·subst z;rw[aq,aq]
      ·rw[al z,al z];simp[z]
     have CF:=CB.add (p:=D) (o:=.lst out) (ho:=.lst d) (by simp) (by rw[eq];exact⟨d,rfl,roF⟩);rw[eq] at CF;exact p L _ _ _ (.ref S2.n) _ (st.trans stF) CF ⟨D,by rw[C2.n];simp,rfl⟩ h2
   ·cases O
theorem sR(c:cF X.prog X.w X.K X.mg X.base g.toGy eY x k 1 f)(r:X.calm=true)(hr:a5 (k+2) X.A)(h:X.mg "sorted" = none)(o:PE X e (up g ba))
  (m:Gl X x:=by nofun) (j:(x==("__debug__":Str))=false:=by decide) (i:Gl X "sorted":=by nofun) (d:O1 [e] X.env=(false,Pq e X.env)::O1 [] X.env:=by nofun) :
  PE X (.Call (.Name "sorted" p) [e] [⟨some "key",.Name x p1,kp⟩] pos) (up g<|z8 f ba):=by
 obtain⟨z,fd,ps,hn,F,l,u,hb⟩:=c;exact PE.imp yo (BH F r hr hb l h o m j i d)
def GN(x:AV):List AV->Option (List AV)
 | []=>some [x]
 | y::ys=>match x,y with
  | .tc (.int s lo h) _,.tc (.int s' c d) _=>match Bg s lo h s' c d with
   | some true=>some (x::y::ys)
   | some false=>match Bg s' c d s lo h with
    | some true=>match GN x ys with
     | some r=>some (y::r)
     | none=>none
    | _=>none
   | none=>none
  | _,_=>none
def uH:List AV->Option (List AV)
 | []=>some []
 | x::xs=>match x with
  | .tc (.int _ _ _) t=>match vT t with
   | some ys=>match QW ys.length 60 with
    | true=>match uH xs with
     | some r=>GN x r
     | none=>none
    | false=>none
   | none=>none
  | _=>none
def uI(a:BE):BE:=λσ S k=>a σ S λx c=>match lK x with
 | some xs=>match QW xs.length 64,uH xs with
  | true,some out=>k (.ref c.n) (c.add<|.lst out)
  | _,_=>false
 | none=>false
def KR(F:Fx)(y:Option Int)(ρ:List OD)(H:Hp)(a:AV)(p:Int×V):Prop:=aQ F y ρ H a p.2/\∃s lo c t,a=.tc (.int s lo c) t/\Bd y s lo c p.1
theorem Aa{F:Fx}{y:Option Int}{ρ:List OD}{H:Hp}(h:∀x,y=some x->1≤x){x:AV}{p:Int×V}(d:KR F y ρ H x p):∀{xs out:List AV} {ps:List (Int×V)},Paired (KR F y ρ H) xs ps->ps.Pairwise (λp q=>p.1<q.1)->GN x xs=some out ->
  ∃qs:List (Int×V),qs.Perm (p::ps)/\Paired (KR F y ρ H) out qs/\qs.Pairwise λp q=>p.1<q.1
 | [],out,_,.nil,_,e=>by cases e;exact⟨[p],.refl _,.cons d .nil,List.pairwise_singleton _ _⟩
 | _::xs,out,_,.cons (b:=q) (l₂:=ps) i t,pw,e=>by
  obtain⟨C,s,lo,U,Q,rfl,b1⟩:=id d;obtain⟨I,s',u,L,O,rfl,b2⟩:=id i;have c:=R1.mp pw;unfold GN at e;dsimp only at e;split at e
  ·rename_i q1;cases e;have l1:p.1<q.1:=by simpa using kK h b1 b2 q1
   refine⟨p::q::ps,.refl _,.cons d<|.cons i t,R1.mpr ⟨λz hz=>?_,pw⟩⟩;rcases OY.mp hz with rfl | hz
   ·exact l1
   ·exact Int.lt_trans l1 (c.1 z hz)
  ·split at e
   ·rename_i q2;split at e
    ·rename_i r l;cases e;have l1:q.1<p.1:=by simpa using kK h b2 b1 q2
     obtain⟨qs,j,m,o⟩:=Aa h d t c.2 l;refine⟨q::qs,(YM q j).trans (List.Perm.swap p q ps),.cons i m,R1.mpr ⟨λz hz=>?_,o⟩⟩;rcases OY.mp (j.mem_iff.mp hz) with rfl | hz
     ·exact l1
     ·exact c.1 z hz
    ·cases e
   ·cases e
  ·cases e
theorem sS{F:Fx}{y:Option Int}{ρ:List OD}{H:Hp}(m:∀x,y=some x->1≤x):∀{xs out:List AV} {vs:List V},aR F y ρ H xs vs->uH xs=some out->∃(kz:List Int) (qs:List (Int×V)),kz.length=vs.length/\(∀(i:Nat) (x:V) (k:Int),vs[i]?=some x->kz[i]?=some k->∃b ys,x=.ref b/\H b=some (.tup (.int k::ys))/\ys.length<60) /\
  qs.Perm (kz.zip vs)/\Paired (KR F y ρ H) out qs/\qs.Pairwise λp q=>p.1<q.1
 | [],out,_,.nil,e=>by cases e;exact⟨[],[],rfl,λi x k e=>by simp at e,.refl _,.nil,.nil⟩
 | x::xs,out,_,.cons (b:=v) (l₂:=vs) r t,e=>by
  unfold uH at e;split at e
  ·rename_i s lo O u;split at e
   ·rename_i ys C;split at e
    ·rename_i q2;split at e
     ·rename_i o1 I;obtain⟨kz,qs,h1,Z,Y,U,Q⟩:=sS m t I;have d:=r;obtain⟨b,w,o,rfl,hb,L,c⟩:=r;obtain⟨z,rfl,bz⟩:=a6.mp L;rw[ge C] at c;have hl:=aO (mz c);have q2:ys.length+1≤60:=bw q2;obtain⟨h,g1,g2,g3⟩:=Aa m (p:=(z,.ref b)) ⟨d,s,lo,O,u,rfl,bz⟩ U Q e;refine⟨z::kz,h,by simp[h1],λi x k l j=>?_,g1.trans<|YM _ Y,g2,g3⟩;cases i with
      | zero=>simp at l j;subst l j;exact⟨b,o,rfl,hb,by omega⟩
      | succ i=>exact Z i x k (by simpa using l) (by simpa using j)
     ·cases e
    ·cases e
   ·cases e
  ·cases e
theorem ny:∀{ps qs:List (Int×V)},ps.Perm qs->ps.Pairwise (λp q=>p.1≤q.1)->qs.Pairwise (λp q=>p.1<q.1)->ps=qs
 | [],qs,c,_,_=>(List.Perm.nil_eq c)
 | p::ps,[],c,_,_=>by cases c.eq_nil
 | p::ps,q::qs,c,i,h=>by
  have d:=R1.mp i;have h2':=R1.mp h;have e:p=q:=by
   rcases OY.mp (c.mem_iff.mp (OW (a:=p))) with e | m
   ·exact e
   ·rcases OY.mp (c.mem_iff.mpr (OW (a:=q))) with e | m'
    ·exact e.symm
    ·exact absurd (d.1 q m') (Int.not_le.mpr<|h2'.1 p m)
  subst e;rw[ny (List.Perm.cons_inv c) d.2 h2'.2]
theorem Ab{F:Fx}{y:Option Int}{ρ:List OD}{H:Hp}:∀{xs:List AV} {ps:List (Int×V)},Paired (KR F y ρ H) xs ps->aR F y ρ H xs (ps.map Prod.snd)
 | _,_,.nil=>.nil
 | _,_,.cons r t=>.cons r.1 (Ab t)
theorem BK:∀σ H Q,up g (uI ba) σ H Q->uf K g.tT g.tP g.tQ (up g ba) σ H Q:=λσ H Q hx=>ez hx λF y ρ S σa k C r h p=>
 ar C r h λO j S1 H1 ax x st C1 r1 rx l=>by
  have lam:=C1.fl.lam H1 C1.J;have fin:∀(xs:List AV) (vs:List V) (D:OD) (d:Hp),aR F O j H1 xs vs->k (.ref S1.n) (S1.add<|.lst xs)=true->H1 D=none->d D=some (.lst vs)->(∀b o,b≠g.tT->H1 b=some o->d b=some o)->lG d g.tT g.tP g.tQ->(∀b,d b=none->H1 b=none)->Q (.ref D) d:=λxs vs D d Z hk Y e2 kp L lv=>by
   have nT:∀b,b∈j->b≠g.tT:=λb hb z=>C1.own b hb (by rw[z];exact C1.fl.own);obtain⟨ps0,m,_⟩:=lam;have U:aA F O j H1 O (j++[D]) d:=by
    refine⟨λ_ h=>h,⟨[D],rfl⟩,λb hb=>?_,λb o q n w=>kp b o (λz=>w (by rw[z];exact C1.fl.own)) q,λb vs q=>kp b _ (λz=>by rw[z,m] at q;cases q) q,lv,λb o u q=>kp b _ (λz=>by rw[z,m] at q;cases q) q⟩;rcases PN.mp hb with hb | hb
    ·exact .inl hb
    ·rw[Ql.mp hb];exact .inr Y
   have hD2:∀b o,H1 b=some o->b≠D:=λb o q z=>by rw[z,Y] at q;cases q
   have CM:aH g F O j S1 (λb=>if b=D then none else d b):=by
    refine⟨C1.n,C1.sym,C1.pos,C1.nd,λi c ec=>?_,C1.own,C1.fe,λb w ec=>?_,C1.fl.re H1 _ C1.J ?_<|λb o n q=>?_,C1.fl⟩
    ·obtain⟨ob,ho,l,h2,I⟩:=C1.at_ i c ec;refine⟨ob,ho,l,?_,dO.monoM ⟨λ_ h=>h,λh=>h,λb vs q=>?_⟩ I⟩
     ·exact(if_neg<|hD2 c _ h2).trans (kp c ho (nT c<|O9 ec) h2)
     ·exact(if_neg<|hD2 b _ q).trans (kp b _ (λz=>by rw[z,m] at q;cases q) q)
    ·have nb:b≠D:=λz=>C1.ol b w (by rw[z];exact Y);exact C1.ol b w (lv b<|(if_neg nb).symm.trans ec)
    ·obtain⟨ps,l,h2,I⟩:=L;refine⟨ps,(if_neg<|hD2 _ _ m).trans l,h2,?_⟩;rcases I with I | ⟨c',I,h4⟩
     ·exact .inl I
     ·exact .inr ⟨c',I,(if_neg λz=>by rw[z,e2] at h4;cases h4).trans h4⟩
    ·exact(if_neg<|hD2 b o q).trans (kp b o n q)
   have eq:upd (λb=>if b=D then none else d b) D (.lst vs)=d:=by
    funext b;by_cases z:b=D
    ·subst z;rw[aq,e2]
    ·rw[al z];simp[z]
   have CF:=CM.add (p:=D) (o:=.lst xs) (ho:=.lst vs) (by simp) (by rw[eq];exact⟨vs,rfl,aR.mono U Z⟩);rw[eq] at CF;exact p O _ _ _ (.ref S1.n) _ (st.trans U) CF ⟨D,by rw[C1.n];simp,rfl⟩ hk
  have lvf:∀d:Hp,(∀b o,b≠g.tT->H1 b=some o->d b=some o)->lG d g.tT g.tP g.tQ->∀b,d b=none->H1 b=none:=λd kp L b q=>by
   cases e:H1 b with
   | none=>rfl
   | some o=>
    by_cases z:b=g.tT
    ·obtain⟨ps,l,_⟩:=L;rw[z,l] at q;cases q
    ·rw[kp b o z e] at q;cases q
  split at l
  ·rename_i xs q;obtain⟨a,vs,rfl,ha,Z⟩:=gG rx q;split at l
   ·rename_i out q2 q3;obtain⟨kz,qs,g1,g2,g3,g4,g5⟩:=sS C1.pos Z q3;have hl:=aO Z;have q2:xs.length+1≤64:=bw q2;refine⟨a,vs,kz,rfl,ha,by omega,g1,g2,lam,λD d ys Y e2 kp L ks=>?_⟩;obtain⟨ps,pm,rfl,pw⟩:=ks;have e:=ny (pm.trans g3.symm) pw g5;subst e;exact fin out _ D d (Ab g4) l Y e2 kp L (lvf d kp L)
   ·cases l
  ·cases l
theorem Ew(h:PE X e (uf K g.tT g.tP g.tQ<|up g ba)):PE X e (up g<|uI ba):=PE.imp BK h
end
end RB
namespace L2
open PySem PySem.Spec PyProof.Rows PySem.W
def ie(led:Bool)(ps:List Nat):SetTable:={V3 0 0 led with place:=ps.toArray}
def fV(kt:List (Int×Tok)):List (Int×OC):=kt.map λp=>(SZ p.1,.int p.1 p.2)
def sU(ps:List Nat)(h:Int)(j:Nat):Prop:=∀led,(ie led ps).freeSlot h=some (j,false)/\Pu ps.toArray j=ps.length
theorem Ex(h:Int):sU [] h (SetTable.bits h%8):=λled=>⟨by unfold SetTable.freeSlot SetTable.probe;rfl,rfl⟩
theorem Ac{c:Type}(xs:List c)(x:c){n:Nat}(h:n=xs.length):Xl xs.toArray n x=(xs++[x]).toArray:=by
 apply Va.mp;rw[SetTable.toList_insertAt];subst h;simp
theorem pZ{led:Bool}{ps:List Nat}{n:Nat}(h:ps.length=n)(c:n≤7):(ie led ps).fits n=true:=by
 unfold SetTable.fits Zx ie;simp[V3,h,c]
theorem GO{led:Bool}{ps:List Nat}{h:Int}{j:Nat}(ok:sU ps h j):(ie led ps).put j=(ie led (ps++[j]),ps.length):=by
 unfold SetTable.put;show(({mask:=7,place:=Xl ps.toArray (Pu ps.toArray j) j,dummies:=#[],finger:=0,led:=led,moves:=0,plain:=true}:SetTable),Pu ps.toArray j)=_;rw[(ok led).2,Ac ps j rfl];rfl
theorem GP{led:Bool}{es:List (Int×OC)}{ps:List Nat}{h:Int}{x:OC}{j:Nat}(ok:sU ps h j)(c:es.length=ps.length)(f:ps.length≤6):layNew (ie led ps) es.toArray h x=((es++[(h,x)]).toArray,ie led (ps++[j]),false,false):=by
 unfold layNew;rw[(ok led).1];dsimp only;rw[GO ok];dsimp only;rw[Ac es (h,x) c.symm];have d:(ie led<|ps++[j]).fits (es++[(h,x)]).toArray.size=true:=pZ (by simp[c]) (by simp[c];omega);unfold SetTable.orStandIn;rw[d];rfl
section
variable{a:OD}
theorem BL{kt:List (Int×Tok)}:ElemsOf (knd:=UL prog w) (fV kt):=λe c=>by
 obtain⟨p,_,rfl⟩:=QC.mp c;exact⟨⟨p.1,by simp[UL,SR],rfl⟩,rfl⟩
theorem yp{led:Bool}{kt:List (Int×Tok)}{ps:List Nat}{k:Int}{t:Tok}{j ep:Nat}{o:Obj}{Q:Bool->OI->Prop}(ho:s.heap.get? a=some o)(hd:o.data=.set (fV kt).toArray ep (ie led ps))(m:kt.length=ps.length)(u:ps.length≤3)(i:∀p∈kt,p.1≠k)(ok:sU ps (SZ k) j)
  (h:Q true {s with heap:=s.heap.update a (YN (fV<|kt++[(k,t)]).toArray (ie led<|ps++[j]))}):OM (OP prog w) A (ZV a (.int k t)<|SZ k) Q E s:=by
 have c:(fV kt).length=ps.length:=by unfold fV;simpa using m
 have d:(ie led ps).fits (fV kt).toArray.size=true:=pZ (by simp[c]) (by simp[c];omega);have f:=BL (prog:=prog) (w:=w) (kt:=kt);unfold ZV setAddHashedIn;refine Pg (OB<|Sl ho hd d ?_);dsimp only;rw[byScan_of (knd:=UL prog w) (x:=.int k t) rfl (by simp[c,scanBound];omega) (by simpa using f)];simp only[↓reduceIte];unfold setAddByScan;refine OB (OB<|Tx ?_);refine OB (wpAny_setScan_of (knd:=UL prog w) (k:=k) (by simp[UL,SR]) ho hd d (by simpa using f) ?_);have hn:(fV kt).toArray.toList.findIdx? (λe=>(UL prog w).is k e.2)=none:=by
  rw[List.findIdx?_eq_none_iff];intro e r;obtain⟨p,l,rfl⟩:=QC.mp (by simpa[fV] using r:e∈kt.map λp=>(SZ p.1,RK p.1 p.2));have:=i p l;simp[UL,SR,this]
 rw[hn];dsimp only;rw[GP ok c (by omega)];dsimp only;show OM _ _ (pure () >>= _) _ _ _;refine OB (OE ?_);show OM _ _ (hashByValue 8 (.int k t) >>= _) _ _ _;rw[hashByValue_scannable 8 rfl];refine OB (OE ?_);simp only[plainKind,↓reduceIte];refine OB (wpAny_storeSet_of ho hd ?_<|by simp[c,Pz];omega);have tf:(ie led<|ps++[j]).tooFull=false:=by
  unfold SetTable.tooFull Zx ie;simp[V3];omega
 rw[tf];refine OE (OE ?_);have e:(fV kt++[(SZ k,RK k t)])=fV (kt++[(k,t)]):=by simp[fV]
 rw[e];exact h
theorem rB(x:OC){Q₁:OC->OI->Prop}
  (h:Q₁ (.ref s.heap.objs.size) {s with heap:=s.heap.push {cls:=.type "set",dict:=none,data:=.set #[] 0 (.fresh 0 0<|!w.params.followText "set-order")}}) :
  RX (OP prog w) A (.call (.builtin "set.__new__") ⟨[.type "set",x],[]⟩) (wants Q₁ E) s:=by
 refine VC ?_;show OM _ A.in1 (do Vc "set.__new__" ⟨[.type "set",x],[]⟩;again (.builtin "set.__new__" ⟨[.type "set",x],[]⟩)) _ _ s;refine OB (SW (F.newCall_set_1 x)<|OE ⟨Zy Yc _,SJ F.entry_set_new ?_⟩);rw[T5 Yc _];unfold QS.«set.__new__» YO;have c:=sub_set_self;obtain⟨f,g,d,tk,os⟩:=s;dsimp only
 wp_walk
 refine Ss (OE ?_);dsimp only;simp only[newObj];refine OB (wpAny_alloc<|OE ?_);exact OE h
end
theorem fW:Slot "set_iterator" "__next__" "set_iterator.__next__" :=
 .of (owner:="set_iterator") (n:="__next__") (by rw[Yd,VM];kernel_rfl) (by decide +kernel) (by decide +kernel) (by decide +kernel)
  (by first | exact .inl (by decide +kernel) | exact .inr (by decide +kernel)) (by rw[V4];kernel_rfl)
theorem rC:YJ Z9 "set_iterator.__next__" = some QS.«set_iterator.__next__»:=entryFor_of_tree (by kernel_rfl)
theorem wu:Manifest.owners.lookup (String.ofList ['r','o','t','a','r','e','t','i','_','t','e','s'].reverse)=some Manifest.sig_set_iterator:=by kernel_rfl
theorem uJ(a:OC):argsOk "set_iterator.__next__" ⟨[a],[]⟩:=by
 unfold argsOk;rw[Zz (id:="set_iterator.__next__") (n:=['_','_','t','x','e','n','_','_']) (o:=['r','o','t','a','r','e','t','i','_','t','e','s']) (by kernel_rfl) wu];kernel_rfl
theorem lQ:Slot "set_iterator" "__iter__" "set_iterator.__iter__" :=
 .of (owner:="set_iterator") (n:="__iter__") (by rw[Yd,VM];kernel_rfl) (by decide +kernel) (by decide +kernel) (by decide +kernel)
  (by first | exact .inl (by decide +kernel) | exact .inr (by decide +kernel)) (by rw[V4];kernel_rfl)
theorem rD:YJ Z9 "set_iterator.__iter__" = some QS.«dict_keyiterator.__iter__» :=
 V2 (id':="dict_keyiterator.__iter__") (by kernel_rfl) (by first | rfl | decide +kernel | (unfold YQ;simp +decide [Xm])) (by decide +kernel) (by kernel_rfl)
theorem uK(a:OC):argsOk "set_iterator.__iter__" ⟨[a],[]⟩:=by
 unfold argsOk;rw[Zz (id:="set_iterator.__iter__") (n:=['_','_','r','e','t','i','_','_']) (o:=['r','o','t','a','r','e','t','i','_','t','e','s']) (by kernel_rfl) wu];kernel_rfl
theorem lR:YJ Z9 "set.__iter__" = some QS.«frozenset.__iter__» :=
 V2 (id':="frozenset.__iter__") (by kernel_rfl) (by first | rfl | decide +kernel | (unfold YQ;simp +decide [Xm])) (by decide +kernel) (by kernel_rfl)
def kR(w:Py)(h:Pk)(a:OD)(kt:List (Int×Tok))(ps:List Nat)(ep:Nat):Prop:=∃o,h.get? a=some o/\o.ExactSet/\o.data=.set (fV kt).toArray ep (ie (!w.params.followText "set-order") ps)
def BM(h:Pk)(it a:OD)(f i:Int)(n ep:Nat):Prop:=h.get? it=some {cls:=.type "set_iterator",dict:=none,data:=.fields #[.int f 0,.int i 0,.ref a,.int n 0,.int ep 0],slots:=#[]}
section
variable{a it:OD}{kt:List (Int×Tok)}{ps:List Nat}{ep:Nat}
theorem kR.typeIs(x:kR w s.heap a kt ps ep):s.TypeIs (.ref a) "set":=let ⟨o,ho,c,_⟩:=x;⟨o,ho,c.1⟩
theorem BM.typeIs{f i:Int}{n:Nat}(x:BM s.heap it a f i n ep):s.TypeIs (.ref it) "set_iterator":=⟨_,x,rfl⟩
theorem lS:(fV kt).toArray.size=kt.length:=by simp[fV]
theorem ig{led:Bool}(c:ps.length=kt.length)(d:kt.length≤7):(ie led ps).fits (fV kt).toArray.size=true:=by rw[lS];exact pZ c d
theorem Ey{Q:OC->OI->Prop}(x:kR w s.heap a kt ps ep)(c:ps.length=kt.length)(f:kt.length≤7)
  (h:Q (.ref s.heap.objs.size) {s with heap:=s.heap.push {cls:=.type "set_iterator",data:=.fields #[.int 0 0,.int 0 0,.ref a,.int kt.length 0,.int ep 0]}}):OM (OP prog w) A (Xy<|.ref a) Q E s:=by
 obtain⟨o,ho,i,hd⟩:=id x;refine Tj x.typeIs Ye (Qi Ye x.typeIs lR ?_<|F.args_set_iter_1 _);unfold QS.«frozenset.__iter__»;show OM _ _ (UY a >>= _) _ _ s;unfold UY;refine OB (OB<|Ws ho hd (ig c f)<|OE ?_);rw[lS];unfold setDrawn;refine OB (OB<|Sl ho hd (ig c f) ?_);dsimp only;unfold YR;refine OB (OB<|Ss<|OE ?_);refine OE ?_;refine SK (λd=>absurd d (show ¬((!(w.params.followText "set-order")&&false)=true) by simp)) (λ_=>?_);refine OB (OE ?_);unfold setEpoch;refine OB (OB<|Sl ho hd (ig c f)<|OE ?_);refine OB (PB<|OE ⟨_,rfl,"set_iterator",_,⟨_,OQ _ rfl,rfl⟩,fW.lookup,?_⟩);exact h
end
def lT{c:Type}:Nat->List c->List (List c)
 | 0,_=>[[]]
 | n+1,l=>(RV l.length).flatMap λi=>match l[i]? with
  | some x=>(lT n<|l.eraseIdx i).map (x::·)
  | none=>[]
theorem Ad{c d:Type}(g:c->d):∀(l:List c) (i:Nat),(l.map g).eraseIdx i=(l.eraseIdx i).map g
 | [],_=>rfl
 | _::_,0=>rfl
 | x::l,i+1=>congrArg (g x::·) (Ad g l i)
theorem yq{c d:Type}(f:Nat->Nat)(g:c->d):∀(n k:Nat) (l:List c) (out:Array c),(R5 f n k (l.map g)<|out.map g)=(R5 f n k l out).map g
 | 0,_,_,_=>rfl
 | n+1,k,l,out=>by
  unfold R5;rw[Ps,Pv];cases l[f k%l.length]? with
  | none=>rfl
  | some x=>
   show R5 f n (k+1) ((l.map g).eraseIdx _) ((out.map g).push (g x))=_;rw[Ad,<-Array.map_push];exact yq f g n (k+1) _ _
theorem wv{d:Type}(f:Nat->Nat):∀(n k:Nat) (l:List d) (out:Array d),l.length=n->∃q∈lT n l,(R5 f n k l out).toList=out.toList++q
 | 0,_,_,out,_=>⟨[],Ql.mpr rfl,by unfold R5;simp⟩
 | n+1,k,l,out,e=>by
  have c:f k%l.length<l.length:=Nat.mod_lt _ (by omega);have i:l[f k%l.length]?=some l[f k%l.length]:=Pd c;obtain⟨q,j,h⟩:=wv f n (k+1) (l.eraseIdx<|f k%l.length) (out.push l[f k%l.length]) (by rw[List.length_eraseIdx_of_lt c];omega);refine⟨l[f k%l.length]::q,?_,?_⟩
  ·unfold lT;refine XJ.mpr ⟨f k%l.length,Us.mpr c,?_⟩;rw[i];exact QC.mpr ⟨q,j,rfl⟩
  ·unfold R5;rw[i];dsimp only;rw[h];simp
theorem yr{c:Type}:∀(n:Nat) (l q:List c),q∈lT n l->q.length=n
 | 0,_,q,h=>by cases(Ql.mp h);rfl
 | n+1,l,q,h=>by
  unfold lT at h;obtain⟨i,_,h⟩:=XJ.mp h;split at h
  ·obtain⟨d,f,rfl⟩:=QC.mp h;simp[yr n _ d f]
  ·cases h
def kT(w:Py)(a:OD)(ep:Nat)(kt:List (Int×Tok)):List (Int×Tok):=match w.params.followText "set-order" with
 | true=>(TL (w.params.setOrder a ep) kt.toArray).toList
 | false=>kt
theorem GQ{a:OD}{ep:Nat}{kt:List (Int×Tok)}:(TL (w.params.setOrder a ep) (fV kt).toArray).toList=fV (TL (w.params.setOrder a ep) kt.toArray).toList:=by
 unfold TL;rw[lS];have:=yq (w.params.setOrder a ep) (λp:Int×Tok=>(SZ p.1,RK p.1 p.2)) kt.length 0 kt #[];simp only[OJ];show(R5 _ kt.length 0 (kt.map _) #[]).toList=_;rw[show(#[]:Array (Int×OC))=(#[]:Array (Int×Tok)).map (λp:Int×Tok=>(SZ p.1,RK p.1 p.2)) by simp,this];simp[fV]
theorem Ez{a:OD}{ep:Nat}{kt:List (Int×Tok)}:(kT w a ep kt).map Q6∈kt.map Q6::lT kt.length (kt.map Q6):=by
 unfold kT;cases w.params.followText "set-order" with
 | false=>exact OW
 | true=>
  refine OT _ ?_;have h1:=yq (w.params.setOrder a ep) (Q6:Int×Tok->Int) kt.length 0 kt #[];obtain⟨q,c,e⟩:=wv (w.params.setOrder a ep) kt.length 0 (kt.map Q6) #[] (by simp);have:((TL (w.params.setOrder a ep) kt.toArray).toList).map Q6=q:=by
   unfold TL;simp only[OJ];rw[<-Vb,<-h1];simpa using e
  dsimp only;rw[this];exact c
theorem uL{a:OD}{ep:Nat}{kt:List (Int×Tok)}:(kT w a ep kt).length=kt.length:=by
 rcases OY.mp (Ez (w:=w) (a:=a) (ep:=ep) (kt:=kt)) with h | h
 ·simpa using congrArg XY h
 ·simpa using yr _ _ _ h
def kU(ps:List Nat):Prop:=Pu ps.toArray 0=0/\∀i j,ps[i]?=some j->Pu ps.toArray (j+1)=i+1
theorem EA(j:Nat):kU [j]:=⟨by simp[Pu,Xn],λi k e=>by
 cases i with
 | zero=>simp at e;subst e;simp[Pu,Xn]
 | succ i=>simp at e⟩
section
variable{a it:OD}{kt:List (Int×Tok)}{ps:List Nat}{ep:Nat}
theorem ww{slot i:Nat}{Q:Option (OC×Nat)->OI->Prop}(x:kR w s.heap a kt ps ep)(f:ps.length=kt.length)(l:kt.length≤7)(m:kU ps)(hb:w.params.followText "set-order" = false->Pu ps.toArray slot=i)
  (item:∀p n,(kT w a ep kt)[i]?=some p->(w.params.followText "set-order" = false->Pu ps.toArray n=i+1)->Q (some (.int p.1 p.2,n)) s) (done:(kT w a ep kt)[i]?=none->Q none s):OM (OP prog w) A (setNext a slot i ep) Q E s:=by
 obtain⟨o,ho,r,hd⟩:=id x;unfold setNext;refine OB (Sl ho hd (ig f l) ?_);dsimp only;unfold YR;refine OB (OB<|Ss<|OE ?_);dsimp only;show OM _ _ (if (w.params.followText "set-order")=true then _ else _) _ _ _;cases c:w.params.followText "set-order" with
 | true=>
  simp only[↓reduceIte,bne_self_eq_false,O5];unfold setWalk;refine OB (OB<|Sl ho hd (ig f l) ?_);dsimp only;unfold YR;refine OB (OB<|Ss<|OE ?_);show OM _ _ (if (w.params.followText "set-order")=true then _ else _) _ _ _;rw[if_pos c];refine OB (Ss<|OE<|OE ?_);have eo:kT w a ep kt=(TL (w.params.setOrder a ep) kt.toArray).toList:=by unfold kT;rw[c]
  show Q (ab2 (λe=>(e.2,slot)) (TL (w.params.setOrder a ep) (fV kt).toArray)[i]?) s;rw[<-Rr,GQ,<-eo];unfold fV;rw[Pv];cases q:(kT w a ep kt)[i]? with
  | none=>exact done q
  | some p=>exact item p slot q λz=>by rw[c] at z;cases z
 | false=>
  simp only[O5,↓reduceIte];refine SK (λd=>absurd d (show ¬(false=true) by simp)) (λ_=>?_);refine OB ?_;refine SK (λd=>absurd d ?_) (λ_=>OE ?_)
  ·show ¬(false=true);simp
  refine OE ?_;have eo:kT w a ep kt=kt:=by unfold kT;rw[c]
  rw[eo] at item done;have hb:=hb c;show Q (match (fV kt).toArray[Pu ps.toArray slot]?,ps.toArray[Pu ps.toArray slot]? with
   | some (_,x),some j=>some (x,j+1)
   | _,_=>none) s
  rw[hb];simp only[VI];unfold fV;rw[Pv];cases q:kt[i]? with
  | none=>exact done q
  | some p=>
   have h:i<ps.length:=by rw[f];exact(OL.mp q).1
   rw[Pd h];exact item p _ q λ_=>m.2 i _ (Pd h)
end
section
variable{a it:OD}{kt:List (Int×Tok)}{ps:List Nat}{ep:Nat}
theorem wx{n i:Nat}{Q:Option OC->OI->Prop}(h:A.handled=none)(x:kR w s.heap a kt ps ep)(f:ps.length=kt.length)(j:kt.length≤7)(r:kU ps)(z:BM s.heap it a (n:Nat) (i:Nat) kt.length ep)(hb:w.params.followText "set-order" = false->Pu ps.toArray n=i)
  (item:∀h' p (n:Nat),(kT w a ep kt)[i]?=some p->(w.params.followText "set-order" = false->Pu ps.toArray n=i+1)->BM h' it a (n:Nat) (i+1:Nat) kt.length ep->QA it s.heap h'->Q (some<|.int p.1 p.2) {s with heap:=h'})
  (done:(kT w a ep kt)[i]?=none->∀h',aa3 it s.heap h'->Q none {s with heap:=h'}):OM (OP prog w) A (UU<|.ref it) Q E s:=by
 obtain⟨os,c,C,d⟩:=id x;unfold UU;refine OB (RH<|Q7 (name:=OG "__next__") z.typeIs fW<|Qi fW z.typeIs rC ?_<|uJ _);unfold QS.«set_iterator.__next__»;refine OB (OE ?_);refine OB (Tl z rfl ?_);dsimp only;refine OB (Ws c d (ig f j) ?_);rw[lS,if_neg (by simp)];simp only[Tg];refine OB (ww x f j r hb (λp m q H=>?_) λq=>?_)
 ·dsimp only;refine OB (QG z (by simp) λl o s1=>?_);refine OB (QG (s:={s with heap:=l}) o (by simp) λI L u=>?_);exact OE ⟨_,rfl,OE<|item I p m q H (by unfold BM;simpa[Rl] using L)<|s1.trans u⟩
 ·dsimp only;refine OB (QG z (by simp) λl o s1=>?_);show OM _ _ (newExc (.type "StopIteration") [] >>= _) _ _ _;refine OB ?_;simp only[newExc,newTuple];refine OB (PB ?_<|by size_fits);refine OB (m:=UH _ _) (SW (a:=Pw) (by first | rfl | (simp only[UH];rfl)) ?_);refine PB ?_ (by size_fits);simp only[raiseNew];refine OB (WH ?_)
  first | rw[show A.in1.handled=none from h] | rw[h]
  refine OB (OE<|X3 ?_);refine OB (U8 (T:="StopIteration") (b:=true) ⟨_,OQ _ rfl,rfl⟩ YI ?_);exact OE (done q _<|(s1.extBut.push _).push _)
theorem kR.at{h h':Pk}(x:kR w h a kt ps ep)(e:∀o,h.get? a=some o->h'.get? a=some o):kR w h' a kt ps ep:=let ⟨o,ho,r⟩:=x;⟨o,e o ho,r⟩
theorem BN(H:A.handled=none)(u:ps.length=kt.length)(L:kt.length≤7)(j:kU ps)(I:OD)(d:a≠I):Walks prog w A I [I,a] [I] kt.length (λi v=>∃p,(kT w a ep kt)[i]?=some p/\v=.int p.1 p.2) (λi h=>kR w h a kt ps ep/\∃n:Nat,(w.params.followText "set-order" = false->Pu ps.toArray n=i)/\BM h I a (n:Nat) (i:Nat) kt.length ep) where
 sub:=λb hb=>by simp at hb;simp[hb]
 frame:=λi h h' st C=>⟨st.1.at λo e=>C a (by simp) o e,by
  obtain⟨n,hn,z⟩:=st.2;exact⟨n,hn,C I (by simp) _ z⟩⟩
 item:=λi s Q E U st hQ=>by
  obtain⟨x,n,hn,z⟩:=st;refine wx H x u L j z hn (λh' p m q r l c=>hQ _ h' s.toks ⟨p,q,rfl⟩ ⟨x.at λo e=>(c.2 a d).trans e,m,r,l⟩ λb o hb e=>(c.2 b<|λz=>hb (by simp[z])).trans e) λq=>?_;rw[Pj,uL] at q;omega
 done:=λs Q E st hQ=>by
  obtain⟨x,n,hn,z⟩:=st;refine wx H x u L j z hn (λh' p m q r l c=>?_) λq h' O=>hQ h' s.toks λb o hb e=>O b o (λz=>hb (by simp[z])) e;have:=(OL.mp q).1;rw[uL] at this;omega
 self:=λi s Q E st hQ=>by
  obtain⟨_,n,_,z⟩:=st;have f:s.TypeIs (.ref I) "set_iterator":=z.typeIs;refine Tj f lQ (Qi lQ f rD ?_<|uK _);show OM _ _ (ret<|.ref I) _ _ s;exact OE ⟨_,rfl,"set_iterator",_,f,fW.lookup,hQ⟩
theorem GR{r:OD}{Q:Bool->OI->Prop}(i:s.TypeIs (.ref r) "set")(h:Q false s):OM (OP prog w) A (Up<|.ref r) Q E s:=by
 unfold Up;refine OB (X7 i PySem.F.slot_set_len.lookup ?_);generalize d:("set.__len__":String)=f
 wp_delta
 rw[show splitId f=some ("set","__len__") from by subst d;decide +kernel];subst d;refine OB (U8 (T:="set") (b:=true) i (by rw[V4];kernel_rfl) ?_);refine SK (λc=>absurd c (by decide)) (λ_=>?_);refine SK (λ_=>?_) (λc=>absurd (by decide +kernel) c);refine OB (Uj i ?_);exact OE h
theorem GS(f:ps.length=kt.length)(j:kt.length≤7)(d:kU ps):KdlSrc prog w "set" a a kt.length (λi v=>∃p,(kT w a ep kt)[i]?=some p/\v=.int p.1 p.2) (λh=>kR w h a kt ps ep) where
 type:=λ_ x=>x.typeIs
 there:=λ_ x=>let ⟨_,ho,_⟩:=x;⟨OO ho,OO ho⟩
 keep:=λ_ _ x l=>x.at λo e=>l a (.inl rfl) o e
 notList:=by decide
 notTuple:=by decide
 hint:=λ_ _ _ _ x c=>GR x.typeIs c
 iter:=λ_ _ m x=>⟨_,_,(λ_ _ c=>Ey x f j c),BN m f j d _ (let ⟨_,ho,_⟩:=x;O0 (OO ho)),⟨x.at λo e=>OF _ e,0,λ_=>d.1,OQ _ rfl⟩⟩
end
section
inductive qa:List Nat->List Int->List Nat->Prop where
 | nil {ps:List Nat}:qa ps [] ps
 | cons {ps qs:List Nat} {k:Int} {ks:List Int} {j:Nat}:sU ps (SZ k) j->ps.length≤3->qa (ps++[j]) ks qs->qa ps (k::ks) qs
def vI(kt:List (Int×Tok)):List OC:=kt.map λp=>.int p.1 p.2
theorem wy{R:Result->OI->Prop}{S I l:OD}(Y:A.in1.handled=none)(f:l≠I)(c:S≠I)(x:S≠l){all:List (Int×Tok)}{qs:List Nat}(hn:(all.map Q6).Nodup) :
  ∀(r d:List (Int×Tok)) (ps:List Nat) (ep:Nat) (s:OI),all=d++r->qa ps (r.map Q6) qs->d.length=ps.length->kR w s.heap S d ps ep->s.heap.IsTupleIter I l d.length->s.heap.IsTuple l (vI all).toArray ->
  (∀h' tk ep,kR w h' S all qs ep->qs.length=all.length->(∀b o,b≠S->b≠I->s.heap.get? b=some o->h'.get? b=some o)->R (.ok<|.ret .none) {s with heap:=h',toks:=tk}) ->
  RX (OP prog w) A (.builtin "set.update.loop" ⟨[.ref S,.ref I],[]⟩) R s
 | [],d,ps,ep,s,e,m,hd,hS,hI,U,hR=>by
  have W:=aa4 (prog:=prog) (w:=w) Y I l f (vI all).toArray;simp at e;subst e;cases m;refine SJ Vd ?_;rw[T5 SX _];show OM _ A.in1 (UU (.ref I) >>= _) _ _ s;refine OB (W.done _ _ _ ⟨by simpa[vI] using hI,U⟩ λh2 H u=>?_);show OM _ A.in1 (ret Pw) _ _ _;refine OE (hR h2 H ep (hS.at λo e=>u S o (by simp[c]) e) hd.symm λb o O C e=>u b o (by simp[C]) e)
 | (k,t)::r,d,ps,ep,s,e,m,hd,hS,hI,U,hR=>by
  have W:=aa4 (prog:=prog) (w:=w) Y I l f (vI all).toArray;cases m with
  | @cons _ _ _ _ j ok h3 m=>
  refine SJ Vd ?_;rw[T5 SX _];show OM _ A.in1 (UU (.ref I) >>= _) _ _ s;refine OB (W.item d.length s _ _ (by simp[vI,e]) ⟨hI,U⟩ λv h1 tk Q i kp=>?_);have Q:v=.int k t:=by simpa[vI,e] using Q.symm
  subst Q;have Z:=hS.at (h':=h1) λo e=>kp S o (by simp[c]) e;obtain⟨o,ho,hx,h⟩:=id Z;show OM _ A.in1 (Rq [RK k t] (setAdd S<|.int k t) >>= _) _ _ _;refine OB (Pg ?_);unfold setAdd;refine Pg ?_;refine OB ((UL prog w).pyHash (k:=k) (intKind_is _ _ _ _) ?_);refine yp (kt:=d) (ps:=ps) (j:=j) ho h hd h3 (λp hp z=>?_) ok ?_
  ·rw[e] at hn;simp only[Ue,O8] at hn;have:=(Xj.mp hn).2.2 p.1 (QC.mpr ⟨p,hp,rfl⟩) k OW;exact this z
  refine OE ⟨Zy SX _,?_⟩;have hg:=Qw (YN (fV<|d++[(k,t)]).toArray (ie (!w.params.followText "set-order")<|ps++[j])) ho (by rw[putSet_of _ _ h];rfl);rw[putSet_of _ _ h] at hg;refine wy Y f c x hn r (d++[(k,t)]) (ps++[j]) (ep+1) _ (by simp[e]) m (by simp[hd]) ⟨_,hg,hx,rfl⟩ ?_ ?_ λh' L ep' a1 a2 a3=>hR h' L ep' a1 a2 λb o O C e=>a3 b o O C ((P1 _ _ _ _ O).trans (kp b o (by simp[C]) e))
  ·have:=i.1.at (h':=h1.update S (YN (fV<|d++[(k,t)]).toArray (ie (!w.params.followText "set-order")<|ps++[j]))) λo e=>(P1 _ _ _ _ c.symm).trans e;simpa using this
  ·exact i.2.at λo e=>(P1 _ _ _ _ x.symm).trans e
set_option maxRecDepth 100000 in
theorem uM{l:OD}{kt:List (Int×Tok)}{ps:List Nat}{Q:OC->OI->Prop}(hh:A.handled=none)(hl:s.heap.IsTuple l (vI kt).toArray)(hn:(kt.map Q6).Nodup)(la:qa [] (kt.map Q6) ps)
  (h:∀(h':Pk) (tk:Nat) ep,kR w h' s.heap.objs.size kt ps ep->ps.length=kt.length->(∀b o,s.heap.get? b=some o->h'.get? b=some o)->Q (.ref s.heap.objs.size) {s with heap:=h',toks:=tk}) :
  OM (OP prog w) A (call (.type "set") [.ref l]) Q E s:=by
 obtain⟨c,tl,hmro⟩:=R6.mro;have Y:=R6.made;have hsub:=R6.sub;refine QF (VC ?_);show OM _ _ (callAny (.type "set") _) _ _ _;refine OE ⟨SQ _<|by decide +kernel,SJ F.entry_type_call ?_⟩;rw[Around.under_plain (weight_type_call_type "set" [.ref l] []) rfl];have h1:=R6.notType;have h2:=R6.canCreate;have hct:=F.typeCall_set_1 (.ref l)
 repeat (any_goals (first | assumption | wp_step))
 refine Qf (rB (.ref l) (E:=E) (Q₁:=λobj s₁=>obj=.ref s.heap.objs.size/\s₁={s with heap:=s.heap.push {cls:=.type "set",dict:=none,data:=.set #[] 0 (.fresh 0 0<|!w.params.followText "set-order")}}) ⟨rfl,rfl⟩) λr s₁ hr=>?_;cases r with
 | error e=>exact hr
 | ok fl=>
  cases fl with
  | ret obj=>
   obtain⟨rfl,rfl⟩:=hr;generalize C:(!w.params.followText "set-order")=led;have hS:(s.heap.push {cls:=.type "set",dict:=none,data:=.set #[] 0 (.fresh 0 0 led)}).get? s.heap.objs.size=some {cls:=.type "set",dict:=none,data:=.set #[] 0 (.fresh 0 0 led)}:=OQ _ rfl;have hT:WF {s with heap:=s.heap.push {cls:=.type "set",dict:=none,data:=.set #[] 0 (.fresh 0 0 led)}} (.ref s.heap.objs.size) "set":=⟨_,hS,rfl⟩
   have hli:=R6.init.lookup;have hbi:=R6.init.bind (.ref s.heap.objs.size)
   repeat (any_goals (first | assumption | wp_step))
   refine Qf (RE (R:=wants (λr i=>r=.none/\∃h' tk ep,i={s with heap:=h',toks:=tk}/\kR w h' s.heap.objs.size kt ps ep/\ps.length=kt.length /\
     (∀b o,s.heap.get? b=some o->h'.get? b=some o)) E) R6.init.plain F.entry_set_init (check_set_init_1 hT ?_)) λp i d=>?_
   ·obtain⟨ol,x,O,nl,L⟩:=id hl;obtain⟨ocls,j,U,f⟩:=ol;simp only at O L;subst O;subst L;have u:(s.heap.push {cls:=.type "set",dict:=none,data:=.set #[] 0 (.fresh 0 0 led)}).get? l=some {cls:=.type "tuple",dict:=j,data:=.seq (vI kt).toArray nl,slots:=f}:=OF _ x;have hsls:=F.sub_tuple_set;have hslf:=F.sub_tuple_frozenset;have hne:(WK "tuple"==WK "dict")=false:=by decide
    have I:(s.heap.push {cls:=.type "set",dict:=none,data:=.set #[] 0 (.fresh 0 0 led)}).IsTuple l (vI kt).toArray:=⟨_,u,rfl,nl,rfl⟩
    unfold QS.«set.__init__» noKeywords Yg;generalize hPI:Xy=PI
    wp_walk
    subst hPI;refine WO I ?_;refine OB (wpAny_runValue ?_);have H:l<s.heap.objs.size:=OO x;have hh3:A.in1.in1.in1.handled=none:=by simp[hh]
    have z:l≠(s.heap.push {cls:=.type "set",dict:=none,data:=.set #[] 0 (.fresh 0 0 led)}).objs.size:=by
     rw[RL];exact O0 (Sk H)
    have hSI:s.heap.objs.size≠(s.heap.push {cls:=.type "set",dict:=none,data:=.set #[] 0 (.fresh 0 0 led)}).objs.size:=by
     rw[RL];exact O0 (P6 _)
    subst C;refine wy hh3 z hSI (So H) hn kt [] [] 0 _ rfl la rfl ⟨_,OF _ hS,⟨rfl,rfl,rfl⟩,rfl⟩ ⟨_,OQ _ rfl,rfl,rfl⟩ (I.push _) λh' tk ep o o2 kp=>?_;show OM _ _ _ _ _ _;refine OE ?_;show OM _ _ (ret Pw) _ _ _;refine OE ⟨rfl,h',tk,ep,rfl,o,o2,λb o e=>?_⟩;have hb:=OO e;exact kp b o (O0 hb) (by rw[RL];exact O0 (Sk hb)) (OF _<|OF _ e)
   ·cases p with
    | error e=>exact d
    | ok m=>
     cases m with
     | ret r=>
      obtain⟨rfl,h',tk,ep,rfl,hS',hS2,Z⟩:=d
      repeat (any_goals (first | assumption | wp_step))
      exact h _ _ _ hS' hS2 Z
     | _=>exact d.elim
  | _=>exact hr.elim
end
def yt(w:Py)(a:OD)(ks:List Int):HO:=.ext λh=>∃kt ps ep,kt.map Q6=ks/\kR w h a kt ps ep/\ps.length=kt.length/\kU ps
def wz(ks:List Int):Prop:=ks.Nodup/\∃ps,qa [] ks ps/\kU ps
def wA(ks:List Int):Prop:=ks.length≤7/\∀kz,kz∈ks::lT ks.length ks->∀H,eZ H (kz.map V.int) (kz.map V.int) (ks.map V.int)
def EB(w:Py):List V->Hp->VK->Prop:=λvs H Q=>∃a ks,vs=[.ref a]/\H a=some (.tup<|ks.map V.int)/\wz ks/\∀p,H p=none->Q (.ref p) (upd H p<|yt w p ks)
def yu(w:Py):List V->Hp->VK->Prop:=λvs H Q=>∃a ks,vs=[.ref a]/\H a=some (yt w a ks)/\wA ks/\∀p,H p=none->Q (.ref p) (upd H p<|.lst<|ks.map V.int)
theorem Ae:∀{ks:List Int} {us:List OC},aK (ks.map V.int) us->∃kt:List (Int×Tok),kt.map Q6=ks/\us=vI kt
 | [],_,r=>by cases r;exact⟨[],rfl,rfl⟩
 | k::ks,_,r=>by
  cases r with
  | cons r0 c=>
   obtain⟨t,rfl⟩:=r0;obtain⟨kt,rfl,rfl⟩:=Ae c;exact⟨(k,t)::kt,rfl,rfl⟩
theorem wB:∀{l:List (Int×Tok)} {us:List OC},us.length=l.length->(∀(i:Nat) v,us[i]?=some v->∃p,l[i]?=some p/\v=.int p.1 p.2)->aK ((l.map Q6).map V.int) us
 | [],us,e,_=>by cases us with
  | nil=>exact .nil
  | cons _ _=>simp at e
 | p::l,us,e,h=>by cases us with
  | nil=>simp at e
  | cons u us=>
   obtain⟨q,c,rfl⟩:=h 0 u rfl;simp at c;subst c;exact .cons ⟨p.2,rfl⟩ (wB (by simpa using e) λi v d=>by simpa using h (i+1) v (by simpa using d))
section
theorem BO(p:X.calm=true):dj X (.type "set") (EB X.w):=by
 intro pins s σ H xs us Q I r h;obtain⟨a,ks,rfl,x,⟨hn,ps,m,d⟩,q⟩:=h;obtain⟨u,rfl,j⟩:=iQ r;cases j;obtain⟨z,its,i,f⟩:=I.hok a _ x;obtain⟨kt,rfl,rfl⟩:=Ae i;refine uM (I.ok.hd p) f hn m λh' tk ep o c kp=>?_;refine⟨.ref s.heap.objs.size,_,I.laid (a:=s.heap.objs.size) (h':=h') (o:=yt X.w s.heap.objs.size (kt.map Q6)) (t':=tk) kp (OU _) ⟨⟨kt,ps,ep,rfl,o,c,d⟩,let ⟨ob,ho,_⟩:=o;⟨ob,ho⟩,λO L ⟨kt,ps,ep,C,o,c,l⟩ e=>⟨kt,ps,ep,C,o.at e,c,l⟩⟩,rfl,q _<|I.hok.fresh<|OU _⟩
theorem yv(L:X.calm=true):dj X (.builtin "sorted") (yu X.w):=by
 intro pins s σ H xs us Q I r h;obtain⟨a,ks,rfl,O,⟨d,j⟩,q⟩:=h;obtain⟨u,rfl,l⟩:=iQ r;cases l;obtain⟨⟨kt,ps,ep,rfl,o,z,f⟩,_⟩:=I.hok a _ O;rw[Ps] at d;have c:=Ez (w:=X.w) (a:=a) (ep:=ep) (kt:=kt);have len:=uL (w:=X.w) (a:=a) (ep:=ep) (kt:=kt);refine pX (ys:=((kT X.w a ep kt).map Q6).map V.int) (out:=(kt.map Q6).map V.int) L I ?_ (by simp[len];omega) (j _ (by rw[Ps];exact c) H) q;intro A Q E C q;refine kdu_collect (GS (prog:=X.prog) (w:=X.w) (kt:=kt) (ps:=ps) (ep:=ep) z d f) C o (by rw[Pz];omega) λh' tk acc kp m=>?_;refine q _ h' tk ?_ kp;obtain⟨x,p⟩:=m;exact wB (by rw[Px,x,len]) λi v e=>p i v (by rw[<-Rr];exact e)
theorem wz.one(k:Int):wz [k]:=⟨by simp,_,.cons (Ex _) (by simp) .nil,EA _⟩
theorem wA.one(k:Int):wA [k]:=⟨by simp,λkz m H=>.inl (by
 have:kz=[k]:=by
  rcases OY.mp m with m | m
  ·exact m
  ·simpa[lT] using m
 subst this;simp)⟩
theorem ck{a b:Bool}(h:(a&&b)=true):a=true/\b=true:=by simpa using h
def BQ(led:Bool)(ps:List Nat)(h:Int)(j:Nat):Bool:=match (ie led ps).freeSlot h with
 | some (c,false)=>OS c j&&OS (Pu ps.toArray j) ps.length
 | _=>false
def GT:List Nat->List Int->Option (List Nat)
 | ps,[]=>some ps
 | ps,k::ks=>match (ie true ps).freeSlot (SZ k) with
  | some (j,_)=>match BQ true ps (SZ k) j&&BQ false ps (SZ k) j&&Pr ps.length 3 with
   | true=>GT (ps++[j]) ks
   | false=>none
  | none=>none
def J2(ps:List Nat):Nat->List Nat->Bool
 | _,[]=>true
 | i,j::c=>OS (Pu ps.toArray<|j+1) (i+1)&&J2 ps (i+1) c
def J3(ks kz:List Int):Bool:=match rA (wm false kz) (YK kz.length) with
 | some p=>p.toList.all (λi=>QW i kz.length)&&decide (p.toList.map (λi=>kz.getD i 0)=ks)&&Pr p.toList.length 64
 | none=>false
def J4:List Int->Bool
 | []=>true
 | k::ks=>ks.all (λz=>!(decide<|k=z))&&J4 ks
def J5(ks:List Int):Bool:=Pr 2 ks.length&&Pr ks.length 7&&J4 ks&&(match GT [] ks with
 | some ps=>OS (Pu ps.toArray 0) 0&&J2 ps 0 ps
 | none=>false)&&(ks::lT ks.length ks).all (J3 ks)
theorem GU{ps:List Nat}{h:Int}{j:Nat}(d:BQ true ps h j=true)(c:BQ false ps h j=true):sU ps h j:=by
 have:∀led,BQ led ps h j=true->(ie led ps).freeSlot h=some (j,false)/\Pu ps.toArray j=ps.length:=λled q=>by
  unfold BQ at q;split at q
  ·rename_i f e;obtain⟨a,b⟩:=ck q;rw[e,ON a];exact⟨rfl,ON b⟩
  ·cases q
 intro led;cases led
 ·exact this _ c
 ·exact this _ d
theorem Af:∀{ks:List Int} {ps qs:List Nat},GT ps ks=some qs->qa ps ks qs
 | [],ps,qs,e=>by cases e;exact .nil
 | k::ks,ps,qs,e=>by
  unfold GT at e;split at e
  ·split at e
   ·rename_i q;obtain⟨q,c⟩:=ck q;obtain⟨q1,q2⟩:=ck q;exact .cons (GU q1 q2) (Qj c) (Af e)
   ·cases e
  ·cases e
theorem Ag{ps:List Nat}:∀{c:List Nat} {i:Nat},J2 ps i c=true->∀n j,c[n]?=some j->Pu ps.toArray (j+1)=i+n+1
 | [],_,_,n,j,e=>by simp at e
 | j0::c,i,h,n,j,e=>by
  obtain⟨f,d⟩:=ck h;cases n with
  | zero=>simp at e;subst e;exact ON f
  | succ n=>
   have:=Ag d n j (by simpa using e);omega
theorem Ah:∀{ks:List Int},J4 ks=true->ks.Nodup
 | [],_=>RP
 | k::ks,h=>by
  obtain⟨d,c⟩:=ck h;refine QB.mpr ⟨λm=>?_,Ah c⟩;have:=Ri.mp d k m;simp at this
theorem wC{H:Hp}:∀(kz:List Int),BD H false kz (kz.map V.int)
 | []=>.nil
 | _::kz=>.cons rfl (wC (H:=H) kz)
theorem GV{ks kz:List Int}(f:2≤kz.length)(h:J3 ks kz=true)(H:Hp):eZ H (kz.map V.int) (kz.map V.int) (ks.map V.int):=by
 unfold J3 at h;split at h
 ·rename_i p e;obtain⟨h,d⟩:=ck h;obtain⟨h0,j⟩:=ck h;refine .inr ⟨by simpa using f,false,kz,p,wC kz,by simpa using e,by rw[<-Px];exact Qj d,?_⟩;rw[<-of_decide_eq_true j,Sr];refine Uh λi m=>?_;have c:i+1≤kz.length:=Qj (Ri.mp h0 i m);have c:i<kz.length:=c;simp[P8,Pd c]
 ·cases h
theorem Ai{ks:List Int}(h:J5 ks=true):wz ks/\wA ks:=by
 unfold J5 at h;obtain⟨h,f⟩:=ck h;obtain⟨h,d⟩:=ck h;obtain⟨h,l⟩:=ck h;obtain⟨c,o⟩:=ck h;have c:2≤ks.length:=Qj c;split at d
 ·rename_i ps e;obtain⟨r,p⟩:=ck d;refine⟨⟨Ah l,ps,Af e,ON r,λi j q=>by simpa using Ag p i j q⟩,Qj o,λkz m H=>GV ?_ (Ri.mp f kz m) H⟩;rcases OY.mp m with rfl | m
  ·exact c
  ·rw[yr _ _ _ m];exact c
 ·cases d
end
end L2
namespace RB
open PySem L2
def MZ:List AV->Option (List Int)
 | []=>some []
 | .int false lo c::xs=>match decide (lo=c),MZ xs with
  | true,some ks=>some (lo::ks)
  | _,_=>none
 | _=>none
def EC(a:BE):BE:=λσ S k=>a σ S λx c=>match x with
 | .tc (.int s lo d) .tn=>k (.ref c.n) (c.add<|.lst [.int s lo d])
 | _=>match lK x with
  | some xs=>match MZ xs with
   | some ks=>match J5 ks with
    | true=>k (.ref c.n) (c.add<|.lst xs)
    | false=>false
   | none=>false
  | none=>false
theorem ED{F:Fx}{y:Option Int}{ρ:List OD}{H:Hp}:∀{xs:List AV} {ks:List Int} {vs:List V},MZ xs=some ks->aR F y ρ H xs vs->vs=ks.map V.int
 | [],ks,_,e,.nil=>by cases e;rfl
 | x::xs,ks,_,e,.cons r t=>by
  cases x with
  | int s lo f=>
   cases s with
   | true=>cases e
   | false=>
    unfold MZ at e;split at e
    ·rename_i d q1 q2;cases e;obtain⟨z,rfl,c⟩:=a6.mp r;rw[ED q2 t];have:=of_decide_eq_true q1;subst this;have:z=lo:=by have:=c.1;have:=c.2;omega
     rw[this];rfl
    ·cases e
  | _=>cases e
section
variable{e:O4}{ba:BE}
theorem yw(h:PE X e (Jg (yu w)<|jX (Jg (EB w)<|jX (up g ba) mq) mq)):PE X e (up g<|EC ba):=by
 refine PE.imp (λσ H Q hx=>ez hx λF y ρ S σa k C r h p=>?_) h;refine ar C r h λf c I H1 ax x st C1 r1 U d=>?_;have fin:∀(xs:List AV) (ks:List Int) (a:OD),x=.ref a->H1 a=some (.tup<|ks.map V.int)->aR F f c H1 xs (ks.map V.int)->wz ks->wA ks->k (.ref I.n) (I.add<|.lst xs)=true->(Jg (EB w) (λσ H Q=>Q [x] H):TE) σ H1 λv H2=>yu w [v] H2 Q:=λxs ks a ex u i so sr hk=>by
  subst ex;refine⟨a,ks,rfl,u,so,λpl Z=>⟨pl,ks,rfl,aq,sr,λO m=>?_⟩⟩;have l:aA F f c H1 f c (upd H1 pl<|yt w pl ks):=aA.lay Z;have C2:aH g F f c I (upd H1 pl<|yt w pl ks):=C1.lay Z;have j:aA F f c (upd H1 pl<|yt w pl ks) f (c++[O]) (upd (upd H1 pl<|yt w pl ks) O<|.lst<|ks.map V.int):=aA.add m;exact p f _ _ _ (.ref I.n) _ ((st.trans l).trans j) (C2.add (o:=.lst xs) m ⟨_,rfl,aR.mono (l.trans j) i⟩) ⟨O,by rw[C1.n];simp,rfl⟩ hk
 split at d
 ·rename_i s lo hi;obtain⟨a,vs,rfl,u,i⟩:=aQ.chain_of (xs:=[.int s lo hi]) U;cases i with | cons r0 t=>cases t with | nil=>
  have L:=r0;obtain⟨z,rfl,bz⟩:=a6.mp r0;exact fin [.int s lo hi] [z] a rfl u (.cons L .nil) (.one z) (.one z) d
 ·split at d
  ·rename_i xs q;obtain⟨a,vs,rfl,u,i⟩:=gG U q;split at d
   ·rename_i ks q2;split at d
    ·rename_i Y;have:=ED q2 i;subst this;exact fin xs ks a rfl u i (Ai Y).1 (Ai Y).2 d
    ·cases d
   ·cases d
  ·cases d
end
end RB
namespace L2
open PySem PySem.Spec PyProof.Rows PySem.W
theorem lU{c d:Type}[DecidableEq c]{k:c}:∀{xs:List (c×d)} {j:Nat} {p:d},(xs.map (·.1)).Nodup->xs[j]?=some (k,p)->xs.eraseIdx j=xs.filter λx=>decide (x.1≠k)
 | [],j,p,_,e=>by simp at e
 | x::r,0,p,hn,e=>by
  simp at e;subst e;rw[O8,QB] at hn;rw[List.eraseIdx_zero,List.tail_cons,Rh];rw[if_neg (by simp)];symm;rw[List.filter_eq_self];intro x h;have:x.1≠k:=λz=>hn.1 (by rw[<-z];exact QC.mpr ⟨x,h,rfl⟩);simp[this]
 | x::r,j+1,p,hn,e=>by
  rw[O8,QB] at hn;have f:r[j]?=some (k,p):=by simpa using e
  have ne:x.1≠k:=λz=>hn.1 (by rw[z];exact QC.mpr ⟨(k,p),O9 f,rfl⟩);rw[Ve,Rh,if_pos (by simp[ne]),lU hn.2 f]
theorem sV{c d:Type}(f:c->d):∀(l:List c) (j:Nat),(l.map f).eraseIdx j=(l.eraseIdx j).map f
 | [],_=>rfl
 | _::_,0=>rfl
 | x::l,j+1=>by simp[Ve,sV f l j]
theorem KT.drop{kvs:List (List bh×V)}{xs:List (List bh×OD×OC)}(r:KT H kvs xs)(k:List bh):KT H (hO kvs k) (xs.filter λx=>decide (x.1≠k)):=by
 induction r with
 | nil=>exact .nil
 | @cons p q ps qs h t c=>
  unfold hO;rw[Rh,Rh];have e:q.1=p.1:=h.1.symm;rw[e];by_cases z:p.1=k
  ·simp only[z,ne_eq,not_true,decide_false];exact c
  ·simp only[z,ne_eq,not_false_eq_true,decide_true,if_true];exact .cons h c
section
variable{κ:Type}[DecidableEq κ]{knd:HeapKind prog w κ}
theorem uN{d a:OD}{xs:List (κ×OD×OC)}{k:κ}{Q:Option Ry->OI->Prop}(u:knd.room A)(c:knd.is s.heap k a)(C:s.heap.DictOfH knd d xs)(z:(WD xs k).isSome=true)(hsz:xs.length≤OR)
  (hQ:∀e h' o es ep,h'.get? d=some o->o.ExactDict->o.data=.dict es ep->es.toList=(xs.filter λx=>decide (x.1≠k)).map (Yq knd)->QA d s.heap h'->Q (some e) {s with heap:=h',toks:=s.toks+knd.draws k}) :
  OM (OP prog w) A (T6 d<|.ref a) Q E s:=by
 obtain⟨o,es,ep,ho,I,hd,f,m,hn⟩:=C;unfold T6
 try with_reducible refine Pg ?_
 refine OB (knd.pyHash u c<|OB<|wpAny_dictFind_heap (s:={s with toks:=s.toks+knd.draws k}) u c ho hd f m hn ?_ ?_)
 ·intro h;rw[atKey_none_of_get h] at z;cases z
 ·intro j p i;refine OB (Tk (s:={s with toks:=s.toks+knd.draws k}) ho hd ?_);rw[entry_at f j,i];have r:es.size≤OR:=by have e:=Yh f;omega
  refine OB (wpAny_updateDictKeys (hz:=r) (s:={s with toks:=s.toks+knd.draws k}) ho hd<|OE<|hQ _ _ _ _ (ep+1) (Qw _ ho<|Obj.isFreed_of_dict<|V5 hd _) (I.mapDictKeys _) (V5 hd _) ?_<|Wq ..);rw[<-lU hn i];have H:j<es.size:=by rw[Yh f];exact(OL.mp i).1
  have L:(es.eraseIdxIfInBounds j).toList=es.toList.eraseIdx j:=by
   obtain⟨l⟩:=es;simp
  rw[L,f];exact sV _ xs j
end
section
variable{σ:L2.St}{a b:OD}{kvs:List (List bh×V)}{k:List bh}
theorem yy{Q:Unit->OI->Prop}(m:A.units+1<QK)(I:ay X pins σ H s)(e:H a=some (.dT kvs))(r:H b=some (.tup<|k.map kV))(l:(cX kvs k).isSome=true)(h:∀s',ay X pins σ (upd H a<|.dT<|hO kvs k) s'->Q () s') :
  OM (OP X.prog X.w) A (delItem (.ref a)<|.ref b) Q E s:=by
 obtain⟨z,hd,xs,d,dd⟩:=HK I.hok e;have p:(WD xs k).isSome=true:=by
  have q:=(d.val k).isSome_eq;rw[Ti] at q;rw[<-q];exact l
 have hz:xs.length≤OR:=by rw[<-Pm d];exact z
 refine WU dd.typeIs (by decide) Ru (Qi Ru dd.typeIs UC ?_<|Ul _ _);unfold QS.«dict.__delitem__»;refine OB ?_;unfold Y9;refine OB (VJ dd.typeIs ?_);show OM _ _ (pure (OX a,OX b)) _ _ s;refine OE ?_;show OM _ _ (T6 a (.ref b) >>= _) _ _ s;refine OB (uN (Q0 m) (L2.dn I.hok r) dd p hz λO h' o es ep i L C u j=>?_);refine OB (VX<|OE ⟨.none,rfl,h _ ?_⟩);have hn:((xs.filter λx=>decide (x.1≠k)).map (·.1)).Nodup:=by
  obtain⟨_,_,_,_,_,_,_,_,hn⟩:=dd;exact ab3 (ab8 _ List.filter_sublist) hn
 refine jC I (by rw[e];exact Qt) j ⟨o,i⟩ ⟨PV (vF kvs k) z,hd,_,(KT.drop d k).keeps λc ys f=>?_,o,es,ep,i,L,C,u,hn⟩;rw[al (Hy f e<|λz=>nomatch z)];exact f
end
def L7(H:Hp)(a:OD)(y:V)(c:Hp):Prop :=
 (∃kvs k,H a=some (.dK kvs)/\y=kV k/\(cX kvs k).isSome=true/\c=upd H a (.dK<|hO kvs k)) ∨
 ∃kvs k b,H a=some (.dT kvs)/\y=.ref b/\H b=some (.tup<|k.map kV)/\(cX kvs k).isSome=true/\c=upd H a (.dT<|hO kvs k)
def J6(d ty:TE):TS:=λD σ H=>d σ H λx H1=>ty σ H1 λy f=>∃a c,x=.ref a/\L7 f a y c/\D.nx σ c
theorem EE{o i:O4}{pos c:Pos}{f ty:TE}(C:X.A.units+1<QK)(ho:PE X o f)(L:PE X i ty):PS X (.Delete [.Subscript o i c] pos) (J6 f ty):=by
 intro pins s σ H D I h;refine wpAny_Delete (wpAny_deleteEach_cons<|wpAny_delete_Subscript<|bi (ho pins s σ H _ I h) λu r d=>da d λx H1 I1 z q1=>bi (L pins r σ H1 _ I1 q1) λiv Q d=>?_);obtain⟨y,U,m,j,a,Y,ex,g,q2⟩:=d;subst ex;obtain rfl:u=OX a:=z;rcases g with ⟨kvs,k,e,rfl,l,rfl⟩ | ⟨kvs,k,b,e,rfl,O,l,rfl⟩
 ·exact AQ m e j l λp I3=>V6 ⟨σ,_,I3,q2⟩
 ·cases(show iv=OX b from j);exact yy C m e O l λp I3=>V6 ⟨σ,_,I3,q2⟩
end L2
namespace RB
open PySem L2
def Aj(S:aN)(x y:AV):Option aN:=match x with
 | .ref n=>match S.t.get n with
  | some (.dk kvs)=>match fS y with
   | true=>match dS kvs y with
    | some _=>some (S.set n<|.dk<|nv kvs y)
    | none=>none
   | false=>none
  | some (.dt kvs)=>match fJ y with
   | true=>match dS kvs y with
    | some _=>some (S.set n<|.dt<|nv kvs y)
    | none=>none
   | false=>none
  | _=>none
 | _=>none
def L8(a b:BE):BS:=λd σ S=>a σ S λx h=>b σ h λz f=>match Aj f x z with
 | some c=>d.nx σ c
 | none=>false
section
variable{S:aN}
theorem EF(C:aH g F y ρ S H){ax p:AV}{x k:V}(L:aQ F y ρ H ax x)(O:aQ F y ρ H p k){Q:aN}(h:Aj S ax p=some Q) :
  ∃a I,x=.ref a/\L7 H a k I/\aA F y ρ H y ρ I/\aH g F y ρ Q I:=by
 unfold Aj at h;split at h
 ·rename_i n;split at h
  ·rename_i kvs q;split at h
   ·rename_i q2;split at h
    ·rename_i v r;cases h;obtain⟨a,ks,rfl,c,d,j⟩:=C.dk L q;obtain⟨l,m,rfl⟩:=RB.dn q2 O;have st:aA F y ρ H y ρ (upd H a<|.dK<|hO ks l):=aA.set C c d;obtain⟨l1,Y⟩:=h9 (KR:=gw) (R:=aQ F y ρ H) (λ_ _ _ _ i f=>gF i f) m j;obtain⟨U,u,_⟩:=l1 v r;refine⟨a,_,rfl,.inl ⟨ks,l,d,rfl,by rw[u];rfl,rfl⟩,st,C.set c d (o:=.dk (nv kvs p)) (ob:=⟨_,rfl,?_⟩)⟩;exact lJ (KR:=gw) (R:=aQ F y ρ _) (λ_ _ _ _ i f=>gF i f) m (aT (λ_ _ z=>⟨z.1,aQ.mono st z.2⟩) j)
    ·cases h
   ·cases h
  ·rename_i kvs q;split at h
   ·rename_i q2;split at h
    ·rename_i v r;cases h;obtain⟨a,ks,rfl,c,d,j⟩:=C.dt L q;obtain⟨l,b,m,rfl,hb⟩:=ur q2 O;have st:aA F y ρ H y ρ (upd H a<|.dT<|hO ks l):=aA.set C c d;obtain⟨l1,Y⟩:=h9 (KR:=gz) (R:=aQ F y ρ H) (λ_ _ _ _ i f=>jo i f) m j;obtain⟨U,u,_⟩:=l1 v r;refine⟨a,_,rfl,.inr ⟨ks,l,b,d,rfl,hb,by rw[u];rfl,rfl⟩,st,C.set c d (o:=.dt (nv kvs p)) (ob:=⟨_,rfl,?_⟩)⟩;exact lJ (KR:=gz) (R:=aQ F y ρ _) (λ_ _ _ _ i f=>jo i f) m (aT (λ_ _ z=>⟨z.1,aQ.mono st z.2⟩) j)
    ·cases h
   ·cases h
  ·cases h
 ·cases h
end
section
variable{o i:O4}{ba bb:BE}{pos tpos:Pos}
theorem Ak(hu:X.A.units+1<QK)(ho:PE X o (up g ba))(hi:PE X i (up g bb)):PS X (.Delete [.Subscript o i tpos] pos) (de g<|L8 ba bb):=by
 refine PS.imp (λD σ H Z=>xY Z λF y ρ S l d C r h p _=>?_) (EE hu ho hi);refine ar C r h λy1 I S1 H1 ax x st C1 Y Q h1=>ar C1 Y h1 λL m S2 H2 az z f C2 U O j=>?_;cases q:Aj S2 ax az with
 | none=>simp only[q] at j;cases j
 | some S4=>
  simp only[q] at j;obtain⟨a,u,rfl,dp,c,C4⟩:=EF C2 (aQ.mono f Q) O q;exact⟨a,u,rfl,dp,p L m S4 u l σ ((st.trans f).trans c) C4 (bn.mono c U) j⟩
end
end RB
namespace RB
open PySem PySem.Spec PyProof.Rows L2
def EG(i:Nat):List Nat->Bool
 | []=>false
 | j::r=>match OS j i with
  | true=>true
  | false=>EG i r
def EH(K:OK)(mg:Str->Option OC)(nm:Str)(tab:List Nat):Prop :=
 ∃a o its n,mg nm=some (.ref a)/\K.lookup a=some o/\o.cls=.type "tuple"/\o.data=.seq its n/\its.size≤OR/\Paired (λi u=>∃x t,a8[i]?=some x/\u=.str x t) tab its.toList
def L9(neg:Bool)(tab:List Nat)(a:BE):BE:=λσ S k=>a σ S λx c=>match x with
 | .str i=>k (.bl (match neg with
  | true=>!EG i tab
  | false=>EG i tab)) c
 | _=>false
theorem sW:∀{tab:List Nat} {us:List OC},Paired (λi u=>∃x t,a8[i]?=some x/\u=.str x t) tab us->∃xs:List Str,Paired (λi x=>a8[i]?=some x) tab xs/\aK (xs.map V.str) us
 | _,_,.nil=>⟨[],.nil,.nil⟩
 | _,_,.cons ⟨x,t,h,f⟩ r=>by
  obtain⟨xs,d,c⟩:=sW r;exact⟨x::xs,.cons h d,.cons ⟨t,f⟩ c⟩
theorem Al{i:Nat}{x:Str}(c:a8[i]?=some x):∀{tab:List Nat} {xs:List Str},Paired (λi x=>a8[i]?=some x) tab xs->FC (.str x) (xs.map V.str)=EG i tab
 | _,_,.nil=>rfl
 | j::tab,_,.cons (b:=z) e r=>by
  have d:=Al c r;unfold FC at d ⊢;unfold EG;rw[O8,Sz,d,gv];by_cases q:j=i
  ·subst q;rw[c] at e;cases e;simp[xo]
  ·have:¬z=x:=λw=>q (by subst w;exact dF e c);simp[q,xo,this]
theorem BR(xs:List Str):(xs.map V.str).all et=true:=by
 induction xs with
 | nil=>rfl
 | cons x r c=>rw[O8,QM,c];rfl
section
variable{a b c e o i:O4}{ba bb bc:BE}{bt:BT}{br bk:BA}{s1 s2:BS}{pos p:Pos}{es rest:List O4}{nm:Str}{tab:List Nat}
theorem GW{neg:Bool}{mg:Str->Option OC}{av:OD}{ob:Obj}{its:Array OC}{n:Nat}(Z:K.lookup av=some ob)(Y:ob.cls=.type "tuple")(U:ob.data=.seq its n)(O:its.size≤OR)(L:Paired (λi u=>∃x t,a8[i]?=some x/\u=.str x t) tab its.toList) :
  ∀σ H Q,up g (L9 neg tab ba) σ H Q->IY (No K neg) (up g ba) (tC<|.ref av) σ H Q:=λσ H Q I=>ez I λF y ρ S j k C r h p=>
 ar C r h λl d S1 H1 ax x st C1 r1 m f=>by
  split at f
  ·rename_i i;obtain⟨z,e,rfl⟩:=m;obtain⟨xs,q1,q2⟩:=sW L;refine⟨av,xs.map V.str,rfl,.inr<|.inr ⟨ob,its,n,Z,Y,U,O,q2⟩,rfl,BR xs,?_⟩;rw[Al e q1];refine p l d S1 H1 (.bl _) _ st C1 ?_ f;cases neg<;>rfl
  ·cases f
theorem uO(f:Gl X nm)(T:EH X.K X.mg nm tab)(h:PE X a (up g ba))(d:Qh .NotIn (.Name nm p)=false)(hd:(nm==("__debug__":Str))=false:=by decide):PT X (.Compare a [.NotIn] [.Name nm p] pos) (fE g<|bB<|L9 true tab ba):=by
 obtain⟨av,ob,its,n,h0,u,r,m,l,j⟩:=T;exact PT.imp (fk<|GW (mg:=X.mg) u r m l j) (tW lw h (yT f h0 rfl hd) d)
def GY(gy:Gy):AV->OC->Prop
 | .str i,u=>∃x t,a8[i]?=some x/\u=.str x t
 | .ext j,u=>j<11/\u=.ref (gy.fe j)
 | _,_=>False
def GZ(P:Ph)(w:Py)(K:OK)(mg:Str->Option OC)(gy:Gy)(nm:Str)(tab:List (AV×AV)):Prop :=
 ∃a vs,mg nm=some (.ref a)/\(∀h,K.In h->h.DictOf (aW P w) a vs)/\Paired (λ(p:AV×AV) (q:bh×OC)=>gw p.1 q.1/\GY gy p.2 q.2) tab vs
def Ma(tab:List (AV×AV))(a:BE):BE:=λσ S k=>a σ S λx d=>match fS x with
 | true=>match dS tab x with
  | some v=>k v d
  | none=>false
 | false=>false
theorem IB{gy:Gy}{r:AV}{d:bh}(f:gw r d):∀{tab:List (AV×AV)} {vs:List (bh×OC)} {av:AV},Paired (λ(p:AV×AV) (q:bh×OC)=>gw p.1 q.1/\GY gy p.2 q.2) tab vs->dS tab r=some av->∃u,TQ vs d=some u/\GY gy av u
 | _,_,_,.nil,h=>by cases h
 | _,_,av,.cons (a:=(l,w)) (b:=(x,v)) hd tl,h=>by
  obtain⟨m,j⟩:=hd;dsimp only at m j;unfold dS at h;rw[gF m f] at h;by_cases q:x=d
  ·subst q;simp at h;subst h;exact⟨v,by simp[TQ],j⟩
  ·simp[q] at h;obtain⟨u,e1,z⟩:=IB f tl h;exact⟨u,by rw[<-e1];simp[TQ,Rc,q],z⟩
theorem Am(hg:Gl X nm){tab:List (AV×AV)}(T:GZ X.prog X.w X.K X.mg g.toGy nm tab)(hi:PE X i (up g bb))(hs:Db i)(hd:(nm==("__debug__":Str))=false:=by decide):PE X (.Subscript (.Name nm p) i pos) (up g<|Ma tab bb):=by
 obtain⟨av,vs,h0,h1,h2⟩:=T;rintro pins s σ H Q I ⟨F,y,ρ,S,σa,k,C,r,h,pp⟩;refine tZ Sw.lookup hs (db I hg h0 ?_ hd);refine bi (hi pins s σ H (λx H1=>∃d v u,x=kV d/\TQ vs d=some u/\aI v u/\Q v H1) I<|ar C r h λZ l S1 H1 ax x st C1 r1 L f=>?_) λiv s1 ⟨x,H1,I1,L,d,v,u,ex,m,ru,q⟩=>?_
 ·split at f
  ·rename_i q1;split at f
   ·rename_i v q2;obtain⟨d,O,rfl⟩:=RB.dn q1 L;obtain⟨u,m,Y⟩:=IB O h2 q2;cases v with
    | str j=>
     obtain⟨z,t,U,rfl⟩:=Y;exact⟨d,.str z,_,rfl,m,⟨t,rfl⟩,pp Z l S1 H1 (.str j) _ st C1 ⟨z,U,rfl⟩ f⟩
    | ext j=>
     obtain⟨U,rfl⟩:=Y;exact⟨d,.ref<|g.fe j,_,rfl,m,rfl,pp Z l S1 H1 (.ext j) _ st C1 (C1.fe j U).symm f⟩
    | _=>exact Y.elim
   ·cases f
  ·cases f
 ·subst ex;have dd:=h1 _ I1.kIn;exact⟨dd.typeIs,XC (jg L) dd.mapOf m ⟨v,H1,I1.tok _,ru,q⟩⟩
def G0:List (Option BF)->Nat->Option BF
 | [],_=>none
 | x::r,n=>match n with
  | 0=>x
  | n+1=>G0 r n
def J7(n:Nat)(fs:List (Option BF))(a:BE)(r:BA):BE:=λσ S k=>a σ S λx h=>match x with
 | .ext j=>match G0 fs j with
  | some f=>r σ h λxs d=>nZ n f xs d k σ.ke
  | none=>false
 | _=>false
end
abbrev Oh(F:Fx)(y:Option Int)(ρ:List OD)(H:Hp):List (AV×AV)->List (V×V)->Prop:=Paired λp q=>aQ F y ρ H p.1 q.1/\aQ F y ρ H p.2 q.2
def Ow(g:Gx)(b:BP)(σ:L2.St)(H:Hp)(Q:List (V×V)->Hp->Prop):Prop:=∃F y ρ S d k,aH g F y ρ S H/\bn g F y ρ H d σ/\b d S k=true/\∀i c j h f ps,aA F y ρ H i c h->aH g F i c j h->Oh F i c h f ps->k f j=true->Q ps h
def M0(X:Cx)(g:Gx)(pos:Pos)(keys:List (Option O4))(c:List O4)(b:BP):Prop:=∃d,Ls X pos keys c d/\∀σ H Q,Ow g b σ H Q->o9 d σ H Q
def lV:List (AV×AV)->Bool
 | []=>true
 | (k,_)::r=>fS k&&lV r
def qc(kvs:List (AV×AV)):List (AV×AV)->List (AV×AV)
 | []=>kvs
 | (k,v)::r=>qc (rf kvs k v) r
def qd(b:BP):BE:=λσ S k=>b σ S λc d=>match lV c&&Pr c.length 15 with
 | true=>k (.ref d.n) (d.add<|.dk<|qc [] c)
 | false=>false
section
variable{a b c e o i:O4}{ba bb bc:BE}{bt:BT}{br bk:BA}{s1 s2:BS}{pos p:Pos}{es rest:List O4}
theorem iB:M0 X g pos [] [] pQ:=⟨[],zq,λσ H Q f=>ez f λF y ρ S d k C r h p=>p y ρ S H [] [] .refl C .nil h⟩
theorem bS{ks:List (Option O4)}{vs:List O4}{U:BP}(hk:PE X a (up g ba))(hv:PE X b (up g bb))(hr:M0 X g pos ks vs U):M0 X g pos (some a::ks) (b::vs) (dZ ba bb U):=by
 obtain⟨u,L,h2⟩:=hr;refine⟨(up g ba,up g bb)::u,pf hk hv L,λσ H Q hx=>ez hx λF y ρ S j k C r h p=>?_⟩;refine ar C r h λy1 Y S1 H1 ax x st C1 r1 rx L=>ar C1 r1 L λy2 m S2 H2 az z f C2 r2 rz I=>?_;refine h2 σ H2 _ ⟨F,y2,m,S2,j,_,C2,r2,I,λZ l S3 H3 O ps d C3 r3 h3=>?_⟩;exact p Z l S3 H3 ((ax,az)::O) ((x,z)::ps) ((st.trans f).trans d) C3 (.cons ⟨aQ.mono (f.trans d) rx,aQ.mono d rz⟩ r3) h3
theorem wD{F:Fx}{y:Option Int}{ρ:List OD}{H:Hp}:∀{d:List (AV×AV)} {ps:List (V×V)},Oh F y ρ H d ps->lV d=true->∃kvs:List (bh×V),ps=kvs.map (λkv=>(kV kv.1,kv.2))/\BB F y ρ H d kvs
 | _,_,.nil,_=>⟨[],rfl,.nil⟩
 | (r,m)::_,(k,v)::_,.cons h t,e=>by
  simp only[lV,OZ] at e;obtain⟨kvs,e1,l⟩:=wD t e.2;obtain⟨f,j,ek⟩:=RB.dn e.1 h.1;refine⟨(f,v)::kvs,?_,.cons ⟨j,h.2⟩ l⟩;rw[O8,<-e1];dsimp only at ek;rw[<-ek]
theorem wE{F:Fx}{y:Option Int}{ρ:List OD}{H:Hp}:∀{more:List (AV×AV)} {d:List (bh×V)} {kvs:List (AV×AV)} {ks:List (bh×V)},BB F y ρ H more d->BB F y ρ H kvs ks->BB F y ρ H (qc kvs more) (dD ks d)
 | _,_,_,_,.nil,h=>h
 | (k,v)::_,(j,f)::_,kvs,ks,.cons h t,h0=>by
  unfold qc;show BB F y ρ H _ (dD (dc ks j f) _);exact wE t (oC (KR:=gw) (R:=aQ F y ρ H) (λ_ _ _ _ m l=>gF m l) h.1 h.2 h0)
theorem iC{keys:List (Option O4)}{d:List O4}{bp:BP}(h:M0 X g pos keys d bp)(U:keys.all (·.isSome)=true)(hl:keys.length=d.length)(h0:keys≠[])(h15:keys.length≤15):PE X (.Dict keys d pos) (up g<|qd bp):=by
 obtain⟨trs,h1,h2⟩:=h;refine PE.imp (λσ H Q hx=>ez hx λF y ρ S Z k C r h p=>?_) (zr h1 U hl h0 h15);intro D L;have o1:¬F.own D:=λw=>C.ol D w L;have O:aA F y ρ H y ρ (upd H D<|.dK []):=aA.lay L;refine h2 σ _ _ ⟨F,y,ρ,S,Z,_,C.lay L,bn.mono O r,h,λI f S2 l j ps x C2 rp Y=>?_⟩;cases q:lV j&&Pr j.length 15 with
 | false=>simp only[q] at Y;cases Y
 | true=>
  simp only[q] at Y;simp only[OZ] at q;have nD:D∉ρ:=C.fresh L;have hD:l D=some (.dK []):=x.keep D _ aq nD o1;have nD2:D∉f:=λm=>by
   rcases x.new D m with z | z
   ·exact nD z
   ·rw[aq] at z;cases z
  obtain⟨kvs,rfl,rk⟩:=wD rp q.1;have hlen:=Pm rk;refine⟨hD,kvs,rfl,by rw[<-hlen];exact bw q.2,?_⟩;have tD:∀b o,l b=some o->(∀u,o≠.dK u)->b≠D:=λb o q n w=>by rw[w,hD] at q;cases q;exact n _ rfl
  have stF:aA F y ρ H I (f++[D]) (upd l D<|.dK<|dD [] kvs):=((O.trans x).over L).more L;have moF:Mo I f l I (f++[D]) (upd l D<|.dK<|dD [] kvs):=⟨λ_ h=>h,λ{i c} h=>by
   rw[Qr (OL.mp h).1];exact h,λb vs q=>by rw[al (tD b _ q λ_ z=>nomatch z)];exact q⟩
  have rkF:BB F I (f++[D]) (upd l D<|.dK<|dD [] kvs) j kvs:=aT (λ_ _ z=>⟨z.1,aQ.monoM moF z.2⟩) rk;have CB:aH g F I f S2 (λb=>if b=D then none else l b):=C2.over
   (λb hb=>if_neg λw=>nD2 (by rw[<-w];exact hb))
   (λb vs q=>(if_neg<|tD b _ q λ_ z=>nomatch z).trans q)
   (λb w=>if_neg λq=>o1 (by rw[<-q];exact w))
   (λb φ q=>(if_neg<|tD b _ q λ_ z=>nomatch z).trans q)
  have eq:upd (λb=>if b=D then none else l b) D (.dK<|dD [] kvs)=upd l D (.dK<|dD [] kvs):=by
   funext b;by_cases z:b=D
   ·subst z;rw[aq,aq]
   ·rw[al z,al z];simp[z]
  have CF:=CB.add (p:=D) (o:=.dk (qc [] j)) (ho:=.dK (dD [] kvs)) (by simp) (by rw[eq];exact⟨_,rfl,wE rkF .nil⟩);rw[eq] at CF;exact p I _ _ _ (.ref S2.n) _ stF CF ⟨D,by rw[C2.n];simp,rfl⟩ Y
def NS(P:Ph)(w:Py)(K:OK)(mg:Str->Option OC)(base:Pk)(gy:Gy)(CX:kr)(c:Nat)(x:Str)(k n h:Nat)(ks:List Str)(tpl:List ux)(f:BF):Prop :=
 ∃d fd ps,ps.length=n/\bG P w K mg base CX k d fd ps (jP gy n f)/\Mk K (gy.cl c) d/\mg x=some (.ref<|gy.cl c)/\lO K fd ps ks h tpl/\uy tpl
def EI(c n j l:Nat)(tpl:List ux)(f:BF)(r m:BA):BE:=λσ S k=>r σ S λxs x=>m σ x λh d=>match OS (xs.length+1) j&&OS h.length l with
 | true=>nZ n f (.ref d.n::(xs++n5 h tpl)) (d.add<|.ins c []) (λv u=>match v with
  | .non=>k (.ref d.n) u
  | _=>false) σ.ke
 | false=>false
theorem BU{CX:kr}{k O:Nat}{C L:OD}{ps ks:List Str}{tpl:List ux}{sp:Sp}{σ:L2.St}{Q:VK}{us j:List OC}{vs l:List V}(M:Mk X.K C L)(F:bG X.prog X.w X.K X.mg X.base CX k L fd ps sp)(hr:a5 (k+1) X.A)(hb:lO X.K fd ps ks O tpl)(ht:uy tpl)(hx:cw CX X g.E)
  (I:ay X pins σ H s) (r:aK vs us) (rz:aK l j) (h1:vs.length+1=O) (h2:l.length=ks.length)
  (h:∀x m,H x=none->H m=none->m≠x->sp (.ref x::(vs++n6 l tpl)) (upd (upd H m<|.own x) x<|.ins C m []) (λv H2=>v=.non/\Q (.ref x) H2) g.E) :
  OM (OP X.prog X.w) X.A (call (.ref C) us<|ks.zip j) (EP X pins σ Q) X.xe s:=by
 have hq:=h (s.heap.objs.size+1) s.heap.objs.size (I.hok.fresh<|XU _) (I.hok.fresh<|OU _) (O0<|P6 _);have z:=ay.made (C:=C) I;have Y:aK (V.ref (s.heap.objs.size+1)::(vs++n6 l tpl)) (OX (s.heap.objs.size+1)::(us++v8 j tpl)):=.cons rfl (r.append<|oJ rz ht);refine QF (vB (f:=L) I.kIn M.makes M.init (beq_iff_eq.mp M.fn) (Qf (F.run _ X.stack _ _ ⟨OX (s.heap.objs.size+1)::us,ks.zip j⟩ (OX (s.heap.objs.size+1)::(us++v8 j tpl)) _ _ g.E (hr.make C us<|ks.zip j)
  (z.env0.make C us<|ks.zip j) (hb _ (OX (s.heap.objs.size+1)::us) j z.kIn (by rw[P2,<-r.length];exact h1)<|by rw[<-rz.length];exact h2) Y hq) λr s' d=>?_))
 cases r with
 | error e=>exact hx pins σ _ _ e s' z d
 | ok fl=>
  cases fl with
  | ret u=>
   obtain⟨v,H',I3,U,ev,Z⟩:=z.after d;subst ev;exact⟨U,⟨V.ref<|s.heap.objs.size+1,H',I3,rfl,Z⟩⟩
  | next=>exact Pa d
  | brk=>exact Pa d
  | cont=>exact Pa d
theorem EJ{CX:kr}{x:Str}{c k n np:Nat}{ks:List Str}{tpl:List ux}{u:List Tc}{f:BF}(hc:c<2)(M:NS X.prog X.w X.K X.mg X.base g.toGy CX c x k n np ks tpl f)(hr:a5 (k+1) X.A)(hx:cw CX X g.E)(ha:PA X (e::es) (jl g br))(hkw:PK X u (jl g bk))(hg:Gl X x:=by nofun)(hdb:(x==("__debug__":Str))=false:=by decide)
  (hall:(QI pos<|PZ u X.env).all (·.1.isSome)=true:=by nofun) (hks:(QI pos<|PZ u X.env).filterMap (·.1)=ks:=by nofun)
  (hst:hE9 X e es:=by nofun)
  (hpl:((QE pos<|O1 (e::es) X.env).any (·.1)||(QI pos<|PZ u X.env).any (·.1.isNone))=false:=by nofun):PE X (.Call (.Name x p) (e::es) u pos) (up g<|EI c n np ks.length tpl f br bk):=by
 obtain⟨fa,fd,ps,hn,Fn,mk,hm,hb,hk⟩:=M;rintro pins s σ H Q I ⟨F,y,ρ,S,L,kk,C,r,h,pp⟩;refine PR (db I hg hm ?_ hdb);refine Wp (h₀:=X.base) I.ok.mod.kin mk.kp hall (bi (ha pos pins s σ H (λxs Z=>∃d y2 j Y,aA F y ρ H y2 j Z/\aH g F y2 j Y Z/\bn g F y2 j Z L σ/\aR F y2 j Z d xs /\
   bk L Y (λzs Y=>match OS (d.length+1) np&&OS zs.length ks.length with
    | true=>nZ n f (.ref Y.n::(d++n5 zs tpl)) (Y.add<|.ins c []) (λv S3=>match v with
     | .non=>kk (.ref Y.n) S3
     | _=>false) L.ke
    | false=>false)=true) I (bF C r h λy2 j Y Z d xs st2 C2 r2 U h2=>⟨d,y2,j,Y,st2,C2,r2,U,h2⟩)) λus s2 z9=>?_) hpl hst
 obtain⟨vs,Z,I2,rv,d,y2,j,Y,st2,C2,r2,U,h2⟩:=z9;refine bi (hkw pos pins s2 σ Z (λzs z=>zs.length=ks.length/\vs.length+1=np/\∀x l,z x=none->z l=none->l≠x->jP g.toGy n f (.ref x::(vs++n6 zs tpl)) (upd (upd z l<|.own x) x<|.ins (g.cl c) l []) (λv Z=>v=.non/\Q (.ref x) Z) g.E) I2<|bF C2 r2 h2 λy3 m S3 z azs zs st3 C3 r3 rzs h3=>?_) λws s3 z9=>?_
 ·cases q:OS (d.length+1) np&&OS azs.length ks.length with
  | false=>simp only[q] at h3;cases h3
  | true=>
   simp only[q] at h3;simp only[OZ] at q;have e1:=ON q.1;have e2:=ON q.2;have l1:=aO U;have l2:=aO rzs;refine⟨by omega,by omega,λx l hx' hdx ne=>?_⟩;have hx2:(upd z l<|.own x) x=none:=by rw[al (Qp ne)];exact hx'
   have st4:aA F y3 m z y3 m (upd z l<|.own x):=aA.lay hdx;have C4:=C3.lay (o:=.own x) hdx;have O:aA F y3 m (upd z l<|.own x) y3 (m++[x]) (upd (upd z l<|.own x) x<|.ins (g.cl c) l []):=aA.add hx2;have C5:=C4.add (o:=.ins c []) (ho:=.ins (g.cl c) l []) hx2 ⟨l,[],⟨hc,rfl,λp hp=>(nomatch hp)⟩,.nil⟩;have st6:=((st2.trans st3).trans st4).trans O;have rn:∀{H':Hp},aQ F y3 (m++[x]) H' (.ref S3.n) (.ref x):=λ{H'}=>⟨x,by rw[C3.n];simp,rfl⟩
   have rall:aR F y3 (m++[x]) (upd (upd z l<|.own x) x<|.ins (g.cl c) l []) (.ref S3.n::(d++n5 azs tpl)) (.ref x::(vs++n6 zs tpl)):=.cons rn (du (aR.mono (st3.trans<|st4.trans O) U)<|aR.mono (st4.trans O)<|lN rzs hk);unfold nZ at h3;cases q3:OS (AV.ref S3.n::(d++n5 azs tpl)).length n with
   | false=>simp only[q3] at h3;cases h3
   | true=>
    simp only[q3] at h3;refine⟨F,y3,_,_,_,_,L.ke,C5,rall,by rw[<-Pm rall];exact ON q3,h3,λy7 ρ7 S7 H7 av v st7 C7 rv7 h7=>?_,r3.e.mono<|st4.trans O⟩;cases av with
    | non=>exact⟨rv7,pp y7 ρ7 S7 H7 (.ref S3.n) _ (st6.trans st7) C7 (aQ.mono (av:=.ref S3.n) st7 rn) h7⟩
    | _=>cases h7
 ·obtain⟨zs,z,I3,rz,hz,hv,q3⟩:=z9;refine⟨I3.kIn,?_⟩;rw[hks];exact BU mk Fn hr hb hk hx I3 rv rz hv hz q3
end
abbrev uP:Pos:=⟨49,44,49,70⟩
abbrev oK:Str:=(("lot_of":Str)++".<locals>.")++"<lambda>"
theorem BV{e:O4}{ba:BE}{d:Pos}{c:Str}(hP:g.tP=d)(hQ:g.tQ=c)(h:PE X e (uf K g.tT d c<|up g ba)):PE X e (up g<|uI ba):=by
 subst hP hQ;exact Ew h
theorem uQ{x:Str}{c:OD}{N ps:List Str}{k n:Nat}{b:BS}(d:DI K mg x st c)(S:ai N ps (ae st))(hn:ps.length=n:=by decide)(u:ps.length≤N.length:=by decide)
  (hb:∀(kV doc i:OC) (o:Option OD) (m ct:OC) (us:List OC),us.length=ps.length->RN (Pt x x (bq st) (aS st) (ae st) .none kV doc i o m ct) ⟨us,[]⟩=pure (ps.zip us))
  (hbody:∀(f:OD) (A:Qz) (outer:List Env) (s:OI) (H:Hp) (E:XK),a5 k (A.deeper<|Q4 x (ae st) s.heap.objs.size f<|.ref c)->gu (bQ eY P w K mg base N x (ae st) f (.ref c) A outer s H E).nox (aS st) (de ⟨gy,E⟩ b)) :
  cF P w K mg base gy eY x (k+1) n (bH N.length b):=by
 obtain⟨f,C,z,kV,doc,i,o,ct,osl,lk,l,kp,p⟩:=d;refine⟨f,_,ps,hn,zd lk l S (λvs H Q E h=>?_) λA outer s H vs Q E hr j=>?_,p,kp,.all<|hb kV doc i o (.ref c) ct⟩
 ·obtain⟨_,_,_,_,_,_,_,_,_,r,_⟩:=h;rw[r,hn]
 ·obtain⟨t,h,q⟩:=pO (CX:=eY) (A:=A) (outer:=outer) (s:=s) u hn j (hbody f A outer s H E hr);exact⟨t,h.nox,q⟩
structure i9(K:OK)(gy:Gy):Prop where
 cls:∀c,c<2->ow K (gy.cl c)
 na_files:∀c,c<2->cg K (gy.cl c) "files"
 na_fair:∀c,c<2->cg K (gy.cl c) "fair"
 na_given:∀c,c<2->cg K (gy.cl c) "given"
 na_leads:∀c,c<2->cg K (gy.cl c) "leads"
 na_opened:∀c,c<2->cg K (gy.cl c) "opened"
 na_held:∀c,c<2->cg K (gy.cl c) "held"
 na_whole:∀c,c<2->cg K (gy.cl c) "whole"
 na_waiting:∀c,c<2->cg K (gy.cl c) "waiting"
 na_asleep:∀c,c<2->cg K (gy.cl c) "asleep"
 na_outcomes:∀c,c<2->cg K (gy.cl c) "outcomes"
 na_changes:∀c,c<2->cg K (gy.cl c) "changes"
 na_tables:∀c,c<2->cg K (gy.cl c) "tables"
 na_past:∀c,c<2->cg K (gy.cl c) "past"
 na_future:∀c,c<2->cg K (gy.cl c) "future"
theorem i9.c0(G:i9 K gy):ow K (gy.cl 0):=G.cls 0 (by decide)
theorem i9.c1(G:i9 K gy):ow K (gy.cl 1):=G.cls 1 (by decide)
def BW:List Nat:=[63,2]
def wF:List Nat:=[66,45]
def BX:List Nat:=[61,78,15]
def n9:List (AV×AV):=[(.str 63,.str 78),(.str 2,.str 61)]
def BY:List (AV×AV):=[(.str 13,.ext 0),(.str 6,.ext 1),(.str 25,.ext 2),(.str 20,.ext 3),(.str 32,.ext 4),(.str 26,.ext 5),(.str 42,.ext 6),(.str 71,.ext 7),(.str 17,.ext 8),(.str 43,.ext 9),(.str 72,.ext 10)]
structure Ox(P:Ph)(w:Py)(K:OK)(mg:Str->Option OC)(gy:Gy):Prop where
 g_KINDS:EH K mg "KINDS" BW
 g_HOLDERS:EH K mg "HOLDERS" wF
 g_MODES:EH K mg "MODES" BX
 g_WRONG_MODES:GZ P w K mg gy "WRONG_MODES" n9
 g_DEEDS:GZ P w K mg gy "DEEDS" BY
section
variable{h:Pk}
theorem aF{x:Str}{f:OD}{m:OC}{j o:Option OD}{kV doc i d ct:OC}(X:K.In h)(G:h.Ns Pe mg)
  (a:R9 K Pe x=some (some<|.ref f)) (l:K.lookup f=some ⟨m,j,.func<|Pt x x (bq st) (aS st) (ae st) .none kV doc i o d ct,osl⟩) (c:Qk K d x=true) (k:Pn K (.ref f)=true):cQ K mg x st :=
 ⟨f,_,pi l c k,O3 X G a⟩
theorem uR{x:Str}{f d:OD}{m:OC}{j o:Option OD}{kV doc i ct:OC}(X:K.In h)(G:h.Ns Pe mg)
  (a:R9 K Pe x=some (some<|.ref f)) (l:K.lookup f=some ⟨m,j,.func<|Pt x x (bq st) (aS st) (ae st) .none kV doc i o (.ref d) ct,osl⟩) (c:Qk K (.ref d) x=true) (k:Pn K (.ref f)=true):DI K mg x st d :=
 ⟨f,m,j,kV,doc,i,o,ct,osl,l,c,k,O3 X G a⟩
theorem oM{c T:OD}(hd:Q1 K c T=true)(d:Pe≠T):Bc K mg c T :=
 ⟨λh' f=>Wo f hd,d⟩
def nA(K:OK)(C:OD)(m qual:Str)(st:Rs):Prop:=∃f fd,Fun K m qual st f fd/\tX K C m f
theorem cj{C f:OD}{m qual:Str}{o:OC}{j p:Option OD}{kV doc i d ct:OC}(b:Pc K (.ref C) m=some (some<|.ref f))
  (l:K.lookup f=some ⟨o,j,.func<|Pt m qual (bq st) (aS st) (ae st) .none kV doc i p d ct,osl⟩) (c:Qk K d qual=true) (k:Pn K (.ref f)=true) (fn:S9 K (.ref f)=true):nA K C m qual st :=
 ⟨f,_,pi l c k,b,fn,k⟩
def iD(K:OK)(C:OD)(m qual:Str)(st:Rs)(es:Array Ry):Prop :=
 ∃(f d:OD) (doc i:OC) (l:Option OD) (c ct kc:OC) (j:Option OD) (ep:Nat) (ks:Array (Option OC)),Fun K m qual st f (Pt m qual (bq st) (aS st) (ae st) .none (.ref d) doc i l c ct)/\tX K C m f/\K.lookup d=some ⟨kc,j,.dict es ep,ks⟩
theorem jF{C f i:OD}{m qual:Str}{es:Array Ry}{u kc:OC}{r p o:Option OD}{osl ks:Array (Option OC)}{doc j d ct:OC}{ep:Nat}(b:Pc K (.ref C) m=some (some<|.ref f))
  (l:K.lookup f=some ⟨u,r,.func<|Pt m qual (bq st) (aS st) (ae st) .none (.ref i) doc j p d ct,osl⟩) (c:Qk K d qual=true) (k:Pn K (.ref f)=true) (fn:S9 K (.ref f)=true) (n:K.lookup i=some ⟨kc,o,.dict es ep,ks⟩):iD K C m qual st es :=
 ⟨f,i,doc,j,p,d,ct,kc,o,ep,ks,pi l c k,⟨b,fn,k⟩,n⟩
theorem dJ{c:Type}{S:Setting}{a:OD}{r:Option OC}{o:Obj}{k:Obj->Sem c}(h:K.lookup a=some o):Xo K S (.load a r k)=Xo K S (k o):=by
 rw[Xo,h]
def Mb(K:OK)(C:OD)(qual:Str)(st:Rs):Prop:=∃f fd,Fun K "__init__" qual st f fd/\Mk K C f
theorem EK{C f:OD}{qual:Str}{m:OC}{j o:Option OD}{kV doc i d ct:OC}(mk:Vx K C=true)(b:Pc K (.ref C) "__init__" = some (some<|.ref f))
  (l:K.lookup f=some ⟨m,j,.func<|Pt "__init__" qual (bq st) (aS st) (ae st) .none kV doc i o d ct,osl⟩) (c:Qk K d qual=true) (k:Pn K (.ref f)=true) (fn:S9 K (.ref f)=true) (kc:Pn K (.ref C)=true):Mb K C qual st :=
 ⟨f,_,pi l c k,mk,b,fn,kc⟩
theorem uS{nm:Str}{a:OD}{c:OC}{d:Option OD}{its:Array OC}{n:Nat}{tab:List Nat}(X:K.In h)(G:h.Ns Pe mg)(e:R9 K Pe nm=some (some<|.ref a))(l:K.lookup a=some ⟨c,d,.seq its n,osl⟩)(f:c=.type "tuple")(hs:its.size≤OR)
  (p:Paired (λi u=>∃x t,a8[i]?=some x/\u=.str x t) tab its.toList):EH K mg nm tab:=⟨a,_,its,n,O3 X G e,l,f,rfl,hs,p⟩
theorem sX{i d c:Type}{R:i->c->Prop}{f:d->c}:∀{xs:List i} {ys:List d},Paired (λp q=>R p (f q)) xs ys->Paired R xs (ys.map f)
 | _,_,.nil=>.nil
 | _,_,.cons h t=>.cons h (sX t)
abbrev J8(w:Py)(x:Str)(t:Tok)(v:OC):Ry:=⟨KW w<|.inr x,.str x t,v⟩
theorem EL{es:List (Str×Tok×OC)}:KeysOf (aW P w) ((es.map λe=>J8 w e.1 e.2.1 e.2.2).toArray):=by
 intro e c;simp only[List.mem_toArray,QC] at c;obtain⟨⟨x,t,v⟩,_,rfl⟩:=c;exact⟨.inr x,jb P w x t,rfl⟩
theorem sY{P:Ph}{w:Py}:∀es:List (Str×Tok×OC),Pairs (aW P w) (es.map λe=>J8 w e.1 e.2.1 e.2.2) (es.map λe=>((.inr e.1:bh),e.2.2))
 | []=>.nil
 | (x,t,v)::r=>.cons (jb P w x t) rfl (sY r)
theorem An{nm:Str}{a:OD}{es:List (Str×Tok×OC)}{n:Nat}{tab:List (AV×AV)}{o:Obj}(X:K.In h)(G:h.Ns Pe mg)(e:R9 K Pe nm=some (some<|.ref a))(l:K.lookup a=some o)
  (c:o=⟨.type "dict",none,.dict ((es.map λe=>J8 w e.1 e.2.1 e.2.2).toArray) n,#[]⟩) (nd:(es.map (·.1)).Nodup)
  (p:Paired (λ(p:AV×AV) (q:Str×Tok×OC)=>gw p.1 (.inr q.1)/\GY gy p.2 q.2.2) tab es):GZ P w K mg gy nm tab:=by
 refine⟨a,es.map λe=>((.inr e.1:bh),e.2.2),O3 X G e,λh' f=>⟨o,_,n,f _ _ l,?_,by rw[c],EL,by simpa using sY es,?_⟩,?_⟩
 ·rw[c];exact⟨rfl,rfl,rfl⟩
 ·rw[Sr];have:((λe:bh×OC=>e.1)∘λe:Str×Tok×OC=>((.inr e.1:bh),e.2.2))=λe=>(.inr e.1:bh):=rfl;rw[this];have d:(es.map λe=>(.inr e.1:bh))=(es.map (·.1)).map Si:=by rw[Sr];rfl
  rw[d];exact US.mpr (ab5 (λh w=>h (Z7 w)) nd)
 ·exact sX p
end
abbrev xt(ns:List (Str×Rm)):PQ:={kind:=.function,names:=(".0",.local)::ns,isGenerator:=false,isCoroutine:=false,more:=[]}
@[reducible] def bI(n:Int):BE:=bC (.int false n n)
section
theorem b0{F:List OC->Prop}(h:F []):∀us,us.length=0->F us:=λus e=>by
 cases us with
 | nil=>exact h
 | cons=>cases e
theorem bs{n:Nat}{F:List OC->Prop}(h:∀a us,us.length=n->F (a::us)):∀us,us.length=n+1->F us:=λus e=>by
 cases us with
 | nil=>cases e
 | cons a us=>exact h a us (Nat.succ.inj e)
theorem b1{F:List OC->Prop}(h:∀a,F [a]):∀us,us.length=1->F us:=bs λa=>b0 (h a)
theorem b2{F:List OC->Prop}(h:∀a b,F [a,b]):∀us,us.length=2->F us:=bs λa=>b1 (h a)
theorem b3{F:List OC->Prop}(h:∀a b c,F [a,b,c]):∀us,us.length=3->F us:=bs λa=>b2 (h a)
theorem b4{F:List OC->Prop}(h:∀a b c d,F [a,b,c,d]):∀us,us.length=4->F us:=bs λa=>b3 (h a)
theorem b5{F:List OC->Prop}(h:∀a b c d e,F [a,b,c,d,e]):∀us,us.length=5->F us:=bs λa=>b4 (h a)
theorem l1(h:us.length=1):∃a,us=[a]:=b1 (F:=λus=>∃a,us=[a]) (λa=>⟨a,rfl⟩) us h
theorem l3(h:us.length=3):∃a b c,us=[a,b,c]:=b3 (F:=λus=>∃a b c,us=[a,b,c]) (λa b c=>⟨a,b,c,rfl⟩) us h
theorem b6{F:List OC->Prop}(h:∀a b c d e f,F [a,b,c,d,e,f]):∀us,us.length=6->F us:=bs λa=>b5 (h a)
theorem b7{F:List OC->Prop}(h:∀a b c d e f g,F [a,b,c,d,e,f,g]):∀us,us.length=7->F us:=bs λa=>b6 (h a)
theorem bT{N ps:List Str}{c:PQ}(S:ai N ps c:=by exact⟨rfl,rfl,rfl,by decide +kernel,rfl,by decide +kernel,by decide +kernel⟩):ai N ps c:=S
theorem xu{c d:PQ}{N f:List Str}(S:aX c N d f ix:=by exact⟨rfl,by decide +kernel,by decide +kernel,by decide +kernel,by decide +kernel,rfl,by decide +kernel⟩):aX c N d f ix:=S
abbrev Mc(P:Ph)(w:Py)(K:OK)(mg:Str->Option OC)(base:Pk)(gy:Gy)(N:List Str)(x:Str)(st:Rs)(k:Nat)(b:BS)(f:OD):Prop:=∀{c:OC} {A:Qz} {outer:List Env} {s:OI} {H:Hp} {E:XK},a5 k (A.deeper<|Q4 x (ae st) s.heap.objs.size f c)->(A.deeper<|Q4 x (ae st) s.heap.objs.size f c).units+1<QK ->
 gu (bQ eY P w K mg base N x (ae st) f c A outer s H E).nox (aS st) (de ⟨gy,E⟩ b)
abbrev KQ(x q:Str)(st:Rs)(ps:List Str):Prop:=∀us:List OC,us.length=ps.length->∀{kV doc d:OC} {f:Option OD} {c ct:OC},RN (Pt x q (bq st) (aS st) (ae st) .none kV doc d f c ct) ⟨us,[]⟩=pure (ps.zip us)
abbrev Md(x q:Str)(st:Rs)(ps ks:List Str)(h:Nat)(tpl:List ux):Prop:=∀us:List OC,us.length=h->∀c:List OC,c.length=ks.length->∀{kV doc f:OC} {i:Option OD} {d ct:OC},RN (Pt x q (bq st) (aS st) (ae st) .none kV doc f i d ct) ⟨us,ks.zip c⟩=pure (ps.zip<|us++v8 c tpl)
theorem cB{x:Str}{N ps:List Str}{k n:Nat}{b:BS}(d:cQ K mg x st)(S:ai N ps (ae st))(hb:KQ x x st ps)(hbody:∀{f},Mc P w K mg base gy N x st k b f)(hn:ps.length=n:=by decide)(c:ps.length≤N.length:=by decide) :
  cF P w K mg base gy eY x (k+1) n (bH N.length b):=JR d S hn c (λ_ _ _ _ _ _ us h=>hb us h) λf i A outer s H E hr=>hbody hr (dl hr)
theorem J9{x q:Str}{N ps:List Str}{k n:Nat}{b:BS}{c:OD}(F:Fun K x q st c fd)(S:ai N ps (ae st))(hbody:Mc P w K mg base gy N q st k b c)(hn:ps.length=n:=by decide)(d:ps.length≤N.length:=by decide) :
  bG P w K mg base eY (k+1) c fd ps (jP gy n<|bH N.length b):=JT F S hn d λf A outer s H E hr=>hbody hr (dl hr)
theorem wG{c:Nat}{x q:Str}{N ps:List Str}{k n:Nat}{b:BS}(D:nA K (gy.cl c) x q st)(S:ai N ps (ae st))(hb:KQ x q st ps)(hbody:∀{f},Mc P w K mg base gy N q st k b f)(hn:ps.length=n:=by decide)(i:ps.length≤N.length:=by decide) :
  eM P w K mg base gy eY c x (k+1) n [] (bH N.length b):=by
 obtain⟨f,fd,F,d⟩:=D;exact⟨f,fd,ps,[],[],hn,J9 F S hbody hn i,d,F.binds λ_ _ _ _ _ _ us h=>hb us h,.nil,λ_ _ _ _=>.nil⟩
theorem _root_.L2.Fun.kwbinds{x qual:Str}{f:OD}{ps ks:List Str}{c:Nat}{tpl:List ux}(F:Fun K x qual st f fd)(h:Md x qual st ps ks c tpl):lO K fd ps ks c tpl:=by
 obtain⟨r,p,kV,doc,o,u,m,ct,osl,rfl,lk,l⟩:=F.ex;exact λs us d _ j i=>.of_eq (h us j d i)
theorem NT{c:Nat}{x q:Str}{N ps:List Str}{k n:Nat}{b:BS}(D:Mb K (gy.cl c) q st)(d:mg x=some (.ref<|gy.cl c))(S:ai N ps (ae st))(hb:KQ "__init__" q st ps)(hbody:∀{f},Mc P w K mg base gy N q st k b f)(hn:ps.length=n:=by decide)(i:ps.length≤N.length:=by decide) :
  NK P w K mg base gy eY c x (k+1) n (bH N.length b):=by
 obtain⟨f,fd,F,mk⟩:=D;exact⟨f,fd,ps,hn,J9 F S hbody hn i,mk,d,F.binds λ_ _ _ _ _ _ us h=>hb us h⟩
theorem Me{c:Nat}{x q:Str}{N ps ks:List Str}{d:Nat}{tpl:List ux}{k n:Nat}{b:BS}(D:Mb K (gy.cl c) q st)(h:mg x=some (.ref<|gy.cl c))(S:ai N ps (ae st))(hb:Md "__init__" q st ps ks d tpl)(ht:uy tpl)(hbody:∀{f},Mc P w K mg base gy N q st k b f)(hn:ps.length=n:=by decide)(i:ps.length≤N.length:=by decide) :
  NS P w K mg base gy eY c x (k+1) n d ks tpl (bH N.length b):=by
 obtain⟨f,fd,F,mk⟩:=D;exact⟨f,fd,ps,hn,J9 F S hbody hn i,mk,h,F.kwbinds hb,ht⟩
end
section
variable{a b c e o:O4}{ba bb bc be:BE}{br:BA}{pos p:Pos}{x m:Str}{k n k':Nat}{f:BF}
theorem uv(i:Nat)(j:X.N[i]?=some x:=by nofun)(h:Hz X.env.scope x:=by with_unfolding_all (first | exact SL rfl | exact VW (SL rfl) | exact VW (VW rfl)))(hd:(x==("__debug__":Str))=false:=by decide)(d:(x==("__classdict__":Str))=false:=by decide):PE X (.Name x pos) (up g<|aU i):=DK i (pv i j h hd d)
theorem uc(c:cF X.prog X.w X.K X.mg X.base g.toGy eY x k n f)(hr:a5 k' X.A)(r:PA X (e::es) (jl g br))(i:k≤k':=by decide)(j:Gl X x:=by nofun)(h:(x==("__debug__":Str))=false:=by decide)
  (l:hE9 X e es:=by nofun) (d:hP9 X pos es:=by nofun):PE X (.Call (.Name x p) (e::es) [] pos) (up g<|nq (nZ n f) br):=bg c (hr.mono i) dX r j h l d
theorem um{pl:Sem Bool}{d:Pos}{c:Nat}{r:List AV}(M:eM X.prog X.w X.K X.mg X.base g.toGy eY c m k n r f)(C:ow X.K (g.cl c))(hr:a5 k' X.A)(ho:PE X o (up g ba))(H:PA X (e::es) (jl g br))(z:k≤k':=by decide)(u:∀i∈kH,a8[i]?≠some m:=by decide +kernel)
  (h:hE9 X e es:=by nofun) (j:hP9 X pos es:=by nofun)
  (ht:Pq (.Call (.Attribute o m d) (e::es) [] pos) X.env=(do
   let l <-Pq o X.env
   Rp d.atName
   let (f,first) <-Rq [l] (Sf l m pl)
   Ta pos f first (QE pos<|O1 (e::es) X.env) (QI pos<|PZ [] X.env)):=by nofun) :
  PE X (.Call (.Attribute o m d) (e::es) [] pos) (up g<|dv c n r f ba br):=zQ M C u (hr.mono z) dX ho H h j ht
theorem ug(i:Nat)(l:X.N.Nodup)(h:X.N[i]?=some x:=by nofun)(d:L2.er X.env.scope x:=by with_unfolding_all (first | exact SL rfl | exact VW rfl))(j:X.fn x=true∨X.env.scope.names.lookup x=some .local:=by with_unfolding_all (first | exact .inl rfl | exact .inr rfl | assumption)):PG X (.Name x pos) (nj g [i]<|cy i):=Gk i (tS l h d j)
theorem ua{pos':Pos}(i:Nat)(r:X.N.Nodup)(l:PE X e (up g be))(h:X.N[i]?=some x:=by nofun)(d:L2.er X.env.scope x:=by with_unfolding_all (first | exact SL rfl | exact VW rfl))(hs:Qq e (some<|.Name x pos') pos.line X.env=pure false:=by nofun)(j:X.fn x=true∨X.env.scope.names.lookup x=some .local:=by with_unfolding_all (first | exact .inl rfl | exact .inr rfl | assumption)) :
  PS X (.Assign [.Name x pos'] e pos) (de g<|jQ be<|cy i):=JC i (kn r h d l hs j)
theorem EM(G:i9 X.K g.toGy)(d:PE X e (up g ba))(hb:Pi e "files" X.env (Pq e X.env)=Pq e X.env:=by nofun):PE X (.Attribute e "files" pos) (up g<|kM 31 ba):=eJ 31 (by decide +kernel) G.cls G.na_files d hb
theorem G1(G:i9 X.K g.toGy)(d:PE X e (up g ba))(hb:Pi e "fair" X.env (Pq e X.env)=Pq e X.env:=by nofun):PE X (.Attribute e "fair" pos) (up g<|kM 29 ba):=eJ 29 (by decide +kernel) G.cls G.na_fair d hb
theorem qf(G:i9 X.K g.toGy)(d:PE X e (up g ba))(hb:Pi e "given" X.env (Pq e X.env)=Pq e X.env:=by nofun):PE X (.Attribute e "given" pos) (up g<|kM 35 ba):=eJ 35 (by decide +kernel) G.cls G.na_given d hb
theorem d4(G:i9 X.K g.toGy)(d:PE X e (up g ba))(hb:Pi e "leads" X.env (Pq e X.env)=Pq e X.env:=by nofun):PE X (.Attribute e "leads" pos) (up g<|kM 41 ba):=eJ 41 (by decide +kernel) G.cls G.na_leads d hb
theorem dM(G:i9 X.K g.toGy)(d:PE X e (up g ba))(hb:Pi e "opened" X.env (Pq e X.env)=Pq e X.env:=by nofun):PE X (.Attribute e "opened" pos) (up g<|kM 54 ba):=eJ 54 (by decide +kernel) G.cls G.na_opened d hb
theorem jG(G:i9 X.K g.toGy)(d:PE X e (up g ba))(hb:Pi e "held" X.env (Pq e X.env)=Pq e X.env:=by nofun):PE X (.Attribute e "held" pos) (up g<|kM 38 ba):=eJ 38 (by decide +kernel) G.cls G.na_held d hb
theorem bJ(G:i9 X.K g.toGy)(d:PE X e (up g ba))(hb:Pi e "waiting" X.env (Pq e X.env)=Pq e X.env:=by nofun):PE X (.Attribute e "waiting" pos) (up g<|kM 73 ba):=eJ 73 (by decide +kernel) G.cls G.na_waiting d hb
theorem jH(G:i9 X.K g.toGy)(d:PE X e (up g ba))(hb:Pi e "asleep" X.env (Pq e X.env)=Pq e X.env:=by nofun):PE X (.Attribute e "asleep" pos) (up g<|kM 5 ba):=eJ 5 (by decide +kernel) G.cls G.na_asleep d hb
theorem nB(G:i9 X.K g.toGy)(d:PE X e (up g ba))(hb:Pi e "outcomes" X.env (Pq e X.env)=Pq e X.env:=by nofun):PE X (.Attribute e "outcomes" pos) (up g<|kM 56 ba):=eJ 56 (by decide +kernel) G.cls G.na_outcomes d hb
theorem iE(G:i9 X.K g.toGy)(d:PE X e (up g ba))(hb:Pi e "changes" X.env (Pq e X.env)=Pq e X.env:=by nofun):PE X (.Attribute e "changes" pos) (up g<|kM 19 ba):=eJ 19 (by decide +kernel) G.cls G.na_changes d hb
theorem bP(G:i9 X.K g.toGy)(d:PE X e (up g ba))(hb:Pi e "tables" X.env (Pq e X.env)=Pq e X.env:=by nofun):PE X (.Attribute e "tables" pos) (up g<|kM 65 ba):=eJ 65 (by decide +kernel) G.cls G.na_tables d hb
theorem Ao(G:i9 X.K g.toGy)(d:PE X e (up g ba))(hb:Pi e "past" X.env (Pq e X.env)=Pq e X.env:=by nofun):PE X (.Attribute e "past" pos) (up g<|kM 57 ba):=eJ 57 (by decide +kernel) G.cls G.na_past d hb
theorem BZ(G:i9 X.K g.toGy)(d:PE X e (up g ba))(hb:Pi e "future" X.env (Pq e X.env)=Pq e X.env:=by nofun):PE X (.Attribute e "future" pos) (up g<|kM 34 ba):=eJ 34 (by decide +kernel) G.cls G.na_future d hb
end
end RB
namespace L2
open PySem PySem.Spec PyProof.Rows
theorem qg(o:Obj)(f:Array OC->Array OC):(o.mapFields f).dict=o.dict:=by unfold ZA;split<;>rfl
def FF(h base:Pk)(e:OD)(C:OC×Option OD)(G:Array OC->Prop)(fl:OC):Prop :=
 ∃c vs T d ts,h.get? e=some c/\((c.cls,c.dict)=C/\G vs)/\c.data=.fields vs/\vs[1]?=some (.ref T)/\base.get? T=none/\T≠e/\h.get? T=some d/\d.data=.fields ts/\ts[3]?=some fl
section
variable{M:Wy}{env:Env}{outer:List Env}{L e:OD}{C:OC×Option OD}{G:Array OC->Prop}{Q:Unit->OI->Prop}
theorem EN{d:Obj}{vs:Array OC}{head:OC}{hn:Bool}(hG:∀vs v,G vs->G (vs.setIfInBounds 1 v))(r:A.frames=some (env::outer))(p:s.heap.FunFrames base (env::outer))(Z:env.frame=some L)(Y:base.StaysIn s.heap)(u:base.get? e=none)
  (x:s.heap.get? e=some d) (hd:d.data=.fields vs) (hz:1<vs.size) (h0:G vs) (h:∀h',base.StaysIn h'->s.heap.UpToSlots h'->FF h' base e (d.cls,d.dict) G (Rl L)->Q () {s with heap:=h'}) :
  OM M A (do let a <-frameOf env;let pl <-entryPlaceOf L hn;let b <-Wt head a .none (Rl L) .none pl;setField (.ref e) 1 b) Q E s:=by
 have j:e∉io (env::outer):=λm=>by
  obtain⟨_,o,ho,l⟩:=p.mem m;rw[x] at ho;cases ho;exact l vs hd
 refine OB (wpAny_frameOf_fun r p Z λc i=>OB (wpAny_entryPlaceOf λpl hpl=>?_));unfold Wt newFields;refine OB (PB ?_<|hpl.sizeOk5 _ _ _ _ _);have O:c.get? e=some d:=(i.2.1 e j).trans x;have k1:base.StaysIn c:=λb o q=>(i.2.1 b λm=>by rw[(p.mem m).1] at q;cases q).trans (Y b o q);have f:c.objs.size≠e:=So (OO O);have U:=WY hd (·.setIfInBounds 1 (OX c.objs.size));generalize ho:({cls:=.type "traceback",data:=.fields ([head,.ref L,.none,Rl L,.none]++(if pl.isEmpty then Uy 6 Pw else pl)).toArray}:Obj)=H;have I:=OF (h:=c) H O;refine To I hd hz (h _ (λb o q=>?_) (λb o q l=>?_) ⟨_,_,c.objs.size,H,_,Qw _ I<|VN U,⟨Prod.ext (Obj.cls_mapFields _ _)<|qg _ _,hG _ _ h0⟩,U,by simp[hz],k1.fresh,f,(Pp _ _<|Qp f).trans (OQ c<|by rw[<-ho];rfl),by rw[<-ho],?_⟩)
 ·rw[Pp _ _ λz=>by rw[<-z,u] at q;cases q];exact OF _ (k1 b o q)
 ·obtain⟨sl,q2⟩:=i.2.2 b o q;refine⟨sl,?_⟩;rw[Pp _ _ λz=>by rw[<-z,x] at q;cases q;exact l vs hd];exact OF _ q2
 ·rcases hpl with rfl | ⟨_,_,_,_,_,_,_,rfl⟩<;>simp
theorem Ka{c:Obj}{vs:Array OC}(p:∀vs v,G vs->G (vs.setIfInBounds 1 v))(d:A.frames=some (env::outer))(m:s.heap.FunFrames base (env::outer))(i:env.frame=some L)(o:base.StaysIn s.heap)(f:base.get? e=none)
  (j:s.heap.get? e=some c) (hd:c.data=.fields vs) (l:vs[1]?=some .none) (h0:G vs) (h:∀h',base.StaysIn h'->s.heap.UpToSlots h'->FF h' base e (c.cls,c.dict) G (Rl L)->Q () {s with heap:=h'}):OM M A (Sg (.ref e) env) Q E s:=by
 unfold Sg;simp only[i];refine OB (QJ j hd l ?_);rw[if_neg (by decide)];exact EN p d m i o f j hd (P7.mp l).1 h0 h
theorem IC(Z:∀vs v,G vs->G (vs.setIfInBounds 1 v))(f:A.frames=some (env::outer))(U:s.heap.FunFrames base (env::outer))(p:env.frame=some L)(Y:base.StaysIn s.heap)(i:base.get? e=none)(ht:FF s.heap base e C G .none)
  (h:∀h',base.StaysIn h'->s.heap.UpToSlots h'->FF h' base e C G (Rl L)->Q () {s with heap:=h'}):OM M A (Sg (.ref e) env) Q E s:=by
 obtain⟨oe,vs,T,oT,ts,r,⟨rfl,h0⟩,hd,x,nT,j,l,m,u⟩:=ht;unfold Sg;simp only[p];refine OB (QJ r hd x ?_);rw[if_pos (show(OX T !=Pw)=true by simp)];refine OB (QJ l m u ?_);rw[if_neg (show ¬(Pw==Rl L)=true by simp[Rl])];have c:∀b,b≠T->(s.heap.update T (ZA (·.setIfInBounds 3 Pw))).get? b=s.heap.get? b:=λb n=>Pp _ _ (Qp n);have rcd:∀b o,s.heap.get? b=some o->(∀vs,o.data≠.fields vs)->b≠T:=λb o q d z=>by rw[z,l] at q;cases q;exact d ts m
 refine OB (To l m (P7.mp u).1 (EN Z f (U.of_keeps λb o q d=>⟨o,(c b<|rcd b o q d).trans q,rfl⟩) p (λb o q=>(c b λz=>by rw[z,nT] at q;cases q).trans (Y b o q)) i ((c e<|Qp j).trans r) hd (P7.mp x).1 h0 λh' O I H=>h h' O (λb o q d=>I b o ((c b<|rcd b o q d).trans q) d) H))
theorem EO{fl:OC}(u:base.StaysIn s.heap)(ht:FF s.heap base e C G fl)(h:∀h',base.StaysIn h'->s.heap.UpToSlots h'->FF h' base e C G .none->Q () {s with heap:=h'}):OM M A (Uq (.ref e) none) Q E s:=by
 obtain⟨p,vs,T,I,ts,j,x,hd,l,nT,c,d,i,H⟩:=ht;have hz:3<ts.size:=(P7.mp H).1;unfold Uq;refine OB (QJ j hd l ?_);rw[if_pos (show(OX T !=Pw)=true by simp)];have m:=WY i (·.setIfInBounds 3 ((none:Option OD).elim Pw λf=>Rl f));refine To d i hz (h _ (λb o q=>?_) (λb o q r=>⟨o.slots,?_⟩) ⟨p,vs,T,_,_,?_,x,hd,l,nT,c,Qw _ d<|VN m,m,by simp[hz]⟩)
 ·rw[Pp _ _ λz=>by rw[<-z,nT] at q;cases q];exact u b o q
 ·rw[Pp _ _ λz=>by rw[<-z,d] at q;cases q;exact r ts i];exact q
 ·rw[Pp _ _ c];exact j
theorem Kb(j:env.frame=some L)(ht:FF s.heap base e C G (Rl L))(h:Q () s):OM M A (Sg (.ref e) env) Q E s:=by
 obtain⟨d,vs,T,i,ts,l,r,hd,f,nT,c,m,p,o⟩:=ht;exact wpAny_noteFrame_againW (base:=base) (cls:=d.cls) (a0:=vs[0]?.getD .none) j ⟨d,vs,T,i,ts,l,⟨rfl,by have:=(P7.mp f).1;simp[show 0<vs.size by omega]⟩,hd,f,nT,c,m,p,o⟩ h
end
abbrev GX(a0:OC)(vs:Array OC):Prop:=vs[0]?=some a0/\vs[2]?=some .none
theorem gX{a0:OC}:∀vs v,GX a0 vs->GX a0 (vs.setIfInBounds 1 v):=λvs v ⟨a,b⟩=>⟨by rw[Tu (by decide)];exact a,by rw[Tu (by decide)];exact b⟩
def wH(h0:Pk)(H:Hp)(e:OD)(C:OC×Option OD)(fl:OC)(h:Pk):Prop :=
 h0.get? e=none/\H e=none/\∃c vs T d ts a0,h.get? e=some c/\(c.cls,c.dict)=C/\GX a0 vs/\c.data=.fields vs/\vs[1]?=some (.ref T) /\
  h0.get? T=none/\H T=none/\T≠e/\h.get? T=some d/\d.data=.fields ts/\ts[3]?=some fl
structure Mf(h0:Pk)(H:Hp)(l:List Env)(e:OD)(C:OC×Option OD)(fl:OC)(h h':Pk):Prop where
 keep:∀x o,h.get? x=some o->(h0.get? x≠none∨H x≠none)->x∉io l->h'.get? x=some o
 slot:∀x o,h.get? x=some o->x∈io l->∃sl,h'.get? x=some {o with slots:=sl}
 flew:wH h0 H e C fl h'
section
variable{M:Wy}{h0 base:Pk}{env:Env}{outer l:List Env}{L e:OD}{C:OC×Option OD}{fl:OC}
theorem Kc{h:Pk}{x:OD}{o:Obj}{vs:Array OC}(i:h.FunFrames base l)(f:x∈io l)(e:h.get? x=some o)(d:o.data=.fields vs):False:=by
 obtain⟨_,j,c,n⟩:=i.mem f;rw[e] at c;cases c;exact n vs d
theorem yA{h h' b:Pk}{T a0:OD}{av:OC}{u:OC}(hl:h.FunFrames base l)(th:∀x o,h0.get? x=some o->∃d,h.get? x=some d)(tr:∀x,H x≠none->∃o,h.get? x=some o)
  (j:h0.get? e=none) (i:H e=none) (r:h0.get? T=none) (p:H T=none) (hb:b=PM h (e::T::io l))
  (k1:b.StaysIn h') (k2:h.UpToSlots h') (k3:FF h' b e C (GX av) u):Mf h0 H l e C u h h':=by
 subst hb;refine⟨λx o q n nf=>?_,λx o q m=>?_,j,i,?_⟩
 ·refine k1 x o (RJ _ q λm=>?_);rcases OY.mp m with z | m
  ·subst z;rcases n with n | n
   ·exact n j
   ·exact n i
  ·rcases OY.mp m with z | m
   ·subst z;rcases n with n | n
    ·exact n r
    ·exact n p
   ·exact nf m
 ·obtain⟨_,d,I,n⟩:=hl.mem m;rw[q] at I;cases I;exact k2 x o q n
 ·obtain⟨oe,vs,c,oT,ts,q1,⟨q2,q3⟩,q4,q5,Z,Y,U,Q,O⟩:=k3;have fz:h0.get? c=none/\H c=none:=by
   cases z:h.get? c with
   | none=>
    refine⟨?_,?_⟩
    ·cases y:h0.get? c with
     | none=>rfl
     | some o=>obtain⟨d,f⟩:=th c o y;rw[z] at f;cases f
    ·cases y:H c with
     | none=>rfl
     | some o=>obtain⟨d,f⟩:=tr c (by rw[y];simp);rw[z] at f;cases f
   | some o=>
    by_cases m:c∈e::T::io l
    ·rcases OY.mp m with w | m
     ·exact absurd w Y
     ·rcases OY.mp m with w | m
      ·rw[w];exact⟨r,p⟩
      ·exfalso;obtain⟨_,d,I,n⟩:=hl.mem m;obtain⟨sl,e2⟩:=k2 c d I n;rw[U] at e2;cases e2;exact n ts Q
    ·rw[RJ _ z m] at Z;cases Z
  exact⟨oe,vs,c,oT,ts,av,q1,q2,q3,q4,q5,fz.1,fz.2,Y,U,Q,O⟩
theorem iF{h:Pk}{c:List OD}(f:h.FunFrames base l)(hs:∀x∈io l,x∈c):h.FunFrames (PM h c) l :=
 PySem.W.funFrames_hide f λenv d a i=>hs a (Uv.mpr ⟨env,d,i⟩)
theorem EQ{Q:Unit->OI->Prop}(f:A.frames=some (env::outer))(hf:env.frame=some L)(j:s.heap.FunFrames base (env::outer))(Y:∀x o,h0.get? x=some o->∃o',s.heap.get? x=some o')(U:∀x,H x≠none->∃o,s.heap.get? x=some o)
  (F:wH h0 H e C .none s.heap) (hQ:∀h',Mf h0 H (env::outer) e C .none s.heap h'->Q () {s with heap:=h'}):OM M A (Vk env<|.ref e) Q E s:=by
 obtain⟨i,h,oe,vs,T,oT,ts,a0,q1,q2,q3,q4,q5,q6,q7,q8,Z,d,c⟩:=F;unfold Vk;refine OB (IC (base:=PM s.heap (e::T::io (env::outer))) (C:=C) gX f (iF j λx hx=>OT _ (OT _ hx)) hf (λb o z=>QD _ z) (P9 _<|by simp)
  ⟨oe,vs,T,oT,ts,q1,⟨q2,q3⟩,q4,q5,P9 _<|by simp,q8,Z,d,c⟩ λh1 O I u=>EO O u λh' r p m=>?_)
 exact hQ h' (yA (a0:=0) j Y U i h q6 q7 rfl r (I.trans p) m)
theorem G2{f:Obj}{vs:Array OC}{a0:OC}{Q:Unit->OI->Prop}(h:A.frames=some (env::outer))(hf:env.frame=some L)(i:s.heap.FunFrames base (env::outer))(Y:∀x o,h0.get? x=some o->∃Z,s.heap.get? x=some Z)(U:∀x,H x≠none->∃o,s.heap.get? x=some o)
  (d:h0.get? e=none) (c:H e=none) (he:s.heap.get? e=some f) (hd:f.data=.fields vs) (j:vs[1]?=some .none) (hG:GX a0 vs) (hQ:∀h',Mf h0 H (env::outer) e (f.cls,f.dict) .none s.heap h'->Q () {s with heap:=h'}):OM M A (Vk env<|.ref e) Q E s:=by
 unfold Vk;refine OB (Ka (base:=PM s.heap (e::e::io (env::outer))) gX h (iF i λx hx=>OT _ (OT _ hx)) hf (λb o z=>QD _ z) (P9 _<|by simp) he hd j hG λj O I u=>EO O u λh' r p m=>?_);exact hQ h' (yA (a0:=0) i Y U d c d c rfl r (I.trans p) m)
theorem wH.back{h0 c h:Pk}(F:wH c H e C fl h)(i:∀x o,h0.get? x=some o->∃f,c.get? x=some f):wH h0 H e C fl h:=by
 have fr:∀x,c.get? x=none->h0.get? x=none:=λx z=>by
  cases y:h0.get? x with
  | none=>rfl
  | some o=>obtain⟨f,d⟩:=i x o y;rw[z] at d;cases d
 obtain⟨a,b,I,vs,T,O,ts,a0,q1,q2,u,p,m,j,r⟩:=F;exact⟨fr _ a,b,I,vs,T,O,ts,a0,q1,q2,u,p,m,fr _ j,r⟩
end
def bL(P:Ph)(w:Py):kr:=λouter H s E ev s'=>∃e C c,ev=.ref e/\s'.os=s.os/\TN s'.gens/\Un (io outer) [] H c s.heap s'.heap/\i6 P w c s'.heap/\wH s.heap c e C .none s'.heap/\E C.1 C.2 c
section
variable{e:OD}{C:OC×Option OD}{fl:OC}{h':Pk}
theorem ay.tracked(J:ay X pins σ H s):∀x,H x≠none->∃o,s.heap.get? x=some o:=λx n=>by
 cases q:H x with
 | none=>exact absurd q n
 | some o=>exact(J.hok x o q).some
theorem ay.aft(J:ay X pins σ H s)(x:X.ex=[])(a:Mf X.s₀.heap H X.stack e C fl s.heap h'):Un X.fs [] X.H₀ H X.s₀.heap h'/\i6 X.prog X.w H h':=by
 have ne:∀b,b∉X.ex:=λb=>by rw[x];simp
 have p:∀b o,X.s₀.heap.get? b=some o->b∉X.fs->b∉io X.stack:=λb o q i m=>by
  rcases OY.mp (J.stkSub b m) with z | z
  ·subst z;exact absurd (O7 (OO q) J.ok.above) (QL _)
  ·exact i z
 refine⟨⟨λb o q n i _=>?_,λb o q n r _=>?_,λb o q n _=>J.base.free b o q n (ne b),λb o q _=>?_,J.base.tups,J.base.frzs,J.base.tbls⟩,λb o q=>?_⟩
 ·exact a.keep b o (J.base.keep b o q n i<|ne b) (.inl<|by rw[q];simp) (p b o q i)
 ·obtain⟨sl,h⟩:=J.base.slot b o q n r (ne b);by_cases m:b∈io X.stack
  ·obtain⟨d,j⟩:=a.slot b _ h m;exact⟨d,j⟩
  ·exact⟨sl,a.keep b _ h (.inl<|by rw[q];simp) m⟩
 ·obtain⟨l,h⟩:=J.base.there b o q (ne b);by_cases m:b∈io X.stack
  ·obtain⟨d,j⟩:=a.slot b _ h m;exact⟨_,j⟩
  ·exact⟨l,a.keep b _ h (.inl<|by rw[q];simp) m⟩
 ·refine(J.hok b o q).stay (λc u hc z=>?_) (λ_ z=>z) λ_ _ z=>z;have f:H c≠none:=by
   rcases hc with rfl | hc
   ·rw[q];simp
   ·rw[hc];simp
  exact a.keep c u z (.inr f) λm=>f (J.stkFree c m)
end
section
variable{N:List Str}{qual:Str}{scope:PQ}{f:OD}{cd:OC}{outer:List Env}{s0:OI}{H0:Hp}{E:XK}{e:OD}{C:OC×Option OD}
theorem Mg(J:ay (bQ (bL P w) P w K mg base N qual scope f cd A outer s0 H0 E) pins σ H s)(F:wH s0.heap H e C .none s.heap)(q:E C.1 C.2 H):(bQ (bL P w) P w K mg base N qual scope f cd A outer s0 H0 E).xe (.ref e) s:=by
 have ne:∀b,b∉(bQ (bL P w) P w K mg base N qual scope f cd A outer s0 H0 E).ex:=λb z=>nomatch z;refine EQ (base:=base) (h0:=s0.heap) (H:=H) J.ok.frames rfl J.stack (λx o z=>J.base.there x o z (ne x)) J.tracked F λh' a=>?_;obtain⟨un,hok⟩:=J.aft rfl a;exact⟨e,C,H,rfl,J.os,J.bare,un,hok,a.flew,q⟩
theorem Kd{c:Obj}{vs:Array OC}{a0:OC}(J:ay (bQ (bL P w) P w K mg base N qual scope f cd A outer s0 H0 E) pins σ H s)(h:s0.heap.get? e=none)(d:H e=none)(i:s.heap.get? e=some c)(hd:c.data=.fields vs)(l:vs[1]?=some .none)(j:GX a0 vs)(q:E c.cls c.dict H):(bQ (bL P w) P w K mg base N qual scope f cd A outer s0 H0 E).xe (.ref e) s:=by
 have ne:∀b,b∉(bQ (bL P w) P w K mg base N qual scope f cd A outer s0 H0 E).ex:=λb z=>nomatch z;refine G2 (base:=base) (h0:=s0.heap) (H:=H) J.ok.frames rfl J.stack (λx o z=>J.base.there x o z (ne x)) J.tracked h d i hd l j λh' a=>?_;obtain⟨un,hok⟩:=J.aft rfl a;exact⟨e,(c.cls,c.dict),H,rfl,J.os,J.bare,un,hok,a.flew,q⟩
theorem aJ:cw (bL P w) (bQ (bL P w) P w K mg base N qual scope f cd A outer s0 H0 E) E:=by
 rintro pins σ H s ev s' I ⟨e,C,H1,i,os,bare,un,hok,F,q⟩;subst i;have ne:∀b,b∉(bQ (bL P w) P w K mg base N qual scope f cd A outer s0 H0 E).ex:=λb z=>nomatch z;obtain⟨h,g,d,t,c⟩:=s';obtain rfl:c=s.os:=os;have J:=I.call (h':=h) (g':=g) (d':=d) (t':=t) (ch:=[]) un hok bare (λb z=>absurd z (by simp));exact Mg J (F.back λx o z=>I.base.there x o z (ne x)) q
end
abbrev M3:List OC:=[.type "ValueError",.type "Exception",.type "BaseException",.type "object"]
def Mh(X:Cx)(E:XK):Prop:=∀(pins:List (OD×Obj)) (σ:St) (H:Hp) (s:OI) (e:OD) (c:Obj) (vs:Array OC) (a0:OC),ay X pins σ H s->X.s₀.heap.get? e=none->H e=none->s.heap.get? e=some c->c.data=.fields vs->vs[1]?=some .none->GX a0 vs->E c.cls c.dict H->X.xe (.ref e) s
theorem lW{N:List Str}{qual:Str}{scope:PQ}{f:OD}{cd:OC}{outer:List Env}{h:OI}{H0:Hp}{E:XK} :
  Mh (bQ (bL P w) P w K mg base N qual scope f cd A outer h H0 E) E:=λ_ _ _ _ _ _ _ _ J a b c d e f q=>Kd J a b c d e f q
theorem Mi{N:OD}(e:V7 K N=true):∃c,K.lookup N=some c:=by
 unfold V7 at e;split at e
 ·exact⟨_,by assumption⟩
 ·cases e
theorem wI{h h':Pk}{N:OD}{m:Str->Option OC}(e:h'.get? N=h.get? N)(n:h.Ns N m):h'.Ns N m:=by
 unfold Heap.Ns at n ⊢;rw[e];exact n
def qh(K:OK)(C:OD)(r:Option OC):Bool:=match K.lookup C with
 | some ⟨.type "type",_,.cls cd,sl⟩=>(match cd.mro,sl.toList with
  | .ref c::bm,[_,_,_,_,some (.builtin n),_]=>c==C&&n=="ValueError.__new__"&&!cd.hasDel&&PySem.W.tailIn K M3 bm&&V7 K cd.ns&&R9 K cd.ns "__init__"==some r
  | _,_=>false)
 | _=>false
theorem Mj{h:Pk}{N:OD}{n:Str}:∀{r:Option OC},K.In h->h.Ns N mg->R9 K N n=some r->mg n=r
 | none,X,G,e=>PySem.W.ns_none_of X G e
 | some v,X,⟨o,es,ep,ho,hd,_,hf⟩,e=>by
  unfold R9 at e;split at e
  ·rename_i c d i j sl q;have:=X _ _ q;rw[ho] at this;cases this;cases hd;split at e
   ·rename_i l f;cases e;rw[<-hf];unfold nsFind findBy;rw[<-WP,f];rfl
   ·split at e<;>cases e
  ·cases e
theorem ER{C:OD}{r:Option OC}(q:qh K C r=true) :
  ∃bm N nm f bs hdct sn sub ab col dd k0 k1 k2 k3 k5,(∃m,K.lookup N=some m)/\∀h:Pk,K.In h->h.get? C=some (T7 nm f C N bs bm hdct sn sub ab col dd k0 k1 k2 k3 k5 "ValueError.__new__")/\h.Ns N (h.nsMap N)/\h.nsMap N "__init__" = r/\ZW h M3 bm:=by
 unfold qh at q;split at q
 ·rename_i dd cd sl ho;split at q
  ·rename_i p bm k0 k1 k2 k3 n k5 j hs;simp only[OZ,beq_iff_eq,Bool.not_eq_true'] at q;obtain⟨⟨⟨⟨⟨rfl,rfl⟩,c⟩,ht⟩,hok⟩,d⟩:=q;obtain⟨nm,bs,mro,ns,f,hd,sn,sub,ab,col,o⟩:=cd;dsimp only at j c hok d;subst j c;have i:sl=#[k0,k1,k2,k3,some (.builtin "ValueError.__new__"),k5]:=by
    obtain⟨l⟩:=sl;simp only at hs;rw[hs]
   subst i;exact⟨bm,ns,nm,f,bs,hd,sn,sub,ab,col,dd,k0,k1,k2,k3,k5,Mi hok,λh X=>⟨X _ _ ho,.of_isNs<|WZ X hok,Mj X (.of_isNs<|WZ X hok) d,PySem.W.tail_of_in X ht⟩⟩
  ·cases q
 ·cases q
theorem ay.notH{e:OD}(I:ay X pins σ H s)(n:s.heap.get? e=none):H e=none:=by
 cases y:H e with
 | none=>rfl
 | some ob=>obtain⟨c,q⟩:=I.tracked e (by rw[y];simp);rw[n] at q;cases q
theorem ay.not0{e:OD}(I:ay X pins σ H s)(c:X.ex=[])(n:s.heap.get? e=none):X.s₀.heap.get? e=none:=by
 cases y:X.s₀.heap.get? e with
 | none=>rfl
 | some ob=>obtain⟨d,q⟩:=I.base.there e ob y (by rw[c];simp);rw[n] at q;cases q
def Ke(E:XK)(C:OD):TS:=λ_ _ H=>E (.ref C) none H
theorem ES{E:XK}{x y:Str}{C:OD}{j O c d pos}(Z:X.calm=true)(Q:X.ex=[])(fl:Mh X E)(Y:Gl X x)(U:X.mg x=some (.ref C))(hC:qh X.K C none=true)
  (hd:(x==("__debug__":Str))=false:=by decide):PS X (.Raise (some<|.Call (.Name x O) [.Constant (.str y) j d] [] c) none pos) (Ke E C):=by
 intro pins s σ H D I h;obtain⟨bm,N,nm,q,bs,hdct,sn,sub,ab,col,dd,k0,k1,k2,k3,k5,⟨oN,p⟩,at_⟩:=ER hC;obtain⟨hCo,hN,i,T⟩:=at_ _ I.kIn;refine wpAny_Raise_call_subT (C:=C) (nm:=nm) (q:=q) (N:=N) (bs:=bs) (bm:=bm) (hdct:=hdct) (sn:=sn) (sub:=sub) (ab:=ab) (col:=col) (dd:=dd) (k0:=k0) (k1:=k1) (k2:=k2) (k3:=k3) (k5:=k5) Rn (mN:=s.heap.nsMap N) (T.hasType Rn.hasBase) (I.ok.hd Z) (by nofun) i (db I Y U ⟨rfl,?_⟩ hd);refine Q5 (bi ((bK gO cW) c pins s σ H (λvs H1=>vs.length=1/\H1=H) I ⟨rfl,rfl⟩) λus l u=>?_);obtain⟨vs,H1,I1,r,L,z⟩:=u;subst z;obtain⟨f,hN',o,T'⟩:=at_ _ I1.kIn;refine⟨rfl,?_,f,wI ((I1.kIn _ _ p).trans (I.kIn _ _ p).symm) hN,T',λh' e m=>?_⟩
 rotate_left
 ·obtain⟨t,ht,_⟩:=m.there;exact fl pins σ _ {l with heap:=h'} e _ _ (.ref t) (I1.kept (h':=h') (t':=l.toks) m.keeps) (I1.not0 Q m.new) (I1.notH m.new) ht rfl rfl ⟨rfl,rfl⟩ h
 show us.length≤OR;rw[<-r.length,L];decide
structure ja(X:Cx)(H1 H:Hp)(s1:OI)(e:OD)(C:OC×Option OD)(fl:OC)(s:OI):Prop where
 os:s.os=s1.os
 bare:TN s.gens
 un:Un (io X.stack) [] H1 H s1.heap s.heap
 hok:i6 X.prog X.w H s.heap
 flew:wH s1.heap H e C fl s.heap
section
variable{H1 H:Hp}{s1 s:OI}{e:OD}{C:OC×Option OD}{fl fl':OC}{h':Pk}{M:Wy}{Q:Unit->OI->Prop}
theorem ja.inv(I:ay X pins σ H1 s1)(R:ja X H1 H s1 e C fl s):ay X pins σ H s:=I.call' R.os R.un R.hok R.bare λb z=>absurd z (by simp)
theorem ja.aft(I:ay X pins σ H1 s1)(R:ja X H1 H s1 e C fl s)(a:Mf s1.heap H X.stack e C fl' s.heap h'):ja X H1 H s1 e C fl' {s with heap:=h'}:=by
 have J:=R.inv I;refine⟨R.os,R.bare,⟨λb o q n j nx=>?_,λb o q n l nx=>?_,R.un.free,λb o q nx=>?_,R.un.tups,R.un.frzs,R.un.tbls⟩,λb o q=>?_,a.flew⟩
 ·exact a.keep b o (R.un.keep b o q n j nx) (.inl<|by rw[q];simp) j
 ·obtain⟨sl,h⟩:=R.un.slot b o q n l nx;obtain⟨d,i⟩:=a.slot b _ h l;exact⟨d,i⟩
 ·obtain⟨p,h⟩:=R.un.there b o q nx;by_cases m:b∈io X.stack
  ·obtain⟨d,i⟩:=a.slot b _ h m;exact⟨_,i⟩
  ·exact⟨p,a.keep b _ h (.inl<|by rw[q];simp) m⟩
 ·refine(R.hok b o q).stay (λc u hc z=>?_) (λ_ z=>z) λ_ _ z=>z;have f:H c≠none:=by
   rcases hc with rfl | hc
   ·rw[q];simp
   ·rw[hc];simp
  exact a.keep c u z (.inr f) λm=>f (J.stkFree c m)
theorem ja.traced(I:ay X pins σ H1 s1)(R:ja X H1 H s1 e C fl s):∃T a0,s1.heap.get? T=none/\H T=none/\(PM s.heap (e::T::io X.stack)).StaysIn s.heap/\s.heap.FunFrames (PM s.heap (e::T::io X.stack)) X.stack /\
  FF s.heap (PM s.heap (e::T::io X.stack)) e C (GX a0) fl/\(PM s.heap (e::T::io X.stack)).get? e=none:=by
 obtain⟨U,O,r,vs,T,u,ts,a0,q1,q2,p,m,l,j,i,h,f,d,c⟩:=R.flew;exact⟨T,a0,j,i,λb o z=>QD _ z,iF (R.inv I).stack λx L=>OT _ (OT _ L),
  ⟨r,vs,T,u,ts,q1,⟨q2,p⟩,m,l,P9 _<|by simp,h,f,d,c⟩,P9 _<|by simp⟩
theorem ja.step(I:ay X pins σ H1 s1)(R:ja X H1 H s1 e C fl s){T:OD}{a0:OC}(d:s1.heap.get? T=none)(c:H T=none)(k1:(PM s.heap (e::T::io X.stack)).StaysIn h')(k2:s.heap.UpToSlots h')
  (k3:FF h' (PM s.heap (e::T::io X.stack)) e C (GX a0) fl'):ja X H1 H s1 e C fl' {s with heap:=h'} :=
 R.aft I (yA (base:=X.base) (a0:=0) (R.inv I).stack (λx o z=>R.un.there x o z (by simp)) (R.inv I).tracked R.flew.1 R.flew.2.1 d c rfl k1 k2 k3)
theorem ja.note(I:ay X pins σ H1 s1)(R:ja X H1 H s1 e C .none s)(hX:X.stack=X.env::X.outer)(m:X.env.frame=some X.env.locals)(o:A.frames=some X.stack)
  (h:∀h',ja X H1 H s1 e C (Rl X.env.locals) {s with heap:=h'}->Q () {s with heap:=h'}):OM M A (Sg (.ref e) X.env) Q E s:=by
 obtain⟨T,a0,l,j,i,f,d,c⟩:=R.traced I;exact IC (outer:=X.outer) gX (by rw[o,hX]) (by rw[<-hX];exact f) m i c d λh' k1 k2 k3=>h h' (R.step I l j k1 k2 k3)
theorem ja.noteAgain(I:ay X pins σ H1 s1)(R:ja X H1 H s1 e C (Rl X.env.locals) s)(d:X.env.frame=some X.env.locals)(h:Q () s):OM M A (Sg (.ref e) X.env) Q E s:=by
 obtain⟨T,a0,m,l,j,i,c,f⟩:=R.traced I;exact Kb d c h
theorem ja.land(I:ay X pins σ H1 s1)(R:ja X H1 H s1 e C fl s)(h:∀h',ja X H1 H s1 e C .none {s with heap:=h'}->Q () {s with heap:=h'}):OM M A (Uq (.ref e) none) Q E s:=by
 obtain⟨T,a0,i,f,d,l,c,j⟩:=R.traced I;exact EO d c λh' k1 k2 k3=>h h' (R.step I i f k1 k2 k3)
theorem ja.lift(I:ay X pins σ H1 s1)(R:ja X H1 H s1 e C fl s){L:OD}(h:∀h',ja X H1 H s1 e C (Rl L) {s with heap:=h'}->Q () {s with heap:=h'}):OM M A (Uq (.ref e)<|some L) Q E s:=by
 obtain⟨p,l,oe,vs,T,Z,ts,a0,q1,q2,q3,Y,U,O,u,r,i,f,j⟩:=R.flew;have hs:3<ts.size:=(P7.mp j).1;unfold Uq;refine OB (QJ q1 Y U ?_);rw[if_pos (show(OX T !=Pw)=true from by simp)];refine To i f hs ?_;refine h _ (R.aft I ⟨λx o q n nf=>?_,λx o q m=>?_,p,l,oe,vs,T,_,ts.setIfInBounds 3<|Rl L,a0,?_,q2,q3,Y,U,O,u,r,Qw _ i ?_,?_,?_⟩)
 ·rw[Pp _ _ λz=>?_];exact q;subst z;rcases n with n | n
  ·exact n O
  ·exact n u
 ·refine⟨o.slots,?_⟩;rw[Pp _ _ λz=>?_];exact q;subst z;exact Kc (R.inv I).stack m i f
 ·rw[Pp _ _ r];exact q1
 ·obtain⟨c,d,dt,sl⟩:=Z;cases f;rfl
 ·obtain⟨c,d,dt,sl⟩:=Z;cases f;rfl
 ·exact Array.getElem?_setIfInBounds_self_of_lt hs
end
@[reducible] def Cx.marked(X:Cx)(e:OD)(xe:OC->OI->Prop):Cx:={X with A:=X.A.mark (some<|.ref e),calm:=false,xe:=xe}
def ET(c:Obj):Prop:=∃vs,c.data=.fields vs/\vs[2]?=some .none
def M4(base:Pk)(A:Qz):Prop:=A.handled=none∨∃e c,A.handled=some (.ref e)/\base.get? e=some c/\ET c
@[reducible] def Cx.markedP(X:Cx)(e:OD)(c:Obj):Cx:={X with A:=X.A.mark (some<|.ref e),calm:=false,xe:=λ_ _=>False,pn:=(e,c)::X.pn}
section
variable{H1 H:Hp}{s1 s:OI}{e D:OD}{C:OC×Option OD}{fl fl':OC}{xe:OC->OI->Prop}{Q:Flow->OI->Prop}{y:Str}{np hpos:Pos}{b₀:Rs}{suite:List Rs}{rest:List ZB}
theorem ay.mark(I:ay X pins σ H s):ay (X.marked e xe) pins σ H s :=
 ⟨{I.ok with hd:=λz=>nomatch z},I.os,I.bare,I.base,I.loc,I.cell,I.free,I.freeC,I.pin,I.hok,I.len⟩
theorem ay.markP{c:Obj}(I:ay X pins σ H s)(m:(e,c)∈pins):ay (X.markedP e c) pins σ H s :=
 ⟨{I.ok with hd:=λz=>nomatch z},I.os,I.bare,I.base,I.loc,I.cell,I.free,I.freeC,λp d=>I.pin p (by
  rcases PN.mp d with z | z
  ·rcases OY.mp z with rfl | z
   ·exact OV _ m
   ·exact Qc _ z
  ·exact OV _ z),I.hok,I.len⟩
theorem ay.unmarkP{c:Obj}(ok:X.Ok)(I:ay (X.markedP e c) pins σ H s):ay X pins σ H s:=⟨ok,I.os,I.bare,I.base,I.loc,I.cell,I.free,I.freeC,λp d=>I.pin p (by
  rcases PN.mp d with z | z
  ·exact Qc _ (OT _ z)
  ·exact OV _ z),I.hok,I.len⟩
theorem ay.unmark(ok:X.Ok)(I:ay (X.marked e xe) pins σ H s):ay X pins σ H s:=⟨ok,I.os,I.bare,I.base,I.loc,I.cell,I.free,I.freeC,I.pin,I.hok,I.len⟩
theorem ja.type(R:ja X H1 H s1 e C fl s)(M:Wy):P5 M s.heap (Vn<|.ref e) C.1:=by
 obtain⟨_,_,c,vs,T,d,ts,a0,q1,q2,_⟩:=R.flew;subst q2;exact(Vf q1).andThen .now
theorem EU(I:ay X pins σ H1 s1)(R:ja X H1 H s1 e C .none s)(m:X.stack=X.env::X.outer)(l:X.env.frame=some X.env.locals)(j:Gl X y)(i:X.mg y=some (.ref D))(h:QT X.K C.1 (.ref D)=some true)
  (k:∀s',ja X H1 H s1 e C .none s'->OM (OP X.prog X.w) (X.A.mark<|some<|.ref e) (execs (b₀::suite) X.env) Q (notedBy (OP X.prog X.w) (X.A.mark<|some<|.ref e) X.env<|cameBackBy (OP X.prog X.w) X.A X.env E) s')
  (hd:(y==("__debug__":Str))=false:=by decide) :
  OM (OP X.prog X.w) X.A (Sg (.ref e) X.env) (λ_ f=>OM (OP X.prog X.w) X.A (Uq (.ref e) none) (λ_ d=>OM (OP X.prog X.w) X.A (handleBy (.ref e) X.env (.ExceptHandler (some<|.Name y np) none (b₀::suite) hpos::rest)) Q E d) E f) E s:=by
 refine R.note I m l I.ok.frames λu R2=>R2.land I λr c=>?_;refine Wu (VO ?_) (by intro q;cases q);refine db (X:=X.marked e λ_ _=>False) (c.inv I).mark j i ?_ hd;refine(Yi (c.inv I).kIn (c.type _) h).here ?_;refine codeAny_handlers_suite ?_;refine c.land I λp o=>?_;exact k _ o
theorem EV(I:ay X pins σ H1 s1)(R:ja X H1 H s1 e C .none s)(c:X.env.frame=some X.env.locals)(hn:X.A.handled=none)
  (k:∀s',ja X H1 H s1 e C (Rl X.env.locals) s'->E (.ref e) s') :
  OM (OP X.prog X.w) (X.A.mark<|some<|.ref e) (exec (.Raise none none pos) X.env) Q (notedBy (OP X.prog X.w) (X.A.mark<|some<|.ref e) X.env<|cameBackBy (OP X.prog X.w) X.A X.env E) s:=by
 rw[YS];refine OB (Qm ?_);unfold ZH;simp only[evalOpt,ab2];refine OB (WH ?_);show OM _ _ (ZK "raise.bare" >>= λ_=>_) _ _ s;refine OB (Tx ?_);obtain⟨u,r,oe,vs,T,oT,ts,a0,q1,q2,q3,h,f,Z,Y,U,O,j,i⟩:=R.flew;refine OB (QJ q1 h f ?_);rw[if_neg (show ¬(OX T==Pw)=true from by simp),c];refine OB (R.lift I λh' R2=>X3 ?_);show OM _ _ (Sg _ _) _ _ _;refine R2.noteAgain I c ?_;show OM _ _ (field _ _ >>= λ_=>_) _ _ _;obtain⟨_,_,p,d,z,_,_,_,o,_,_,m,l,_⟩:=R2.flew;refine OB (QJ o m l ?_);rw[if_neg (show ¬(OX z==Pw)=true from by simp),c];exact R2.lift I λx L=>k _ L
end
section
variable{N:List Str}{qual:Str}{scope:PQ}{f:OD}{cd:OC}{outer:List Env}{s0:OI}{H0:Hp}{E:XK}{H1 H:Hp}{s1 s:OI}{e:OD}{C:OC×Option OD}
theorem G3(I:ay (bQ (bL P w) P w K mg base N qual scope f cd A outer s0 H0 E) pins σ H1 s1)(R:ja (bQ (bL P w) P w K mg base N qual scope f cd A outer s0 H0 E) H1 H s1 e C (Rl (bQ (bL P w) P w K mg base N qual scope f cd A outer s0 H0 E).env.locals) s)(q:E C.1 C.2 H) :
  (bQ (bL P w) P w K mg base N qual scope f cd A outer s0 H0 E).xe (.ref e) s:=by
 have ne:∀b,b∉(bQ (bL P w) P w K mg base N qual scope f cd A outer s0 H0 E).ex:=λb z=>nomatch z;show OM (OP P w) _ (Vk _<|.ref e) _ _ s;unfold Vk;refine OB (R.noteAgain I rfl ?_);refine R.land I λh' R2=>?_;have J:=R2.inv I;exact⟨e,C,H,rfl,J.os,J.bare,J.base,J.hok,R2.flew.back λx o z=>I.base.there x o z (ne x),q⟩
end
section
variable{k:Nat}{f:OD}{ps:List Str}{sp:Sp}{dvs:List V}{ds:List OC}{E:XK}{x m:Str}{p pos apos:Pos}{e o:O4}{ta:TE}{t:TA}
def Ml(X:Cx)(pins:List (OD×Obj))(σ:St)(E:XK)(ev:OC)(s':OI):Prop:=∃H1 H c e C,ev=.ref e/\ay X pins σ H1 c/\ja X H1 H c e C .none s'/\E C.1 C.2 H
theorem G4{Q:VK}(F:bG X.prog X.w X.K X.mg X.base (bL X.prog X.w) k f fd ps sp)(hr:a5 k X.A)(hb:cA X.K fd ps ds)(hd:aK dvs ds)
  (I:ay X pins σ H s) (r:aK vs us) (h:sp (vs++dvs) H Q E):OM (OP X.prog X.w) X.A (call (.ref f) us) (EP X pins σ Q) (Ml X pins σ E) s:=by
 have r2:aK (vs++dvs) (us++ds):=r.append hd;have d:(us++ds).length=ps.length:=by rw[<-r2.length];exact F.len _ _ _ _ h
 refine QF (Qf (F.run X.A X.stack s H ⟨us,[]⟩ (us++ds) (vs++dvs) Q E hr I.env0 (hb s us I.kIn d) r2 h) λr s' c=>?_);cases r with
 | error e=>
  obtain⟨e,C,i,rfl,os,bare,un,hok,F,q⟩:=c;exact⟨H,i,s,e,C,rfl,I,⟨os,bare,un,hok,F⟩,q⟩
 | ok fl=>
  cases fl with
  | ret u=>exact I.after c
  | next=>exact Pa c
  | brk=>exact Pa c
  | cont=>exact Pa c
def PX(X:Cx)(e:O4)(t:XK->TE):Prop :=
 ∀(pins:List (OD×Obj)) (s:OI) (σ:St) (H:Hp) (Q:VK) (E:XK),ay X pins σ H s->t E σ H Q->OM (OP X.prog X.w) X.A (Pq e X.env) (EP X pins σ Q) (Ml X pins σ E) s
theorem G5(F:bG X.prog X.w X.K X.mg X.base (bL X.prog X.w) k f fd ps sp)(hr:a5 k X.A)(u:Gl X x)(j:X.mg x=some (.ref f))(l:Pn X.K (.ref f)=true)(hb:cA X.K fd ps ds)(hd:aK dvs ds)
  (L:PA X.nox (e::es) t) (d:(x==("__debug__":Str))=false:=by decide) (C:hE9 X e es:=by nofun) (c:hP9 X pos es:=by nofun) :
  PX X (.Call (.Name x p) (e::es) [] pos) (λE=>jY sp dvs E t):=by
 intro pins s σ H Q E I h;refine PR (db I u j ?_ d);refine QZ (h₀:=X.base) I.ok.mod.kin l (Pf (L pos pins s σ H _ (I.wish _) h) (λus O i=>da i λvs H1 I1 r q=>⟨I1.unwish.kIn,?_⟩) λ_ _ z=>z.elim) C c;exact G4 F hr hb hd I1.unwish r q
end
section
variable{k:Nat}{f C:OD}{ps:List Str}{sp:Sp}{dvs:List V}{ds:List OC}{x m:Str}{p pos apos:Pos}{e o:O4}{ta:TE}{t:TA}
end
section
variable{pins more:List (OD×Obj)}{H1 H:Hp}{s1 s:OI}{e:OD}{C:OC×Option OD}{fl:OC}
theorem ay.drop(I:ay X (more++pins) σ H s):ay X pins σ H s :=
 ⟨I.ok,I.os,I.bare,I.base,I.loc,I.cell,I.free,I.freeC,λp c=>I.pin p (by
  rcases PN.mp c with z | z
  ·exact Qc _ z
  ·exact OV _ (OV _ z)),I.hok,I.len⟩
theorem ja.pin(hx:X.ex=[])(I:ay X pins σ H1 s1)(R:ja X H1 H s1 e C fl s):∃f vs T i ts a0,(f.cls,f.dict)=C/\GX a0 vs/\f.data=.fields vs/\vs[1]?=some (.ref T)/\T≠e/\i.data=.fields ts/\ts[3]?=some fl/\X.s₀.heap.get? e=none/\X.s₀.heap.get? T=none /\
  (∀p∈X.pn++pins,p.1≠e/\p.1≠T)/\ay X ([(e,f),(T,i)]++pins) σ H s:=by
 obtain⟨d,u,f,vs,T,i,ts,a0,q1,q2,q3,L,q5,j,q7,Z,Y,h,l⟩:=R.flew;have J:=R.inv I;have fr:∀a,s1.heap.get? a=none->X.s₀.heap.get? a=none:=λa z=>by
  cases y:X.s₀.heap.get? a with
  | none=>rfl
  | some o=>obtain⟨o',x⟩:=I.base.there a o y (by rw[hx];simp);rw[z] at x;cases x
 have Q:∀a,s1.heap.get? a=none->a≠X.env.locals:=λa z q=>by
  obtain⟨m,⟨o,es,ep,ho,r⟩,_⟩:=I.loc;rw[<-q,z] at ho;cases ho
 have U:∀a,s1.heap.get? a=none->a∉X.fs:=λa z q=>by
  obtain⟨_,o,ho,_⟩:=I.funs.mem q;rw[z] at ho;cases ho
 have O:∀a,s1.heap.get? a=none->∀p∈X.pn++pins,p.1≠a:=λa z p c q=>by
  have:=(I.pin p c).1;rw[q,z] at this;cases this
 refine⟨f,vs,T,i,ts,a0,q2,q3,L,q5,Z,h,l,fr _ d,fr _ j,λp c=>⟨O _ d p c,O _ j p c⟩,⟨J.ok,J.os,J.bare,J.base,J.loc,J.cell,J.free,J.freeC,λp c=>?_,J.hok,J.len⟩⟩;have cs:∀p,p∈X.pn++pins∨p=(e,f)∨p=(T,i)->s.heap.get? p.1=some p.2/\H p.1=none/\p.1≠X.env.locals/\p.1∉X.fs/\∀v,p.2.data≠.cell v:=λp c=>by
  rcases c with c | rfl | rfl
  ·exact J.pin p c
  ·exact⟨q1,u,Q _ d,U _ d,λv z=>by rw[L] at z;cases z⟩
  ·exact⟨Y,q7,Q _ j,U _ j,λv z=>by rw[h] at z;cases z⟩
 refine cs p ?_;rcases PN.mp c with z | z
 ·exact .inl (Qc _ z)
 ·rcases PN.mp z with z | z
  ·rcases OY.mp z with rfl | z
   ·exact .inr (.inl rfl)
   ·rcases OY.mp z with rfl | z
    ·exact .inr (.inr rfl)
    ·cases z
  ·exact .inl (OV _ z)
theorem ay.hide{T:OD}{O Q:Obj}(h0:X.s₀.heap.get? e=none)(h1:X.s₀.heap.get? T=none)(U:∀p∈X.pn++pins,p.1≠e/\p.1≠T)(I:ay X ([(e,O),(T,Q)]++pins) σ H s):ay X pins σ H {s with heap:=PM s.heap [e,T]}:=by
 have j:=I.pin (e,O) (OV _<|by simp);have x:=I.pin (T,Q) (OV _<|by simp);have J:=I.drop;have get:∀b o,s.heap.get? b=some o->b≠e->b≠T->(PM s.heap [e,T]).get? b=some o:=λb o q n1 n2=>RJ _ q (by simp[n1,n2]);have d:∀b o,X.s₀.heap.get? b=some o->b≠e/\b≠T:=λb o q=>⟨λz=>(by rw[z,h0] at q;cases q),λz=>(by rw[z,h1] at q;cases q)⟩
 have h:∀c v,s.heap.IsCell c v->(PM s.heap [e,T]).IsCell c v:=λc v ⟨o,ho,hd⟩=>by
  refine⟨o,get c o ho (λz=>?_)<|λz=>?_,hd⟩
  ·rw[z,j.1] at ho;cases ho;exact j.2.2.2.2 _ hd
  ·rw[z,x.1] at ho;cases ho;exact x.2.2.2.2 _ hd
 refine⟨J.ok,J.os,J.bare,⟨λb o q n nf nx=>?_,λb o q n mf nx=>?_,J.base.free,λb o q nx=>?_,J.base.tups,J.base.frzs,J.base.tbls⟩,?_,λy c q=>?_,J.free,J.freeC,λp L=>?_,λb o q=>?_,J.len⟩
 ·exact get b o (J.base.keep b o q n nf nx) (d b o q).1 (d b o q).2
 ·obtain⟨sl,z⟩:=J.base.slot b o q n mf nx;exact⟨sl,get b _ z (d b o q).1 (d b o q).2⟩
 ·obtain⟨Z,z⟩:=J.base.there b o q nx;exact⟨Z,get b _ z (d b o q).1 (d b o q).2⟩
 ·obtain⟨m,⟨o,es,ep,ho,r⟩,l⟩:=J.loc;refine⟨m,⟨o,es,ep,get _ o ho (Qp j.2.2.1)<|Qp x.2.2.1,r⟩,λi y v a b c=>?_⟩;obtain⟨u,Y,lk⟩:=l i y v a b c;refine⟨u,Y,?_⟩;rcases lk with lk | ⟨lk,c,a,b⟩
  ·exact .inl lk
  ·exact .inr ⟨lk,c,a,h c _ b⟩
 ·obtain⟨v,q⟩:=J.cell y c q;exact⟨v,h c v q⟩
 ·obtain⟨a,b⟩:=J.pin p L;exact⟨get _ _ a (U p L).1 (U p L).2,b⟩
 ·refine(J.hok b o q).stay (λc u hc z=>?_) (λ_ z=>z) λ_ _ z=>z;have f:H c≠none:=by
   rcases hc with rfl | hc
   ·rw[q];simp
   ·rw[hc];simp
  exact get c u z (λz=>f (by rw[z];exact j.2.1)) λz=>f (by rw[z];exact x.2.1)
theorem ja.again{T:OD}{c d:Obj}{vs ts:Array OC}{a0:OC}(h0:X.s₀.heap.get? e=none)(L:X.s₀.heap.get? T=none)(x:∀p∈X.pn++pins,p.1≠e/\p.1≠T)(q2:(c.cls,c.dict)=C)(u:GX a0 vs)(r:c.data=.fields vs)(m:vs[1]?=some (.ref T))(l:T≠e)
  (h:d.data=.fields ts) (f:ts[3]?=some fl) (I:ay X ([(e,c),(T,d)]++pins) σ H s):∃s1,ay X pins σ H s1/\ja X H H s1 e C fl s:=by
 have i:=I.pin (e,c) (OV _<|by simp);have j:=I.pin (T,d) (OV _<|by simp);refine⟨_,I.hide h0 L x,rfl,I.bare,⟨λb o q n O nx=>QD _ q,λb o q n Q nx=>⟨o.slots,QD _ q⟩,λb o q n nx=>n,λb o q nx=>⟨o,QD _ q⟩,λ_ _ z=>z,λ_ _ _ z=>z,λb ps z=>⟨#[],by rw[Array.append_empty];exact z⟩⟩,I.hok,
  P9 _ (by simp),i.2.1,c,vs,T,d,ts,a0,i.1,q2,u,r,m,P9 _<|by simp,j.2.1,l,j.1,h,f⟩
end
section
variable{N:List Str}{qual:Str}{scope:PQ}{f:OD}{cd:OC}{outer:List Env}{s0:OI}{H0:Hp}{E:XK}
 {x y:Str} {i:Nat} {ec eu:O4} {t:XK->TE} {tu:TE} {D:OD} {xp np apos upos rpos hpos pos:Pos}
def Mm(K:OK)(D:OD)(E:XK)(i:Nat)(t:XK->TE)(tu:TE):TS:=λB σ H=>t (λC d h=>QT K C (.ref D)=some true/\tu σ h λ_ c=>E C d c) σ H λv H1=>B.nx (σ.set i<|some v) H1
theorem G6(hN:N.Nodup)(hi:N[i]?=some x)(hx:er scope x)
  (he:PX (bQ (bL P w) P w K mg base N qual scope f cd A outer s0 H0 E) ec t) (hu:∀e c,ET c->PE ((bQ (bL P w) P w K mg base N qual scope f cd A outer s0 H0 E).markedP e c) eu tu)
  (hg:Gl (bQ (bL P w) P w K mg base N qual scope f cd A outer s0 H0 E) y) (hm:mg y=some (.ref D))
  (hs:Qq ec (some<|.Name x xp) apos.line (bQ (bL P w) P w K mg base N qual scope f cd A outer s0 H0 E).env=pure false:=by nofun)
  (m:Qq eu none upos.line (bQ (bL P w) P w K mg base N qual scope f cd A outer s0 H0 E).env=pure false:=by nofun) (hd:(y==("__debug__":Str))=false:=by decide) :
  PS (bQ (bL P w) P w K mg base N qual scope f cd A outer s0 H0 E) (.Try [.Assign [.Name x xp] ec apos] [.ExceptHandler (some<|.Name y np) none [.Expr eu upos,.Raise none none rpos] hpos] [] [] pos) (Mm K D E i t tu):=by
 intro pins s σ H B I h;refine XM (Rg<|UN (Pf (he pins s σ H _ _ I h) (λv Q j=>da j λz H1 I1 U q1=>?_) λev Q j=>?_) hs)
 ·exact f8 I1 hN hi hx U (λO I2=>Rw (Rw ⟨_,H1,I2,q1⟩)) (.inl rfl)
 ·obtain⟨H1,H2,O,e,C,rfl,I1,R,q1,q2⟩:=j;refine EU I1 R rfl rfl hg hm q1 (λs' R'=>?_) hd;obtain⟨c,vs,T,oT,ts,a0,p1,p,o,p4,p5,p6,p7,p8,Z,l,I5⟩:=R'.pin rfl I1;refine Rg (Pf (yV (hu e c ⟨vs,o,p.2⟩) m _ s' σ H2 {nx:=λ_ u=>E C.1 C.2 u,rt:=λ_ _=>False} (I5.markP<|by simp) q2) (λfl s4 d=>?_) λ_ _ z=>z.elim);cases fl with
  | next=>
   obtain⟨L,u,I6,Y⟩:=d;obtain⟨s7,r,R7⟩:=ja.again p8 Z l p1 p o p4 p5 p6 p7 (I6.unmarkP I1.ok);exact Rg (EV r R7 rfl (I1.ok.hd rfl) λs' R8=>G3 r R8 Y)
  | ret v=>obtain⟨_,_,_,_,_,z⟩:=d;exact z.elim
  | brk=>obtain⟨_,_,_,z⟩:=d;exact z.elim
  | cont=>obtain⟨_,_,_,z⟩:=d;exact z.elim
end
theorem bG.to1{CX:kr}{k:Nat}{f:OD}{ps:List Str}{sp:Sp}(F:bG P w K mg base eY k f fd ps sp):bG P w K mg base CX k f fd ps sp :=
 ⟨F.len,λA outer s H args us vs Q E hr d hb c hs=>Qf (F.run A outer s H args us vs Q E hr d hb c hs) λr s' h=>by
  cases r with
  | error e=>exact(show False from h).elim
  | ok fl=>cases fl<;>exact h⟩
theorem PS.nox{t:TS}(h:PS X.nox st t):PS X st t:=λpins s σ H D I c=>
 Pf (h pins s σ H D (I.wish _) c) (λ_ _ q=>q.unwish) λ_ _ z=>Pa z
theorem Fun.ok1{CX:kr}{x qual:Str}{f:OD}{N ps:List Str}{k:Nat}{sp:Sp}(F:Fun K x qual st f fd)(S:ai N ps (ae st))(len:∀vs H Q E,sp vs H Q E->vs.length=ps.length)
  (hbody:∀(c:OC) (A:Qz) (outer:List Env) (s:OI) (H:Hp) (vs:List V) (Q:VK) (E:XK),a5 k (A.deeper<|Q4 qual (ae st) s.heap.objs.size f c)->sp vs H Q E ->
   ∃t,gu (bQ CX P w K mg base N qual (ae st) f c A outer s H E) (aS st) t/\t {nx:=λ_ i=>Q .non i,rt:=Q} (ff N vs) H):bG P w K mg base CX (k+1) f fd ps sp:=by
 obtain⟨m,l,kV,doc,j,o,c,ct,osl,rfl,lk,h⟩:=F.ex;exact zd lk h S len λA outer s H vs Q E hr d=>hbody c A outer s H vs Q E hr d
end L2
namespace RB
open PySem PySem.Spec PyProof.Rows L2
section
theorem uT{CX:kr}{x qual:Str}{d:OD}{N ps:List Str}{k n:Nat}{b:BS}(F:Fun K x qual st d fd)(S:ai N ps (ae st))(hn:ps.length=n:=by decide)(i:ps.length≤N.length:=by decide)
  (hbody:∀(c:OC) (A:Qz) (outer:List Env) (s:OI) (H:Hp) (E:XK),a5 k (A.deeper<|Q4 qual (ae st) s.heap.objs.size d c)->gu (bQ CX P w K mg base N qual (ae st) d c A outer s H E) (aS st) (de ⟨gy,E⟩ b)) :
  bG P w K mg base CX (k+1) d fd ps (jP gy n<|bH N.length b):=by
 refine F.ok1 S (λvs H Q E h=>?_) (λc A outer s H vs Q E hr h=>?_)
 ·obtain⟨_,_,_,_,_,_,_,_,_,f,_⟩:=h;rw[f,hn]
 ·exact pO (CX:=CX) (A:=A) (outer:=outer) (s:=s) i hn h (hbody c A outer s H E hr)
end
theorem gA.refl:gA F y ρ H y ρ H:=aA.refl.to0
theorem gA.mo{y f:Option Int}{ρ d:List OD}{H H1:Hp}(a:gA F y ρ H f d H1):Mo y ρ H f d H1:=⟨a.y,λ{i c} h=>by
 obtain⟨r,rfl⟩:=a.pre;obtain⟨j,e⟩:=OL.mp h;rw[Qr j];exact h,a.tup⟩
section
variable{y y1:Option Int}{ρ ρ1:List OD}{H H1:Hp}
theorem bn.mono0(a:gA F y ρ H y1 ρ1 H1){xs:er}{vs:L2.St}(h:bn g F y ρ H xs vs):bn g F y1 ρ1 H1 xs vs :=
 ⟨aT (λx v q=>by
  cases x with
  | none=>trivial
  | some x=>cases v with
   | none=>exact q
   | some v=>exact aQ.monoM a.mo (av:=x) q) h.v,h.e.mono0 a⟩
def Kf(c:Nat):BS:=λ_ σ S=>σ.ke c .non S
theorem cC{x z:Str}{c:Nat}{j m i f}(I:X.calm=true)(hex:X.ex=[])(fl:Mh X g.E)(p:X.mg x=some (.ref<|g.xc c))(L:qh X.K (g.xc c) none=true)(u:Gl X x:=by nofun)
  (hd:(x==("__debug__":Str))=false:=by decide):PS X (.Raise (some<|.Call (.Name x m) [.Constant (.str z) j f] [] i) none pos) (de g<|Kf c) :=
 PS.imp (λD σ H o=>ez o λF y ρ S l d C r h _=>r.e y ρ S H c .non none gA.refl C rfl h) (ES I hex fl u p L hd)
end
theorem dO.reE{E c:XK}:∀{o:AO} {ho:HO},dO F y ρ H ⟨gy,E⟩ o ho->dO F y ρ H ⟨gy,c⟩ o ho
 | .lst _,_,h=>h
 | .dk _,_,h=>h
 | .dt _,_,h=>h
 | .ins _ _,_,h=>h
 | .fz _,_,⟨ob,u,e,h⟩=>⟨ob,u,e,dO.reE h⟩
theorem aH.reE{E d:XK}{S:aN}(C:aH ⟨gy,E⟩ F y ρ S H):aH ⟨gy,d⟩ F y ρ S H :=
 ⟨C.n,C.sym,C.pos,C.nd,λi a h=>(C.at_ i a h).imp λo ⟨ho,a,b,c⟩=>⟨ho,a,b,dO.reE c⟩,C.own,C.fe,C.ol,C.J,⟨C.fl.1,C.fl.2,C.fl.3,C.fl.4,C.fl.5,C.fl.6,C.fl.7⟩⟩
section
variable{N:List Str}{qual:Str}{scope:PQ}{f:OD}{cd:OC}{outer:List Env}{s0:OI}{H0:Hp}{E:XK} 
 {x y z:Str} {i k n:Nat} {eu e:O4} {D:OD} {xp np apos upos rpos hpos pos p cpos:Pos} {br:BA} {bu:BE} {b:BF}
def Mp(n:Nat)(f:BF)(br:BA)(i:Nat)(bu:BE):BS:=λd σ S=>br σ S λxs l=>nZ n f xs l (λv h=>d.nx (Bf σ i v) h) λc av h=>bu σ h λ_ j=>σ.ke c av j
theorem G7(hN:N.Nodup)(hi:N[i]?=some x)(hx:L2.er scope x)(c:cF P w K mg base gy (bL P w) z k n b)(hr:a5 k (bQ (bL P w) P w K mg base N qual scope f cd A outer s0 H0 E).A)
  (ha:PA (bQ (bL P w) P w K mg base N qual scope f cd A outer s0 H0 E).nox (e::es) (jl ⟨gy,E⟩ br)) (hu:∀e oe,ET oe->PE ((bQ (bL P w) P w K mg base N qual scope f cd A outer s0 H0 E).markedP e oe) eu (up ⟨gy,E⟩ bu))
  (hm:mg y=some (.ref D)) (hD:∀c,QT K (.ref<|gy.xc c) (.ref D)=some true)
  (hg:Gl (bQ (bL P w) P w K mg base N qual scope f cd A outer s0 H0 E) y:=by nofun) (hz:Gl (bQ (bL P w) P w K mg base N qual scope f cd A outer s0 H0 E) z:=by nofun)
  (hs:Qq (.Call (.Name z p) (e::es) [] cpos) (some<|.Name x xp) apos.line (bQ (bL P w) P w K mg base N qual scope f cd A outer s0 H0 E).env=pure false:=by nofun)
  (Z:Qq eu none upos.line (bQ (bL P w) P w K mg base N qual scope f cd A outer s0 H0 E).env=pure false:=by nofun) (hd:(y==("__debug__":Str))=false:=by decide) (hdz:(z==("__debug__":Str))=false:=by decide)
  (he:O1 (e::es) (bQ (bL P w) P w K mg base N qual scope f cd A outer s0 H0 E).env=(false,Pq e (bQ (bL P w) P w K mg base N qual scope f cd A outer s0 H0 E).env)::O1 es (bQ (bL P w) P w K mg base N qual scope f cd A outer s0 H0 E).env:=by nofun)
  (hpl:(QE cpos<|O1 es (bQ (bL P w) P w K mg base N qual scope f cd A outer s0 H0 E).env).any (·.1)=false:=by nofun) :
  PS (bQ (bL P w) P w K mg base N qual scope f cd A outer s0 H0 E) (.Try [.Assign [.Name x xp] (.Call (.Name z p) (e::es) [] cpos) apos] [.ExceptHandler (some<|.Name y np) none [.Expr eu upos,.Raise none none rpos] hpos] [] [] pos) (de ⟨gy,E⟩<|Mp n b br i bu):=by
 obtain⟨fa,fd,ps,hn,Fo,hmz,o,hb⟩:=c;refine PS.imp (λB σ H z9=>?_) (G6 hN hi hx (G5 Fo hr hz hmz o hb .nil ha hdz he hpl) hu hg hm hs Z hd);obtain⟨F,y,ρ,S,L,d,C,r,h,p1,p2,p3,p4⟩:=z9;refine bF C r h λy1 Q S1 H1 I xs st C1 Y rx u=>?_;unfold nZ at u;cases q:OS I.length n with
 | false=>simp only[q] at u;cases u
 | true=>
  simp only[q] at u;rw[Ra];refine⟨F,y1,Q,S1,I,_,_,C1.reE,rx,by rw[<-aO rx];exact ON q,u,λU l S2 H2 av v j C2 rv o=>?_,λU l S2 H2 cc av dd j C2 hX o=>?_⟩
  ·exact p1 U l S2 H2 _ _ (st.trans j) C2.reE (cZ (Y.mono j) rv) o
  ·refine⟨hD cc,F,U,l,S2,L,_,C2.reE,Y.mono0 j,o,λy3 O S3 H3 av3 v3 m C3 rv3 hk3=>?_⟩;exact Y.e y3 O S3 H3 cc av dd (j.trans m.to0) C3 (hX.mono m) hk3
end
end RB
namespace L2
open PySem PySem.Spec PyProof.Rows
def wide(H:Hp)(l:List Env)(h:Pk):Pk:=PM h (KJ h H++io l)
section
theorem lX{l:List Env}{h:Pk}{b:OD}{o:Obj}(e:h.get? b=some o)(n:H b=none)(c:b∉io l):(wide H l h).get? b=some o:=by
 refine RJ _ e λm=>?_;rcases PN.mp m with m | m
 ·have q:(H b).isSome=true:=(T8.mp m).2;rw[n] at q;cases q
 ·exact c m
theorem G8{l:List Env}{h:Pk}{b:OD}{o:Obj}(e:(wide H l h).get? b=some o):h.get? b=some o/\H b=none:=by
 have c:h.get? b=some o:=QD _ e;refine⟨c,?_⟩;cases q:H b with
 | none=>rfl
 | some x=>
  have d:b∈KJ h H++io l:=Qc _ (T8.mpr ⟨Us.mpr<|OO c,by simp[q]⟩);have z:(wide H l h).get? b=none:=P9 _ d;rw[z] at e;cases e
theorem ay.notFr(I:ay X pins σ H s){b:OD}{o:Obj}(e:X.base.get? b=some o):b∉io X.stack:=λm=>by
 have:=(I.stack.mem m).1;rw[e] at this;cases this
theorem ay.more(I:ay X pins σ H s):∀b o,X.base.get? b=some o->(wide H X.stack s.heap).get? b=some o:=λb o e=>lX (I.bs b o e).1 (I.bs b o e).2 (I.notFr e)
theorem ay.env1(I:ay X pins σ H s):jd X.prog X.w X.K X.mg (wide H X.stack s.heap) X.A X.stack s H :=
 ⟨I.ok.frames,⟨I.mod.kin.keeps I.more,I.mod.glob.keeps I.more,let ⟨c,a,b⟩:=I.mod.blt;⟨c,a.keeps I.more,b⟩,I.mod.nolimit.keeps I.more⟩,λb o e=>G8 e,W8<|VP _ _,iF I.stack λx d=>OV _ d,I.stkFree,I.hok,I.bare⟩
end
structure gi(k:Nat)(A:Qz):Prop where
 dp:A.depth+3*k+5<RM
 un:A.units+16*k+200<QK
theorem a5.mark{k:Nat}(r:a5 k A)(h:Option OC):gi k (A.mark h):=⟨r.dp,r.un⟩
theorem gi.mono{j k:Nat}(r:gi k A)(h:j≤k):gi j A:=⟨by have:=r.dp;omega,by have:=r.un;omega⟩
theorem gi.depth{k:Nat}(r:gi k A):A.depth<RM:=by have:=r.dp;omega
theorem gi.deeper{k:Nat}(r:gi (k+1) A)(env:Env):gi k (A.deeper env) :=
 ⟨by have:=r.dp;show A.depth+1+3*k+5<_;omega,by have:=r.un;show A.units+3+16*k+200<_;omega⟩
structure EW(P:Ph)(w:Py)(K:OK)(mg:Str->Option OC)(base:Pk)(CX:kr)(k:Nat)(f:OD)(fd:TV)(ps:List Str)(sp:Sp):Prop where
 len:∀vs H Q E,sp vs H Q E->vs.length=ps.length
 run:∀(A:Qz) (outer:List Env) (s:OI) (H:Hp) (args:Args) (us:List OC) (vs:List V) (Q:VK) (E:XK),gi k A->M4 base A->jd P w K mg base A outer s H->Wd s fd args (ps.zip us)->aK vs us->sp vs H Q E ->
  RX (OP P w) A (.call (.ref f) args) (CR CX outer P w H s Q E) s
@[reducible] def wJ(CX:kr)(P:Ph)(w:Py)(K:OK)(mg:Str->Option OC)(base:Pk)(N:List Str)(qual:Str)(scope:PQ)(f:OD)(cd:OC)(A:Qz)(outer:List Env)(s:OI)(H:Hp)(E:XK):Cx :=
 {bQ CX P w K mg base N qual scope f cd A outer s H E with calm:=false}
theorem yB{CX:kr}{N ps:List Str}{qual:Str}{scope:PQ}{f:OD}{cd:OC}{outer:List Env}{s d:OI}{E:XK} 
  (S:ai N ps scope) (c:jd P w K mg base A outer s H) (h:vs.length=ps.length) (r:aK vs us)
  (x:InCallC s s.heap.objs.size (XV (Q4 qual scope s.heap.objs.size f cd).kindOf (ps.zip us) λ_=>none) (We (s.heap.objs.size+1) scope.names []) (XW (Q4 qual scope s.heap.objs.size f cd).kindOf (ps.zip us) λ_=>none) d) :
  ay (wJ CX P w K mg base N qual scope f cd A outer s H E) [] (ff N vs) H d:=by
 have i:jd P w K mg base {A with handled:=none} outer s H:=⟨c.frames,c.mod,c.bs,c.bsz,c.funs,c.frf,c.hok,c.bare⟩
 have I:=sm (CX:=CX) (qual:=qual) (f:=f) (cd:=cd) (E:=E) S (A:={A with handled:=none}) rfl i h r x;exact⟨{I.ok with hd:=λz=>(nomatch z),frames:=TX c.frames},I.os,I.bare,I.base,I.loc,I.cell,I.free,I.freeC,I.pin,I.hok,I.len⟩
theorem Kg{CX:kr}{k:Nat}{x qual:Str}{f:OD}{N ps:List Str}{sp:Sp}(F:Fun K x qual st f fd)(S:ai N ps (ae st))(len:∀vs H Q E,sp vs H Q E->vs.length=ps.length)
  (hbody:∀(c:OC) (A:Qz) (outer:List Env) (s:OI) (H:Hp) (vs:List V) (Q:VK) (E:XK),gi k (A.deeper<|Q4 qual (ae st) s.heap.objs.size f c)->M4 base (A.deeper<|Q4 qual (ae st) s.heap.objs.size f c)->sp vs H Q E ->
   ∃t,gu (wJ CX P w K mg base N qual (ae st) f c A outer s H E) (aS st) t/\t {nx:=λ_ h=>Q .non h,rt:=Q} (ff N vs) H):EW P w K mg base CX (k+1) f fd ps sp:=by
 obtain⟨oc,od,kV,doc,pm,an,c,ct,osl,rfl,lk,z⟩:=F.ex;refine⟨len,λA outer s H args us vs Q E hr hn l hb r j=>?_⟩;have Y:=len _ _ _ _ j;have L:K.In s.heap:=l.mod.kin.keeps λb o e=>(l.bs b o e).1;have p:s.heap.NoLimit:=l.mod.nolimit.keeps λb o e=>(l.bs b o e).1;have i:∀y∈ps.zip us,(ae st).names.lookup y.1=some .local∨((ae st).names.lookup y.1=some .cell/\((We (s.heap.objs.size+1) (ae st).names []).lookup y.1).isSome=true):=λ⟨n,v⟩ O=>by
  rcases S.par n (Ub O).1 with q | q
  ·exact .inl q
  ·exact .inr ⟨q,Te _ _ _<|.inl q⟩
 refine VF hr.depth (L _ _ lk) rfl S.co S.gen rfl (WQ L z) (hb _ _ _ _ ?_);refine Uz S.kind i λenv Z C x=>?_;subst Z;refine⟨p.keeps x.toInCall.keep,ZO ?_⟩;obtain⟨t,ht,U⟩:=hbody c A outer s H vs Q E (hr.deeper _) hn j;have I:ay (wJ CX P w K mg base N qual (ae st) f c A outer s H E) [] (ff N vs) H C:=yB S l Y r x;refine Pf (ht [] C (ff N vs) H _ I U) (λfl s' hs=>?_) λe s' hs=>hs;have fin:∀{d:St} {h:Hp} {v:V} {u:OC},ay (wJ CX P w K mg base N qual (ae st) f c A outer s H E) [] d h s'->aI v u->Q v h->CE outer P w H s Q u s' :=
  λ{d h v u} J m q=>⟨v,h,J.os,J.bare,J.base,J.hok,m,q⟩
 cases fl with
 | ret u=>
  obtain⟨v,d,h,J,m,q⟩:=hs;exact fin J m q
 | next=>
  obtain⟨d,h,J,q⟩:=hs;exact fin (v:=V.non) (u:=Pw) J rfl q
 | brk=>
  obtain⟨_,_,_,q⟩:=hs;exact Pa q
 | cont=>
  obtain⟨_,_,_,q⟩:=hs;exact Pa q
section
variable{k:Nat}{f C:OD}{ps:List Str}{sp:Sp}{dvs:List V}{ds:List OC}{E:XK}{m:Str}{pos apos:Pos}{e o:O4}{ta:TE}{t:TA}
theorem EY{pl:Sem Bool}(he:PE X o ta)(c:ow X.K C)(Y:tX X.K C m f)(F:∀d,(∀b o,X.base.get? b=some o->d.get? b=some o)->EW X.prog X.w X.K X.mg d eY k f fd ps sp)(hn:∃e i,X.A.handled=some (.ref e)/\(e,i)∈X.pn/\ET i)(hr:gi k X.A)(hb:cA X.K fd ps ds)(hd:aK dvs ds)(ha:PA X (e::es) t)
  (L:hE9 X e es:=by nofun) (O:hP9 X pos es:=by nofun)
  (ht:Pq (.Call (.Attribute o m apos) (e::es) [] pos) X.env=(do
   let U <-Pq o X.env
   Rp apos.atName
   let (f,first) <-Rq [U] (Sf U m pl)
   Ta pos f first (QE pos<|O1 (e::es) X.env) (QI pos<|PZ [] X.env)):=by nofun) :
  PE X (.Call (.Attribute o m apos) (e::es) [] pos) (za C m sp dvs E ta t):=by
 intro pins s σ H Q I h;refine Sh (pl:=pl) (bi (he pins s σ H _ I h) λu s1 p=>?_) ht;obtain⟨x,H1,I1,rx,a,dx,fs,ex,ea,l,q⟩:=p;subst ex;obtain rfl:u=OX a:=rx;refine iu I1 ea c Y l ?_;refine QZ (first:=[.ref a]) (h₀:=X.base) I.ok.mod.kin Y.kp (bi (ha pos pins s1 σ H1 _ I1 q) λus z p=>da p λvs Z I2 r q2=>⟨I2.kIn,?_⟩) L O;have r2:aK (.ref a::vs++dvs) (.ref a::us++ds):=(show aK (V.ref a::vs) (OX a::us) from .cons rfl r).append hd;have F:=F _ I2.more;have hl:(.ref a::us++ds).length=ps.length:=by rw[<-r2.length];exact F.len _ _ _ _ q2
 obtain⟨e,i,n1,n2,n3⟩:=hn;obtain⟨p1,p2,p3,p4,_⟩:=I2.pin (e,i) (Qc _ n2);have hh:M4 (wide Z X.stack z.heap) X.A:=.inr ⟨e,i,n1,lX p1 p2 λm=>(OY.mp<|I2.stkSub e m).elim p3 p4,n3⟩;refine QF (Qf (F.run X.A X.stack z Z ⟨.ref a::us,[]⟩ (.ref a::us++ds) (.ref a::vs++dvs) Q E hr hh I2.env1 (hb z (.ref a::us) I2.kIn hl) r2 q2) λr s' j=>?_);cases r with
 | error e=>exact(show False from j).elim
 | ok fl=>
  cases fl with
  | ret u=>exact I2.after j
  | next=>exact Pa j
  | brk=>exact Pa j
  | cont=>exact Pa j
end
end L2
namespace RB
open PySem PySem.Spec PyProof.Rows L2
def never(f:BF):BF:=λc S k _=>f c S k λ_ _ _=>false
section
variable{k n:Nat}{f:BF}
theorem gS.reE{E l:XK}{d:AV->aN->Bool}{Q:VK}(p:gS ⟨gy,E⟩ F y ρ H d Q):gS ⟨gy,l⟩ F y ρ H d Q:=λh c i j av v st C=>p h c i j av v st C.reE
theorem wK{Q:VK}{E:XK}:jP gy n (never f) vs H Q E->jP gy n f vs H Q λ_ _ _=>False:=by
 rintro ⟨F,y,ρ,S,c,d,ke,C,r,i,h,p,_⟩;exact⟨F,y,ρ,S,c,d,λ_ _ _=>false,C.reE,r,i,h,p.reE,λ_ _ _ _ _ _ _ _ _ _ z=>by cases z⟩
theorem bG.never{c:OD}{ps:List Str}(F:bG P w K mg base (bL P w) k c fd ps (jP gy n f)):bG P w K mg base eY k c fd ps (jP gy n<|never f) :=
 ⟨λvs H Q E h=>F.len vs H Q _ (wK h),λA outer s H args us vs Q E hr i hb d hs=>Qf (F.run A outer s H args us vs Q (λ_ _ _=>False) hr i hb d<|wK hs) λr s' h=>by
  cases r with
  | error e=>obtain⟨_,_,_,_,_,_,_,_,_,q⟩:=h;exact q.elim
  | ok fl=>cases fl<;>exact h⟩
theorem B0{x:Str}(c:cF P w K mg base gy (bL P w) x k n f):cF P w K mg base gy eY x k n (never f):=let ⟨d,fd,ps,a,F,b⟩:=c;⟨d,fd,ps,a,bG.never F,b⟩
theorem f7{x:Str}{c:Nat}{h:List AV}(M:eM P w K mg base gy (bL P w) c x k n h f):eM P w K mg base gy eY c x k n h (never f):=let ⟨i,fd,ps,j,d,a,F,b⟩:=M;⟨i,fd,ps,j,d,a,bG.never F,b⟩
theorem G9{CX:kr}{x:Str}(c:cF P w K mg base gy eY x k n f):cF P w K mg base gy CX x k n f:=let ⟨d,fd,ps,a,F,b⟩:=c;⟨d,fd,ps,a,F.to1,b⟩
def Kh(P:Ph)(w:Py)(K:OK)(mg:Str->Option OC)(base:Pk)(gy:Gy)(c:Nat)(m:Str)(k n:Nat)(f:BF):Prop :=
 ∃h fd ps,ps.length=n/\(∀d,(∀b o,base.get? b=some o->d.get? b=some o)->EW P w K mg d eY k h fd ps (jP gy n f))/\tX K (gy.cl c) m h/\cA K fd ps []
abbrev NU(P:Ph)(w:Py)(K:OK)(mg:Str->Option OC)(base:Pk)(gy:Gy)(N:List Str)(q:Str)(st:Rs)(k:Nat)(b:BS)(d:OD):Prop:=∀{c:OC} {A:Qz} {outer:List Env} {s:OI} {H:Hp} {E:XK},gi k (A.deeper<|Q4 q (ae st) s.heap.objs.size d c)->M4 base (A.deeper<|Q4 q (ae st) s.heap.objs.size d c)->gu (wJ eY P w K mg base N q (ae st) d c A outer s H E).nox (aS st) (de ⟨gy,E⟩ b)
theorem Mq{c:Nat}{x q:Str}{N ps:List Str}{b:BS}(D:nA K (gy.cl c) x q st)(S:ai N ps (ae st))(hb:KQ x q st ps)
  (hbody:∀{d},(∀b o,base.get? b=some o->d.get? b=some o)->∀{f},NU P w K mg d gy N q st k b f) (hn:ps.length=n:=by decide) (r:ps.length≤N.length:=by decide) :
  Kh P w K mg base gy c x (k+1) n (bH N.length b):=by
 obtain⟨u,fd,F,j⟩:=D;refine⟨u,fd,ps,hn,λd m=>Kg F S (λvs H Q E h=>?_) (λz A outer s H vs Q E hr i h=>?_),j,F.binds λ_ _ _ _ _ _ us h=>hb us h⟩
 ·obtain⟨_,_,_,_,_,_,_,_,_,p,_⟩:=h;rw[p,hn]
 ·obtain⟨t,ht,l⟩:=pO (CX:=eY) (A:=A) (outer:=outer) (s:=s) r hn h (hbody m hr i);exact⟨t,ht.nox,l⟩
end
section
variable{k k' n:Nat}{f:BF}{m:Str}{pos apos:Pos}{e o:O4}{ba:BE}{br:BA}
theorem Oy{pl:Sem Bool}{c:Nat}(M:Kh X.prog X.w X.K X.mg X.base g.toGy c m k n f)(z:ow X.K (g.cl c))(x:∃e l,X.A.handled=some (.ref e)/\(e,l)∈X.pn/\ET l)(hr:gi k' X.A)(ho:PE X o (up g ba))(C:PA X (e::es) (jl g br))(u:k≤k':=by decide)(r:∀i∈kH,a8[i]?≠some m:=by decide +kernel)
  (d:hE9 X e es:=by nofun) (h:hP9 X pos es:=by nofun)
  (ht:Pq (.Call (.Attribute o m apos) (e::es) [] pos) X.env=(do
   let j <-Pq o X.env
   Rp apos.atName
   let (f,first) <-Rq [j] (Sf j m pl)
   Ta pos f first (QE pos<|O1 (e::es) X.env) (QI pos<|PZ [] X.env)):=by nofun) :
  PE X (.Call (.Attribute o m apos) (e::es) [] pos) (up g<|dv c n [] f ba br):=by
 obtain⟨H,fd,ps,hn,F,p,hb⟩:=M;exact PE.imp (pP r λ_ _ _ _=>.nil) (EY ho z p F x (hr.mono u) hb .nil C d h ht)
end
end RB
namespace L2
open PySem PySem.Spec PyProof.Rows
section
variable{H1 H:Hp}{s1 s:OI}{e D:OD}{C:OC×Option OD}{fl fl':OC}{Q:Flow->OI->Prop}{y n:Str}{np hpos:Pos}{b₀:Rs}{suite:List Rs}{rest:List ZB}
theorem EZ(I:ay X pins σ H1 s1)(R:ja X H1 H s1 e C .none s)(u:X.stack=X.env::X.outer)(r:X.env.frame=some X.env.locals)(p:Gl X y)(o:X.mg y=some (.ref D))(m:QT X.K C.1 (.ref D)=some true)
  (k:∀s',ja X H1 H s1 e C .none s'->OM (OP X.prog X.w) (X.A.mark<|some<|.ref e) (Xw X.env n<|.ref e) (λ_ d=>OM (OP X.prog X.w) (X.A.mark<|some<|.ref e) (execs (b₀::suite) X.env)
   (λf c=>OM (OP X.prog X.w) X.A (do VQ X.env n .none;V8 X.env n hpos) (λ_ l=>Q f l) E c) (λ_ _=>False) d) (λ_ _=>False) s')
  (hd:(y==("__debug__":Str))=false:=by decide) :
  OM (OP X.prog X.w) X.A (Sg (.ref e) X.env) (λ_ d=>OM (OP X.prog X.w) X.A (Uq (.ref e) none) (λ_ c=>OM (OP X.prog X.w) X.A (handleBy (.ref e) X.env (.ExceptHandler (some<|.Name y np) (some n) (b₀::suite) hpos::rest)) Q E c) E d) E s:=by
 refine R.note I u r I.ok.frames λj R2=>R2.land I λi h=>?_;refine Wu (VO ?_) (by intro q;cases q);refine db (X:=X.marked e λ_ _=>False) (h.inv I).mark p o ?_ hd;refine(Yi (h.inv I).kIn (h.type _) m).here ?_;refine codeAny_handlers_suite_as ?_;refine h.land I λL x=>?_;refine Pf (k _ x) (λ_ d j=>?_) λ_ _ z=>z.elim;exact Pf j (λf c i=>i) λ_ _ z=>z.elim
theorem Ha{M:Wy}{j:Nat}{Q:Unit->OI->Prop}(I:ay X pins σ H s)(hN:X.N.Nodup)(Y:X.N[j]?=some n)(hl:X.env.kindOf n=some .local)
  (h:∀s',ay X pins (σ.set j none) H s'->Q () s'):OM M A (do VQ X.env n .none;V8 X.env n hpos) Q E s:=by
 obtain⟨m,hn,O⟩:=id I.loc;refine wpAny_nameGoes_keeps hl hn (by rw[I.ok.kind];rfl) λh' v L hs=>h _ ?_;obtain⟨oL,_,_,hoL,_⟩:=id hn;have u:j<σ.length:=by rw[I.len];exact(OL.mp Y).1
 refine⟨I.ok,I.os,I.bare,⟨λb o e n hb r=>?_,λb o e n hb r=>?_,I.base.free,λb o e r=>?_,I.base.tups,I.base.frzs,I.base.tbls⟩,⟨_,L,λi y Z l x e3=>?_⟩,λy c e=>?_,I.free,I.freeC,λp hp=>?_,λb ob e=>?_,by simpa using I.len⟩
 ·exact(hs.2 b<|O0<|O7 (OO e) I.ok.above).trans (I.base.keep b o e n hb r)
 ·obtain⟨sl,l⟩:=I.base.slot b o e n hb r;exact⟨sl,(hs.2 b<|O0<|O7 (OO e) I.ok.above).trans l⟩
 ·obtain⟨o',l⟩:=I.base.there b o e r;exact⟨o',(hs.2 b<|O0<|O7 (OO e) I.ok.above).trans l⟩
 ·by_cases f:i=j
  ·subst f;rw[RW u] at x;cases x
  ·rw[Sn (Qp f)] at x;obtain⟨u',r',q⟩:=O i y Z l x e3;refine⟨u',r',?_⟩;rcases q with ⟨k,e⟩ | ⟨k,c,e,z⟩
   ·refine .inl ⟨k,?_⟩;have:y≠n:=λe=>f (oQ hN l<|e▸Y);simp[this,e]
   ·exact .inr ⟨k,c,e,z.sameBut hs<|I.cne y c e⟩
 ·obtain⟨U,z⟩:=I.cell y c e;exact⟨U,z.sameBut hs<|I.cne y c e⟩
 ·obtain⟨e,n,ne,nf,d⟩:=I.pin p hp;exact⟨(hs.2 p.1 ne).trans e,n,ne,nf,d⟩
 ·refine(I.hok b ob e).stay (λc U hc q=>(hs.2 c ?_).trans q) (λ_ q=>q) λ_ _ q=>q;rintro rfl;rcases hc with rfl | hc
  ·rw[I.free] at e;cases e
  ·rw[I.free] at hc;cases hc
end
section
variable{k:Nat}{f C:OD}{ps:List Str}{sp:Sp}{dvs:List V}{ds:List OC}{x m:Str}{p pos apos:Pos}{e o:O4}{ta:XK->TE}{t:XK->TA}
end
end L2
namespace RB
open PySem PySem.Spec PyProof.Rows L2
def yC(t:Tr):Nat->Bool
 | 0=>true
 | n+1=>match t.get n with
  | some (.fz _)=>false
  | _=>yC t n
theorem wL{t:Tr}:∀{n i:Nat},yC t n=true->i<n->∀o,t.get i≠some (.fz o)
 | 0,_,_,h,_=>absurd h (VD _)
 | n+1,i,e,h,o=>λq=>by
  unfold yC at e;by_cases z:i=n
  ·subst z;rw[q] at e;cases e
  ·split at e
   ·cases e
   ·exact wL e (by omega) o q
theorem E1{y j:Option Int}{ρ d:List OD}{H H1:Hp}{S:aN}(C:aH g F y ρ S H)(x:yC S.t S.n=true)(own:∀b o u,F.own b->H b=some (.frz o u)->H1 b=some (.frz o u))(a:gA F y ρ H j d H1):aA F y ρ H j d H1 :=
 ⟨a.y,a.pre,a.new,a.keep,a.tup,a.live,λb o u h=>by
  by_cases m:b∈ρ
  ·obtain⟨i,l⟩:=T3 m;obtain⟨r,ho,L,p,f⟩:=C.at_ i b l;rw[h] at p;cases p;have I:i<S.n:=by rw[C.n];exact(OL.mp l).1
   cases r with
   | lst xs=>obtain⟨_,z,_⟩:=f;cases z
   | dk xs=>obtain⟨_,z,_⟩:=f;cases z
   | dt xs=>obtain⟨_,z,_⟩:=f;cases z
   | ins c fs=>obtain⟨_,_,⟨_,z,_⟩,_⟩:=f;cases z
   | fz o=>exact absurd L (wL x I o)
  ·by_cases w:F.own b
   ·exact own b o u w h
   ·exact a.keep b _ h m w⟩
section
variable{k n:Nat}{f:BF}{m:Str}{ec eo e:O4}{ba:BE}{br:BA}
end
end RB
namespace L2
open PySem PySem.Spec PyProof.Rows PySem.W
section
variable{σ:L2.St}
theorem ay.adopt{a:OD}{o:HO}(I:ay X pins σ H s)(h0:X.s₀.heap.get? a=none)(hn:H a=none)(j:a≠X.env.locals)(l:∀x c,X.env.cells.lookup x=some c->c≠a)(i:∀p∈X.pn++pins,p.1≠a)(new:bj X.prog X.w (upd H a o) s.heap a o):ay X pins σ (upd H a o) s:=by
 have ne:∀{b u},H b=some u->b≠a:=λ{b u} e z=>by rw[z,hn] at e;cases e
 refine⟨I.ok,I.os,I.bare,⟨I.base.keep,I.base.slot,λb d e n nx=>?_,I.base.there,λb xs e=>?_,λb d u e=>?_,λb ps e=>?_⟩,I.loc,I.cell,?_,λx c e=>?_,λp f=>?_,λb ob e=>?_,I.len⟩
 ·rw[al λz=>by rw[z,h0] at e;cases e];exact I.base.free b d e n nx
 ·have:=I.base.tups b xs e;rw[al (ne this)];exact this
 ·have:=I.base.frzs b d u e;rw[al (ne this)];exact this
 ·obtain⟨m,z⟩:=I.base.tbls b ps e;exact⟨m,by rw[al (ne z)];exact z⟩
 ·rw[al (Qp j)];exact I.free
 ·rw[al (l x c e)];exact I.freeC x c e
 ·obtain⟨q1,q2,h⟩:=I.pin p f;exact⟨q1,by rw[al (i p f)];exact q2,h⟩
 ·by_cases z:b=a
  ·subst z;rw[aq] at e;cases e;exact new
  ·rw[al z] at e;exact(I.hok b ob e).stay (λ_ _ _ q=>q) (λc q=>by rw[al (ne q)];exact q) λc xs q=>by rw[al (ne q)];exact q
end
end L2
namespace RB
open PySem PySem.Spec PyProof.Rows L2
section
variable{S:aN}
end
section
variable{o:O4}{ba:BE}{p pos apos cpos:Pos}
end
end RB
namespace RB
open PySem L2
def nC(t r:OD)(H c:Hp):Prop:=∀b o,H b=some o->b≠t->b≠r->c b=some o
def cr(c:Int)(r:OD):List (bh×V):=[(Si "count",V.int c),(Si "rests",V.ref r)]
theorem Oz:¬(("rests":Str) = "count"):=by decide +kernel
theorem Oi:¬(("count":Str) = "rests"):=by decide +kernel
theorem jI(c:Int)(r:OD):cX (cr c r) (Si "count")=some (.int c):=by simp[cr,cX]
theorem jJ(c:Int)(r:OD):cX (cr c r) (Si "rests")=some (.ref r):=by simp[cr,cX,Oi]
theorem B7(c x:Int)(r:OD):dc (cr c r) (Si "count") (.int x)=cr x r:=by simp[cr,dc,Oz]
structure nE(kvs:List (bh×V)):Prop where
 nd:(kvs.map (·.1)).Nodup
 kv:∀p∈kvs,∃i j:Int,p=(SI i,V.int j)/\0≤i/\i<64
structure kW(H:Hp)(t r:OD):Prop where
 ne:t≠r
 tw:∃c,H t=some (.dK<|cr c r)
 rs:∃kvs,H r=some (.dK kvs)/\nE kvs
theorem kW.notL{t r:OD}(T:kW H t r){a:OD}{o:HO}(h:H a=some o)(n:∀kvs,o≠.dK kvs):a≠t/\a≠r:=by
 obtain⟨_,⟨c,f⟩,kvs,d,_⟩:=T;exact⟨λe=>by subst e;rw[f] at h;cases h;exact n _ rfl,λe=>by subst e;rw[d] at h;cases h;exact n _ rfl⟩
theorem nC.sq{H c:Hp}{t r a:OD}(e:nC t r H c)(T:kW H t r)(h:ip K H a xs):ip K c a xs:=by
 rcases h with (h | ⟨o,h⟩) | h
 ·exact .inl (.inl<|e _ _ h (T.notL h λ_ z=>nomatch z).1 (T.notL h λ_ z=>nomatch z).2)
 ·exact .inl (.inr ⟨o,e _ _ h (T.notL h λ_ z=>nomatch z).1 (T.notL h λ_ z=>nomatch z).2⟩)
 ·exact .inr h
theorem Ap:∀(n:Nat) (l:List Nat),l.Nodup->(∀x∈l,x<n)->l.length≤n
 | 0,l,_,h=>by
  cases l with
  | nil=>simp
  | cons x l=>exact absurd (h x OW) (VD _)
 | n+1,l,nd,h=>by
  have f:(l.erase n).Nodup:=nd.erase n;have i:=Ap n (l.erase n) f λx c=>by
   have:=(ZC nd).mp c;have:=h x this.2;omega
  have d:=List.length_erase (a:=n) (l:=l);split at d<;>omega
def Ki:bh×V->Nat
 | (.inl i,_)=>i.toNat
 | _=>0
theorem nE.len{kvs:List (bh×V)}(R:nE kvs):kvs.length≤64:=by
 have h:=Ap 64 (kvs.map Ki) ?_ ?_
 ·simpa using h
 ·have nd:=R.nd;rw[List.Nodup,US] at nd ⊢;refine nd.imp_of_mem λ{p q} c l ne e=>?_;obtain⟨i,j,rfl,o,m⟩:=R.kv p c;obtain⟨d,r,rfl,z,u⟩:=R.kv q l;simp[Ki] at e;have:i=d:=by omega
  subst this;exact ne rfl
 ·intro x f;obtain⟨p,c,rfl⟩:=QC.mp f;obtain⟨i,j,rfl,o,m⟩:=R.kv p c;simp[Ki];omega
theorem nE.val{kvs:List (bh×V)}(R:nE kvs){k:bh}{v:V}(h:cX kvs k=some v):∃j:Int,v=.int j:=by
 unfold cX at h;rw[RY] at h;obtain⟨p,c,rfl⟩:=h;obtain⟨i,j,rfl,_⟩:=R.kv p (List.mem_of_find?_eq_some c);exact⟨j,rfl⟩
theorem nE.put{kvs:List (bh×V)}(R:nE kvs){i j:Int}(o:0≤i)(l:i<64):nE (dc kvs (.inl i)<|.int j):=by
 unfold dc;split
 ·refine⟨?_,λp hp=>?_⟩
  ·have e:(kvs.map λkv=>if kv.1=(SI i:bh) then(kv.1,V.int j) else kv).map (·.1)=kvs.map (·.1):=by
    rw[Sr];apply Uh;intro p _;simp only[Function.comp_apply];split<;>rfl
   rw[e];exact R.nd
  ·obtain⟨q,c,rfl⟩:=QC.mp hp;split
   ·obtain⟨a,b,rfl,h,f⟩:=R.kv q c;exact⟨a,j,rfl,h,f⟩
   ·exact R.kv q c
 ·rename_i d;refine⟨?_,λp hp=>?_⟩
  ·rw[Ue];refine zt R.nd λm=>d ?_;obtain⟨q,c,e⟩:=QC.mp m;exact List.any_eq_true.mpr ⟨q,c,decide_eq_true e⟩
  ·rcases PN.mp hp with hp | hp
   ·exact R.kv p hp
   ·simp at hp;exact⟨i,j,hp,o,l⟩
section
def mL(K:OK):Sp:=λvs H Q _=>∃a ns t r m,vs=[.ref a,.ref t,.int m]/\ip K H a (SH V.int ns)/\ns.length≤63/\kW H t r/\0<m/\m≤1000000 /\
 ∀x c,0≤x->x<m->kW c t r->nC t r H c->Q (.int x) c
theorem ce(x m:Int)(h:0<m):0≤x%m/\x%m<m:=⟨Int.emod_nonneg _<|by omega,Int.emod_lt_of_pos _ h⟩
theorem fq:ai ["_law_script","_law_town","_law_many","_law_at_here","_law_rest","_law_number"] ["_law_script","_law_town","_law_many"] (ae<|aD 104):=⟨rfl,rfl,rfl,by decide +kernel,rfl,by decide +kernel,by decide +kernel⟩
theorem Hb(d:cQ K mg "_law_draw" (aD 104))(M:Mods mg):HN P w K mg base "_law_draw" 1 ["_law_script","_law_town","_law_many"] (mL K):=by
 refine d.ok fq (λvs H Q E h=>?_) (λ_ _ _ _ _ _ us hl=>match us,hl with | [_,_,_],_=>rfl) (λf cdv A outer s H vs Q E hr h=>?_)
 ·obtain⟨a,ns,t,r,m,rfl,_⟩:=h;rfl
 ·obtain⟨a,ns,t,r,m,rfl,hS,hns,T,I,hm2,k⟩:=h;have Z:=dl hr;apply Sa;apply Su
  ·(conv=>arg 2;whnf)
   with_reducible exact(cV (vO Z (pv 1) gO (fc gQ (jk Z (pv 1) gO<|by with_unfolding_all exact(λ_ _=>rfl)) cU)<|by nofun)
   (cV (kn (i:=3) fq.nd (by nofun) (by with_unfolding_all exact(SL rfl))<|oU (vz (pv 0)<|by with_unfolding_all exact(λ_=>rfl)) (fc mj (jk Z (pv 1) gO<|by with_unfolding_all exact(λ_ _=>rfl))<|hJ lx (by nofun) M.len Ro<|bK (pv 0) cW) cU)
   (cV (kn (i:=4) fq.nd (by nofun) (by with_unfolding_all exact(SL rfl))<|A9 Z (jk Z (pv 1) gO<|by with_unfolding_all exact(λ_ _=>rfl)) (pv 3) (oU (vz (pv 0)<|by with_unfolding_all exact(λ_=>rfl)) (HI zm (pv 0) (pv 3)<|by with_unfolding_all exact(λ_ _=>rfl)) cU)<|by with_unfolding_all exact⟨rfl,rfl,rfl,rfl⟩)
   (cV (HB (tW HF (pv 4) (fc CL cU cU)<|by with_unfolding_all exact(tV _)) (cV (vO Z (jk Z (pv 1) gO<|by with_unfolding_all exact(λ_ _=>rfl)) (pv 3) (fc tU (pv 4)<|pv 2)<|by nofun)
   (lr<|tR<|fc mj (pv 4)<|pv 2)) yU)
   (cV (kn (i:=5) fq.nd (by nofun) (by with_unfolding_all exact(SL rfl))<|fc mj (fc gQ (pv 4)<|fc CK cU<|jk Z (pv 1) gO<|by with_unfolding_all exact(λ_ _=>rfl)) cU)
   (cV (kn (i:=5) fq.nd (by nofun) (by with_unfolding_all exact(SL rfl))<|fc mj (fc CL (pv 5) cU) cU)
   (lr<|tR<|fc mj (fc tU (fc mj (fc gQ (fc CK (fc tU (pv 5) cU) cU)<|pv 5) cU) cU)<|pv 2)))))))
  have e0:L2.ff ["_law_script","_law_town","_law_many","_law_at_here","_law_rest","_law_number"] [.ref a,.ref t,.int m]=[some (.ref a),some (.ref t),some (.int m),none,none,none]:=rfl;rw[e0];obtain⟨ne,⟨c,ht⟩,kvs,hk,R⟩:=id T;have hl2:(cr c r).length<OR:=bZ (by simp[cr])
  -- town["count"]=town["count"]+1
  simp only[ue,zz,Bb,HR,Q8,SY,Vg,bN,pG,DE,zA,vP,List.set_cons_succ,List.set_cons_zero,Ga,Ba,xQ,Dz,oz,DB,ni,xR,Jx,Jz,DD,zB,lF,cK ht,jI,pF,B7];refine⟨hl2,?_⟩;have s1:nC t r H (upd H t<|.dK<|cr (c+1) r):=λb o h n1 n2=>by
   rw[al n1];exact h
  generalize hH1:upd H t (.dK<|cr (c+1) r)=H1 at s1;have u:H1 t=some (.dK<|cr (c+1) r):=by rw[<-hH1];exact aq
  have O:H1 r=some (.dK kvs):=by rw[<-hH1,al ne.symm];exact hk
  have C:=s1.sq T hS;have T1:kW H1 t r:=⟨ne,⟨_,u⟩,kvs,O,R⟩
  have l:∀(i z:Int),∃j:Int,(cX kvs<|SI i).getD (V.int z)=V.int j:=λi z=>by
   cases e:cX kvs (SI i:bh) with
   | none=>exact⟨z,rfl⟩
   | some v=>obtain⟨j,rfl⟩:=R.val e;exact⟨j,rfl⟩
  have hl64:kvs.length<OR:=bZ (PV R.len<|by decide);have L:∀(i j:Int),0≤i->i<64->kW (upd H1 r<|.dK<|dc kvs (.inl i)<|.int j) t r/\nC t r H (upd H1 r<|.dK<|dc kvs (.inl i)<|.int j):=λi j h0 h1=>by
   refine⟨⟨ne,⟨_,by rw[al ne];exact u⟩,_,aq,R.put h0 h1⟩,λb o h n1 n2=>?_⟩;rw[al n2];exact s1 b o h n1 n2
  refine⟨!(ns.map V.int).isEmpty,.inl ⟨_,C,rfl⟩,?_⟩;cases hns0:ns with
  | nil=>
   rw[hns0] at C;simp only[Uk,XN,TU,O5,cK u,bN,jJ,cK O,if_false];refine⟨!(([]:List Int).map V.int).isEmpty,.inl ⟨_,C,rfl⟩,?_⟩;simp only[Uk,XN,TU,O5,if_false];obtain⟨rest,hrest⟩:=l 0 0;rw[hrest];have h0:(0:Int)≤0:=by decide
   have h1:(0:Int)<64:=by decide
   simp only[ni,pF,DA];refine⟨⟨by decide,by decide,by decide⟩,?_⟩;by_cases hb:(10:Int) ^ XO 18≤rest
   ·simp only[hb,decide_true,cK u,bN,jJ,pG,cK O,lF,oz,xQ,ue,Q8,SY,Vg,ni,if_true];exact⟨⟨I,by omega⟩,hl64,I,k _ _ (ce _ _ I).1 (ce _ _ I).2 (L _ _ h0 h1).1 (L _ _ h0 h1).2⟩
   ·simp only[hb,decide_false,O5,cK u,bN,jI,ni,pF,if_false];refine⟨.inl ⟨by decide,by decide⟩,by decide,?_⟩;generalize hx:(rest+104729*(c+1))%4294967291=x;have x0:0≤x/\x<4294967291:=by rw[<-hx];exact ce _ _ (by decide)
    refine⟨⟨by decide,by decide,by omega⟩,by decide,?_⟩;generalize hy:x ^ XO 5%4294967279=y;have y0:0≤y/\y<4294967279:=by rw[<-hy];exact ce _ _ (by decide)
    refine⟨⟨by decide,by decide⟩,.inr ⟨by decide,by decide⟩,by decide,⟨by decide,by decide⟩,I,k _ _ (ce _ _ I).1 (ce _ _ I).2 T1 s1⟩
  | cons Y p=>
   rw[hns0] at C hns;simp only[O8,Xp,YT,cK u,bN,jI,ni,lF,if_true];refine⟨a,_,rfl,.inl C,?_⟩;have hlen:((SH V.int (Y::p)).length:Int)=((Y::p).length:Int):=by simp
   rw[hlen];have hlp:(0:Int)<((Y::p).length:Int):=by simp only[P2];omega
   refine⟨hlp,?_⟩;have U:=ce (c+1) _ hlp;generalize hatx:(c+1)%((Y::p).length:Int)=at' at U;have h0:0≤at':=U.1;have h1:at' < 64:=by have:=U.2;simp at this hns;omega
   simp only[jJ,bN,cK O];refine⟨!((Y::p).map V.int).isEmpty,.inl ⟨_,C,rfl⟩,?_⟩;simp only[O8,Xp,YT,if_true];obtain⟨j,rfl⟩:=Vh h0;have hj:j<(Y::p).length:=by have:=U.2;omega
   refine⟨a,_,_,.int<|(Y::p)[j],rfl,rfl,C,zk<|by rw[Pv,Pd hj];rfl,?_⟩;simp only[cK O,bN];obtain⟨rest,hrest⟩:=l (j:Int) ((Y::p)[j]);rw[hrest];simp only[ni,pF,DA];refine⟨⟨by decide,by decide,by decide⟩,?_⟩;by_cases hb:(10:Int) ^ XO 18≤rest
   ·simp only[hb,decide_true,cK u,bN,jJ,pG,cK O,lF,oz,xQ,ue,Q8,SY,Vg,ni,if_true];exact⟨⟨I,by omega⟩,hl64,I,k _ _ (ce _ _ I).1 (ce _ _ I).2 (L _ _ h0 h1).1 (L _ _ h0 h1).2⟩
   ·simp only[hb,decide_false,O5,cK u,bN,jI,ni,pF,if_false];refine⟨.inl ⟨by decide,by decide⟩,by decide,?_⟩;generalize hx:(rest+104729*(c+1))%4294967291=x;have x0:0≤x/\x<4294967291:=by rw[<-hx];exact ce _ _ (by decide)
    refine⟨⟨by decide,by decide,by omega⟩,by decide,?_⟩;generalize hy:x ^ XO 5%4294967279=y;have y0:0≤y/\y<4294967279:=by rw[<-hy];exact ce _ _ (by decide)
    refine⟨⟨by decide,by decide⟩,.inr ⟨by decide,by decide⟩,by decide,⟨by decide,by decide⟩,I,k _ _ (ce _ _ I).1 (ce _ _ I).2 T1 s1⟩
def Aq:Sp:=λvs H Q _=>vs=[]/\∀t r c,kW c t r->Jr H c->H t=none->H r=none->Q (.ref t) c
theorem uU:ai [] [] (ae<|aD 105):=⟨rfl,rfl,rfl,by decide +kernel,rfl,by decide +kernel,by decide +kernel⟩
theorem E2(d:cQ K mg "_law_begun" (aD 105))(M:Mods mg):HN P w K mg base "_law_begun" 1 [] Aq:=by
 refine d.ok uU (λvs H Q E h=>?_) (λ_ _ _ _ _ _ us l=>match us,l with | [],_=>rfl) (λf m A outer s H vs Q E hr h=>?_)
 ·obtain⟨rfl,_⟩:=h;rfl
 ·obtain⟨rfl,k⟩:=h;apply Sa;apply Su
  ·(conv=>arg 2;whnf)
   with_reducible exact(lr<|tR<|zr (pf gO cU<|pf gO vH zq) (by nofun) (by nofun) (by simp)<|by decide)
  simp only[oz];intro p j;simp only[o9];simp only[HR];intro q hq;have c:q≠p:=λe=>by subst e;rw[aq] at hq;cases hq
  have i:H q=none:=by rw[<-hq,al c]
  refine⟨by rw[al c.symm];exact aq,cr 0 q,rfl,by show 2≤15;decide,?_⟩;have e:dD [] (cr 0 q)=cr 0 q:=by simp[dD,cr,dc,Oi]
  rw[e];refine k p q _ ⟨c.symm,⟨0,aq⟩,[],by rw[al c];exact aq,⟨RP,λ_ h=>by simp at h⟩⟩ ?_ j i;intro b o h;rw[al (cT h j),al (cT h i),al (cT h j)];exact h
end
end RB
namespace RB
open PySem PySem.Spec PyProof.Rows L2
def sZ(K:OK)(F:Fx):Prop:=∃a ns t r,F.ext 11=.ref a/\F.ext 12=.ref t/\F.own t/\F.own r /\
 (∀H,F.J H->ip K H a (SH V.int ns)/\ns.length≤63/\kW H t r)/\∀H c,F.J H->kW c t r->nC t r H c->F.J c
def E3(k:AV->aN->Bool)(S:aN):Nat->Bool
 | 0=>true
 | n+1=>match E3 k S n with
  | true=>k (.int false (.ofNat n)<|.ofNat n) S
  | false=>false
def Hc(S:aN):aN:=⟨S.n,true,S.t⟩
def E4(r:BA):BE:=λσ S k=>r σ S λxs c=>match xs with
 | [.ext i,.ext j,.int false (.ofNat lo) (.ofNat d)]=>match OS i 11&&OS j 12&&OS lo d with
  | true=>match QW lo 10 with
   | true=>match QW 0 lo with
    | true=>E3 k c lo
    | false=>false
   | false=>match c.sym with
    | true=>false
    | false=>match Pr lo 1000 with
     | true=>match k (.int false 0 0) c with
      | true=>k (.int true 0 0) (Hc c)
      | false=>false
     | false=>false
  | false=>false
 | _=>false
section
theorem Ar{k:AV->aN->Bool}{S:aN}:∀{n:Nat},E3 k S n=true->∀i,i<n->k (.int false (.ofNat i)<|.ofNat i) S=true
 | 0,_,i,c=>absurd c (VD _)
 | n+1,h,i,c=>by
  unfold E3 at h;cases q:E3 k S n with
  | false=>rw[q] at h;cases h
  | true=>
   rw[q] at h;rcases ZU i n with z | z
   ·exact Ar q i z
   ·have:i=n:=by omega
    subst this;exact h
theorem E5{br:BA}(hd:∀F,g.dr F->sZ K F):∀σ H Q,up g (E4 br) σ H Q->jY (mL K) [] E0 (jl g br) σ H Q:=λσ H Q hx=>ez hx λF y ρ S σa k C r h p=>
 bF C r h λZ l S1 H1 axs xs st C1 r1 O d=>by
  split at d
  ·rename_i i j lo hi;split at d
   ·rename_i q;simp only[OZ] at q;have ei:=ON q.1.1;have ej:=ON q.1.2;have el:=ON q.2;subst ei ej el;obtain⟨a,ns,t,rr,e1,e2,ot,orr,fj,re⟩:=hd F C1.fl.dr;obtain⟨x0,_,rfl,r0,O⟩:=HW O;obtain⟨x1,_,rfl,r2,O⟩:=HW O;obtain⟨x2,_,rfl,r3,O⟩:=HW O;cases O;have e3:x0=.ref a:=(show x0=F.ext 11 from r0).trans e1;have e4:x1=.ref t:=(show x1=F.ext 12 from r2).trans e2;obtain⟨z,rfl,b1,b2⟩:=r3;have e5:z=Ur lo:=by omega
    subst e3 e4 e5;obtain⟨sq,hn,T⟩:=fj H1 C1.J
    -- what a draw leaves
    have nt:∀c∈l,c≠t/\c≠rr:=λc hc=>⟨λz=>C1.own c hc (by rw[z];exact ot),λz=>C1.own c hc (by rw[z];exact orr)⟩
    have fin:∀(x:Int) (f:Hp) (I:Option Int) (Y:aN) (av:AV),kW f t rr->nC t rr H1 f->(∀z,Z=some z->I=some z)->Y.n=S1.n->Y.t=S1.t->Y.sym=I.isSome->(∀z,I=some z->1≤z)->aQ F I l f av (.int x)->k av Y=true->Q (.int x) f:=λx f I Y av U m hy sn stt ss sp ra hk=>by
     have kt:∀b vs,H1 b=some (.tup vs)->f b=some (.tup vs):=λb vs q=>m b _ q (T.notL q λ_ z=>nomatch z).1 (T.notL q λ_ z=>nomatch z).2;have L:aA F Z l H1 I l f:=by
      refine⟨hy,⟨[],by simp⟩,λ_ h=>.inl h,λb o q n w=>m b o q (λz=>w (by rw[z];exact ot)) (λz=>w (by rw[z];exact orr)),kt,λb q=>?_,λb o u q=>m b _ q (T.notL q λ_ z=>nomatch z).1 (T.notL q λ_ z=>nomatch z).2⟩;cases e:H1 b with
      | none=>rfl
      | some o=>
       obtain⟨_,⟨c,t1⟩,kvs,t2,_⟩:=U;by_cases z1:b=t
       ·rw[z1,t1] at q;cases q
       ·by_cases z2:b=rr
        ·rw[z2,t2] at q;cases q
        ·rw[m b o e z1 z2] at q;cases q
     have C2:aH g F I l Y f:=by
      refine⟨by rw[sn];exact C1.n,ss,sp,C1.nd,λi c ec=>?_,C1.own,C1.fe,λb w q=>C1.ol b w (L.live b q),re H1 f C1.J U m,C1.fl⟩;obtain⟨o,ho,d,h2,h3⟩:=C1.at_ i c ec;have:=nt c (O9 ec);exact⟨o,ho,by rw[stt];exact d,m c ho h2 this.1 this.2,dO.mono L h3⟩
     exact p I l Y f av _ (st.trans L) C2 ra hk
    split at d
    ·rename_i ql;split at d
     ·rename_i q0;have q0:0+1≤lo:=bw q0;have ql:lo+1≤10:=bw ql;refine⟨a,ns,t,rr,Ur lo,rfl,sq,hn,T,?_,?_,λx f x0 x1 U m=>?_⟩
      ·show(0:Int)<(lo:Int);omega
      ·show(lo:Int)≤1000000;omega
      ·obtain⟨n,rfl⟩:=Vh x0;have hlt:n<lo:=by
        have:(n:Int)<(lo:Int):=x1;omega
       exact fin _ f Z S1 (.int false (.ofNat n)<|.ofNat n) U m (λ_ h=>h) rfl rfl C1.sym C1.pos ⟨_,rfl,RD _,RD _⟩ (Ar d n hlt)
     ·cases d
    ·rename_i ql;have ql:¬lo<10:=λz=>by
      have:QW lo 10=true:=by simp[YL];exact z
      rw[this] at ql;cases ql
     split at d
     ·cases d
     ·rename_i qs;split at d
      ·rename_i qm;have qm:=bw qm;split at d
       ·rename_i h0;refine⟨a,ns,t,rr,Ur lo,rfl,sq,hn,T,?_,?_,λx f x0 x1 U m=>?_⟩
        ·show(0:Int)<(lo:Int);omega
        ·show(lo:Int)≤1000000;omega
        ·by_cases z:x=0
         ·subst z;exact fin 0 f Z S1 (.int false 0 0) U m (λ_ h=>h) rfl rfl C1.sym C1.pos ⟨0,rfl,RD _,RD _⟩ h0
         ·have hy:Z=none:=by
           have:=C1.sym;rw[qs] at this;cases Z with
           | none=>rfl
           | some _=>cases this
          refine fin x f (some x) (Hc S1) (.int true 0 0) U m (λw hw=>by rw[hy] at hw;cases hw) rfl rfl rfl (λw hw=>by cases hw;omega) ⟨x,x,rfl,rfl,by omega,by omega⟩ d
       ·cases d
      ·cases d
   ·cases d
  ·cases d
theorem Hd{e:O4}{p pos:Pos}{br:BA}(c:HN X.prog X.w X.K X.mg X.base "_law_draw" 1 ["_law_script","_law_town","_law_many"] (mL X.K))(hd:∀F,g.dr F->sZ X.K F)(hr:a5 1 X.A)(i:PA X (e::es) (jl g br))(f:Gl X "_law_draw":=by nofun)
  (h:hE9 X e es:=by nofun) (d:hP9 X pos es:=by nofun):PE X (.Call (.Name "_law_draw" p) (e::es) [] pos) (up g<|E4 br) :=
 PE.imp (E5 hd) (Du c hr i f (by decide) h d)
end
def NV(r:BA):BE:=λσ S k=>r σ S λxs d=>match xs with
 | [.ext i,.ext j,.int false (.ofNat lo) (.ofNat c)]=>match OS i 11&&OS j 12&&OS lo c with
  | true=>match QW 0 lo&&Pr lo 1000 with
   | true=>k (.int false 0<|Ur<|lo - 1) d
   | false=>false
  | false=>false
 | _=>false
section
def Mr:AV->AV->aN->(AV->aN->Bool)->Bool:=λa b S k=>match a,b with
 | .int s lo f,.int s' c d=>match Bg s lo f s' c d with
  | some b=>k (.bl b) S
  | none=>match k (.bl true) S with
   | true=>k (.bl false) S
   | false=>false
 | _,_=>false
theorem Hf:i8 g (AI λi j=>.bl (decide<|i<j)) Mr:=by
 intro F y ρ S H x z ax o k Q C l f h p;cases ax with
 | int s lo m=>cases o with
  | int s' c d=>
   obtain⟨i,rfl,b1⟩:=a6.mp l;obtain⟨j,rfl,b2⟩:=a6.mp f;refine⟨i,j,rfl,rfl,?_⟩;dsimp only;unfold Mr at h;dsimp only at h;cases e:Bg s lo m s' c d with
   | some b=>
    rw[e] at h;rw[kK C.pos b1 b2 e];exact p.here C (av:=.bl b) rfl h
   | none=>
    rw[e] at h;dsimp only at h;split at h
    ·rename_i h0;by_cases q:i<j
     ·rw[decide_eq_true q];exact p.here C (av:=.bl true) rfl h0
     ·rw[decide_eq_false q];exact p.here C (av:=.bl false) rfl h
    ·cases h
  | _=>cases h
 | _=>cases h
end
def wM(K:OK)(F:Fx):Prop:=sZ K F/\∀H c,F.J H->F.J c->∀b o u,F.own b->H b=some (.frz o u)->c b=some (.frz o u)
section
variable{k n:Nat}
abbrev Kj(P:Ph)(w:Py)(K:OK)(mg:Str->Option OC)(base:Pk)(gy:Gy)(N:List Str)(x:Str)(st:Rs)(k:Nat)(b:BS)(f:OD):Prop:=∀{c:OC} {A:Qz} {outer:List Env} {s:OI} {H:Hp} {E:XK},a5 k (A.deeper<|Q4 x (ae st) s.heap.objs.size f c)->(A.deeper<|Q4 x (ae st) s.heap.objs.size f c).units+1<QK ->
 gu (bQ (bL P w) P w K mg base N x (ae st) f c A outer s H E) (aS st) (de ⟨gy,E⟩ b)
theorem c9{x:Str}{N ps:List Str}{b:BS}(d:cQ K mg x st)(S:ai N ps (ae st))(hb:KQ x x st ps)(hbody:∀{f},Kj P w K mg base gy N x st k b f)(hn:ps.length=n:=by decide)(i:ps.length≤N.length:=by decide) :
  cF P w K mg base gy (bL P w) x (k+1) n (bH N.length b):=by
 obtain⟨f,fd,F,c⟩:=d;exact⟨f,fd,ps,hn,uT F S hn i λj A outer s H E hr=>hbody hr (dl hr),c,F.kp,F.binds λ_ _ _ _ _ _ us h=>hb us h⟩
theorem ii{c:Nat}{x q:Str}{N ps:List Str}{b:BS}(D:nA K (gy.cl c) x q st)(S:ai N ps (ae st))(hb:KQ x q st ps)(hbody:∀{f},Kj P w K mg base gy N q st k b f)(hn:ps.length=n:=by decide)(i:ps.length≤N.length:=by decide) :
  eM P w K mg base gy (bL P w) c x (k+1) n [] (bH N.length b):=by
 obtain⟨f,fd,F,d⟩:=D;exact⟨f,fd,ps,[],[],hn,uT F S hn i λj A outer s H E hr=>hbody hr (dl hr),d,F.binds λ_ _ _ _ _ _ us h=>hb us h,.nil,λ_ _ _ _=>.nil⟩
def E6(P:Ph)(w:Py)(K:OK)(mg:Str->Option OC)(base:Pk)(gy:Gy)(k n:Nat)(fs:List (Option BF)):Prop :=
 ∀j f,G0 fs j=some f->j<11/\∃fd ps,ps.length=n/\bG P w K mg base (bL P w) k (gy.fe j) fd ps (jP gy n f)/\Pn K (.ref<|gy.fe j)=true/\cA K fd ps []
theorem d5{x:Str}{h:Nat}{f:BF}{a:OD}(c:cF P w K mg base gy (bL P w) x k n f)(i:mg x=some (.ref a))(j:k≤h):∃fd ps,ps.length=n/\bG P w K mg base (bL P w) h a fd ps (jP gy n f)/\Pn K (.ref a)=true/\cA K fd ps []:=by
 obtain⟨l,fd,ps,hn,F,d,kp,hb⟩:=c;have e:=i.symm.trans d;cases e;exact⟨fd,ps,hn,F.mono j,kp,hb⟩
end
section
variable{ba:BE}{br:BA}{p pos:Pos}{e o:O4}{m x:Str}{k k' n:Nat}{f:BF}
theorem B8{kk:Nat}{fs:List (Option BF)}(hn:PE X (.Name x p) (up g ba))(T:E6 X.prog X.w X.K X.mg X.base g.toGy kk n fs)(hr:a5 kk X.A)(hx:cw (bL X.prog X.w) X g.E)(ha:PA X (e::es) (jl g br))
  (he:hE9 X e es:=by nofun) (hpl:hP9 X pos es:=by nofun):PE X (.Call (.Name x p) (e::es) [] pos) (up g<|J7 n fs ba br):=by
 rintro pins s σ H Q I ⟨F,y,ρ,S,d,k,C,r,h,pp⟩;refine PR (bi (hn pins s σ H (λv H1=>∃j f l c O,v=.ref (g.fe j)/\G0 fs j=some f/\aA F y ρ H l c H1/\aH g F l c O H1/\bn g F l c H1 d σ/\br d O (λxs S2=>nZ n f xs S2 k d.ke)=true) I<|ar C r h λl c O H1 ax x st C1 r1 rx i=>?_) λu s1 Y=>?_)
 ·split at i
  ·rename_i j;split at i
   ·rename_i f q;have:=(T j f q).1;exact⟨j,f,l,c,O,by rw[<-C1.fe j this];exact rx,q,st,C1,r1,i⟩
   ·cases i
  ·cases i
 ·obtain⟨v,H1,I1,rv,j,f,l,c,O,ev,ej,st1,C1,r1,i⟩:=Y;subst ev;obtain rfl:u=OX (g.fe j):=rv;obtain⟨_,fd,ps,hps,Fn,hk,hb⟩:=T j f ej;refine QZ (h₀:=X.base) I.ok.mod.kin hk (bi (ha pos pins s1 σ H1 (λvs H2=>jP g.toGy n f vs H2 Q g.E) I1<|bF C1 r1 i λy2 U S2 H2 axs xs Z C2 r2 z L=>?_) λus s2 Y=>da Y λvs H2 I2 rvs q=>⟨I2.kIn,?_⟩) he hpl
  ·unfold nZ at L;cases q3:OS axs.length n with
   | false=>simp only[q3] at L;cases L
   | true=>
    simp only[q3] at L;exact⟨F,y2,U,S2,_,k,d.ke,C2,z,by rw[<-aO z];exact ON q3,L,pp.mono<|st1.trans Z,r2.e⟩
  ·exact oY Fn hr hb .nil hx I2 rvs (by rw[Ra];exact q)
theorem ij{pl:Sem Bool}{d:Pos}{c:Nat}{r:List AV}(M:eM X.prog X.w X.K X.mg X.base g.toGy (bL X.prog X.w) c m k n r f)(H:ow X.K (g.cl c))(hr:a5 k' X.A)(u:cw (bL X.prog X.w) X g.E)(ho:PE X o (up g ba))(I:PA X (e::es) (jl g br))(C:k≤k':=by decide)(z:∀i∈kH,a8[i]?≠some m:=by decide +kernel)
  (h:hE9 X e es:=by nofun) (j:hP9 X pos es:=by nofun)
  (ht:Pq (.Call (.Attribute o m d) (e::es) [] pos) X.env=(do
   let l <-Pq o X.env
   Rp d.atName
   let (f,first) <-Rq [l] (Sf l m pl)
   Ta pos f first (QE pos<|O1 (e::es) X.env) (QI pos<|PZ [] X.env)):=by nofun) :
  PE X (.Call (.Attribute o m d) (e::es) [] pos) (up g<|dv c n r f ba br):=zQ M H z (hr.mono C) u ho I h j ht
end
def NW(r:BA):BE:=λσ S k=>r σ S λxs c=>match xs with
 | [.ext i,.ext j,.int false (.ofNat lo) (.ofNat d)]=>match OS i 11&&OS j 12&&OS lo d with
  | true=>match QW 1 lo&&Pr lo 1000 with
   | true=>match k (.int false 0 0) c with
    | true=>k (.int false 1<|Ur<|lo - 1) c
    | false=>false
   | false=>false
  | false=>false
 | _=>false
section
end
def yD(r:BA):BE:=λσ S k=>r σ S λxs c=>match xs with
 | [.ext i,.ext j,.int false (.ofNat lo) (.ofNat d)]=>match OS i 11&&OS j 12&&OS lo d with
  | true=>match QW 0 lo&&Pr lo 10000&&not c.sym with
   | true=>k (.int true (.negSucc 0)<|.negSucc 0) (Hc c)
   | false=>false
  | false=>false
 | _=>false
section
theorem B9{br:BA}(hd:∀F,g.dr F->sZ K F):∀σ H Q,up g (yD br) σ H Q->jY (mL K) [] E0 (jl g br) σ H Q:=λσ H Q hx=>ez hx λF y ρ S σa k C r h p=>
 bF C r h λy1 d S1 H1 axs xs st C1 r1 O l=>by
  split at l
  ·rename_i i j lo hi;split at l
   ·rename_i q;simp only[OZ] at q;have ei:=ON q.1.1;have ej:=ON q.1.2;have el:=ON q.2;subst ei ej el;obtain⟨a,ns,t,Y,e1,e2,ot,Z,fj,re⟩:=hd F C1.fl.dr;obtain⟨x0,_,rfl,r0,O⟩:=HW O;obtain⟨x1,_,rfl,r2,O⟩:=HW O;obtain⟨x2,_,rfl,r3,O⟩:=HW O;cases O;have e3:x0=.ref a:=(show x0=F.ext 11 from r0).trans e1;have e4:x1=.ref t:=(show x1=F.ext 12 from r2).trans e2;obtain⟨z,rfl,b1,b2⟩:=r3;have e5:z=Ur lo:=by omega
    subst e3 e4 e5;obtain⟨sq,hn,T⟩:=fj H1 C1.J
    -- what a draw leaves
    have nt:∀c∈d,c≠t/\c≠Y:=λc hc=>⟨λz=>C1.own c hc (by rw[z];exact ot),λz=>C1.own c hc (by rw[z];exact Z)⟩
    have fin:∀(x:Int) (f:Hp) (m:Option Int) (U:aN) (av:AV),kW f t Y->nC t Y H1 f->(∀z,y1=some z->m=some z)->U.n=S1.n->U.t=S1.t->U.sym=m.isSome->(∀z,m=some z->1≤z)->aQ F m d f av (.int x)->k av U=true->Q (.int x) f:=λx f m U av T2 I hy sn stt ss sp ra hk=>by
     have kt:∀b vs,H1 b=some (.tup vs)->f b=some (.tup vs):=λb vs q=>I b _ q (T.notL q λ_ z=>nomatch z).1 (T.notL q λ_ z=>nomatch z).2;have L:aA F y1 d H1 m d f:=by
      refine⟨hy,⟨[],by simp⟩,λ_ h=>.inl h,λb o q n w=>I b o q (λz=>w (by rw[z];exact ot)) (λz=>w (by rw[z];exact Z)),kt,λb q=>?_,λb o u q=>I b _ q (T.notL q λ_ z=>nomatch z).1 (T.notL q λ_ z=>nomatch z).2⟩;cases e:H1 b with
      | none=>rfl
      | some o=>
       obtain⟨_,⟨c,t1⟩,kvs,t2,_⟩:=T2;by_cases z1:b=t
       ·rw[z1,t1] at q;cases q
       ·by_cases z2:b=Y
        ·rw[z2,t2] at q;cases q
        ·rw[I b o e z1 z2] at q;cases q
     have C2:aH g F m d U f:=by
      refine⟨by rw[sn];exact C1.n,ss,sp,C1.nd,λi c ec=>?_,C1.own,C1.fe,λb w q=>C1.ol b w (L.live b q),re H1 f C1.J T2 I,C1.fl⟩;obtain⟨o,ho,l,h2,h3⟩:=C1.at_ i c ec;have:=nt c (O9 ec);exact⟨o,ho,by rw[stt];exact l,I c ho h2 this.1 this.2,dO.mono L h3⟩
     exact p m d U f av _ (st.trans L) C2 ra hk
    split at l
    ·rename_i q0;simp only[OZ] at q0;have q1:0+1≤lo:=bw q0.1.1;have q2:lo≤10000:=bw q0.1.2;refine⟨a,ns,t,Y,Ur lo,rfl,sq,hn,T,?_,?_,λx f x0 x1 T2 I=>?_⟩
     ·show(0:Int)<(lo:Int);omega
     ·show(lo:Int)≤1000000;omega
     ·have hy:y1=none:=by
       have:=C1.sym;have q3:S1.sym=false:=by simpa using q0.2
       rw[q3] at this;cases y1 with
       | none=>rfl
       | some _=>cases this
      refine fin x f (some<|x+1) (Hc S1) (.int true (.negSucc 0)<|.negSucc 0) T2 I (λw hw=>by rw[hy] at hw;cases hw) rfl rfl rfl (λw hw=>by cases hw;omega) ⟨x+1,x,rfl,rfl,by omega,by omega⟩ l
    ·cases l
   ·cases l
  ·cases l
theorem E7{e:O4}{p pos:Pos}{br:BA}(c:HN X.prog X.w X.K X.mg X.base "_law_draw" 1 ["_law_script","_law_town","_law_many"] (mL X.K))(hd:∀F,g.dr F->sZ X.K F)(hr:a5 1 X.A)(i:PA X (e::es) (jl g br))(f:Gl X "_law_draw":=by nofun)
  (h:hE9 X e es:=by nofun) (d:hP9 X pos es:=by nofun):PE X (.Call (.Name "_law_draw" p) (e::es) [] pos) (up g<|yD br) :=
 PE.imp (B9 hd) (Du c hr i f (by decide) h d)
end
section
def ID:List AV->aN->(AV->aN->Bool)->Bool:=λxs S k=>match xs with
 | [.int false lo f,.int false c d]=>k (.int false (rh lo c)<|rh f d) S
 | [.int true lo f,.int true c d]=>k (.int true (rh lo c)<|rh f d) S
 | [.int false lo f,.int true c d]=>match fA f (c+1) with
  | true=>k (.int true c d) S
  | false=>false
 | [.int true lo f,.int false c d]=>match fA d (lo+1) with
  | true=>k (.int true lo f) S
  | false=>false
 | _=>false
theorem qi:nY g xU ID:=by
 intro F y ρ S H xs I k Q C l h p;unfold ID at h;split at h
 ·cases l with | cons r t=>cases t with | cons d t'=>cases t' with | nil=>
  obtain⟨i,rfl,z,u⟩:=r;obtain⟨j,rfl,o,m⟩:=d;show Q (.int<|if j > i then j else i) H;refine p.here C (av:=.int false _ _) ⟨_,rfl,?_⟩ h;rw[oF,oF];split<;>constructor<;>omega
 ·cases l with | cons r t=>cases t with | cons d t'=>cases t' with | nil=>
  obtain⟨x,i,e,rfl,z,u⟩:=r;obtain⟨f,j,c,rfl,o,m⟩:=d;rw[e] at c;cases c;show Q (.int<|if j > i then j else i) H;refine p.here C (av:=.int true _ _) ⟨x,_,e,rfl,?_⟩ h;rw[oF,oF];split<;>constructor<;>omega
 ·split at h
  ·rename_i q;rw[bO] at q;cases l with | cons r t=>cases t with | cons d t'=>cases t' with | nil=>
   obtain⟨i,rfl,z,u⟩:=r;obtain⟨f,j,c,rfl,o,m⟩:=d;have:=C.pos _ c;show Q (.int<|if j > i then j else i) H;refine p.here C (av:=.int true _ _) ⟨f,_,c,rfl,?_⟩ h;split<;>constructor<;>omega
  ·cases h
 ·split at h
  ·rename_i q;rw[bO] at q;cases l with | cons r t=>cases t with | cons d t'=>cases t' with | nil=>
   obtain⟨f,i,c,rfl,z,u⟩:=r;obtain⟨j,rfl,o,m⟩:=d;have:=C.pos _ c;show Q (.int<|if j > i then j else i) H;refine p.here C (av:=.int true _ _) ⟨f,_,c,rfl,?_⟩ h;split<;>constructor<;>omega
  ·cases h
 ·cases h
end
def wN:AV->Bool
 | .ref _=>false
 | .tc h t=>match wN h with
  | true=>wN t
  | false=>false
 | _=>true
section
variable{y y1:Option Int}{ρ ρ1 ρ2:List OD}{H H1:Hp}{S:aN}
theorem mM:∀{av:AV},wN av=true->(∀v,aQ F y ρ H av v->aQ F y ρ2 H av v)/\∀vs,rc F y ρ H av vs->rc F y ρ2 H av vs
 | .non,_=>⟨λ_ h=>h,λ_ h=>h⟩
 | .bl _,_=>⟨λ_ h=>h,λ_ h=>h⟩
 | .int false _ _,_=>⟨λ_ h=>h,λ_ h=>h⟩
 | .int true _ _,_=>⟨λ_ h=>h,λ_ h=>h⟩
 | .str _,_=>⟨λ_ h=>h,λ_ h=>h⟩
 | .ext _,_=>⟨λ_ h=>h,λ_ h=>h⟩
 | .tn,_=>⟨λ_ h=>h,λ_ h=>h⟩
 | .ref _,h=>nomatch h
 | .tc a t,h=>by
  unfold wN at h;split at h
  ·rename_i q;have j:=mM (av:=a) q;have i:=mM (av:=t) h;exact⟨λv ⟨b,w,f,e,l,d,c⟩=>⟨b,w,f,e,l,j.1 w d,i.2 f c⟩,λvs ⟨w,r,e,d,c⟩=>⟨w,r,e,j.1 w d,i.2 r c⟩⟩
  ·cases h
def qj:List AV->Bool
 | []=>true
 | a::r=>match wN a with
  | true=>qj r
  | false=>false
theorem qo:∀{c:List AV} {vs:List V},qj c=true->aR F y ρ H c vs->aR F y ρ2 H c vs
 | _,_,_,.nil=>.nil
 | _,_,h,.cons p q=>by
  unfold qj at h;split at h
  ·rename_i z;exact .cons ((mM z).1 _ p) (qo h q)
  ·cases h
theorem aH.none(C:aH g F y ρ S H):aH g F y [] ⟨0,S.sym,.lf⟩ H :=
 ⟨rfl,C.sym,C.pos,RP,λi a e=>by simp at e,λ_ h=>(nomatch h),C.fe,C.ol,C.J,C.fl⟩
theorem aA.wide(st:aA F y [] H y ρ1 H1):aA F y ρ H y ρ H1 :=
 ⟨λ_ h=>h,⟨[],by simp⟩,λ_ h=>.inl h,λb o h n w=>st.keep b o h (λz=>nomatch z) w,st.tup,st.live,st.frz⟩
theorem aH.wide(C:aH g F y ρ S H)(st:aA F y [] H y ρ1 H1)(j:F.J H1):aH g F y ρ S H1:=by
 have d:aA F y ρ H y ρ H1:=st.wide;refine⟨C.n,C.sym,C.pos,C.nd,λi c f=>?_,C.own,C.fe,λb w q=>C.ol b w (st.live b q),j,C.fl⟩;obtain⟨o,ho,m,l,h⟩:=C.at_ i c f;exact⟨o,ho,m,st.keep c ho l (λz=>nomatch z)<|C.own c<|O9 f,dO.mono d h⟩
end
def M5:Bool->Bool->Bool
 | true,true=>true
 | false,false=>true
 | _,_=>false
theorem E8:∀{a b:Bool},M5 a b=true->a=b
 | true,true,_=>rfl
 | false,false,_=>rfl
def Oj(f:BF)(c:List AV):BF:=λ_ S k _=>match qj c with
 | true=>match f c ⟨0,S.sym,.lf⟩ (λv d=>match v with | .tn=>M5 d.sym S.sym | _=>false) (λ_ _ _=>false) with
  | true=>k .tn S
  | false=>false
 | false=>false
section
variable{k n:Nat}{f:BF}
def Kk(f:BF):BF:=λc S k ke=>match qj c with
 | true=>match f c ⟨0,S.sym,.lf⟩ (λv d=>match v with | .tn=>M5 d.sym S.sym | _=>false) (λ_ _ _=>false) with
  | true=>k .tn S
  | false=>f c S k ke
 | false=>f c S k ke
theorem As{Q:VK}{E:XK}:jP gy n (Kk f) vs H Q E->jP gy n f vs H Q E:=by
 rintro ⟨F,y,ρ,S,c,m,ke,C,r,j,h,p,l⟩;unfold Kk at h;split at h
 ·rename_i L;split at h
  ·rename_i O;refine⟨F,y,[],_,_,_,_,C.none,qo L r,j,O,λi x Y H1 av v st C1 I d=>?_,λ_ _ _ _ _ _ _ _ _ _ z=>by cases z⟩;dsimp only at d;split at d
   ·have u:=(C1.sym.symm.trans<|E8 d).trans C.sym;have U:i=y:=by
     cases o:y with
     | none=>rw[o] at u;cases i with
      | none=>rfl
      | some z=>cases u
     | some z=>exact st.y z o
    subst U;exact p i ρ S H1 .tn v st.wide (C.wide st C1.J) I h
   ·cases d
  ·exact⟨F,y,ρ,S,c,m,ke,C,r,j,h,p,l⟩
 ·exact⟨F,y,ρ,S,c,m,ke,C,r,j,h,p,l⟩
theorem wO{CX:kr}{x:Str}(c:cF P w K mg base gy CX x k n f):cF P w K mg base gy CX x k n (Kk f):=let ⟨j,fd,ps,a,F,b⟩:=c
 ⟨j,fd,ps,a,⟨λvs H Q E h=>F.len vs H Q E (As h),λA outer s H args us vs Q E hr i hb d hs=>F.run A outer s H args us vs Q E hr i hb d (As hs)⟩,b⟩
end
section
variable{y y1:Option Int}{ρ ρ1 ρ2:List OD}{H H1:Hp}{S:aN}
end
end RB
namespace L2
open PySem PySem.Spec PyProof.Rows
section
end
section
end
end L2
namespace RB
open PySem PySem.Spec PyProof.Rows L2
end RB
namespace L2
open PySem PySem.Spec PyProof.Rows
@[reducible] def IE(CX:kr)(P:Ph)(w:Py)(K:OK)(mg:Str->Option OC)(base:Pk)(N:List Str)(qual:Str)(scope:PQ)(f:OD)(cd:OC)(cl:List (Str×OD))(A:Qz)(outer:List Env)(s:OI)(H:Hp)(E:XK):Cx where
 prog:=P
 w:=w
 K:=K
 mg:=mg
 base:=base
 A:=A.deeper (Rf qual scope s.heap.objs.size f cd cl)
 N:=N
 s₀:=s
 H₀:=H
 env:=Rf qual scope s.heap.objs.size f cd cl
 outer:=outer
 stack:=Rf qual scope s.heap.objs.size f cd cl::outer
 ex:=[]
 calm:=true
 fn:=λ_=>false
 pn:=[]
 xe:=λe s'=>OM (OP P w) (A.deeper<|Rf qual scope s.heap.objs.size f cd cl) (Vk (Rf qual scope s.heap.objs.size f cd cl) e) (λ_ c=>CX outer H s E e c) (λd c=>CX outer H s E d c) s'
section
variable{N:List Str}{qual:Str}{scope:PQ}{f:OD}{cd:OC}{cl:List (Str×OD)}{outer:List Env}{s0 s:OI}{H0 H:Hp}{E:XK}
theorem aM:cw (bL P w) (IE (bL P w) P w K mg base N qual scope f cd cl A outer s0 H0 E) E:=by
 rintro pins σ H s ev s' I ⟨e,C,H1,i,os,bare,un,hok,F,q⟩;subst i;have ne:∀b,b∉(IE (bL P w) P w K mg base N qual scope f cd cl A outer s0 H0 E).ex:=λb z=>nomatch z;obtain⟨h,g,d,t,c⟩:=s';obtain rfl:c=s.os:=os;have J:=I.call (h':=h) (g':=g) (d':=d) (t':=t) (ch:=[]) un hok bare (λb z=>absurd z (by simp));refine EQ (base:=base) (h0:=s0.heap) (H:=H1) J.ok.frames rfl J.stack (λx o z=>J.base.there x o z (ne x)) J.tracked (F.back λx o z=>I.base.there x o z (ne x)) λh' a=>?_;obtain⟨un,hok⟩:=J.aft rfl a;exact⟨e,C,H1,rfl,J.os,J.bare,un,hok,a.flew,q⟩
structure wP(base:Pk)(f:OD)(qual:Str)(params:RO)(body:O4)(scope:PQ)(cl:List (Str×OD))(c':OD)(N:List Str)(cap:St):Prop where
 obj:∃pm ctv,base.get? f=some (Sd "<lambda>" qual params body scope cl pm c' ctv)
 cell:∀x c,cl.lookup x=some c->∃v,base.IsCell c v
 inj:∀x y c,cl.lookup x=some c->cl.lookup y=some c->x=y
 has:∀x,scope.names.lookup x=some .free->∃c,cl.lookup x=some c
 caps:∀(i:Nat) (x:Str) (v:V),N[i]?=some x->cap[i]?=some (some v)->Hz scope x->∃u c,aI v u/\scope.names.lookup x=some .free/\cl.lookup x=some c/\base.IsCell c (some u)
 len:cap.length=N.length
theorem Hg{CX:kr}{k:Nat}{c':OD}{params:RO}{body:O4}{C:St}{t:XK->TE}{Q:VK}(L:wP base f qual params body scope cl c' N C)
  (hk:scope.kind=.function) (hco:scope.isCoroutine=false) (Z:scope.isGenerator=false) (m:∀x∈scope.names,x.2≠.cell) (hb:∀pm ctv,RN (RS "<lambda>" qual params body scope cl pm (.ref c') ctv) ⟨[],[]⟩=pure [])
  (hbody:a5 k (A.deeper<|Rf qual scope s.heap.objs.size f (.ref c') cl)->PE (IE CX P w K mg base N qual scope f (.ref c') cl A outer s H E) body (t E))
  (hr:a5 (k+1) A) (l:jd P w K mg base A outer s H) (hc:H c'=some (fR c' qual)) (h:t E C H Q):RX (OP P w) A (.call (.ref f) ⟨[],[]⟩) (CR CX outer P w H s Q E) s:=by
 obtain⟨pm,ctv,ho⟩:=L.obj;have lim:s.heap.NoLimit:=l.mod.nolimit.keeps λb o e=>(l.bs b o e).1;refine VZ hr.depth (l.bs _ _ ho).1 rfl hco Z rfl (l.hok c' _ hc).1 ?_;rw[hb];refine OE (TY m (λx hx=>nomatch hx) (λh₁ hns Y=>⟨lim.fresh _ Y,?_⟩) hk);show RX _ _ (.expr body<|Rf qual scope s.heap.objs.size f (.ref c') cl) _ _;have j:∀b o,s.heap.get? b=some o->h₁.get? b=some o:=λb o e=>Y.extBut b o (O0<|OO e) (OF _ e);have U:∀c v,base.IsCell c v->h₁.IsCell c v:=λc v ⟨o,e,d⟩=>⟨o,j _ _ (l.bs _ _ e).1,d⟩
 have fz:∀c v,base.IsCell c v->H c=none:=λc v ⟨o,e,d⟩=>(l.bs _ _ e).2;have O:∀b:OD,b∉(IE CX P w K mg base N qual scope f (.ref c') cl A outer s H E).ex:=λb z=>absurd (show b∈([]:List OD) from z) (by simp);have I:ay (IE CX P w K mg base N qual scope f (.ref c') cl A outer s H E) [] C H {s with heap:=h₁,toks:=s.toks+([]:List (Str×OC)).length}:=by
  refine⟨⟨l.mod,hk,rfl,rfl,OU _,L.inj,λy hy=>?_,λy c z _=>(nomatch z),λ_=>hr.hd,TX l.frames,.inr ⟨rfl,rfl⟩,λb z=>absurd z (O b),l.bs,l.bsz,λb _ _=>O b,λb z=>absurd z (O b),l.funs,l.frf⟩,
   rfl,l.bare,Un.kept j,⟨_,hns,λi y v h1 h2 h3=>?_⟩,λy c h=>?_,l.hok.fresh<|OU _,λy c h=>?_,λp hp=>absurd (show p∈([]:List (OD×Obj)) from hp) (by simp),l.hok.kept j,L.len⟩
  ·have hy:scope.names.lookup y=some .cell∨scope.names.lookup y=some .free:=hy;rcases hy with hy | hy
   ·exact absurd rfl (m _<|QU hy)
   ·exact L.has y hy
  ·obtain⟨u,c,r,k1,k2,k3⟩:=L.caps i y v h1 h2 h3;exact⟨u,r,.inr ⟨.inr k1,c,k2,U _ _ k3⟩⟩
  ·obtain⟨v,z⟩:=L.cell y c h;exact⟨v,U _ _ z⟩
  ·obtain⟨v,z⟩:=L.cell y c h;exact fz _ _ z
 refine V0 (Pf (hbody (hr.deeper _) [] _ C H Q I h) (λu s' z9=>da z9 λv H' J r q=>?_) λe s' z=>z);exact⟨v,H',J.os,J.bare,J.base,J.hok,r,q⟩
end
theorem yE{a b c f:OC}(l:List OC)(h:TriplesOk l)(e:SV pos (l++[a,b,c])=some f):SV pos l=some f∨f=c:=by
 fun_induction TriplesOk l with
 | case1=>
  simp only[Yj] at e;unfold SV at e;split at e
  ·rename_i q;cases q;split at e
   ·cases e;exact .inr rfl
   ·cases e
  ·cases e
 | case2 a t b u x rest i=>
  simp only[XG,SV] at e ⊢;split at e
  ·rename_i d;rw[if_pos d];exact .inl e
  ·rename_i d;rw[if_neg d];exact i h e
 | case3 l m j=>exact h.elim
section
variable{c P:OD}{qual:Str}
theorem ay.tab{c':OD}{ps j more:Array OC}{g:Pk}{tk:Nat}(I:ay X pins σ H s)(d:H P=some (.tbl ps))(Y:j=ps++more)(L:oA P s.heap g)(hP:g.get? P=some (RG j))(O:g.CodeRec (.ref c') qual)
  (hc:(s.heap.get? c'=none/\H c'=none)∨H c'=some (fR c' qual)) :
  ∃i,i P=some (.tbl j)/\i c'=some (fR c' qual)/\(∀b o,b≠P->H b=some o->i b=some o)/\(∀b,b≠P->b≠c'->i b=H b)/\ay X pins σ i {s with heap:=g,toks:=tk}:=by
 have C:∀b o,H b=some o->(∀ps,o≠.tbl ps)->b≠P:=λb o e n z=>by rw[z,d] at e;cases e;exact n _ rfl
 have U:c'≠P:=λz=>by
  rcases hc with ⟨_,n⟩ | n
  ·rw[z,d] at n;cases n
  ·rw[z,d] at n;cases n
 generalize hH:upd (upd H P<|.tbl j) c' (fR c' qual)=i;have gc:i c'=some (fR c' qual):=by rw[<-hH];exact aq
 have gP:i P=some (.tbl j):=by rw[<-hH,al U.symm];exact aq
 have go:∀b,b≠P->b≠c'->i b=H b:=λb n1 n2=>by rw[<-hH,al n2,al n1]
 have same:∀b o,b≠P->H b=some o->i b=some o:=λb o n e=>by
  by_cases h:b=c'
  ·rcases hc with ⟨_,n'⟩ | n'
   ·rw[h,n'] at e;cases e
   ·rw[h,n'] at e;rw[h,gc];exact e
  ·rw[go b n h];exact e
 refine⟨i,gP,gc,same,go,?_⟩;show ay X pins σ i {s with heap:=g,gens:=s.gens,drawn:=s.drawn,toks:=tk};refine I.step (ch:=[]) (λ_ z=>nomatch z) (λb o _ _ _ e n=>L b o (λz=>by rw[z,d] at n;cases n) e) (λb o _ _ _ e n=>⟨o.slots,L b o (λz=>by rw[z,d] at n;cases n) e⟩)
  (λb o _ e n=>?_) (λb o _ e=>?_) (λb xs e=>same b _ (C b _ e λ_ z=>by cases z) e) (λb o u e=>same b _ (C b _ e λ_ z=>by cases z) e) (λb qs e=>?_) (λm hm=>?_) (λb o e=>?_) I.bare
 ·by_cases h:b=c'
  ·rcases hc with ⟨n',_⟩ | n'
   ·rw[h,n'] at e;cases e
   ·rw[h,n'] at n;cases n
  ·by_cases f:b=P
   ·rw[f,d] at n;cases n
   ·rw[go b f h];exact n
 ·by_cases f:b=P
  ·rw[f];exact⟨_,hP⟩
  ·exact⟨o,L b o f e⟩
 ·by_cases f:b=P
  ·rw[f,d] at e;cases e;exact⟨more,by rw[f,gP,Y]⟩
  ·exact⟨#[],by rw[same b _ f e];simp⟩
 ·obtain⟨o,es,ep,ho,r⟩:=hm;exact⟨o,es,ep,L _ o (λz=>by have:=I.free;rw[z,d] at this;cases this) ho,r⟩
 ·by_cases h:b=c'
  ·rw[h,gc] at e;cases e;rw[h];refine⟨O,?_,?_⟩
   ·obtain⟨c2,Q,_,_,e2,p,_⟩:=O;cases e2;exact⟨Q,p⟩
   ·rintro h4 h5 ⟨c2,Q,vs,tt,e2,p,r⟩ Z;cases e2;exact⟨_,Q,vs,tt,rfl,Z Q p,r⟩
  ·by_cases f:b=P
   ·rw[f,gP] at e;cases e;rw[f];exact hP
   ·rw[go b f h] at e;refine(I.hok b o e).stay (λl u hb' x=>L l u ?_ x) (λl x=>?_) λl zs x=>?_
    ·rcases hb' with rfl | e2
     ·exact f
     ·exact C l _ e2 λ_ z=>by cases z
    ·exact same l _ (C l _ x λ_ z=>by cases z) x
    ·exact same l _ (C l _ x λ_ z=>by cases z) x
theorem E9{Q:OC->OI->Prop}{d:RO}{j:O4}{i:PQ}{Y:Pos}{cl:List (Str×OD)}(L:Bc X.K X.mg c P)(hB:X.base.BuiltinsAt X.mg P)(p:X.env.code=.ref c)(I:ay X pins σ H s)(hT:iR H P (X.env.qual++"<lambda>"))
  (hdef:WX d X.env=([],[])) (hcl:UE i X.env=pure cl)
  (k:∀f c' pm l H1 g tk,ay X pins σ H1 {s with heap:=g,toks:=tk}->iR H1 P (X.env.qual++"<lambda>")->(∀b o,b≠P->H b=some o->H1 b=some o)->H1 c'=some (fR c'<|X.env.qual++"<lambda>") ->
   g.get? f=some (Sd "<lambda>" (X.env.qual++"<lambda>") d j i cl pm c' l)->s.heap.get? f=none->H1 f=none->Q (.ref f) {s with heap:=g,toks:=tk}) :
  OM (OP X.prog X.w) X.A (Pq (.Lambda d j i Y) X.env) Q E s:=by
 obtain⟨ps,hP,h3,x⟩:=hT;have r:s.heap.get? P=some (RG ps):=I.hok P _ hP;have hbA:s.heap.BuiltinsAt X.mg P:=by
  obtain⟨bm,ob,b1,b2,b3,b4,b5,b6⟩:=hB;exact⟨bm,ob,b1,b2,b3,b4,I.bk _ _ b5,b6⟩
 have hgl:X.env.globals=Pe:=I.ok.glob;have hns:s.heap.Ns Pe X.mg:=I.mod.glob.keeps I.bk;refine XF hdef ?_;have O:∀b,s.heap.get? b=none->H b=none:=λb z=>by
  cases q:H b with
  | none=>rfl
  | some o=>obtain⟨u,hu⟩:=(I.hok b o q).some;rw[z] at hu;cases hu
 cases hn:SV Y ps.toList with
 | none=>
  refine UX (mg:=X.mg) hcl hgl hns p (L.hd _ I.kIn) r h3 hn L.ng hbA λc' l g tk hx1 hge hlt m htb=>?_;have fr:s.heap.get? c'=none:=Qa hge;have h3':TriplesOk (ps++#[Rl Y.line,Rl Y.col,.ref c']).toList:=by simpa[Rl] using TriplesOk.snoc h3
  obtain⟨H3,gP,gc,same,go,J⟩:=I.tab (c':=c') (tk:=tk) (qual:=X.env.qual++"<lambda>") hP rfl (λb o n e=>OF _ (hx1 b o n e)) (OF (h:=g) (Sd "<lambda>" (X.env.qual++"<lambda>") d j i cl ((X.mg "__name__").getD .none) c' l) htb) (m.push _) (.inl ⟨fr,O _ fr⟩);have hsz:s.heap.objs.size≤g.objs.size:=PV hge (QP hlt);refine k _ c' _ l H3 _ tk J ⟨_,gP,h3',λpos cv e=>?_⟩ same gc (OQ _ rfl) (Qa hsz) ?_
  ·rw[Array.toList_append] at e;rcases yE _ h3 e with e | rfl
   ·obtain⟨c2,e2,C⟩:=x pos cv e;exact⟨c2,e2,same _ _ (λz=>by rw[z,hP] at C;cases C) C⟩
   ·exact⟨c',rfl,gc⟩
  ·have:s.heap.get? g.objs.size=none:=Qa hsz;rw[go _ (λz=>by rw[z,r] at this;cases this) (So hlt)];exact O _ this
 | some cv=>
  obtain⟨c',rfl,Z⟩:=x Y cv hn;refine Uo (mg:=X.mg) hcl hgl hns p (L.hd _ I.kIn) r h3 hn hbA λl g tk hk1 hsz=>?_;have m:s.heap.CodeRec (.ref c') (X.env.qual++"<lambda>"):=(I.hok c' _ Z).1;obtain⟨H3,gP,gc,same,go,J⟩:=I.tab (c':=c') (tk:=tk) (more:=#[]) (qual:=X.env.qual++"<lambda>") hP (by simp) (λb o n e=>OF _ (hk1 b o e)) (OF (h:=g) (Sd "<lambda>" (X.env.qual++"<lambda>") d j i cl ((X.mg "__name__").getD .none) c' l)<|hk1 _ _ r) ((m.keeps hk1).push _) (.inr Z);have U:s.heap.get? g.objs.size=none:=Qa hsz;have nf:g.objs.size≠P:=λz=>by rw[z,r] at U;cases U
  have nc:g.objs.size≠c':=λz=>by
   obtain⟨c2,oc,_,_,e2,hoc,_⟩:=m;cases e2;rw[z,hoc] at U;cases U
  refine k _ c' _ l H3 _ tk J ⟨_,gP,h3,λpos cv e=>?_⟩ same gc (OQ _ rfl) U (by rw[go _ nf nc];exact O _ U);obtain⟨c2,e2,C⟩:=x pos cv e;exact⟨c2,e2,same _ _ (λz=>by rw[z,hP] at C;cases C) C⟩
end
section
theorem Kl{x:Str}{i k:Nat}{p pos:Pos}{f c':OD}{qual:Str}{params:RO}{body:O4}{scope:PQ}{cl:List (Str×OD)}{N:List Str}{l:St}{t:XK->TE}(hi:X.N[i]?=some x)(hv:Hz X.env.scope x)(L:wP X.base f qual params body scope cl c' N l)
  (hk:scope.kind=.function) (o:scope.isCoroutine=false) (h:scope.isGenerator=false) (c:∀x∈scope.names,x.2≠.cell) (hb:∀Y j,RN (RS "<lambda>" qual params body scope cl Y (.ref c') j) ⟨[],[]⟩=pure [])
  (hbody:∀(s:OI) (H:Hp) (E:XK),a5 k (X.A.deeper<|Rf qual scope s.heap.objs.size f (.ref c') cl)->PE (IE (bL X.prog X.w) X.prog X.w X.K X.mg X.base N qual scope f (.ref c') cl X.A X.stack s H E) body (t E))
  (hr:a5 (k+1) X.A) (hd:(x==("__debug__":Str))=false:=by decide) (O:(x==("__classdict__":Str))=false:=by decide) :
  PX X (.Call (.Name x p) [] [] pos) (λE σ H Q=>σ[i]?=some (some<|.ref f)/\H c'=some (fR c' qual)/\t E l H Q):=by
 rintro pins s σ H Q E I ⟨h1,h2,h3⟩;refine PR (Pf (xw (X:=X.nox) hi hv hd O pins s σ H (λv H1=>v=.ref f/\H1=H) (I.wish _) ⟨_,h1,rfl,rfl⟩) (λu U Z=>?_) λ_ _ z=>z.elim);obtain⟨v,H1,I1,rv,ev,eh⟩:=Z;subst ev eh;obtain rfl:u=OX f:=rv;have m:=I1.unwish;obtain⟨Y,j,ho⟩:=L.obj;refine PySem.W.callWith_F0 ⟨_,_,_,_,m.bk _ _ ho⟩ (QF<|Qf (Hg L hk o h c hb (hbody U H1 E) hr m.env0 h2 h3) λr s' d=>?_);cases r with
 | error e=>
  obtain⟨e,C,H',rfl,os,bare,un,hok,F,q⟩:=d;exact⟨H1,H',U,e,C,rfl,m,⟨os,bare,un,hok,F⟩,q⟩
 | ok fl=>
  cases fl with
  | ret u=>exact m.after d
  | next=>exact Pa d
  | brk=>exact Pa d
  | cont=>exact Pa d
def mO(e:OD)(C:OC×Option OD):HO:=.ext λh=>∃o,h.get? e=some o/\(o.cls,o.dict)=C/\YU o=true
theorem Hh{t:XK->TE}{ec:O4}{fo ke y n:Str}{iv j:Nat}{D:OD}{fp kp np i ap m l tp:Pos}(hX:X.stack=X.env::X.outer)(hf:X.env.frame=some X.env.locals)(hex:X.ex=[])(hpn:X.pn=[])(hN:X.N.Nodup)
  (hiv:X.N[iv]?=some ke) (O:X.N[j]?=some n) (hv:X.env.scope.names.lookup ke=some .local) (hn:X.env.scope.names.lookup n=some .local) (hvn:iv≠j) (he:PX X ec t)
  (hg:Gl X y) (hm:X.mg y=some (.ref D))
  (hs1:Qq ec (some<|.Name fo fp) ap.line X.env=pure false) (hs2:Qq (.Name n i) (some<|.Name ke kp) m.line X.env=pure false)
  (hd:(y==("__debug__":Str))=false:=by decide) (hdn:(n==("__debug__":Str))=false:=by decide) (hcn:(n==("__classdict__":Str))=false:=by decide) :
  PS X (.Try [.Assign [.Name fo fp] ec ap] [.ExceptHandler (some<|.Name y np) (some n) [.Assign [.Name ke kp] (.Name n i) m] l] [] [] tp)
   (λB σ H=>t (λC d r=>QT X.K C (.ref D)=some true/\∀e,r e=none->B.nx ((σ.set iv<|some<|.ref e).set j none) (upd r e<|mO e (C,d))) σ H λ_ _=>False):=by
 intro pins s σ H B I h;refine XM (Rg<|UN (Pf (he pins s _ _ _ _ I h) (λu s2 ⟨_,_,_,_,z⟩=>z.elim) λev s2 z9=>?_) hs1);obtain⟨H1,r,s3,e,C,hev,I3,R,q1,q2⟩:=z9;subst hev;refine EZ I3 R hX hf hg hm q1 (λs' R'=>?_) hd;obtain⟨Z,vs,T,oT,ts,a0,p1,p2,p3,p4,p5,p6,p7,p8,p9,Y,I5⟩:=R'.pin hex I3;have hjl:j<σ.length:=by have:=I3.len;have h2:=(OL.mp O).1;omega
 refine f8 (X:=X.marked e λ_ _=>False) I5.mark hN O (.inl hn) (v:=.ref e) rfl (λs6 I6=>?_) (.inr hn);refine Rg (bi (kn (X:=X.marked e λ_ _=>False) hN hiv (.inl hv) (xw O (.inl hn) hdn hcn) hs2 (.inr hv) _ s6 _ r {nx:=λU H'=>U=((σ.set j<|some<|.ref e).set iv (some<|.ref e))/\H'=r,rt:=λ_ _=>False} I6 ?_) λfl s7 L=>?_)
 ·exact⟨.ref e,RW hjl,rfl,rfl⟩
 ·cases fl with
  | next=>
   obtain⟨_,H7,I7,rfl,rfl⟩:=L;refine Rw (Ha (I7.unmark I3.ok) hN O hn λs8 Q=>?_);have f:=Q.pin (e,Z) (OV _<|by simp);have hse:((σ.set j<|some<|V.ref e).set iv (some<|V.ref e)).set j none=(σ.set iv<|some<|.ref e).set j none:=by
    rw[Zc _ _ (Qp hvn),List.set_set]
   rw[hse] at Q;have I9:=(Q.drop).adopt (o:=mO e C) p8 f.2.1 f.2.2.1 (λx c q z=>?_) (λp hp=>(Y p hp).1) ⟨⟨Z,f.1,p1,by unfold YU;rw[p3]⟩,⟨Z,f.1⟩,λh1 h2 ⟨o,e1,e2⟩ k=>⟨o,k o e1,e2⟩⟩
   ·exact⟨_,_,I9,q2 e f.2.1⟩
   ·obtain⟨v,o,ho,hdd⟩:=Q.cell x c q;rw[z,f.1] at ho;cases ho;exact f.2.2.2.2 _ hdd
  | ret u=>obtain⟨_,_,_,_,_,z⟩:=L;exact z.elim
  | brk=>obtain⟨_,_,_,z⟩:=L;exact z.elim
  | cont=>obtain⟨_,_,_,z⟩:=L;exact z.elim
end
end L2
namespace PySem
section
variable{h:Pk}{g:Array Ys}{d:Drawn}{t:Nat}{os:OsState}
variable{nm q:Str}{C N:OD}{bs bm bmB:List OC}{hdct:Bool}{sn:List Str}{sub:List OC}{ab:Bool}{col:Option Bool}{dd:Option OD}{k0 k1 k2 k3 k5:Option OC}{B newId initId:String}
theorem oa(F:Xq B newId initId bmB)(T:ZW h bmB bm){mN:Str->Option OC}{rest:List OC}{p:OD}{u:Obj}{Q:Fin->OI->Prop}
  (i:h.get? C=some (T7 nm q C N bs bm hdct sn sub ab col dd k0 k1 k2 k3 k5 newId)) (hn:h.Ns N mN) (H:mN "__init__" = some (.ref p)) (l:h.get? p=some u) (j:u.cls=.type "function")
  (z:∀h' e,V9 h h' e (.ref C) rest->OM (OP prog w) A (call (.ref p) (.ref e::rest)) (λr s'=>r=.none/\Q (.done<|.ret<|.ref e) s') E ⟨h',g,d,t,os⟩) (hrest:rest.length≤OR) :
  OM (OP prog w) A (QS.«type.__call__» ⟨.ref C::rest,[]⟩) Q E ⟨h,g,d,t,os⟩:=by
 repeat (first | with_reducible refine Sm i ?_ | with_reducible refine wpAny_madeBy_exc i ?_ | wp_step)
 refine codeAny_call_builtin_code (SQ _ F.quiet) (wpAny_check_new_subT F T i ?_);refine codeAny_exc_new_subT F T i ?_ hrest;show OM _ _ _ _ _ _;have kp:∀b o,h.get? b=some o->((h.push {cls:=.type "tuple",data:=.seq rest.toArray}).push {cls:=.ref C,data:=.fields #[.ref h.objs.size,.none,.none,.none,.bool false,.none]}).get? b=some o:=λb o e=>OF _ (OF _ e);have f:((h.push {cls:=.type "tuple",data:=.seq rest.toArray}).push
   {cls:=.ref C,data:=.fields #[.ref h.objs.size,.none,.none,.none,.bool false,.none]}).get? (h.objs.size+1)=some
   {cls:=.ref C,data:=.fields #[.ref h.objs.size,.none,.none,.none,.bool false,.none]}:=by heap_get
 have m:(OX C::bm).contains (.ref C)=true:=by simp
 have c:=kp _ _ i;unfold TM
 repeat (first | with_reducible refine Sm f ?_ | (with_reducible refine Wv c ?_;rw[m]) | wp_step)
 show OM _ _ (Vm (.ref C) _) _ _ _;refine wpAny_typeLookup_tail c (hn.keeps kp) (T.keeps kp) F.mroIs F.init.lookup ?_;rw[H];refine Pg (OB ?_);unfold bindSpecial;refine OB (Uj (T:="function") ⟨_,kp _ _ l,j⟩ ?_);rw[if_pos (by decide)];refine OE (OB<|Pf (z _ (h.objs.size+1) ⟨kp,Qa<|XU _,h.objs.size,f,Qa<|OU _,?_⟩) (λr s' hr=>?_) λ_ _ x=>x)
 ·exact OF _ (Xr rfl rfl)
 ·obtain⟨rfl,hQ⟩:=hr
  wp_walk
  exact hQ
theorem yF(F:Xq B newId initId bmB)(T:ZW h bmB bm){mN:Str->Option OC}{rest:List OC}{j:OD}{l:Obj}{Q:OC->OI->Prop}
  (c:h.get? C=some (T7 nm q C N bs bm hdct sn sub ab col dd k0 k1 k2 k3 k5 newId)) (hn:h.Ns N mN) (p:mN "__init__" = some (.ref j)) (i:h.get? j=some l) (f:l.cls=.type "function")
  (m:∀h' e,V9 h h' e (.ref C) rest->OM (OP prog w) (A.under<|.builtin "type.__call__" ⟨.ref C::rest,[]⟩) (call (.ref j) (.ref e::rest)) (λr s'=>r=.none/\Q (.ref e) s') E ⟨h',g,d,t,os⟩) (hrest:rest.length≤OR) :
  OM (OP prog w) A (call (.ref C) rest) Q E ⟨h,g,d,t,os⟩:=by
 have z:=tc_lookup;have x:=tc_bind (.ref C);have u:(⟨h,g,d,t,os⟩:OI).TypeIs (.ref C) "type":=⟨_,c,rfl⟩
 refine QF (VC ?_);show OM _ _ (callAny (.ref C) _) _ _ _
 repeat (any_goals (first | assumption | with_reducible refine Sm c ?_ | wp_step))
 refine⟨rfl,?_⟩;refine codeAny_call_builtin_at (SQ _<|by decide +kernel) entry_typeCall (wpAny_check_type_call_sub c<|oa (hrest:=hrest) F T c hn p i f λh' e o=>?_);exact m h' e o
end
section
variable{M:Wy}{env:Env}
variable{nm q:Str}{C N:OD}{bs bm bmB:List OC}{hdct:Bool}{sn:List Str}{sub:List OC}{ab:Bool}{col:Option Bool}{dd:Option OD}{k0 k1 k2 k3 k5:Option OC}{B newId initId:String}
theorem yG{x:Sem OC}{Q:Flow->OI->Prop}(c:bm.contains (.type "BaseException")=true)(j:A.handled=none)
  (h:OM M A x (λv s₁=>∃e d' t,v=.ref e/\s₁.heap.get? C=some (T7 nm q C N bs bm hdct sn sub ab col dd k0 k1 k2 k3 k5 newId)/\s₁.heap.get? e=some {cls:=.ref C,dict:=d',data:=.fields #[.ref t,.none,.none,.none,.bool false,.none]}/\E (.ref e) s₁) E s) :
  OM M A (ZH env (some x) none) Q E s:=by
 have f:(OX C::bm).contains (.type "BaseException")=true:=by rw[List.contains_cons,c,Bool.or_true]
 unfold ZH;refine OB (Pf h (λv s₁ h₁=>?_) λ_ _ x=>x);obtain⟨e,d',t,rfl,i,l,m⟩:=h₁;obtain⟨o,g,d,tk,os⟩:=s₁
 repeat (first | with_reducible refine Sm l ?_ | with_reducible refine Sm i ?_ | (with_reducible refine Wv i ?_;rw[f]) | wp_step)
 exact wpAny_raiseNew_none j m
theorem wQ(F:Xq B newId initId bmB){mN:Str->Option OC}{x:Str}{Z j pos:Pos}{args:List O4}{L:OD}{Y:Obj}{Q:Flow->OI->Prop}
  (m:bm.contains (.type "BaseException")=true) (hh:A.handled=none) (l:(QE j<|O1 args env).any (·.1)=false) (hi:mN "__init__" = some (.ref L)) (H:Y.cls=.type "function")
  (h:OM (OP prog w) A (Pq (.Name x Z) env) (λf s₁=>f=.ref C/\OM (OP prog w) A (evalArgs (.ref C) true (QE j<|O1 args env) [])
   (λa c=>a.kw=[]/\a.pos.length≤OR/\c.heap.get? C=some (T7 nm q C N bs bm hdct sn sub ab col dd k0 k1 k2 k3 k5 newId)/\c.heap.Ns N mN/\ZW c.heap bmB bm/\c.heap.get? L=some Y /\
    ∀h' e,V9 c.heap h' e (.ref C) a.pos->OM (OP prog w) (A.under<|.builtin "type.__call__" ⟨.ref C::a.pos,[]⟩) (call (.ref L) (.ref e::a.pos)) (λr s'=>r=.none/\∃d' t,s'.heap.get? C=some (T7 nm q C N bs bm hdct sn sub ab col dd k0 k1 k2 k3 k5 newId)/\s'.heap.get? e=some {cls:=.ref C,dict:=d',data:=.fields #[.ref t,.none,.none,.none,.bool false,.none]}/\E (.ref e) s') E {c with heap:=h'}) E s₁) E s) :
  OM (OP prog w) A (exec (.Raise (some<|.Call (.Name x Z) args [] j) none pos) env) Q E s:=by
 rw[YS];refine OB (Qm<|yG (C:=C) (nm:=nm) (q:=q) (N:=N) (bs:=bs) (bm:=bm) (hdct:=hdct) (sn:=sn) (sub:=sub) (ab:=ab) (col:=col) (dd:=dd) (k0:=k0) (k1:=k1) (k2:=k2) (k3:=k3) (k5:=k5) (newId:=newId) m hh<|OB<|Pf (wpAny_Call_ofName<|Pf h (λf s₁ h₁=>?_) λ_ _ x=>x) (λv U o=>OB (Qm<|OE o)) λ_ _ x=>x);obtain⟨rfl,h₁⟩:=h₁;unfold Ta;refine OB (Pg<|Pf h₁ (λa c i=>OB (Qm ?_)) λ_ _ x=>x);obtain⟨apos,O⟩:=a;obtain⟨u,p,hC,hn,T,I,i⟩:=i;obtain rfl:O=[]:=u;obtain⟨hp,g,d,tk,os⟩:=c;simp only[l];refine OB (wpAny_keeperOf_exc hC ?_);refine OB (yF (hrest:=p) F T hC hn hi I H λh' e hm=>Pf (i h' e hm) (λr s' z=>?_) λ_ _ x=>x);obtain⟨rfl,d',t,z1,z2,z3⟩:=z;exact⟨rfl,OB<|Pg<|wpAny_point<|OE ⟨e,d',t,rfl,z1,z2,z3⟩⟩
end
namespace W
open Builtin Builtin.ObjectAttr
section
variable{K:OK}{x C:OD}{name:Str}{v:OC}{vs:Array OC}{Q:Unit->OI->Prop}
theorem set_exc{cd:ClassData}(X:K.In s.heap)(j:s.heap.get? x=some {cls:=.ref C,data:=.fields vs})(H:Sx K C=some cd)(U:∃c1 L,cd.mro=.ref c1::.ref L::[.type "ValueError",.type "Exception",.type "BaseException",.type "object"])(Y:cd.hasDict=true)
  (hs:Pc K (.ref C) "__setattr__" = some (some<|.builtin "object.__setattr__")) (ht:Pc K (.ref C) name=some none)
  (h:∀h',h'.Ns1 s.heap.objs.size (λy=>if y=name then some v else none)->h'.get? x=some {cls:=.ref C,dict:=some s.heap.objs.size,data:=.fields vs}->(∀b o,b≠x->s.heap.get? b=some o->h'.get? b=some o)->Q () {s with heap:=h',toks:=s.toks+2}) :
  OM (OP prog w) A (ZL (.ref x) name v) Q E s:=by
 have I:InstAt s.heap x {cls:=.ref C,data:=.fields vs} C none:=⟨j,rfl,rfl,trivial⟩
 have hm':P5 (OP prog w) s.heap (mroOf<|.ref C) cd.mro:=(Wc X H).andThen .now;obtain⟨c1,L,em⟩:=U;have f:=PySem.F.store_ValueError;have ho:cd.mro.contains (.type "object")=true:=by rw[em];simp
 have ne:cd.mro.isEmpty=false:=by rw[em];rfl
 have sub:P5 (OP prog w) s.heap (TM (.ref x)<|.type "object") true:=I.type.andThen (Tp X<|by unfold Ts;rw[H,Option.bind_some,if_neg (by rw[ne];decide),ho]);refine Zr X I hs ?_;refine RE f.slot.plain f.entry (@check_slot (OP prog w) _ _ {s with toks:=s.toks+1} "object.__setattr__" "object" "__setattr__" (.ref x) [.str name s.toks,v] [] _ f.kind f.split sub (f.args (.ref x) (.str name s.toks) v) ?_);rw[osa_eq,refuse_eq];refine OB (OB<|I.type.here (s:={s with toks:=s.toks+1})<|OB<|hm'.here (s:={s with toks:=s.toks+1}) ?_);rw[em,YV,YV,f.passes];refine OE (OB<|I.type.here (s:={s with toks:=s.toks+1})<|OB<|(QV X ht).here (s:={s with toks:=s.toks+1}) (OB<|OE ?_));obtain⟨h0,g,d,tk,os⟩:=s;dsimp only at j h X;refine OB (OE<|OB<|OB<|VR j<|OB<|(Wc X H).here (s:=⟨h0,g,d,tk+1,os⟩) ?_);rw[Y];have c:(h0.push {cls:=.type "dict",data:=.dict #[]}).get? x=some {cls:=.ref C,data:=.fields vs}:=OF _ j;have i:x≠h0.objs.size:=O0 (OO j);refine OB (wpAny_alloc'<|OB<|wpAny_update' c<|OE ?_);have r:((h0.push {cls:=.type "dict",data:=.dict #[]}).update x λo=>{cls:=o.cls,dict:=some h0.objs.size,data:=o.data,slots:=o.slots}).get? h0.objs.size=some {cls:=.type "dict",data:=.dict #[]} :=
  (P1 _ _ _ _ i.symm).trans (Xr rfl rfl)
 have p:((h0.push {cls:=.type "dict",data:=.dict #[]}).update x λo=>{cls:=o.cls,dict:=some h0.objs.size,data:=o.data,slots:=o.slots}).Ns h0.objs.size (λ_=>none) :=
  ⟨_,#[],_,r,rfl,λe Z=>absurd Z (by simp),λ_=>rfl⟩
 show OM _ _ (storeInDict h0.objs.size (.str name tk) name v) _ _ _;unfold storeInDict newKeyGuard;refine OB (OE<|OB<|ZM (W9 p) λh' l hs=>?_);obtain⟨oD,esD,epD,m,u,z⟩:=l.count (Yx name v Within.nil);refine OB (Xz m (by rw[u];exact XA (PV z<|by rw[P2,Uc,Pz];omega)) ?_);exact OE (h h' l ((hs.2 x i).trans (Qw _ c rfl)) λb o O q=>(hs.2 b<|O0<|OO q).trans ((P1 _ _ _ _ O).trans (OF _ q)))
end
end W
end PySem
namespace L2
open PySem PySem.Spec PyProof.Rows RB
def At(e:OD)(C:OC)(t:OD)(d:Option OD):HO:=.ext λh=>h.get? e=some {cls:=C,dict:=d,data:=.fields #[.ref t,.none,.none,.none,.bool false,.none]}
def IF(H:Hp)(e:OD):Hp:=λb=>if b=e then none else H b
section
variable{e:OD}
theorem lY{b:OD}(h:H b=none):IF H e b=none:=by unfold IF;split<;>first | rfl | exact h
theorem ay.forget{d:Pk->Prop}(I:ay X pins σ H s)(i:H e=some (.ext d)):ay X pins σ (IF H e) s:=by
 have ne:∀{b u},H b=some u->u≠.ext d->IF H e b=some u:=λ{b u} q n=>by
  unfold IF;rw[if_neg λz=>n ?_];exact q;rw[z,i] at q;exact(O6 q).symm
 refine⟨I.ok,I.os,I.bare,⟨I.base.keep,I.base.slot,λb o q n nx=>lY (I.base.free b o q n nx),I.base.there,λb xs q=>ne (I.base.tups b xs q) (λz=>nomatch z),λb o u q=>ne (I.base.frzs b o u q) (λz=>nomatch z),λb ps q=>(I.base.tbls b ps q).imp λ_ z=>ne z (λz=>nomatch z)⟩,I.loc,I.cell,lY I.free,λx c q=>lY (I.freeC x c q),λp h=>?_,λb ob q=>?_,I.len⟩
 ·obtain⟨q1,q2,f⟩:=I.pin p h;exact⟨q1,lY q2,f⟩
 ·unfold IF at q;split at q
  ·cases q
  ·exact(I.hok b ob q).stay (λ_ _ _ q=>q) (λc q=>ne q (λz=>nomatch z)) λc xs q=>ne q (λz=>nomatch z)
theorem ay.adopt'{a:OD}{o:HO}{d:OI}(I:ay X pins σ H s)(I1:ay X pins σ H d)(f:X.ex=[])(h:s.heap.get? a=none)(new:bj X.prog X.w (upd H a o) d.heap a o):ay X pins σ (upd H a o) d:=by
 have z:∀{b ob},s.heap.get? b=some ob->b≠a:=λ{b ob} q z=>by rw[z,h] at q;cases q
 refine I1.adopt (I.not0 f h) (I.notH h) ?_ (λx c q=>?_) (λp i=>z (I.pin p i).1) new
 ·obtain⟨m,⟨o,_,_,q,_⟩,_⟩:=I.loc;exact Qp (z q)
 ·obtain⟨v,o,q,_⟩:=I.cell x c q;exact z q
end
structure KS(K:OK)(C:OD)(f:Str):Prop where
 cls:∃cd c1 c2,Sx K C=some cd/\cd.mro=.ref c1::.ref c2::M3/\cd.hasDict=true
 sa:Pc K (.ref C) "__setattr__" = some (some<|.builtin "object.__setattr__")
 no:Pc K (.ref C) f=some none
section
variable{e t C:OD}
theorem Hi{u:OC}{Q:Unit->OI->Prop}(I:ay X pins σ H s)(r:X.ex=[])(d:H e=some (At e (.ref C) t none))(c:KS X.K C "blocker")
  (h:∀f s',H f=none->f≠e->ay X pins σ (upd (upd H e<|At e (.ref C) t<|some f) f<|xq f u) s'->Q () s'):OM (OP X.prog X.w) A (ZL (.ref e) "blocker" u) Q E s:=by
 obtain⟨cd,c1,c2,Z,O,Y⟩:=c.cls;refine PySem.W.set_exc I.kIn (I.hok e _ d).1 Z ⟨c1,c2,O⟩ Y c.sa c.no λh' hn ho U=>h s.heap.objs.size _ I.fresh (λz=>by rw[<-z,I.fresh] at d;cases d) ?_;have I1:=I.write (x:=e) (e:=e) (h':=h') (t':=s.toks+2) (o:=At e (.ref C) t (some s.heap.objs.size)) (by rw[d];exact Qt) (.inl rfl) U ⟨_,ho⟩ ⟨ho,⟨_,ho⟩,λh1 h2 a k=>k _ a⟩;have n:=Qa (h:=s.heap) (OU s.heap.objs.size);have z:∀{b ob},s.heap.get? b=some ob->b≠s.heap.objs.size:=λ{b ob} q z=>by rw[z,n] at q;cases q
 obtain⟨i,j⟩:∃i,h'.get? s.heap.objs.size=some i:=by obtain⟨o,_,_,q,_⟩:=hn;exact⟨o,q⟩
 refine I1.adopt (I.not0 r n) ?_ ?_ (λx c q=>?_) (λp L=>z (I.pin p L).1) ⟨⟨_,hn,if_pos rfl⟩,⟨i,j⟩,λh1 h2 ⟨l,⟨o,es,ep,q1,q2⟩,b⟩ k=>⟨l,⟨o,es,ep,k _ q1,q2⟩,b⟩⟩
 ·rw[al λz=>by rw[<-z,I.fresh] at d;cases d];exact I.fresh
 ·obtain⟨m,⟨o,_,_,q,_⟩,_⟩:=I.loc;exact Qp (z q)
 ·obtain⟨v,o,q,_⟩:=I.cell x c q;exact z q
end
def IG(C:OD)(h f:TE):TS:=λD σ H=>f σ H λy H1=>h σ H1 λx d=>∃e t,x=.ref e/\d e=some (At e (.ref C) t none)/\∀c u,d c=none->c≠e->aI y u->D.nx σ (upd (upd d e<|At e (.ref C) t<|some c) c<|xq c u)
theorem Hj{o value:O4}{pos pos':Pos}{i f:TE}{C:OD}(L:X.ex=[])(c:KS X.K C "blocker")(Q:PE X o i)(O:PE X value f)(hs:Qq value (some<|.Attribute o "blocker" pos') pos.line X.env=pure false):PS X (.Assign [.Attribute o "blocker" pos'] value pos) (IG C i f):=by
 intro pins s σ H D I h;refine Tq (bi (O pins s σ H _ I h) λu j d=>da d λy H1 I1 l q=>bi (Q pins j σ H1 _ I1 q) λp s2 d=>?_) hs;obtain⟨x,H2,Z,m,e,t,ex,U,q2⟩:=d;subst ex;obtain rfl:p=OX e:=m;exact Hi Z L U c λY s3 z r I3=>⟨σ,_,I3,q2 Y u z r l⟩
def Fa(C:OD):Sp:=λvs H Q _=>∃e t v,vs=[.ref e,v]/\H e=some (At e (.ref C) t none)/\∀c u,H c=none->c≠e->aI v u->Q .non (upd (upd H e<|At e (.ref C) t<|some c) c<|xq c u)
def Hl(E:XK)(C:OD)(d:TE):TS:=λ_ σ H=>d σ H λv H1=>∀c u,H1 c=none->aI v u->E (.ref C) (some c) (upd H1 c<|xq c u)
theorem Ca{E:XK}{x:Str}{C fI:OD}{ps:List Str}{k:Nat}{e:O4}{te:TE}{np f pos}(hc:X.calm=true)(hx:X.ex=[])(fl:Mh X E)(hg:Gl X x)(hm:X.mg x=some (.ref C))(hC:qh X.K C (some<|.ref fI)=true)
  (hf:∃oI,X.K.lookup fI=some oI/\oI.cls=.type "function") (F:bG X.prog X.w X.K X.mg X.base eY k fI fd ps (Fa C)) (hb:cA X.K fd ps []) (hr:a5 (k+1) X.A) (he:PE X e te)
  (p:O1 [e] X.env=(false,Pq e X.env)::O1 [] X.env:=by nofun) (hpl:(QE f<|O1 [e] X.env).any (·.1)=false:=by nofun) (hd:(x==("__debug__":Str))=false:=by decide):PS X (.Raise (some<|.Call (.Name x np) [e] [] f) none pos) (Hl E C te):=by
 intro pins s σ H D I h;obtain⟨bm,N,nm,q,bs,hdct,sn,sub,ab,col,dd,k0,k1,k2,k3,k5,⟨oN,U⟩,at_⟩:=ER hC;obtain⟨hCo,hN,hni,T⟩:=at_ _ I.kIn;obtain⟨oI,hI,hfc⟩:=hf;refine wQ (C:=C) (nm:=nm) (q:=q) (N:=N) (bs:=bs) (bm:=bm) (hdct:=hdct) (sn:=sn) (sub:=sub) (ab:=ab) (col:=col) (dd:=dd) (k0:=k0) (k1:=k1) (k2:=k2) (k3:=k3) (k5:=k5) Rn (mN:=s.heap.nsMap N) (T.hasType Rn.hasBase) (I.ok.hd hc) hpl hni hfc (db I hg hm ⟨rfl,?_⟩ hd);have ha:=(bK he cW p) f pins s σ H (λvs H1=>match vs with
  | [v]=>∀c u,H1 c=none->aI v u->E (.ref C) (some c) (upd H1 c<|xq c u)
  | _=>False) I h
 rw[p] at ha ⊢;refine Q5 (bi ha λus s1 z9=>?_);obtain⟨vs,H1,I1,r,z⟩:=z9;obtain⟨v,rfl⟩:∃v,vs=[v]:=by rcases vs with _ | ⟨v,_ | _⟩<;>first | exact⟨_,rfl⟩ | exact z.elim
 obtain⟨u,rfl,ru⟩:=iQ r;obtain⟨Q,hN',hni',T'⟩:=at_ _ I1.kIn;refine⟨rfl,show 1≤OR by decide,Q,wI ((I1.kIn _ _ U).trans (I.kIn _ _ U).symm) hN,T',I1.kIn _ _ hI,λh' e m=>?_⟩;obtain⟨t,ht,_⟩:=m.there;have I2:=I1.kept (h':=h') (t':=s1.toks) m.keeps;have I3:=I1.adopt' (o:=At e (.ref C) t none) I2 hx m.new ⟨ht,⟨_,ht⟩,λh1 h2 a k=>k _ a⟩;have hH:=I1.notH m.new;have hs0:=I1.not0 hx m.new;have U:[OX e,u].length=ps.length:=(F.len [.ref e,v] (upd H1 e<|At e (.ref C) t none) (λw Y=>w=.non/\∃c d,H1 c=none/\c≠e/\aI v d/\Y=upd (upd H1 e<|At e (.ref C) t<|some c) c (xq c d)) E0 ⟨e,t,v,rfl,aq,λc d l j i=>⟨rfl,c,d,by rw[al j] at l;exact l,j,i,by rw[oo]⟩⟩)
 refine QF (Qf (F.run _ X.stack _ _ ⟨[.ref e,u],[]⟩ [.ref e,u] [.ref e,v] (λw Y=>w=.non/\∃c d,H1 c=none/\c≠e/\aI v d/\Y=upd (upd H1 e<|At e (.ref C) t<|some c) c (xq c d)) E0 (hr.make C [u] []) (I3.env0.make C [u] []) (hb _ [.ref e,u] I3.kIn U) (.cons rfl<|.cons ru .nil) ⟨e,t,v,rfl,aq,λc d l j i=>⟨rfl,c,d,by rw[al j] at l;exact l,j,i,by rw[oo]⟩⟩) λr s' L=>?_);cases r with
 | error e=>exact(show False from L).elim
 | ok fl'=>
  cases fl' with
  | ret u0=>
   obtain⟨w,Y,I4,Z,rfl,c,d,d1,d2,d3,rfl⟩:=I3.after L;have O:upd (upd H1 e<|At e (.ref C) t<|some c) c (xq c d) e=some (At e (.ref C) t<|some c):=by rw[al (Qp d2),aq]
   have ho:=(I4.hok e _ O).1;refine⟨Z,some c,t,(at_ _ I4.kIn).1,ho,fl pins σ _ s' e _ _ (.ref t) (I4.forget O) hs0 (if_pos rfl) ho rfl rfl ⟨rfl,rfl⟩ ?_⟩;have:IF (upd (upd H1 e<|At e (.ref C) t<|some c) c<|xq c d) e=upd H1 c (xq c d):=by
    funext b;unfold IF;split
    ·rename_i q;rw[q,al (Qp d2),hH]
    ·rename_i q;by_cases y:b=c
     ·rw[y,aq,aq]
     ·rw[al y,al y,al q]
   rw[this];exact z c d d1 d3
  | next=>exact Pa L
  | brk=>exact Pa L
  | cont=>exact Pa L
end L2
namespace L2
open PySem PySem.Spec PyProof.Rows
def Au(ix:List Nat)(σ:St):St:=jM (ix.map some) σ
theorem wR{ix:List Nat}:Au ix σ=ix.map λj=>σ[j]?.join:=by
 unfold Au jM;rw[Sr];rfl
def uV(env:Env)(xs:List Str):List (Str×OD):=xs.map λx=>(x,(env.cells.lookup x).getD 0)
theorem mP{env:Env}{x:Str}{c:OD}:∀{xs:List Str},(uV env xs).lookup x=some c->x∈xs/\c=(env.cells.lookup x).getD 0
 | [],h=>nomatch h
 | y::r,h=>by
  unfold uV at h;rw[O8,PL] at h;split at h
  ·rename_i q;have:x=y:=by simpa using q
   subst this;cases h;exact⟨OW,rfl⟩
  ·exact⟨OT _ (mP h).1,(mP h).2⟩
theorem qq{env:Env}{x:Str}:∀{xs:List Str},x∈xs->(uV env xs).lookup x=some ((env.cells.lookup x).getD 0)
 | y::r,h=>by
  unfold uV;rw[O8,PL];by_cases z:x=y
  ·subst z;simp
  ·have:(x==y)=false:=by simpa using z
   rw[this];exact qq ((OY.mp h).resolve_left z)
def Km(P:OD)(qual:Str)(ix:List Nat)(sp:OD->OD->St->Sp):TE:=λσ H Q=>iR H P qual/\∀f c' H1,iR H1 P qual->H1 c'=some (fR c' qual)->(∀b o,b≠P->H b=some o->H1 b=some o)->sp f c' (Au ix σ) [.ref f] H1 Q E0
section
variable{c P fa:OD}{k:Nat}{x a0:Str}{xs:List Str}{ix:List Nat}{lparams:RO}{lbody:O4}{lscope:PQ}{p lp pos:Pos}{sp:OD->OD->St->Sp}
theorem yH(L:Bc X.K X.mg c P)(hB:X.base.BuiltinsAt X.mg P)(C:X.env.code=.ref c)(hfn:∀x,X.fn x=true)(hx:(xs.map λx=>X.env.scope.names.lookup x)=xs.map λ_=>some SD)(hfr:∀x∈xs,lscope.names.lookup x=some .free)(hfx:∀q∈lscope.names,q.2=.free->q.1∈xs)(U:ix.map (λj=>X.N[j]?)=xs.map some)
  (hh:∀l f c' cap,(∀b o,X.base.get? b=some o->l.get? b=some o)->wP l f (X.env.qual++"<lambda>") lparams lbody lscope (uV X.env xs) c' xs cap->bG X.prog X.w X.K X.mg l eY k fa fd [a0] (sp f c' cap))
  (hr:a5 k X.A) (hm:X.mg x=some (.ref fa)) (hk:Pn X.K (.ref fa)=true) (hb:cA X.K fd [a0] []) (hg:Gl X x:=by nofun)
  (Y:WX lparams X.env=([],[]):=by nofun) (hcl:UE lscope X.env=pure (uV X.env xs):=by nofun) (hdb:(x==("__debug__":Str))=false:=by decide)
  (he:O1 [.Lambda lparams lbody lscope lp] X.env=(false,Pq (.Lambda lparams lbody lscope lp) X.env)::O1 [] X.env:=by nofun) (hpl:(QE pos<|O1 [] X.env).any (·.1)=false:=by nofun) :
  PE X (.Call (.Name x p) [.Lambda lparams lbody lscope lp] [] pos) (Km P (X.env.qual++"<lambda>") ix sp):=by
 rintro pins s σ H Q I ⟨hT,h⟩;have hx:=List.map_inj_left.mp hx;refine PR (db I hg hm ?_ hdb);refine QZ (h₀:=X.base) I.ok.mod.kin hk ?_ he hpl;rw[he];refine QY ?_;refine E9 L hB C I hT Y hcl λf c' pm ctv H1 g tk I1 hT1 same gc hf fr hn=>?_;refine Sj ⟨I1.kIn,?_⟩;have cab:∀x c,X.env.cells.lookup x=some c->c∉io X.stack:=λx c e m=>by
  rcases OY.mp (I.stkSub c m) with z | z
  ·exact I.cne x c e z
  ·obtain⟨_,o,ho,_⟩:=I.ok.funs.mem z;exact absurd (O7 (OO ho)<|I.ok.cab x c (hfn x) e) (QL _)
 have has:∀x∈xs,∃c,X.env.cells.lookup x=some c:=λx m=>I.ok.has x (.inl<|hx x m);have look:∀x c,(uV X.env xs).lookup x=some c->X.env.cells.lookup x=some c:=λx c e=>by
  obtain⟨m,rfl⟩:=mP e;obtain⟨c,q⟩:=has x m;rw[q];rfl
 have cell:∀x c,X.env.cells.lookup x=some c->∀v,g.IsCell c v->(wide H1 X.stack g).IsCell c v:=λx c e v ⟨o,ho,d⟩=>⟨o,lX ho (I1.freeC x c e)<|cab x c e,d⟩
 have hl:ix.length=xs.length:=by have:=congrArg XY U;simpa using this
 have LA:wP (wide H1 X.stack g) f (X.env.qual++"<lambda>") lparams lbody lscope (uV X.env xs) c' xs (Au ix σ):=by
  refine⟨⟨pm,ctv,lX hf hn λm=>?_⟩,λx c e=>?_,λx y c Z e2=>I.ok.inj x y c (look x c Z) (look y c e2),λx e=>?_,λi x v Z e2 e3=>?_,by simp[wR,hl]⟩
  ·obtain⟨_,o,ho,_⟩:=I.stack.mem m;rw[fr] at ho;cases ho
  ·obtain⟨v,z⟩:=I1.cell x c (look x c e);exact⟨v,cell x c (look x c e) v z⟩
  ·have m:=hfx _ (QU e) rfl;exact⟨_,qq m⟩
  ·have hi:i<ix.length:=by rw[hl];exact(OL.mp Z).1
   have e4:(ix.map λj=>X.N[j]?)[i]?=some (some x):=by rw[U,Pv,Z];rfl
   rw[Pv,Pd hi] at e4;have e5:X.N[ix[i]]?=some x:=O6 e4;rw[wR,Pv,Pd hi] at e2;have e6:σ[ix[i]]?=some (some v):=by
    have:σ[ix[i]]?.join=some v:=O6 e2;cases q:σ[ix[i]]? with
    | none=>rw[q] at this;cases this
    | some w=>rw[q] at this;exact congrArg some this
   have mx:=O9 Z;obtain⟨m,_,hl'⟩:=I1.loc;obtain⟨u,r,lk⟩:=hl' _ x v e5 e6 (.inr<|.inl<|hx x mx);rcases lk with ⟨k1,_⟩ | ⟨_,c,k2,k3⟩
   ·have:some SD=some .local:=(hx x mx).symm.trans k1;cases this
   ·exact⟨u,c,r,hfr x mx,by rw[qq mx,k2];rfl,cell x c k2 _ k3⟩
 have F:=hh _ f c' _ I1.more LA;refine QF (Qf (F.run X.A X.stack _ H1 ⟨[.ref f],[]⟩ [.ref f] [.ref f] Q E0 hr I1.env1 (hb _ [.ref f] I1.kIn rfl) (.cons rfl .nil)<|h f c' H1 hT1 gc same) λr s' O=>?_);cases r with
 | error e=>exact(show False from O).elim
 | ok fl=>
  cases fl with
  | ret u=>exact I1.after O
  | next=>exact Pa O
  | brk=>exact Pa O
  | cont=>exact Pa O
end
end L2
namespace RB
open PySem PySem.Spec PyProof.Rows L2
def NX(F:Fx)(e:OD)(C:OC×Option OD)(f:V)(u:OC):Fx where
 ext:=λj=>if j=30 then .ref e else if j=31 then f else F.ext j
 own:=F.own
 J:=λH=>F.J H/\H e=some (mO e C)/\∀d,C.2=some d->H d=some (xq d u)
 st:=λH i ⟨a,b,c⟩ k=>⟨F.st H i a k,k e _ (.inr ⟨_,rfl⟩) b,λd h=>k d _ (.inr ⟨_,rfl⟩) (c d h)⟩
def Ms(xc:Nat->OD)(c:Nat)(F:Fx):Prop:=c<14/\∃e d u,F.ext 30=.ref e/\aI (F.ext 31) u/\(c=13->∃f,d=some f)/\∀H,F.J H->H e=some (mO e (.ref (xc c),d))/\∀f,d=some f->H f=some (xq f u)
@[reducible] def Hm(gy:Gy)(c:Nat):Gy:={gy with dr:=Ms gy.xc c}
theorem Kn{E U:XK}{c:Nat}{e:OD}{d:Option OD}{C:V}{u:OC}(L:Ge ⟨gy,E⟩ F)(O:aI C u)(hd:c=13->∃f,d=some f)(p:c<14):Ge ⟨Hm gy c,U⟩ (NX F e (.ref (gy.xc c),d) C u):=by
 have l:∀{H:Hp} {T b:OD} {ps:Array OC} {I:Pk->Prop},H T=some (.tbl ps)->H b=some (.ext I)->b≠T:=λQ x z=>by rw[z,Q] at x;cases x
 refine⟨⟨p,e,d,u,rfl,O,hd,λH j=>j.2⟩,L.own,λH j=>L.lam H j.1,λH r j o k=>?_,L.ownL,λi m H j=>L.lamL i m H j.1,λi m H r j o k=>?_⟩
 ·obtain⟨ps,h,_⟩:=L.lam H j.1;exact⟨L.re H r j.1 o k,k e _ (l h j.2.1) j.2.1,λf q=>k f _ (l h<|j.2.2 f q) (j.2.2 f q)⟩
 ·obtain⟨ps,h,_⟩:=L.lamL i m H j.1;exact⟨L.reL i m H r j.1 o k,k e _ (l h j.2.1) j.2.1,λf q=>k f _ (l h<|j.2.2 f q) (j.2.2 f q)⟩
def KU(b:AV):AV->Option AV
 | .ref _=>none
 | .ext i=>match OS i 31 with
  | true=>some b
  | false=>none
 | .tc h t=>match KU b h with
  | some h'=>match KU b t with
   | some t'=>some (.tc h' t')
   | none=>none
  | none=>none
 | v=>some v
theorem Ko{F F2:Fx}{ρ d:List OD}{b:AV}(hb:aQ F y ρ H b (F2.ext 31))(av:AV):∀{c:AV},KU b av=some c->(∀v,aQ F2 y d H av v->aQ F y ρ H c v)/\∀vs,rc F2 y d H av vs->rc F y ρ H c vs:=by
 induction av with
 | ref _=>intro _ h;cases h
 | ext i=>
  intro c h;unfold KU at h;split at h
  ·rename_i q;cases h;have:=ON q;subst this;exact⟨λv h=>by rw[show v=F2.ext 31 from h];exact hb,λvs h=>h.elim⟩
  ·cases h
 | tc a t p o=>
  intro c h;unfold KU at h;split at h
  ·rename_i u q1;split at h
   ·rename_i t' q2;cases h;exact⟨λv ⟨b,w,m,e,l,j,f⟩=>⟨b,w,m,e,l,(p q1).1 w j,(o q2).2 m f⟩,λvs ⟨w,r,e,j,f⟩=>⟨w,r,e,(p q1).1 w j,(o q2).2 r f⟩⟩
   ·cases h
  ·cases h
 | int s _ _=>intro _ h;cases h;cases s<;>exact⟨λ_ h=>h,λ_ h=>h⟩
 | _=>intro _ h;cases h;exact⟨λ_ h=>h,λ_ h=>h⟩
def Mt(c:Nat)(av:AV):Bool:=match OS c 13,av with
 | true,.non=>false
 | true,_=>true
 | false,_=>QW c 13
def Mu(f:Nat->BS)(k:AV->aN->Bool):KE:=λc av S=>match Mt c av with
 | true=>f c ⟨λ_ _=>false,λv h=>match KU av v with
   | some d=>match M5 h.sym S.sym with
    | true=>k d S
    | false=>false
   | none=>false,λ_ _=>false,λ_ _=>false⟩ ⟨[none,some (.ext 30),some .non,none,none],λ_ _ _=>false⟩ ⟨0,S.sym,.lf⟩
 | false=>false
def qr(c:Nat->BS)(ix:List Nat)(bl:BE):BE:=λσ S k=>match yC S.t S.n with
 | true=>bl ⟨LQ σ.v<|ix.map some,Mu c k⟩ S λ_ _=>false
 | false=>false
def oO(gy:Gy)(qual:Str)(d:Nat->BS)(bl:BE)(f c':OD)(c:L2.St):Sp:=λvs H Q _=>vs=[.ref f]/\H c'=some (fR c' qual)/\∃F y ρ S av k,aH ⟨gy,E0⟩ F y ρ S H/\gb F y ρ H av c/\yC S.t S.n=true/\bl ⟨av,Mu d k⟩ S (λ_ _=>false)=true/\gS ⟨gy,E0⟩ F y ρ H k Q
section
variable{S:aN}{bR:Nat->BS}{k:AV->aN->Bool}{Q:VK}
theorem yI(C:aH ⟨gy,E0⟩ F y ρ S H){c:Nat}{e:OD}{dd:Option OD}{I:AV}(hX:DJ F y ρ H I dd)(he:H e=none){d:qT}{σ:L2.St}(Y:∃a b,σ=[a,some (.ref e),some .non,b,none])(h:Mu bR k c I S=true)(p:gS ⟨gy,E0⟩ F y ρ H k Q)(hd:d.rt=Q):de ⟨Hm gy c,E0⟩ (bR c) d σ (upd H e<|mO e (.ref (gy.xc c),dd)):=by
 obtain⟨a,b,rfl⟩:=Y;subst hd;unfold Mu at h;split at h
 case h_2=>cases h
 rename_i ok;have Z:c<14:=by
  unfold Mt at ok;split at ok
  ·cases ok
  ·rename_i q _;have:=ON q;omega
  ·have:=YL.mp ok;omega
 have ne:∀b o,H b=some o->b≠e:=λb o q z=>by rw[z,he] at q;cases q
 have J1:F.J (upd H e<|mO e (.ref (gy.xc c),dd)):=F.st _ _ C.J λb o _ q=>by rw[al (ne b o q)];exact q
 obtain⟨x,u,O,U,hdx,h13⟩:∃x u,aI x u/\aQ F y ρ H I x/\(∀f,dd=some f->H f=some (xq f u))/\(c=13->∃f,dd=some f):=by
  cases dd with
  | none=>
   cases(show I=.non from hX);exact⟨.non,.none,rfl,rfl,λ_ z=>(nomatch z),λz=>by subst z;cases ok⟩
  | some f=>obtain⟨_,_,v,u,O,hx,U⟩:=hX;exact⟨v,u,O,U,λ_ z=>by cases z;exact hx,λ_=>⟨f,rfl⟩⟩
 refine⟨NX F e (.ref (gy.xc c),dd) x u,y,[],⟨0,S.sym,.lf⟩,_,_,⟨rfl,C.sym,C.pos,RP,λi a e=>by simp at e,λ_ h=>(nomatch h),λi hi=>?_,λb w q=>?_,⟨J1,aq,λf q=>by rw[al (ne _ _<|hdx f q)];exact hdx f q⟩,Kn C.fl O h13 Z⟩,⟨?_,λ_ _ _ _ _ _ _ _ _ _ z=>(by cases z)⟩,h,λ_ _ _ _ _ _ _ _ _ z=>(by cases z),λj L S1 H1 av v st C1 rv r=>?_,λ_ _ _ _ _ _ _ _ _ z=>(by cases z),λ_ _ _ _ _ _ _ _ _ z=>by cases z⟩
 ·show(if i=30 then V.ref e else if i=31 then x else F.ext i)=_;rw[if_neg (by omega),if_neg (by omega)];exact C.fe i hi
 ·by_cases z:b=e
  ·subst z;rw[aq] at q;cases q
  ·rw[al z] at q;exact C.ol b w q
 ·refine .cons trivial (.cons ?_<|.cons rfl<|.cons trivial<|.cons trivial .nil);rfl
 ·dsimp only at r;split at r
  ·rename_i v' pl;split at r
   ·rename_i eb;have e1:=(C1.sym.symm.trans<|E8 eb).trans C.sym;have ey:j=y:=by
     cases hy:y with
     | none=>rw[hy] at e1;cases j with
      | none=>rfl
      | some z=>cases e1
     | some z=>exact st.y z hy
    subst ey;have m:aA F j [] H j L H1:=by
     have l:aA F j [] H j [] (upd H e<|mO e (.ref (gy.xc c),dd)):=aA.lay he;exact⟨λ_ h=>h,st.pre,λa h=>(st.new a h).imp id λz=>l.live a z,λb o q n w=>st.keep b o (l.keep b o q n w) n w,λb vs q=>st.tup b vs (l.tup b vs q),λb q=>l.live b (st.live b q),λb o u q=>st.frz b o u (l.frz b o u q)⟩
    exact p j ρ S H1 v' v m.wide (C.wide m C1.J.1) ((Ko (F2:=NX F e (.ref (gy.xc c),dd) x u) (U.mono m.wide) av pl).1 v rv) r
   ·cases r
  ·cases r
end
section
variable{bR:Nat->BS}{bl:BE}{ix:List Nat}{e:O4}
theorem Cb{i:Nat}(l:i<3):∀σ H Q,up g (qr bR ix bl) σ H Q->Km (g.tl i) (g.tq i) ix (oO g.toGy (g.tq i) bR bl) σ H Q:=λσ H Q Z=>ez Z λF y ρ S U k C r h p=>by
 unfold qr at h;cases m:yC S.t S.n with
 | false=>rw[m] at h;cases h
 | true=>
  rw[m] at h;have L:=C.fl.lamL i l H C.J;refine⟨L,λf c' H1 d gc same=>?_⟩;obtain⟨ps,hP,_⟩:=L;obtain⟨Y,x,_⟩:=id d;have I:∀b o,H b=some o->(∀ps,o≠.tbl ps)->b≠g.tl i:=λb o q n z=>by rw[z,hP] at q;cases q;exact n _ rfl
  have st:aA F y ρ H y ρ H1:=by
   refine⟨λ_ h=>h,⟨[],by simp⟩,λ_ h=>.inl h,λb o q n w=>same b o (λz=>w (by rw[z];exact C.fl.ownL i l)) q,λb vs q=>same b _ (I b _ q λ_ z=>nomatch z) q,λb q=>?_,λb o u q=>same b _ (I b _ q λ_ z=>nomatch z) q⟩;cases q2:H b with
   | none=>rfl
   | some o=>
    by_cases z:b=g.tl i
    ·rw[z,x] at q;cases q
    ·rw[same b o z q2] at q;cases q
  have C1:aH g F y ρ S H1:=by
   refine⟨C.n,C.sym,C.pos,C.nd,λj c O=>?_,C.own,C.fe,λb w q=>C.ol b w (st.live b q),C.fl.reL i l H H1 C.J d same,C.fl⟩;obtain⟨o,ho,h1,h2,h3⟩:=C.at_ j c O;exact⟨o,ho,h1,same c ho (λz=>C.own c (O9 O) (by rw[z];exact C.fl.ownL i l)) h2,dO.mono st h3⟩
  exact⟨rfl,gc,F,y,ρ,S,_,k,C1.reE,uw (gb.mono st r.v) _,m,h,(p.mono st).reE⟩
theorem Fb{i:Nat}{q:Str}(d:i<3)(c:g.tq i=q)(h:PE X e (Km (g.tl i) q ix<|oO g.toGy q bR bl)):PE X e (up g<|qr bR ix bl):=by
 subst c;exact PE.imp (Cb d) h
end
end RB
namespace L2
open PySem PySem.Spec PySem.Calls PyProof.Rows PySem.Builtin PySem.Builtin.ObjectAttr PySem.Builtin.Getset_descriptor
structure uW(K:OK)(D:OD):Prop where
 ga:Pc K (.ref D) "__getattribute__" = some (some<|.builtin "BaseException.__getattribute__")
 no:Pc K (.ref D) "__getattr__" = some none
 bx:Ts K D (.type "BaseException")=some true
 cls:(Sx K D).isSome=true
 at_:Pc K (.ref D) "__class__" = some (some<|.builtin "object.__class__")
 sp:UP K (.builtin "object.__class__") "__get__" = some (some<|.builtin "getset_descriptor.__get__")
 tk:Vy K (.builtin "object.__class__")=some true
 mro:Ts K D (.type "object")=some true
section
variable{x C D:OD}{Q:OC->OI->Prop}
theorem Ol{M:Wy}{h:Pk}(X:K.In h)(e:(Sx K C).isSome=true):P5 M h (isType<|.ref C) true:=by
 unfold Sx at e;split at e
 ·rename_i ho;intro f c d s' k q;unfold isType loadHead;exact OB (VR (k _ _<|X _ _ ho)<|OE q)
 ·cases e
theorem Fc{Q:Option OC->OI->Prop}(N:uW K D)(X:K.In s.heap)(T:∀M,P5 M s.heap (Vn<|.ref x) (.ref D))(h:Q (some<|.ref D) {s with toks:=s.toks+1}):OM (OP prog w) A (getAttr? (.ref x) "__class__") Q E s:=by
 obtain⟨j,g,d,t,os⟩:=s;have T0:=T (OP prog w);have lf:P5 (OP prog w) j (find (.ref x) (.ref D) "__class__") (.bind (.builtin "getset_descriptor.__get__")<|.builtin "object.__class__") :=
  (QV X N.at_).andThen ((PySem.W.looks_specialIn X N.sp).andThen ((show P5 _ j (dataDescriptor? (some _)<|some _) (some (_,_)) from(PySem.W.looks_takesIn X N.tk).andThen .now).andThen (ab6 .now)))
 have i:(UZ "BaseException.__getattribute__"==UZ "object.__getattribute__")=false:=by decide +kernel
 unfold getAttr? getAttrBy? getAttrBy;refine OB (ZX<|OB<|RH<|Pg<|OB<|T0.at<|OB<|(QV X N.ga).at ?_);dsimp only;rw[i];simp only[VT,O5,if_false];unfold Yk;show OM _ _ (Vm (.ref D) "__getattr__" >>= _) _ _ _;refine OB ((QV X N.no).at ?_);refine OB (RH<|Pg ?_);show OM _ _ (UI _ _ _) _ _ _;unfold UI;have FB:=Xs;refine OB (SW (FB.ga.bind<|.ref x) ?_);refine QF (RE FB.ga.plain Yl ?_);have l:builtinKind "BaseException.__getattribute__" = some .slot:=by decide +kernel
 have c:splitId "BaseException.__getattribute__" = some ("BaseException","__getattribute__"):=by decide +kernel
 have f:=YW (.ref x) (.str "__class__" t);have m:=Tp (M:=OP prog w) X N.bx;simp only[Vc,l,c];refine OB ((show P5 _ j (TM (.ref x)<|.type "BaseException") true from T0.andThen m).at ?_);rw[if_neg (by decide)];refine SW f ?_;unfold QS.«object.__getattribute__»;refine OB (OE ?_);refine OB (OE ?_);refine OB (T0.at<|OB<|lf.at ?_);refine OB (Pg<|QF ?_);refine RE W0.plain PySem.W.KF.entry_gs (W0.check _ _ _ _ _ _ _ _ Z6 (PySem.W.KF.args_gs _ _ _) ?_);unfold QS.«getset_descriptor.__get__» descrGet;rw[PySem.W.dga_obj];refine OB (OE ?_);unfold descrGetter descrCheckInstance descrNameAndClass;have o:=Tp (M:=OP prog w) X N.mro;unfold TM;simp only[ZY]
 repeat lk
 refine⟨SQ _<|by decide +kernel,SJ ZZ ?_⟩;unfold QS.«object.__class__» shownTypeOf;repeat lk
 exact h
theorem Kq(N:uW K D)(X:K.In s.heap)(T:∀M,P5 M s.heap (Vn<|.ref x) (.ref D))(e:RA K D C=true)(h:Q (.bool false) {s with toks:=s.toks+1}):OM (OP prog w) A (call (.builtin "isinstance") [.ref x,.ref C]) Q E s:=by
 unfold RA at e;simp only[OZ,beq_iff_eq] at e;obtain⟨⟨⟨p,o⟩,m⟩,l⟩:=e;refine Ym (S:=λ_ R s=>(K.In s.heap/\∀M,P5 M s.heap (Vn<|.ref x) (.ref D))/\R (.ok<|.ret<|.bool false) {s with toks:=s.toks+1}) (λf c _ _ s hs=>XQ ?_ (by intro q;cases q)) ⟨⟨X,T⟩,h⟩;obtain⟨⟨X,T⟩,h⟩:=hs;obtain⟨j,g,d,t,os⟩:=s;have i:=T (OP f c);have LS:=Ww (M:=OP f c) X l;unfold QS.«isinstance.nested»;refine OB (i.at ?_);rw[if_neg λq=>of_decide_eq_true p (Value.ref.inj<|beq_iff_eq.mp q)];refine OB ((PySem.W.looks_typeIn X m).at ?_);rw[if_pos (by decide)];k_delta "plainIsInstance";refine OB (OB<|(Ol X o).at ?_);simp only[TU,O5,if_false];refine OB ((show P5 _ j (TM (.ref x)<|.ref C) false from i.andThen LS).at ?_);simp only[O5,if_false];refine OB (Fc N X T ?_);refine OB ((Ol (C:=D) X N.cls).at ?_);simp only[TU,O5,if_false];exact OB (Tx<|LS.at<|OE h)
end
end L2
namespace L2
open PySem PySem.Spec PySem.Calls PyProof.Rows
theorem kZ{h f:Type}{R:h->f->Prop}:∀{a b:List h} {c d:List f},Paired R a c->Paired R b d->Paired R (a++b) (c++d)
 | _,_,_,_,.nil,q=>q
 | _,_,_,_,.cons r p,q=>.cons r (kZ p q)
section
def NY(K:OK)(Cz:OD):List V->Hp->VK->Prop:=λvs H Q=>∃e D d,vs=[.ref e,.ref Cz]/\H e=some (mO e (.ref D,d))/\((Vv K (.ref D) Cz=true/\Q (.bl true) H)∨(uW K D/\RA K D Cz=true/\Q (.bl false) H))
theorem Fd{Cz:OD}:dj X (.builtin "isinstance") (NY X.K Cz):=by
 rintro pins s σ H xs us Q I r ⟨e,D,_,l,i,h⟩;subst l;obtain⟨u,v,rfl,f,d⟩:=vA r;cases f;cases d;obtain⟨⟨o,ho,j,_⟩,_⟩:=I.hok e _ i;have T:∀M,P5 M s.heap (Vn<|.ref e) (.ref D):=λM=>(show o.cls=.ref D from congrArg Q6 j)▸(Vf ho).andThen .now;rcases h with ⟨c,q⟩ | ⟨N,c,q⟩
 ·exact PySem.W.isi_call I.kIn T c (by intro z;cases z) ⟨.bl true,H,I,rfl,q⟩
 ·exact Kq N I.kIn T c ⟨.bl false,H,I.tok _,rfl,q⟩
def NZ(K:OK)(T:String):List V->Hp->VK->Prop:=λvs H Q=>∃e D d,vs=[.ref e,.ty T]/\H e=some (mO e (.ref D,d))/\U0 K (.ref D) (.type T)=some true/\Q (.bl true) H
theorem Fe{T:String}(C:Vn (.type T)=pure (.type "type")):dj X (.builtin "isinstance") (NZ X.K T):=by
 rintro pins s σ H xs us Q I r ⟨e,D,_,L,x,hs,q⟩;subst L;obtain⟨u,v,rfl,m,l⟩:=vA r;cases m;cases l;obtain⟨⟨o,ho,z,_⟩,_⟩:=I.hok e _ x;have T0:∀M,P5 M s.heap (Vn<|.ref e) (.ref D):=λM=>(show o.cls=.ref D from congrArg Q6 z)▸(Vf ho).andThen .now;refine Ym (S:=λ_ R s=>(X.K.In s.heap/\∀M,P5 M s.heap (Vn<|.ref e) (.ref D))/\R (.ok<|.ret<|.bool true) s) (λi f _ _ s c=>XQ ?_ (by intro q;cases q)) ⟨⟨I.kIn,T0⟩,⟨.bl true,H,I,rfl,q⟩⟩;obtain⟨⟨Y,O⟩,h⟩:=c;obtain⟨p,g,d,t,os⟩:=s;have j:=O (OP i f);have U:=Ww (M:=OP i f) Y hs;unfold QS.«isinstance.nested»;refine OB (j.at ?_);rw[if_neg λq=>by cases(beq_iff_eq.mp q)];rw[C];refine OB (OE ?_);rw[if_pos (by decide)];k_delta "plainIsInstance";refine OB (OB<|OE (a:=true) ?_);simp only[TU,O5,if_false];refine OB ((show P5 _ p (TM (.ref e)<|.type T) true from j.andThen U).at ?_);simp only[if_true];exact OE (OE h)
def Mv:V->List V->Hp->VK->Prop:=λx vs H Q=>∃d o ks ms,x=.ref d/\vs=[.ref o]/\d≠o/\H d=some (.dK ks)/\H o=some (.dK ms)/\((ks++ms).map (·.1)).Nodup/\ks.length+ms.length≤OR/\Q .non (upd H d<|.dK<|ks++ms)
theorem ik:Ob X "dict.update" Mv:=by
 rintro pins s σ H x vs v us Q I C L ⟨d,o,ks,ms,e1,e2,ne,hd,ho,nd,hz,q⟩;subst e1 e2;cases C;obtain⟨u,rfl,O⟩:=L.one;cases O;obtain⟨z,m,i,f,dd⟩:=o8 I.hok hd;obtain⟨z2,l,vo,c,p⟩:=o8 I.hok ho;have kk:∀{ks:List (bh×V)} {vs:List (bh×OC)},KV ks vs->ks.map (·.1)=vs.map (·.1):=λ{ks vs} r=>by
  induction r with
  | nil=>rfl
  | cons a _ U=>rw[O8,O8,U,a.1]
 have j:((i++vo).map (·.1)).Nodup:=by rw[Ue,<-kk f,<-kk c,<-Ue];exact nd
 refine Sq Qy dd.typeIs PySem.F.entry_dict_update (PySem.F.args_dict_update_2 _ _) (meets_dict_update (aW X.prog X.w) d o ne l) ⟨i,vo,dd,p,by rw[<-Pm f,<-Pm c];exact hz,λh' h _ hs=>?_⟩;rw[merged_append_of_fresh i vo j] at h;have Z:∃q,h'.get? d=some q:=let ⟨q,_,_,Y,_⟩:=h;⟨q,Y⟩;exact⟨.non,_,jC I (by rw[hd];exact Qt) hs Z<|tY (by rw[P3];exact hz) m (kZ f c) h,rfl,q⟩
end
end L2
namespace RB
open PySem PySem.Spec PyProof.Rows L2
section
variable{e a n:O4}{ba:BE}{br:BA}
def yJ(g:Gx)(c:Nat):Prop:=∀F,g.dr F->Ms g.xc c F
def gW(b:Bool)(a:BE):BE:=λσ S k=>a σ S λx c=>match x with
 | .ext i=>match OS i 30 with
  | true=>k (.bl b) c
  | false=>false
 | _=>false
theorem uX{σ:L2.St}{Q:VK}{b:Bool}{c:Nat}(hd:yJ g c):up g (gW b ba) σ H Q->up g ba σ H λx H1=>∃e d,x=.ref e/\H1 e=some (mO e (.ref (g.xc c),d))/\Q (.bl b) H1:=λ⟨F,y,ρ,S,l,k,C,r,h,p⟩=>
 ar C r h λm j O H1 ax x st C1 U o f=>by
  split at f
  ·rename_i i;split at f
   ·rename_i q;have z:=ON q;subst z;obtain⟨_,e,d,u,L,_,_,I⟩:=hd F C1.fl.dr;exact⟨e,d,(show x=F.ext 30 from o).trans L,(I H1 C1.J).1,p m j O H1 (.bl b) _ st C1 rfl f⟩
   ·cases f
  ·cases f
theorem Kr{p f:Pos}{c:Nat}(hd:yJ g c)(hg:Gl X "isinstance")(U:X.mg "isinstance" = none)(ha:PE X e (up g ba))(o:Gl X "ValueError")(m:X.mg "ValueError" = none)(hb:∀{c},c<14->U0 X.K (.ref<|g.xc c) (.type "ValueError")=some true)
  (I:O1 [e,.Name "ValueError" f] X.env=(false,Pq e X.env)::O1 [.Name "ValueError" f] X.env:=by nofun) (u:O1 [.Name "ValueError" f] X.env=(false,Pq (.Name "ValueError" f) X.env)::O1 [] X.env:=by nofun) (l:(QE pos<|O1 [.Name "ValueError" f] X.env).any (·.1)=false:=by nofun):PE X (.Call (.Name "isinstance" p) [e,.Name "ValueError" f] [] pos) (up g<|gW true ba):=by
 have bt:PJ "ValueError" = some (.type "ValueError"):=by decide +kernel
 refine PE.imp (λσ H Q h=>?_) (hJ (Fe (T:="ValueError")<|by kernel_rfl) hg U eB (bK ha (bK (oq (v:=.ty "ValueError") o m bt rfl) cW u) I) (by decide) (by decide) I l);obtain⟨F,y,ρ,S,i,k,C,r,Z,p⟩:=uX hd h;obtain⟨z,_⟩:=hd F C.fl.dr;refine⟨F,y,ρ,S,i,k,C,r,Z,λL j S1 H1 av v st C1 O Y=>?_⟩;obtain⟨e,d,rfl,x,q⟩:=p L j S1 H1 av v st C1 O Y;exact⟨e,g.xc c,d,rfl,x,hb z,q⟩
theorem Av{c:Nat}(hd:yJ g c)(h:PT X (.Compare a [.Is] [n] pos) (tB<|Ct<|up g ba)):PT X (.Compare a [.Is] [n] pos) (fE g<|bB<|gW false ba) :=
 PT.imp (fk λσ H Q h=>by
  obtain⟨F,y,ρ,S,d,k,C,r,m,p⟩:=uX hd h;refine⟨F,y,ρ,S,d,k,C,r,m,λi f o H1 av v st C1 j l=>?_⟩;obtain⟨e,_,rfl,_,q⟩:=p i f o H1 av v st C1 j l;exact q) h
def Hn(i:Nat):List Nat->Bool
 | []=>false
 | j::r=>match OS i j with
  | true=>true
  | false=>Hn i r
def M6:List (AV×AV)->List Nat->Bool
 | [],_=>true
 | (.str i,_)::r,seen=>match Hn i seen with
  | true=>false
  | false=>M6 r (i::seen)
 | _::_,_=>false
theorem Aw{i:Nat}:∀{l:List Nat},i∈l->Hn i l=true
 | j::r,h=>by
  unfold Hn;rcases OY.mp h with rfl | h
  ·rw[Xu]
  ·split
   ·rfl
   ·exact Aw h
theorem Ff{F:Fx}{y:Option Int}{ρ:List OD}{H:Hp}:∀{kvs:List (AV×AV)} {ks:List (bh×V)} {seen:List Nat},M6 kvs seen=true->Paired (λp q=>gw p.1 q.1/\aQ F y ρ H p.2 q.2) kvs ks->(ks.map (·.1)).Nodup/\∀q∈ks,∃i x,i∉seen/\a8[i]?=some x/\q.1=.inr x
 | _,_,_,_,.nil=>⟨RP,λ_ h=>nomatch h⟩
 | (I,O)::r,(k,v)::t,seen,h,.cons ⟨L,Q⟩ p=>by
  cases I with
  | str i=>
   unfold M6 at h;split at h
   ·cases h
   ·rename_i nm;obtain⟨x,u,o⟩:=L;obtain⟨C,f⟩:=Ff h p;refine⟨?_,λq hq=>?_⟩
    ·rw[O8,QB];refine⟨λm=>?_,C⟩;obtain⟨q,hq,e⟩:=QC.mp m;obtain⟨j,z,d,c,l⟩:=f q hq;rw[e,o] at l;cases l;exact d (by rw[dF c u];exact OW)
    ·rcases OY.mp hq with rfl | hq
     ·exact⟨i,x,λm=>(by rw[Aw m] at nm;cases nm),u,o⟩
     ·obtain⟨j,z,d,c⟩:=f q hq;exact⟨j,z,λm=>d (OT _ m),c⟩
  | _=>cases h
def Mw(S:aN):AV->Option (List<|AV×AV)
 | .ref n=>match S.t.get n with
  | some (.dk kvs)=>some kvs
  | _=>none
 | _=>none
def Cc(a b:BE):BE:=λσ S k=>a σ S λx d=>match x with
 | .ref n=>match Mw d (.ref n) with
  | some _=>b σ d λz c=>match z,Mw c (.ref n),Mw c z with
   | .ref m,some ks,some ms=>match OS n m with
    | true=>false
    | false=>match M6 (ks++ms) [] with
     | true=>match Pr (ks++ms).length 900 with
      | true=>k .non (c.set n<|.dk<|ks++ms)
      | false=>false
     | false=>false
   | _,_,_=>false
  | none=>false
 | _=>false
theorem yK{S:aN}(C:aH g F y ρ S H){n:Nat}{x:V}(d:aQ F y ρ H (.ref n) x){ks:List (AV×AV)}(h:Mw S (.ref n)=some ks):∃a vs,x=.ref a/\ρ[n]?=some a/\H a=some (.dK vs)/\Paired (λp q=>gw p.1 q.1/\aQ F y ρ H p.2 q.2) ks vs:=by
 obtain⟨a,c,rfl⟩:=d;obtain⟨o,ho,j,i,f⟩:=C.at_ n a c;unfold Mw at h;dsimp only at h;rw[j] at h;cases o with
 | dk kvs=>
  cases h;obtain⟨vs,rfl,p⟩:=f;exact⟨a,vs,rfl,c,i,p⟩
 | _=>cases h
theorem qt{bb:BE}(h:PE X e (MQ K "dict" Mv (up g ba) (jX (up g bb) mq))):PE X e (up g<|Cc ba bb):=by
 refine PE.imp (λσ H Q ⟨F,y,ρ,S,σa,k,C,r,h,p⟩=>ar C r h λy1 ρ1 S1 H1 ax x st C1 r1 Z L=>?_) h;split at L
 ·rename_i n;split at L
  ·rename_i q;obtain⟨a,vs,rfl,hρ,hH,_⟩:=yK C1 Z q;refine⟨.inr<|.inr<|.inl ⟨rfl,.inl ⟨vs,hH⟩⟩,ar C1 r1 L λU f S2 H2 az z l O r2 rz d=>?_⟩;split at d
   ·rename_i m ks ms q1 q2;split at d
    ·cases d
    ·rename_i nb;split at d
     ·rename_i nd;split at d
      ·rename_i lz;obtain⟨a',vs',e',c,i,pr⟩:=yK O (aQ.mono l Z) q1;cases e';obtain⟨b,ws,rfl,I,Y,u⟩:=yK O rz q2;have pp:=kZ pr u;obtain⟨n1,_⟩:=Ff nd pp;have hl:vs'.length+ws.length=(ks++ms).length:=by rw[P3,Pm pr,Pm u]
       refine⟨a,b,vs',ws,rfl,rfl,λz=>?_,i,Y,n1,?_,?_⟩
       ·subst z;rw[jD O.nd c I,Xu] at nb;cases nb
       ·rw[hl];exact QP (bZ<|PV (bw lz)<|by decide)
       ·have j:aA F U f H2 U f (upd H2 a<|.dK<|vs'++ws):=aA.set O c i;exact p U f _ _ .non .non ((st.trans l).trans j) (O.set c i (o:=.dk (ks++ms)) (ho:=.dK (vs'++ws)) (ob:=⟨_,rfl,aT (λ_ _ q=>⟨q.1,aQ.mono j q.2⟩) pp⟩)) rfl d
      ·cases d
     ·cases d
   ·cases d
  ·cases L
 ·cases L
end
end RB
namespace L2
open PySem PySem.Spec PySem.Calls PyProof.Rows
end L2
namespace RB
open PySem PySem.Spec PyProof.Rows L2
section
variable{tg a:O4}{br:BA}
end
end RB
namespace L2
open PySem PySem.Spec PyProof.Rows
theorem OA{k:Nat}(r:gi k A):A.units+1<QK:=by have:=r.un;omega
theorem wS{base c:Pk}{T:OD}(h:∀b o,base.get? b=some o->c.get? b=some o)(b:base.BuiltinsAt mg T):c.BuiltinsAt mg T:=by
 obtain⟨bm,ob,b1,b2,b3,b4,b5,b6⟩:=b;exact⟨bm,ob,b1,b2,b3,b4,h _ _ b5,b6⟩
end L2
namespace RB
open PySem PySem.Spec PyProof.Rows L2
abbrev Cd(gy:Gy):Prop:=∀F,gy.dr F->∀H c,F.J H->F.J c->∀b o u,F.own b->H b=some (.frz o u)->c b=some (.frz o u)
section
variable{k n:Nat}{f:BF}
theorem qw{x:Str}{c d:Nat}{ks:List Str}{tpl:List ux}(M:v9 P w K mg base gy (bL P w) c x k n d ks tpl f):v9 P w K mg base gy eY c x k n d ks tpl (never f):=let ⟨h,fd,ps,a,F,b⟩:=M;⟨h,fd,ps,a,bG.never F,b⟩
theorem tj{x q:Str}{N ps:List Str}{b:BS}{c:OD}(F:Fun K x q st c fd)(S:ai N ps (ae st))(hbody:Kj P w K mg base gy N q st k b c)(hn:ps.length=n:=by decide)(d:ps.length≤N.length:=by decide) :
  bG P w K mg base (bL P w) (k+1) c fd ps (jP gy n<|bH N.length b):=uT F S hn d λh A outer s H E hr=>hbody hr (dl hr)
end
theorem Fg{qual:Str}{I:Nat->BS}{bl:BE}{f c' D:OD}{l:L2.St}{H H0:Hp}{Q:VK}{E:XK}{B:qT}{σ:L2.St}(j:Cd gy)(hD:∀c,QT K (.ref<|gy.xc c) (.ref D)=some true)(hB:B.rt=Q)(m:∀e,∃a b,(σ.set 1<|some<|.ref e).set 3 none=[a,some (.ref e),some .non,b,none])
  (h:oO gy qual I bl f c' l vs H0 Q E) {p:OD} {o:HO} (u:H0 p=none) (hH:H=upd H0 p o):H c'=some (fR c' qual) /\
   up ⟨gy,λC d L=>QT K C (.ref D)=some true/\∀e,L e=none->∃c,de ⟨Hm gy c,E0⟩ (I c) B ((σ.set 1<|some<|.ref e).set 3 none)<|upd L e<|mO e (C,d)⟩ bl l H λ_ _=>False:=by
 subst hH;obtain⟨_,x,F,y,ρ,S,av,k,C,r,U,hb,q⟩:=h;have i:aA F y ρ H0 y ρ (upd H0 p o):=aA.lay u;have C:=C.lay (o:=o) u;have q:=q.mono i;refine⟨by rw[al λz=>by rw[z,u] at x;cases x];exact x,F,y,ρ,S,⟨av,Mu I k⟩,_,C.reE,⟨gb.mono i r,λy1 O S1 H1 c av1 d st C1 hX Y=>?_⟩,hb,λ_ _ _ _ _ _ _ _ _ z=>(by cases z)⟩;exact⟨hD c,λe Z=>⟨c,yI C1.reE hX Z (m e) Y (q.mono<|E1 C U (j F C.fl.dr _ H1 C.J C1.J) st) hB⟩⟩
theorem Ho{es:List Rs}{t:Nat->TS}(h:∀c,gu X es (t c)):gu X es (λB σ H=>∃c,t c B σ H):=λpins s σ H B I ⟨c,q⟩=>h c pins s σ H B I q
end RB
namespace L2
open PySem PySem.Spec PyProof.Rows
end L2
namespace RB
open PySem PySem.Spec PyProof.Rows L2
theorem Ce{ba:BE}(fuel:Nat)(i:Nat){t:BG}{l:BT}{m:BE}(f:∀j∈sl,ix[j]?=some none)(h:PS X st (jc (FY ix (wd X.H₀<|up g ba) (nj g sl t) (fE g l)<|up g m)<|fQ i)):PS X st (de g<|jQ (Ej fuel true ix ba t l m)<|cy i) :=
 PS.imp (λD σ H L=>xY L λF y ρ S o d C r h p _=>GL fuel f σ H _ (ar C r h λu c Q H1 ax x st C1 I z O=>p u c Q H1 _ _ st C1 (cZ I z) O)) (PS.thaw h)
end RB
namespace L2
open PySem PySem.Spec PySem.Calls PyProof.Rows PySem.Builtin PySem.Builtin.ObjectAttr
theorem Fh{x D:OD}{m j:Obj}{v:OC}{name:Str}{Q:OC->OI->Prop}(N:uW K D)(X:K.In s.heap)(I:Yw s.heap x m D (some j))
  (r:PySem.W.findObj K D (some j) name=some (.value v)) (o:U1 v=true) (h:Q v {s with toks:=s.toks+1}):OM (OP prog w) A (Yn (.ref x) name true) Q E s:=by
 obtain⟨l,g,d,t,os⟩:=s;have T0:P5 (OP prog w) l (Vn<|.ref x) (.ref D):=I.type;have lf:=PySem.W.looks_find (M:=OP prog w) X I r;have i:(UZ "BaseException.__getattribute__"==UZ "object.__getattribute__")=false:=by decide +kernel
 unfold Yn getAttrBy;refine OB (ZX<|Pg<|OB<|T0.at<|OB<|(QV X N.ga).at ?_);dsimp only;rw[i];simp only[VT,O5,if_false];unfold Yk;show OM _ _ (Vm (.ref D) "__getattr__" >>= _) _ _ _;refine OB ((QV X N.no).at ?_);refine OB (RH<|Pg ?_);show OM _ _ (UI _ _ _) _ _ _;unfold UI;have FB:=Xs;refine OB (SW (FB.ga.bind<|.ref x) ?_);refine QF (RE FB.ga.plain Yl ?_);have p:builtinKind "BaseException.__getattribute__" = some .slot:=by decide +kernel
 have c:splitId "BaseException.__getattribute__" = some ("BaseException","__getattribute__"):=by decide +kernel
 have f:=YW (.ref x) (.str name t);have u:=Tp (M:=OP prog w) X N.bx;simp only[Vc,p,c];refine OB ((show P5 _ l (TM (.ref x)<|.type "BaseException") true from T0.andThen u).at ?_);rw[if_neg (by decide)];refine SW f ?_;unfold QS.«object.__getattribute__»;refine OB (OE ?_);refine OB (OE ?_);refine OB (T0.at<|OB<|lf.at ?_);refine OE ?_;show OM _ _ (handedOut v) _ _ _;rw[PySem.W.handedOut_of o];exact OE h
def N0(D:OD)(d:TE):TE:=λσ H Q=>d σ H λx H1=>∃e c u v,x=.ref e/\H1 e=some (mO e (.ref D,some c))/\H1 c=some (RB.xq c u)/\aI v u/\Q v H1
theorem Ks{D:OD}{e:O4}{j:TE}(N:uW X.K D)(c:KS X.K D "blocker")(U:PE X e j)(hb:Pi e "blocker" X.env (Pq e X.env)=Pq e X.env:=by nofun):PE X (.Attribute e "blocker" pos) (N0 D j):=by
 intro pins s σ H Q I h;refine y9 hb (bi (U pins s σ H _ I h) λu s1 m=>?_);obtain⟨x,H1,I1,p,e,dx,u',v,rfl,h1,Z,l,q⟩:=m;obtain rfl:u=OX e:=p;obtain⟨⟨o,ho,Y,hn⟩,_⟩:=I1.hok e _ h1;obtain⟨⟨mA,f,C⟩,_⟩:=I1.hok dx _ Z;obtain⟨od,d,L⟩:=sd f;obtain⟨oc,r,z,osl⟩:=o;cases Y;obtain⟨cd,_,_,i,_,O⟩:=c.cls;exact Fh N I1.kIn ⟨ho,rfl,hn,d⟩ (Wi (by unfold S8;rw[i];exact O) c.no rfl<|by rw[L,C]) (sf l) ⟨v,H1,I1.tok _,l,q⟩
end L2
namespace RB
open PySem PySem.Spec PyProof.Rows L2
def Hq(c:Nat)(a:BE):BS:=λ_ σ S=>a σ S λv d=>σ.ke c v d
def Mx(P:Ph)(w:Py)(K:OK)(mg:Str->Option OC)(base:Pk)(C:OD):Prop:=∃f fd ps,qh K C (some<|.ref f)=true/\(∃c,K.lookup f=some c/\c.cls=.type "function")/\bG P w K mg base eY 1 f fd ps (Fa C)/\cA K fd ps []
def My(c:Nat)(a:BE):BE:=λσ S k=>a σ S λx d=>match x,OS c 13 with
 | .ext i,true=>match OS i 30 with
  | true=>k (.ext 31) d
  | false=>false
 | _,_=>false
section
variable{e:O4}{ba:BE}
theorem Cg{x:Str}{c k:Nat}{np j:Pos}(hc:X.calm=true)(hex:X.ex=[])(fl:Mh X g.E)(hm:X.mg x=some (.ref<|g.xc c))(D:Mx X.prog X.w X.K X.mg X.base (g.xc c))(hr:a5 k X.A)(ha:PE X e (up g ba))(hk:2≤k:=by decide)(hg:Gl X x:=by nofun)
  (L:O1 [e] X.env=(false,Pq e X.env)::O1 [] X.env:=by nofun) (O:(QE j<|O1 [e] X.env).any (·.1)=false:=by nofun) (hd:(x==("__debug__":Str))=false:=by decide):PS X (.Raise (some<|.Call (.Name x np) [e] [] j) none pos) (de g<|Hq c ba):=by
 obtain⟨f,fd,ps,Q,h2,F,hb⟩:=D;refine PS.imp (λD σ H hx=>ez hx λF y ρ S U d C r h _=>ar C r h λI p S1 H1 av v st C1 r1 Y Q=>λz u n Z=>?_) (Ca hc hex fl hg hm Q h2 F hb (hr.mono hk) ha L O hd);have l:aA F I p H1 I p (upd H1 z<|xq z u):=aA.lay n;refine r1.e I p S1 _ c av (some z) l.to0 (C1.lay n) ⟨λm=>?_,λo=>C1.ol z o n,v,u,Z,aq,Y.mono l⟩ Q;obtain⟨i,hi,e⟩:=List.getElem_of_mem m;obtain⟨_,_,_,q,_⟩:=C1.at_ i z (OL.mpr ⟨hi,e⟩);rw[n] at q;cases q
theorem Kt{c:Nat}(hd:yJ g c)(N:∀{c},c<14->uW X.K (g.xc c))(cx:KS X.K (g.xc 13) "blocker")(Z:PE X e (up g ba))(hb:Pi e "blocker" X.env (Pq e X.env)=Pq e X.env:=by nofun):PE X (.Attribute e "blocker" pos) (up g<|My c ba):=by
 refine PE.imp (λσ H Q Y=>ez Y λF y ρ S I k C r h p=>?_) (Ks (N<|by decide) cx Z hb);refine ar C r h λL j S1 H1 ax x st C1 r1 O f=>?_;split at f
 ·rename_i i l;split at f
  ·rename_i q;cases ON q;cases ON l;obtain⟨_,e,d,u,e1,U,m,o⟩:=hd F C1.fl.dr;obtain⟨z,rfl⟩:=m rfl;exact⟨e,z,u,F.ext 31,(show x=F.ext 30 from O).trans e1,(o H1 C1.J).1,(o H1 C1.J).2 z rfl,U,p L j S1 H1 (.ext 31) _ st C1 rfl f⟩
  ·cases f
 ·cases f
theorem cR{p j:Pos}{z:Str}{i c:Nat}(hd:yJ g c)(hg:Gl X "isinstance")(hm:X.mg "isinstance" = none)(ha:PE X e (up g ba))(I:Gl X z)(x:X.mg z=some (.ref<|g.xc i))(h1:∀{c},c<14->Vv X.K (.ref<|g.xc c) (g.xc c)=true)(h2:∀{c},c<14->uW X.K (g.xc c))(h3:∀{c},c<14->∀{i},i<14->c≠i->RA X.K (g.xc c) (g.xc i)=true)(hi:i<14:=by decide)(hz:(z==("__debug__":Str))=false:=by decide)
  (U:O1 [e,.Name z j] X.env=(false,Pq e X.env)::O1 [.Name z j] X.env:=by nofun) (L:O1 [.Name z j] X.env=(false,Pq (.Name z j) X.env)::O1 [] X.env:=by nofun) (u:(QE pos<|O1 [.Name z j] X.env).any (·.1)=false:=by nofun):PE X (.Call (.Name "isinstance" p) [e,.Name z j] [] pos) (up g<|gW (OS c i) ba):=by
 refine PE.imp (λσ H Q h=>?_) (hJ (Fd (Cz:=g.xc i)) hg hm eB (bK ha (bK (yT (v:=.ref (g.xc i)) I x rfl hz) cW L) U) (by decide) (by decide) U u);obtain⟨F,y,ρ,S,m,k,C,r,hh,p⟩:=uX hd h;obtain⟨f,_⟩:=hd F C.fl.dr;refine⟨F,y,ρ,S,m,k,C,r,hh,λY o S1 H1 av v st C1 Z hk=>?_⟩;obtain⟨e,d,rfl,O,q⟩:=p Y o S1 H1 av v st C1 Z hk;refine⟨e,g.xc c,d,rfl,O,?_⟩;cases l:OS c i with
 | true=>cases ON l;rw[l] at q;exact .inl ⟨h1 f,q⟩
 | false=>
  have n:c≠i:=λz=>by rw[z,Xu] at l;cases l
  rw[l] at q;exact .inr ⟨h2 f,h3 f hi n,q⟩
end
structure Wr0(P:Ph)(w:Py)(K:OK)(mg:Str->Option OC)(gy:Gy):Prop where
 d_is_whole:cQ K mg "is_whole" (aD 18)
 d_is_stretch:cQ K mg "is_stretch" (aD 19)
 d_reaches:cQ K mg "reaches" (aD 26)
 d_earlier_end:cQ K mg "earlier_end" (aD 27)
 d_later_end:cQ K mg "later_end" (aD 28)
 d_meets:cQ K mg "meets" (aD 24)
 d_gaps_of:cQ K mg "gaps_of" (aD 25)
 d_both:cQ K mg "both" (aD 23)
 d_without:cQ K mg "without" (aD 22)
 d_joined:cQ K mg "joined" (aD 21)
 d_is_key:cQ K mg "is_key" (aD 34)
 d_check_task:cQ K mg "check_task" (aD 35)
 d_check_awake:cQ K mg "check_awake" (aD 36)
 d_check_file:cQ K mg "check_file" (aD 37)
 d_check_mode:cQ K mg "check_mode" (aD 38)
 d_check_kind:cQ K mg "check_kind" (aD 39)
 d_check_by:cQ K mg "check_by" (aD 40)
 d_check_stretch:cQ K mg "check_stretch" (aD 42)
 d_mark_at:cQ K mg "mark_at" (aD 43)
 d_mark_of:cQ K mg "mark_of" (aD 44)
 d_awake_mark:cQ K mg "awake_mark" (aD 45)
 d_opened_mark:cQ K mg "opened_mark" (aD 46)
 d_ask_entry:cQ K mg "ask_entry" (aD 47)
 d_lock_order:cQ K mg "lock_order" (aD 49)
 d_lock_rows:cQ K mg "lock_rows" (aD 50)
 d_told_locks:cQ K mg "told_locks" (aD 51)
 d_told_asks:cQ K mg "told_asks" (aD 53)
 d_ask_of:cQ K mg "ask_of" (aD 54)
 d_clash:cQ K mg "clash" (aD 55)
 d_blocking_stretches:cQ K mg "blocking_stretches" (aD 56)
 d_blocking_locks:cQ K mg "blocking_locks" (aD 58)
 d_asks_are_against:cQ K mg "asks_are_against" (aD 59)
 d_blocking_asks:cQ K mg "blocking_asks" (aD 60)
 d_is_blocked:cQ K mg "is_blocked" (aD 61)
 d_first_blocker:cQ K mg "first_blocker" (aD 62)
 d_keep_lots:cQ K mg "keep_lots" (aD 63)
 d_free_cells:cQ K mg "free_cells" (aD 64)
 d_take:cQ K mg "take" (aD 65)
 d_tasks_behind:cQ K mg "tasks_behind" (aD 69)
 d_needs_of:cQ K mg "needs_of" (aD 70)
 d_can_go:cQ K mg "can_go" (aD 71)
 d_stuck_asks:cQ K mg "stuck_asks" (aD 72)
 d_fall_asleep:cQ K mg "fall_asleep" (aD 67)
 d_give_up_stuck:cQ K mg "give_up_stuck" (aD 73)
 d_first_unblocked:cQ K mg "first_unblocked" (aD 74)
 d_grant:cQ K mg "grant" (aD 75)
 d_settle:cQ K mg "settle" (aD 76)
 d_new_handle:cQ K mg "new_handle" (aD 79)
 d_add_user:cQ K mg "add_user" (aD 80)
 d_lead:cQ K mg "lead" (aD 81)
 d_take_or_wait:cQ K mg "take_or_wait" (aD 85)
 d_do_begin:cQ K mg "do_begin" (aD 86)
 d_do_attach:cQ K mg "do_attach" (aD 87)
 d_do_dup:cQ K mg "do_dup" (aD 88)
 d_do_close:cQ K mg "do_close" (aD 89)
 d_do_fork:cQ K mg "do_fork" (aD 90)
 d_do_end:cQ K mg "do_end" (aD 91)
 d_do_lock:cQ K mg "do_lock" (aD 92)
 d_do_unlock:cQ K mg "do_unlock" (aD 93)
 d_do_cancel:cQ K mg "do_cancel" (aD 94)
 d_do_lock_whole:cQ K mg "do_lock_whole" (aD 95)
 d_do_unlock_whole:cQ K mg "do_unlock_whole" (aD 96)
 d_do_deed:cQ K mg "do_deed" (aD 98)
 d__law_draw:cQ K mg "_law_draw" (aD 104)
 d__law_begun:cQ K mg "_law_begun" (aD 105)
 d__law_class_all:cQ K mg "_law_class_all" (aD 106)
 d__law_heard_all:cQ K mg "_law_heard_all" (aD 107)
 d_lot_of:∃c,DI K mg "lot_of" (aD 20) c/\Q1 K c gy.tT=true
 d__law_locking:∃c,DI K mg "_law_locking" (aD 108) c/\Q1 K c (gy.tl 1)=true
 d__law_others:∃c,DI K mg "_law_others" (aD 109) c/\Q1 K c (gy.tl 2)=true
 t_Tables_put:nA K (gy.cl 0) "put" "Tables.put" (aj (aD 100) 1)
 t_Tables_drop:nA K (gy.cl 0) "drop" "Tables.drop" (aj (aD 100) 2)
 t_Tables_fresh:nA K (gy.cl 0) "fresh" "Tables.fresh" (aj (aD 100) 4)
 t_Tables_undo_to:nA K (gy.cl 0) "undo_to" "Tables.undo_to" (aj (aD 100) 3)
 t_Desk_perform:nA K (gy.cl 1) "perform" "Desk.perform" (aj (aD 102) 1)
 t_Desk_do:nA K (gy.cl 1) "do" "Desk.do" (aj (aD 102) 2)
 t_Desk_begin:nA K (gy.cl 1) "begin" "Desk.begin" (aj (aD 102) 3)
 t_Desk_close:nA K (gy.cl 1) "close" "Desk.close" (aj (aD 102) 6)
 t_Desk_fork:nA K (gy.cl 1) "fork" "Desk.fork" (aj (aD 102) 7)
 t_Desk_end:nA K (gy.cl 1) "end" "Desk.end" (aj (aD 102) 8)
 t_Desk_cancel:nA K (gy.cl 1) "cancel" "Desk.cancel" (aj (aD 102) 11)
 t_Desk_unlock_whole:nA K (gy.cl 1) "unlock_whole" "Desk.unlock_whole" (aj (aD 102) 13)
 t_Desk_mark:nA K (gy.cl 1) "mark" "Desk.mark" (aj (aD 102) 16)
 t_Desk_locks:nA K (gy.cl 1) "locks" "Desk.locks" (aj (aD 102) 19)
 t_Desk_whole_locks:nA K (gy.cl 1) "whole_locks" "Desk.whole_locks" (aj (aD 102) 20)
 t_Desk_outcome:nA K (gy.cl 1) "outcome" "Desk.outcome" (aj (aD 102) 23)
 t_Desk_why:nA K (gy.cl 1) "why" "Desk.why" (aj (aD 102) 24)
 t_Desk_again:nA K (gy.cl 1) "again" "Desk.again" (aj (aD 102) 29)
 t_Desk_asks:nA K (gy.cl 1) "asks" "Desk.asks" (aj (aD 102) 22)
 t_Desk_deeds:nA K (gy.cl 1) "deeds" "Desk.deeds" (aj (aD 102) 26)
 t_Desk_handles:nA K (gy.cl 1) "handles" "Desk.handles" (aj (aD 102) 15)
 t_Desk_tasks:nA K (gy.cl 1) "tasks" "Desk.tasks" (aj (aD 102) 14)
 t_Desk_attach:∃h0 t0,iD K (gy.cl 1) "attach" "Desk.attach" (aj (aD 102) 4) #[⟨h0,.str "mode" t0,.str "both" 1284⟩]
 t_Desk_dup:∃h0 t0,iD K (gy.cl 1) "dup" "Desk.dup" (aj (aD 102) 5) #[⟨h0,.str "at" t0,.none⟩]
 t_Desk_lock:∃h0 t0 h1 t1,iD K (gy.cl 1) "lock" "Desk.lock" (aj (aD 102) 9) #[⟨h0,.str "by" t0,.str "task" 1332⟩,⟨h1,.str "wait" t1,.bool false⟩]
 t_Desk_unlock:∃h0 t0,iD K (gy.cl 1) "unlock" "Desk.unlock" (aj (aD 102) 10) #[⟨h0,.str "by" t0,.str "task" 1348⟩]
 t_Desk_lock_whole:∃h0 t0,iD K (gy.cl 1) "lock_whole" "Desk.lock_whole" (aj (aD 102) 12) #[⟨h0,.str "wait" t0,.bool false⟩]
 t_Desk_probe:∃h0 t0,iD K (gy.cl 1) "probe" "Desk.probe" (aj (aD 102) 18) #[⟨h0,.str "by" t0,.str "task" 1421⟩]
 i_Tables:Mb K (gy.cl 0) "Tables.__init__" (aj (aD 100) 0)
 i_Desk:Mb K (gy.cl 1) "Desk.__init__" (aj (aD 102) 0)
 g_Tables:mg "Tables" = some (.ref<|gy.cl 0)
 g_Desk:mg "Desk" = some (.ref<|gy.cl 1)
 g_do_begin:mg "do_begin" = some (.ref<|gy.fe 0)
 g_do_attach:mg "do_attach" = some (.ref<|gy.fe 1)
 g_do_dup:mg "do_dup" = some (.ref<|gy.fe 2)
 g_do_close:mg "do_close" = some (.ref<|gy.fe 3)
 g_do_fork:mg "do_fork" = some (.ref<|gy.fe 4)
 g_do_end:mg "do_end" = some (.ref<|gy.fe 5)
 g_do_lock:mg "do_lock" = some (.ref<|gy.fe 6)
 g_do_unlock:mg "do_unlock" = some (.ref<|gy.fe 7)
 g_do_cancel:mg "do_cancel" = some (.ref<|gy.fe 8)
 g_do_lock_whole:mg "do_lock_whole" = some (.ref<|gy.fe 9)
 g_do_unlock_whole:mg "do_unlock_whole" = some (.ref<|gy.fe 10)
 M:LR mg
 G:i9 K gy
 T:Ox P w K mg gy
 hP:gy.tP=uP
 hQ:gy.tQ=oK
 nT:Pe≠gy.tT
 nTl:∀i,Pe≠gy.tl i
 q0:gy.tq 0=(("law":Str)++".<locals>.")++"<lambda>"
 q1:gy.tq 1=(("_law_locking":Str)++".<locals>.")++"<lambda>"
 q2:gy.tq 2=(("_law_others":Str)++".<locals>.")++"<lambda>"
 e_Lock:∃D,mg "LockError" = some (.ref D)/\∀c,QT K (.ref<|gy.xc c) (.ref D)=some true
 e_Stuck:mg "Stuck" = some (.ref<|gy.xc 0)
 e_NoTask:mg "NoTask" = some (.ref<|gy.xc 1)
 e_Asleep:mg "Asleep" = some (.ref<|gy.xc 2)
 e_Awake:mg "Awake" = some (.ref<|gy.xc 3)
 e_NoHandle:mg "NoHandle" = some (.ref<|gy.xc 4)
 e_NoMark:mg "NoMark" = some (.ref<|gy.xc 5)
 e_NoFile:mg "NoFile" = some (.ref<|gy.xc 6)
 e_BadMode:mg "BadMode" = some (.ref<|gy.xc 7)
 e_BadKind:mg "BadKind" = some (.ref<|gy.xc 8)
 e_BadStretch:mg "BadStretch" = some (.ref<|gy.xc 9)
 e_NoAsk:mg "NoAsk" = some (.ref<|gy.xc 10)
 e_NoBack:mg "NoBack" = some (.ref<|gy.xc 11)
 e_NoText:mg "NoText" = some (.ref<|gy.xc 12)
 e_Held:mg "Held" = some (.ref<|gy.xc 13)
 e_new:∀c,c<13->qh K (gy.xc c) none=true
 i_Held:∃f fd,Fun K "__init__" "Held.__init__" (aj (aD 12) 0) f fd/\qh K (gy.xc 13) (some<|.ref f)=true/\∃oI,K.lookup f=some oI/\oI.cls=.type "function"
 x_Held:KS K (gy.xc 13) "blocker"
 e_is:∀{c},c<14->Vv K (.ref<|gy.xc c) (gy.xc c)=true
 e_no:∀{c},c<14->∀{i},i<14->c≠i->RA K (gy.xc c) (gy.xc i)=true
 n_is:∀{c},c<14->uW K (gy.xc c)
 x_VE:mg "ValueError" = none
 x_sub:∀{c},c<14->U0 K (.ref<|gy.xc c) (.type "ValueError")=some true
structure Wr(P:Ph)(w:Py)(K:OK)(mg:Str->Option OC)(base:Pk)(gy:Gy):Prop extends Wr0 P w K mg gy where
 hB:base.BuiltinsAt mg gy.tT
 hBl:∀i,i<3->base.BuiltinsAt mg (gy.tl i)
section
abbrev Wr.cal(_:Wr P w K mg base gy)(x:Str)(k n:Nat)(b:BF):Prop:=cF P w K mg base gy eY x k n b
abbrev Wr.met(_:Wr P w K mg base gy)(c:Nat)(x:Str)(k n:Nat)(d:List AV)(b:BF):Prop:=eM P w K mg base gy eY c x k n d b
theorem Wr.more{c:Pk}(W:Wr P w K mg base gy)(h:∀b o,base.get? b=some o->c.get? b=some o):Wr P w K mg c gy:=⟨W.toWr0,wS h W.hB,λi d=>wS h (W.hBl i d)⟩
theorem Wr.reE(W:Wr P w K mg base gy)(c:Nat):Wr P w K mg base (Hm gy c):=⟨⟨W.d_is_whole,W.d_is_stretch,W.d_reaches,W.d_earlier_end,W.d_later_end,W.d_meets,W.d_gaps_of,W.d_both,W.d_without,W.d_joined,W.d_is_key,W.d_check_task,W.d_check_awake,W.d_check_file,W.d_check_mode,W.d_check_kind,W.d_check_by,W.d_check_stretch,W.d_mark_at,W.d_mark_of,W.d_awake_mark,W.d_opened_mark,W.d_ask_entry,W.d_lock_order,W.d_lock_rows,W.d_told_locks,W.d_told_asks,W.d_ask_of,W.d_clash,W.d_blocking_stretches,W.d_blocking_locks,W.d_asks_are_against,W.d_blocking_asks,W.d_is_blocked,W.d_first_blocker,W.d_keep_lots,W.d_free_cells,W.d_take,W.d_tasks_behind,W.d_needs_of,W.d_can_go,W.d_stuck_asks,W.d_fall_asleep,W.d_give_up_stuck,W.d_first_unblocked,W.d_grant,W.d_settle,W.d_new_handle,W.d_add_user,W.d_lead,W.d_take_or_wait,W.d_do_begin,W.d_do_attach,W.d_do_dup,W.d_do_close,W.d_do_fork,W.d_do_end,W.d_do_lock,W.d_do_unlock,W.d_do_cancel,W.d_do_lock_whole,W.d_do_unlock_whole,W.d_do_deed,W.d__law_draw,W.d__law_begun,W.d__law_class_all,W.d__law_heard_all,W.d_lot_of,W.d__law_locking,W.d__law_others,W.t_Tables_put,W.t_Tables_drop,W.t_Tables_fresh,W.t_Tables_undo_to,W.t_Desk_perform,W.t_Desk_do,W.t_Desk_begin,W.t_Desk_close,W.t_Desk_fork,W.t_Desk_end,W.t_Desk_cancel,W.t_Desk_unlock_whole,W.t_Desk_mark,W.t_Desk_locks,W.t_Desk_whole_locks,W.t_Desk_outcome,W.t_Desk_why,W.t_Desk_again,W.t_Desk_asks,W.t_Desk_deeds,W.t_Desk_handles,W.t_Desk_tasks,W.t_Desk_attach,W.t_Desk_dup,W.t_Desk_lock,W.t_Desk_unlock,W.t_Desk_lock_whole,W.t_Desk_probe,W.i_Tables,W.i_Desk,W.g_Tables,W.g_Desk,W.g_do_begin,W.g_do_attach,W.g_do_dup,W.g_do_close,W.g_do_fork,W.g_do_end,W.g_do_lock,W.g_do_unlock,W.g_do_cancel,W.g_do_lock_whole,W.g_do_unlock_whole,W.M,⟨W.G.cls,W.G.na_files,W.G.na_fair,W.G.na_given,W.G.na_leads,W.G.na_opened,W.G.na_held,W.G.na_whole,W.G.na_waiting,W.G.na_asleep,W.G.na_outcomes,W.G.na_changes,W.G.na_tables,W.G.na_past,W.G.na_future⟩,⟨W.T.g_KINDS,W.T.g_HOLDERS,W.T.g_MODES,W.T.g_WRONG_MODES,W.T.g_DEEDS⟩,W.hP,W.hQ,W.nT,W.nTl,W.q0,W.q1,W.q2,W.e_Lock,W.e_Stuck,W.e_NoTask,W.e_Asleep,W.e_Awake,W.e_NoHandle,W.e_NoMark,W.e_NoFile,W.e_BadMode,W.e_BadKind,W.e_BadStretch,W.e_NoAsk,W.e_NoBack,W.e_NoText,W.e_Held,W.e_new,W.i_Held,W.x_Held,W.e_is,W.e_no,W.n_is,W.x_VE,W.x_sub⟩,W.hB,W.hBl⟩
theorem i_Held(W:Wr P w K mg base gy):Mx P w K mg base (gy.xc 13):=by
 obtain⟨f,fd,F,i,d⟩:=W.i_Held;refine⟨f,fd,["self","blocker"],i,d,?_,F.binds λ_ _ _ _ _ _ us h=>?_⟩
 rotate_left
 ·revert us;exact b2 λ_ _=>rfl
 refine F.ok1 (k:=0) (N:=["self","blocker"]) bT (λvs H Q E h=>?_) λj A outer s H vs Q E hr h=>?_
 ·obtain⟨_,_,_,rfl,_⟩:=h;rfl
 ·obtain⟨e,t,v,rfl,c,q⟩:=h;refine⟨IG (gy.xc 13) (xv 0)<|xv 1,?_,v,rfl,.ref e,rfl,e,t,rfl,c,q⟩
  (conv=>arg 2;whnf)
  with_reducible exact lr (Hj rfl W.x_Held (pv 0) (pv 1) rfl)
end
abbrev XX(T:∀{u:Ph} {r:Py} {p:OK} {o:Str->Option OC} {m:Pk} {l:Gy},Wr u r p o m l->BF->Prop):={b:BF // ∀{j:Ph} {i:Py} {h:OK} {f:Str->Option OC} {d:Pk} {c:Gy} (W:Wr j i h f d c),T W b}
section
variable(W:Wr P w K mg base gy)
local macro_rules | `(tactic| apply $t:term) => `(tactic| ((conv => arg 2;whnf);with_reducible refine $t))
local macro_rules | `(tactic| rfl) => `(tactic| with_unfolding_all exact rfl)
local macro_rules | `(tactic| trivial) => `(tactic| with_unfolding_all (first | exact Or.inl rfl | exact Or.inr rfl | exact tV _ | exact (fun _ _ => rfl) | exact (fun _ => rfl) | exact ⟨rfl, rfl, rfl, rfl⟩))
theorem wT:ai ["thing"] ["thing"] (ae<|aD 18):=bT
def iG:XX λW b=>W.cal "is_whole" 1 1 b:=⟨bH 1 _,λW=>cB W.d_is_whole wT (b1 λ_=>rfl) λhr c=>by
  apply(ag<|aB<|ul (yc .int (by rfl) W.M.isinstance (uv 0)<|oq (v:=.ty "int") (by rfl) W.M.int AW<|by rfl)<|jn<|JB<|yc .bool (by rfl) W.M.isinstance (uv 0)<|oq (v:=.ty "bool") (by rfl) W.M.bool pC<|by rfl)⟩
theorem gY:ai ["thing","first","end"] ["thing"] (ae<|aD 19):=bT
def uY:XX λW b=>W.cal "is_stretch" 2 1 b:=⟨bH 3 _,λW=>cB W.d_is_stretch gY (b1 λ_=>rfl) λhr c=>by
  apply(af (a9 (PW.pt<|pI (gf<|c3<|yc .tuple (by rfl) W.M.isinstance (uv 0)<|oq (v:=.ty "tuple") (by rfl) W.M.tuple bM<|by rfl)<|mC<|bV HE DQ (bA eD iy (by rfl) W.M.len Ro<|aa (uv 0) ad) ah<|by trivial) (ag<|aB hZ) aV)
   (af (c6<|cH (uv 0)<|bD (n:=2) (by rfl)<|am (ug 1 gY.nd)<|am (ug 2 gY.nd) a7)
   (af (a9 (PW.pt<|pI (gf<|c3<|uc (iG.2 W) hr<|aa (uv 1) ad)<|mC<|bV oX mE (uv 1) ah<|by trivial) (ag<|aB hZ) aV)
   (ag<|aB<|DL (uq<|oS<|cG<|uv 2)<|jn<|ul (uc (iG.2 W) hr<|aa (uv 2) ad)<|jn<|gT oX mE (uv 1) (uv 2)<|by trivial))))⟩
theorem yL:ai ["end","cell"] ["end","cell"] (ae<|aD 26):=bT
def tm:XX λW b=>W.cal "reaches" 1 2 b:=⟨bH 2 _,λW=>cB W.d_reaches yL (b2 λ_ _=>rfl) λhr c=>by
  apply(ag<|aB<|DL (uq<|oS<|cG<|uv 0)<|jn<|gT HF JF (uv 0) (uv 1)<|by trivial)⟩
theorem qx:ai ["one","other"] ["one","other"] (ae<|aD 27):=bT
def j7:XX λW b=>W.cal "earlier_end" 1 2 b:=⟨bH 2 _,λW=>cB W.d_earlier_end qx (b2 λ_ _=>rfl) λhr c=>by
  apply(af (a9 (eG<|cP<|cG<|uv 0) (ag<|aB<|uv 1) aV)
   (af (a9 (eG<|cP<|cG<|uv 1) (ag<|aB<|uv 0) aV)
   (ag<|aB<|bA (xX<|by rfl) Gr (by rfl) W.M.min AX<|aa (uv 0)<|aa (uv 1) ad)))⟩
theorem uZ:ai ["one","other"] ["one","other"] (ae<|aD 28):=bT
def nF:XX λW b=>W.cal "later_end" 1 2 b:=⟨bH 2 _,λW=>cB W.d_later_end uZ (b2 λ_ _=>rfl) λhr c=>by
  apply(af (a9 (PW.pt<|pI (eG<|cP<|cG<|uv 0)<|mC<|eG<|cP<|cG<|uv 1) (ag<|aB kJ) aV)
   (ag<|aB<|bA (kG<|by rfl) qi (by rfl) W.M.max my<|aa (uv 0)<|aa (uv 1) ad))⟩
theorem wU:ai ["one","other","end"] ["one","other"] (ae<|aD 24):=bT
def u3:XX λW b=>W.cal "meets" 2 2 b:=⟨bH 3 _,λW=>cB W.d_meets wU (b2 λ_ _=>rfl) λhr c=>by
  apply(af (ua 2 wU.nd<|uc (j7.2 W) hr<|aa (bf (uv 0) ah<|by trivial)<|aa (bf (uv 1) ah<|by trivial) ad)
   (ag<|aB<|DL (uq<|oS<|cG<|uv 2)<|jn<|gT oX mE (bA (kG<|by rfl) qi (by rfl) W.M.max my<|aa (bf (uv 0) ah<|by trivial)<|aa (bf (uv 1) ah<|by trivial) ad) (uv 2)<|by trivial))⟩
theorem eQ:ai ["lot","rows","start","first","end"] ["lot"] (ae<|aD 25):=bT
def Ch:XX λW b=>W.cal "gaps_of" 1 1 b:=⟨bH 5 _,λW=>cB W.d_gaps_of eQ (b1 λ_=>rfl) λhr c=>by
  apply(af (ua 1 eQ.nd<|fF ad)
   (af (ua 2 eQ.nd ah)
   (af (jr 40 PP (by rfl) (gh<|f9<|uv 0) (bD (n:=2) (by rfl)<|am (ug 3 eQ.nd)<|am (ug 4 eQ.nd) a7) (af (a9 (bV oX Hf (uv 2) (uv 3)<|by trivial) (ag<|au<|iT c5<|fg Pl PU P4 (by with_unfolding_all exact cY) (uv 1)<|aa (aC<|aa (uv 2)<|aa (uv 3) ad) ad) aV)
   (af (a9 (eG<|cP<|cG<|uv 4) (ag<|aB<|b9 bY cM (by rfl) W.M.tuple bM<|aa (uv 1) ad) aV)
   (ag<|ua 2 eQ.nd<|uv 4))))
   (af (au<|iT c5<|fg Pl PU P4 (by with_unfolding_all exact cY) (uv 1)<|aa (aC<|aa (uv 2)<|aa kJ ad) ad)
   (ag<|aB<|b9 bY cM (by rfl) W.M.tuple bM<|aa (uv 1) ad)))))⟩
theorem gH:ai ["one","other","rows","at","beside","left","right","end"] ["one","other"] (ae<|aD 23):=bT
def Ku:XX λW b=>W.cal "both" 3 2 b:=⟨bH 8 _,λW=>cB W.d_both gH (b2 λ_ _=>rfl) λhr c=>by
  apply(af (ua 2 gH.nd<|fF ad)
   (af (ua 3 gH.nd ah)
   (af (ua 4 gH.nd ah)
   (af (jq 40 PP (PW.pt<|xZ (bV oX mE (uv 3) (bA eD iy (by rfl) W.M.len Ro<|aa (uv 0) ad)<|by trivial)<|uk<|bV oX mE (uv 4) (bA eD iy (by rfl) W.M.len Ro<|aa (uv 1) ad)<|by trivial) (af (JP<|IX (i:=5) (j:=6) (by rfl) gH.nd (by rfl) (by rfl) (by decide) (by rfl) (by rfl) (aa (bf (uv 0) (uv 3)<|by trivial)<|aa (bf (uv 1) (uv 4)<|by trivial) ad)<|by rfl)
   (af (ua 7 gH.nd<|uc (j7.2 W) hr<|aa (bf (uv 5) ah<|by trivial)<|aa (bf (uv 6) ah<|by trivial) ad)
   (af (a9 (c3<|uc (u3.2 W) hr<|aa (uv 5)<|aa (uv 6) ad) (ag<|au<|iT c5<|fg Pl PU P4 (by with_unfolding_all exact cY) (uv 2)<|aa (aC<|aa (bA (kG<|by rfl) qi (by rfl) W.M.max my<|aa (bf (uv 5) ah<|by trivial)<|aa (bf (uv 6) ah<|by trivial) ad)<|aa (uv 7) ad) ad) aV)
   (ag<|a9 (bV iP fG (bf (uv 5) ah<|by trivial) (uv 7)<|by trivial) (ag<|yd mG<|xy (i:=3) gH.nd (by rfl) (by trivial) ah xz)<|ag<|yd mG<|xy (i:=4) gH.nd (by rfl) (by trivial) ah xz)))))
   (ag<|aB<|b9 bY cM (by rfl) W.M.tuple bM<|aa (uv 2) ad)))))⟩
theorem yM:ai ["one","other"] ["one","other"] (ae<|aD 22):=bT
def tz:XX λW b=>W.cal "without" 4 2 b:=⟨bH 2 _,λW=>cB W.d_without yM (b2 λ_ _=>rfl) λhr c=>by
  apply(ag<|aB<|uc (Ku.2 W) hr<|aa (uv 0)<|aa (uc (Ch.2 W) hr<|aa (uv 1) ad) ad)⟩
theorem jK:ai ["stretches","rows","first","end"] ["stretches"] (ae<|aD 20):=bT
@[reducible] def Ci:BS:=(fU (jQ (LG bE)<|cy 1)
 (fU (GB 40 (Iq<|uI<|aU 0) (v4 2<|pM (cy 2)<|pM (cy 3) D2)
 (Gj (Gg (LN<|aU 1)<|bB<|nq (nZ 2 tm.1)<|aG (mB FD (mB FD (aU 1)<|Eb<|bI 1)<|bI 1)<|aG (aU 2) bE)
 (Io (aU 1) (Eb<|bI 1)<|jm<|aG (mB FD (mB FD (aU 1)<|Eb<|bI 1)<|bI 0)<|aG (nq (nZ 2 nF.1)<|aG (mB FD (mB FD (aU 1)<|Eb<|bI 1)<|bI 1)<|aG (aU 3) bE) bE)
 (gB<|MX oH (aU 1)<|aG (jm<|aG (aU 2)<|aG (aU 3) bE) bE)))
 (x4<|KN ya<|aG (aU 1) bE)))
def Fi:BF:=bH 4 Ci
theorem Cj:W.cal "lot_of" 2 1 Fi:=by
 obtain⟨c,d,i⟩:=W.d_lot_of;have j:=oM (mg:=mg) i W.nT;refine uQ (n:=1) d jK (hb:=λ_ _ _ _ _ _ us h=>match us,h with | [_],_=>rfl) (hbody:=λf A outer s H E hr=>?_);have l:=dl hr;apply(af (ua 1 jK.nd<|fF ad)
   (af (jr 40 PP (by rfl) (gU<|eV<|BV W.hP W.hQ<|DH j W.hB (by rfl) hr.depth W.M.sorted<|uv 0) (bD (n:=2) (by rfl)<|am (ug 2 jK.nd)<|am (ug 3 jK.nd) a7)<|ag<|a9 (PW.pt<|xZ (gg<|dR<|uv 1)<|uk<|c3<|uc (tm.2 W) hr<|aa (bf (bf (uv 1) (uC ah)<|by trivial) ah<|by trivial)<|aa (uv 2) ad) (ag<|GA (value:=.Name "" ⟨0,0,0,0⟩)<|cH (aC<|aa (bf (bf (uv 1) (uC ah)<|by trivial) ah<|by trivial)<|aa (uc (nF.2 W) hr<|aa (bf (bf (uv 1) (uC ah)<|by trivial) ah<|by trivial)<|aa (uv 3) ad) ad)<|IW (uv 1) (uC ah) CZ)<|ag<|au<|iT c5<|fg Pl PU P4 (by with_unfolding_all exact cY) (uv 1)<|aa (aC<|aa (uv 2)<|aa (uv 3) ad) ad)
   (ag<|aB<|b9 bY cM (by rfl) W.M.tuple bM<|aa (uv 1) ad)))
theorem Ck:ai ["one","other"] ["one","other"] (ae<|aD 21):=bT
def wV:XX λW b=>W.cal "joined" 3 2 b:=⟨bH 2 _,λW=>cB W.d_joined Ck (b2 λ_ _=>rfl) λhr c=>by
  apply(ag<|aB<|uc (Cj W) hr<|aa (fi dQ dW (uv 0)<|uv 1) ad)⟩
theorem k6:ai ["self","files","fair"] ["self","files","fair"] (ae<|aj (aD 100) 0):=bT
abbrev gZ:PQ:=xt [("file",.local)]
theorem ft:aX (ae<|aj (aD 100) 0) ["self","files","fair"] gZ ["file"] [none]:=xu
abbrev g6:PQ:=xt [("file",.local)]
theorem fu:aX (ae<|aj (aD 100) 0) ["self","files","fair"] g6 ["file"] [none]:=xu
def lZ:XX λ{P w K mg base gy} W b=>NK P w K mg base gy eY 0 "Tables" 1 3 b:=⟨bH 3 _,λW=>NT W.i_Tables W.g_Tables k6 (b3 λ_ _ _=>rfl) λhr c=>by
  apply(af (c4 31 (by decide +kernel) (by decide) W.G.cls W.G.na_files (uv 0) (uv 1)<|by rfl)
   (af (c4 29 (by decide +kernel) (by decide) W.G.cls W.G.na_fair (uv 0) (uv 2)<|by rfl)
   (af (c4 35 (by decide +kernel) (by decide) W.G.cls W.G.na_given (uv 0) (iC (bS (ao 66) ah<|bS (ao 45) ah<|bS (ao 3) ah iB) (by rfl) (by rfl) (by simp)<|by decide)<|by rfl)
   (af (c4 41 (by decide +kernel) (by decide) W.G.cls W.G.na_leads (uv 0) ib<|by rfl)
   (af (c4 54 (by decide +kernel) (by decide) W.G.cls W.G.na_opened (uv 0) ib<|by rfl)
   (af (c4 38 (by decide +kernel) (by decide) W.G.cls W.G.na_held (uv 0) (IA 40 (ix:=[none]) (by decide)<|Iz (by rfl) (by with_unfolding_all exact ft) (gh<|f9<|uv 1) (λ_ _ _ _ _=>(ug 0 ft.nd)) (λ_ _ _ _ _=>c7) (λ_ _ _ _ _=>(uv 0))<|λ_ _ _ _ _=>DW)<|by rfl)
   (af (c4 75 (by decide +kernel) (by decide) W.G.cls W.G.na_whole (uv 0) (IA 40 (ix:=[none]) (by decide)<|Iz (by rfl) (by with_unfolding_all exact fu) (gh<|f9<|uv 1) (λ_ _ _ _ _=>(ug 0 fu.nd)) (λ_ _ _ _ _=>c7) (λ_ _ _ _ _=>(uv 0))<|λ_ _ _ _ _=>ib)<|by rfl)
   (af (c4 73 (by decide +kernel) (by decide) W.G.cls W.G.na_waiting (uv 0) ib<|by rfl)
   (af (c4 5 (by decide +kernel) (by decide) W.G.cls W.G.na_asleep (uv 0) ib<|by rfl)
   (af (c4 56 (by decide +kernel) (by decide) W.G.cls W.G.na_outcomes (uv 0) ib<|by rfl)
   (ag<|c4 19 (by decide +kernel) (by decide) W.G.cls W.G.na_changes (uv 0) (fF ad)<|by rfl)))))))))))⟩
theorem rE:ai ["self","table","key","value"] ["self","table","key","value"] (ae<|aj (aD 100) 1):=bT
def bW:XX λW b=>W.met 0 "put" 1 4 [] b:=⟨bH 4 _,λW=>wG W.t_Tables_put rE (b4 λ_ _ _ _=>rfl) λhr c=>by
  apply(af (au<|iT c5<|fg Pl PU P4 (by with_unfolding_all exact cY) (iE W.G<|uv 0)<|aa (aC<|aa (uv 1)<|aa (uv 2)<|aa (Gp c (uv 1) (uv 2)<|by trivial) ad) ad)
   (ag<|ut c (uv 1) (uv 2) (uv 3)<|by rfl))⟩
theorem qy:ai ["self","table","key"] ["self","table","key"] (ae<|aj (aD 100) 2):=bT
def rF:XX λW b=>W.met 0 "drop" 1 3 [] b:=⟨bH 3 _,λW=>wG W.t_Tables_drop qy (b3 λ_ _ _=>rfl) λhr c=>by
  apply(ag (a9 (DV c (uv 2) (uv 1)<|by rfl) (af (au<|iT c5<|fg Pl PU P4 (by with_unfolding_all exact cY) (iE W.G<|uv 0)<|aa (aC<|aa (uv 1)<|aa (uv 2)<|aa (bd c (uv 1) (uv 2)<|by trivial) ad) ad)
   (ag<|Ak c (uv 1)<|uv 2)) aV))⟩
theorem iU:ai ["self","sort","number"] ["self","sort"] (ae<|aj (aD 100) 4):=bT
def gj:XX λW b=>W.met 0 "fresh" 2 2 [] b:=⟨bH 3 _,λW=>wG W.t_Tables_fresh iU (b2 λ_ _=>rfl) λhr c=>by
  apply(af (ua 2 iU.nd<|bd c (qf W.G<|uv 0) (uv 1)<|by trivial)
   (af (au<|um (bW.2 W) W.G.c0 hr (uv 0)<|aa (qf W.G<|uv 0)<|aa (uv 1)<|aa (fi gQ gE (uv 2) ah) ad)
   (ag<|aB<|uv 2)))⟩
theorem Cl:ai ["table","number"] ["table","number"] (ae<|aD 34):=bT
def qA:XX λW b=>W.cal "is_key" 2 2 b:=⟨bH 2 _,λW=>cB W.d_is_key Cl (b2 λ_ _=>rfl) λhr c=>by
  apply(ag<|aB<|ul (uc (iG.2 W) hr<|aa (uv 1) ad)<|jn<|DU c (uv 1) (uv 0)<|by rfl)⟩
theorem rG:ai ["tables","task"] ["tables","task"] (ae<|aD 35):=bT
def d6:XX λ{P w K mg base gy} W b=>cF P w K mg base gy (bL P w) "check_task" 3 2 b:=⟨bH 2 _,λW=>c9 W.d_check_task rG (b2 λ_ _=>rfl) λhr d=>by
  apply(ag<|a9 (gf<|c3<|uc (qA.2 W) hr<|aa (d4 W.G<|uv 0)<|aa (uv 1) ad) (ag<|cC (c:=1) (by rfl) (by rfl) lW W.e_NoTask<|W.e_new 1<|by decide) aV)⟩
theorem qB:ai ["tables","task"] ["tables","task"] (ae<|aD 36):=bT
def g7:XX λ{P w K mg base gy} W b=>cF P w K mg base gy (bL P w) "check_awake" 4 2 b:=⟨bH 2 _,λW=>c9 W.d_check_awake qB (b2 λ_ _=>rfl) λhr d=>by
  apply(af (au<|bg (d6.2 W) (hr.mono<|by decide) aJ<|aa (uv 0)<|aa (uv 1) ad)
   (ag<|a9 (DV d (uv 1) (jH W.G<|uv 0)<|by rfl) (ag<|cC (c:=2) (by rfl) (by rfl) lW W.e_Asleep<|W.e_new 2<|by decide) aV))⟩
theorem rH:ai ["tables","file"] ["tables","file"] (ae<|aD 37):=bT
def iI:XX λ{P w K mg base gy} W b=>cF P w K mg base gy (bL P w) "check_file" 1 2 b:=⟨bH 2 _,λW=>c9 W.d_check_file rH (b2 λ_ _=>rfl) λhr d=>by
  apply(ag<|a9 (bV A8 pL (uv 1) (EM W.G<|uv 0)<|by rfl) (ag<|cC (c:=6) (by rfl) (by rfl) lW W.e_NoFile<|W.e_new 6<|by decide) aV)⟩
theorem rJ:ai ["mode"] ["mode"] (ae<|aD 38):=bT
def u4:XX λ{P w K mg base gy} W b=>cF P w K mg base gy (bL P w) "check_mode" 1 1 b:=⟨bH 1 _,λW=>c9 W.d_check_mode rJ (b1 λ_=>rfl) λhr d=>by
  apply(ag<|a9 (uO (by rfl) W.T.g_MODES (uv 0)<|by rfl) (ag<|cC (c:=7) (by rfl) (by rfl) lW W.e_BadMode<|W.e_new 7<|by decide) aV)⟩
theorem rK:ai ["kind"] ["kind"] (ae<|aD 39):=bT
def iJ:XX λ{P w K mg base gy} W b=>cF P w K mg base gy (bL P w) "check_kind" 1 1 b:=⟨bH 1 _,λW=>c9 W.d_check_kind rK (b1 λ_=>rfl) λhr d=>by
  apply(ag<|a9 (uO (by rfl) W.T.g_KINDS (uv 0)<|by rfl) (ag<|cC (c:=8) (by rfl) (by rfl) lW W.e_BadKind<|W.e_new 8<|by decide) aV)⟩
theorem wW:ai ["by"] ["by"] (ae<|aD 40):=bT
def k7:XX λ{P w K mg base gy} W b=>cF P w K mg base gy (bL P w) "check_by" 1 1 b:=⟨bH 1 _,λW=>c9 W.d_check_by wW (b1 λ_=>rfl) λhr d=>by
  apply(ag<|a9 (uO (by rfl) W.T.g_HOLDERS (uv 0)<|by rfl) (ag<|cC (c:=8) (by rfl) (by rfl) lW W.e_BadKind<|W.e_new 8<|by decide) aV)⟩
theorem mQ:ai ["stretch"] ["stretch"] (ae<|aD 42):=bT
def fN:XX λ{P w K mg base gy} W b=>cF P w K mg base gy (bL P w) "check_stretch" 3 1 b:=⟨bH 1 _,λW=>c9 W.d_check_stretch mQ (b1 λ_=>rfl) λhr d=>by
  apply(ag<|a9 (gf<|c3<|uc (uY.2 W) hr<|aa (uv 0) ad) (ag<|cC (c:=9) (by rfl) (by rfl) lW W.e_BadStretch<|W.e_new 9<|by decide) aV)⟩
theorem k8:ai ["tables","task","handle","number","mark"] ["tables","task","handle"] (ae<|aD 43):=bT
def Cm:XX λW b=>W.cal "mark_at" 2 3 b:=⟨bH 5 _,λW=>cB W.d_mark_at k8 (b3 λ_ _ _=>rfl) λhr c=>by
  apply(af (a9 (c3<|uc (iG.2 W) hr<|aa (uv 2) ad) (ag<|jr 40 PP (by rfl) (gh<|f9<|bd c (d4 W.G<|uv 0) (uv 1)<|by trivial) (bD (n:=2) (by rfl)<|am (ug 3 k8.nd)<|am (ug 4 k8.nd) a7)<|ag<|a9 (bV iP fG (uv 3) (uv 2)<|by trivial) (ag<|aB<|uv 4) aV) aV)
   (ag<|aB kJ))⟩
theorem qC:ai ["tables","task","handle","mark"] ["tables","task","handle"] (ae<|aD 44):=bT
def tE:XX λ{P w K mg base gy} W b=>cF P w K mg base gy (bL P w) "mark_of" 4 3 b:=⟨bH 4 _,λW=>c9 W.d_mark_of qC (b3 λ_ _ _=>rfl) λhr d=>by
  apply(af (au<|bg (d6.2 W) (hr.mono<|by decide) aJ<|aa (uv 0)<|aa (uv 1) ad)
   (af (PS.nox<|ua 3 qC.nd<|uc (Cm.2 W) hr<|aa (uv 0)<|aa (uv 1)<|aa (uv 2) ad)
   (af (a9 (eG<|cP<|cG<|uv 3) (ag<|cC (c:=4) (by rfl) (by rfl) lW W.e_NoHandle<|W.e_new 4<|by decide) aV)
   (ag<|PS.nox<|aB<|uv 3))))⟩
theorem rL:ai ["tables","task","handle"] ["tables","task","handle"] (ae<|aD 45):=bT
def df:XX λ{P w K mg base gy} W b=>cF P w K mg base gy (bL P w) "awake_mark" 5 3 b:=⟨bH 3 _,λW=>c9 W.d_awake_mark rL (b3 λ_ _ _=>rfl) λhr c=>by
  apply(af (au<|bg (g7.2 W) (hr.mono<|by decide) aJ<|aa (uv 0)<|aa (uv 1) ad)
   (ag<|aB<|bg (tE.2 W) (hr.mono<|by decide) aJ<|aa (uv 0)<|aa (uv 1)<|aa (uv 2) ad))⟩
theorem qD:ai ["tables","number"] ["tables","number"] (ae<|aD 46):=bT
def rM:XX λ{P w K mg base gy} W b=>cF P w K mg base gy (bL P w) "opened_mark" 3 2 b:=⟨bH 2 _,λW=>c9 W.d_opened_mark qD (b2 λ_ _=>rfl) λhr d=>by
  apply(af (a9 (gf<|c3<|uc (qA.2 W) hr<|aa (dM W.G<|uv 0)<|aa (uv 1) ad) (ag<|cC (c:=5) (by rfl) (by rfl) lW W.e_NoMark<|W.e_new 5<|by decide) aV)
   (ag aP))⟩
theorem u5:ai ["table","number"] ["table","number"] (ae<|aD 47):=bT
def nG:XX λ{P w K mg base gy} W b=>cF P w K mg base gy (bL P w) "ask_entry" 3 2 b:=⟨bH 2 _,λW=>c9 W.d_ask_entry u5 (b2 λ_ _=>rfl) λhr d=>by
  apply(af (a9 (gf<|c3<|uc (qA.2 W) hr<|aa (uv 0)<|aa (uv 1) ad) (ag<|cC (c:=10) (by rfl) (by rfl) lW W.e_NoAsk<|W.e_new 10<|by decide) aV)
   (ag<|PS.nox<|aB<|bd d (uv 0) (uv 1)<|by trivial))⟩
theorem cN:ai ["row","first","end","kind","by","number"] ["row"] (ae<|aD 49):=bT
def l0:XX λW b=>W.cal "lock_order" 1 1 b:=⟨bH 6 _,λW=>cB W.d_lock_order cN (b1 λ_=>rfl) λhr c=>by
  apply(af (c6<|cH (uv 0)<|bD (n:=5) (by rfl)<|am (ug 1 cN.nd)<|am (ug 2 cN.nd)<|am (ug 3 cN.nd)<|am (ug 4 cN.nd)<|am (ug 5 cN.nd) a7)
   (ag<|aB<|aC<|aa (uv 1)<|aa (uq<|oS<|cG<|uv 2)<|aa (fm (eG<|cP<|cG<|uv 2) ah<|uv 2)<|aa (uv 3)<|aa (uv 4)<|aa (uv 5) ad))⟩
theorem d7:ai ["tables","file","rows","holder","shared","alone"] ["tables","file"] (ae<|aD 50):=bT
abbrev k9:PQ:=xt [("stretch",.local),("holder",.free)]
theorem ju:aX (ae<|aD 50) ["tables","file","rows","holder","shared","alone"] k9 ["stretch","holder"] [none,some 3]:=xu
abbrev lb:PQ:=xt [("stretch",.local),("holder",.free)]
theorem jv:aX (ae<|aD 50) ["tables","file","rows","holder","shared","alone"] lb ["stretch","holder"] [none,some 3]:=xu
def wX:XX λW b=>W.cal "lock_rows" 1 2 b:=⟨bH 6 _,λW=>cB W.d_lock_rows d7 (b2 λ_ _=>rfl) λhr c=>by
  apply(af (ua 2 d7.nd<|fF ad)
   (af (zW 40 PP (by rfl) (bd c (jG W.G<|uv 0) (uv 1)<|by trivial) (bD (n:=2) (by rfl)<|am (ug 3 d7.nd)<|am (bD (n:=2) (by rfl)<|am (ug 4 d7.nd)<|am (ug 5 d7.nd) a7) a7) (af (au<|iT iA<|fg Pl Rb RI (by with_unfolding_all exact jB) (uv 2)<|aa (lM 40 (ix:=[none,some 3]) (by decide)<|lB (by rfl) (by with_unfolding_all exact ju) (gh<|f9<|uv 4) (λ_ _ _ _ _=>(ug 0 ju.nd)) (λ_ _ _ _ _=>c7)<|λ_ _ _ _ _=>(fi dQ dW (fi dQ dW (uv 0)<|aC<|aa (ao 63) ad)<|uv 1)) ad)
   (ag<|au<|iT iA<|fg Pl Rb RI (by with_unfolding_all exact jB) (uv 2)<|aa (lM 40 (ix:=[none,some 3]) (by decide)<|lB (by rfl) (by with_unfolding_all exact jv) (gh<|f9<|uv 5) (λ_ _ _ _ _=>(ug 0 jv.nd)) (λ_ _ _ _ _=>c7)<|λ_ _ _ _ _=>(fi dQ dW (fi dQ dW (uv 0)<|aC<|aa (ao 2) ad)<|uv 1)) ad)))
   (ag<|aB<|uv 2)))⟩
theorem rN:ai ["tables","file"] ["tables","file"] (ae<|aD 51):=bT
def u6:XX λW b=>W.cal "told_locks" 4 2 b:=⟨bH 2 _,λW=>cB W.d_told_locks rN (b2 λ_ _=>rfl) λhr c=>by
  apply(ag<|aB<|b9 bY cM (by rfl) W.M.tuple bM<|aa (sR (l0.2 W) (by rfl) (hr.mono<|by decide) W.M.sorted<|uc (wX.2 W) hr<|aa (uv 0)<|aa (uv 1) ad) ad)⟩
theorem u7:ai ["tables"] ["tables"] (ae<|aD 53):=bT
abbrev lg:PQ:=xt [("number",.local),("tables",.free)]
theorem jw:aX (ae<|aD 53) ["tables"] lg ["number","tables"] [none,some 0]:=xu
def wY:XX λW b=>W.cal "told_asks" 1 1 b:=⟨bH 1 _,λW=>cB W.d_told_asks u7 (b1 λ_=>rfl) λhr c=>by
  apply(ag<|aB<|b9 bY cM (by rfl) W.M.tuple bM<|aa (lM 40 (ix:=[none,some 0]) (by decide)<|lB (by rfl) (by with_unfolding_all exact jw) (gU<|eV<|bA (dI<|by rfl) eO (by rfl) W.M.sorted bU<|aa (bJ W.G<|uv 0) ad) (λ_ _ _ _ _=>(ug 0 jw.nd)) (λ_ _ _ _ _=>c7)<|λ_ _ _ _ _=>(bd c (bJ W.G<|uv 1) (uv 0)<|by trivial)) ad)⟩
theorem tF:ai ["tables","task","mark","kind","stretch","by","holder"] ["tables","task","mark","kind","stretch","by"] (ae<|aD 54):=bT
def Fj:XX λW b=>W.cal "ask_of" 1 6 b:=⟨bH 7 _,λW=>cB W.d_ask_of tF (b6 λ_ _ _ _ _ _=>rfl) λhr c=>by
  apply(af (ua 6 tF.nd<|fm (bV iP fG (uv 5) (ao 66)<|by trivial) (uv 1)<|uv 2)
   (ag<|aB<|aC<|aa (bd c (qf W.G<|uv 0) (ao 3)<|by trivial)<|aa (uv 1)<|aa (bf (bd c (dM W.G<|uv 0) (uv 2)<|by trivial) ah<|by trivial)<|aa (uv 3)<|aa (uv 4)<|aa (uv 5)<|aa (uv 6) ad))⟩
theorem Fk:ai ["kind","other"] ["kind","other"] (ae<|aD 55):=bT
def Ax:XX λW b=>W.cal "clash" 1 2 b:=⟨bH 2 _,λW=>cB W.d_clash Fk (b2 λ_ _=>rfl) λhr c=>by
  apply(ag<|aB<|gT ub pL (ao 2) (aC<|aa (uv 0)<|aa (uv 1) ad)<|by rfl)⟩
theorem aE:ai ["tables","ask","number","task","file","kind","stretch","by","holder","rows","other","shared","alone","other_kind","lot"] ["tables","ask"] (ae<|aD 56):=bT
abbrev fX:PQ:=xt [("part",.local),("meets",.globalImplicit),("other",.free),("other_kind",.free),("stretch",.free)]
theorem dN:aX (ae<|aD 56) ["tables","ask","number","task","file","kind","stretch","by","holder","rows","other","shared","alone","other_kind","lot"] fX ["part","other_kind","other","stretch"] [none,some 13,some 10,some 6]:=xu
def jx:XX λW b=>W.cal "blocking_stretches" 4 2 b:=⟨bH 15 _,λW=>cB W.d_blocking_stretches aE (b2 λ_ _=>rfl) λhr c=>by
  apply(af (c6<|cH (uv 1)<|bD (n:=7) (by rfl)<|am (ug 2 aE.nd)<|am (ug 3 aE.nd)<|am (ug 4 aE.nd)<|am (ug 5 aE.nd)<|am (ug 6 aE.nd)<|am (ug 7 aE.nd)<|am (ug 8 aE.nd) a7)
   (af (ua 9 aE.nd<|fF ad)
   (af (zW 40 PP (by rfl) (bd c (jG W.G<|uv 0) (uv 4)<|by trivial) (bD (n:=2) (by rfl)<|am (ug 10 aE.nd)<|am (bD (n:=2) (by rfl)<|am (ug 11 aE.nd)<|am (ug 12 aE.nd) a7) a7)<|ag<|a9 (bV (Do<|AZ hr) jE (uv 10) (aC<|aa (uv 7)<|aa (uv 8) ad)<|by trivial) (ag<|jr 40 PP (by rfl) (gh<|f9<|aC<|aa (aC<|aa (ao 63)<|aa (uv 11) ad)<|aa (aC<|aa (ao 2)<|aa (uv 12) ad) ad) (bD (n:=2) (by rfl)<|am (ug 13 aE.nd)<|am (ug 14 aE.nd) a7)<|ag<|a9 (c3<|uc (Ax.2 W) hr<|aa (uv 5)<|aa (uv 13) ad) (ag<|au<|iT iA<|fg Pl Rb RI (by with_unfolding_all exact jB) (uv 9)<|aa (lM 40 (ix:=[none,some 13,some 10,some 6]) (by decide)<|lB (by rfl) (by with_unfolding_all exact dN) (gh<|f9<|uv 14) (λ_ _ _ _ _=>(ug 0 dN.nd)) (λ_ _ _ _ _=>(jt<|c3<|uc (u3.2 W) hr<|aa (uv 0)<|aa (uv 3) ad))<|λ_ _ _ _ _=>(fi dQ dW (fi dQ dW (uv 0)<|aC<|aa (uv 1) ad)<|uv 2)) ad) aV) aV)
   (ag<|aB<|sR (l0.2 W) (by rfl) (hr.mono<|by decide) W.M.sorted<|uv 9))))⟩
theorem l4:ai ["tables","ask"] ["tables","ask"] (ae<|aD 58):=bT
def eR:XX λW b=>W.cal "blocking_locks" 5 2 b:=⟨bH 2 _,λW=>cB W.d_blocking_locks l4 (b2 λ_ _=>rfl) λhr c=>by
  apply(af (a9 (eG<|cP<|cG<|bf (uv 1) ah<|by trivial) (ag aP) aV)
   (ag<|aB<|uc (jx.2 W) hr<|aa (uv 0)<|aa (uv 1) ad))⟩
theorem jS:ai ["one","other"] ["one","other"] (ae<|aD 59):=bT
def lh:XX λW b=>W.cal "asks_are_against" 3 2 b:=⟨bH 2 _,λW=>cB W.d_asks_are_against jS (b2 λ_ _=>rfl) λhr c=>by
  apply(af (a9 (PW.pt<|pI (bV HE DQ (bf (uv 0) ah<|by trivial) (bf (uv 1) ah<|by trivial)<|by trivial)<|pI (bV (t9<|AZ hr) jE (Ec 5<|vD zx (uv 0) (zh cU) zg) (Ec 5<|vD zx (uv 1) (zh cU) zg)<|by trivial)<|mC<|gf<|c3<|uc (Ax.2 W) hr<|aa (bf (uv 0) ah<|by trivial)<|aa (bf (uv 1) ah<|by trivial) ad) (ag<|aB hZ) aV)
   (af (a9 (PW.pt<|pI (eG<|cP<|cG<|bf (uv 0) ah<|by trivial)<|mC<|eG<|cP<|cG<|bf (uv 1) ah<|by trivial) (ag<|aB<|gT iP fG (bf (uv 0) ah<|by trivial) (bf (uv 1) ah<|by trivial)<|by trivial) aV)
   (ag<|aB<|uc (u3.2 W) hr<|aa (bf (uv 0) ah<|by trivial)<|aa (bf (uv 1) ah<|by trivial) ad)))⟩
theorem il:ai ["tables","ask","elder"] ["tables","ask"] (ae<|aD 60):=bT
abbrev iK:PQ:=xt [("number",.local),("other",.local),("ask",.free)]
theorem dG:aX (ae<|aD 60) ["tables","ask","elder"] iK ["number","other","ask"] [none,none,some 1]:=xu
abbrev iL:PQ:=xt [("other",.local),("asks_are_against",.globalImplicit),("ask",.free)]
theorem gk:aX (ae<|aD 60) ["tables","ask","elder"] iL ["other","ask"] [none,some 1]:=xu
def fO:XX λW b=>W.cal "blocking_asks" 4 2 b:=⟨bH 3 _,λW=>cB W.d_blocking_asks il (b2 λ_ _=>rfl) λhr c=>by
  apply(af (a9 (gf<|gg<|dR<|G1 W.G<|uv 0) (ag<|aB<|fF ad) aV)
   (af (Bz 40 2 (ix:=[none,none,some 1]) (by decide)<|pk (by rfl) il.nd (by rfl) (by rfl) (by with_unfolding_all exact dG) (wc<|bJ W.G<|uv 0) (λ_ _ _ _ _=>(bD (n:=2) (by rfl)<|am (ug 0 dG.nd)<|am (ug 1 dG.nd) a7)) (λ_ _ _ _ _=>(jt<|bV oX mE (uv 0) (bf (uv 2) ah<|by trivial)<|by trivial))<|λ_ _ _ _ _=>(uv 1))
   (ag<|aB<|bA (dI<|by rfl) eO (by rfl) W.M.sorted bU<|aa (lM 40 (ix:=[none,some 1]) (by decide)<|lB (by rfl) (by with_unfolding_all exact gk) (gU<|eV<|uv 2) (λ_ _ _ _ _=>(ug 0 gk.nd)) (λ_ _ _ _ _=>(jt<|c3<|uc (lh.2 W) hr<|aa (uv 0)<|aa (uv 1) ad))<|λ_ _ _ _ _=>(bf (uv 0) ah<|by trivial)) ad)))⟩
theorem rP:ai ["tables","ask"] ["tables","ask"] (ae<|aD 61):=bT
def u8:XX λW b=>W.cal "is_blocked" 6 2 b:=⟨bH 2 _,λW=>cB W.d_is_blocked rP (b2 λ_ _=>rfl) λhr c=>by
  apply(ag<|aB<|b9 yf Ea (by rfl) W.M.bool pC<|aa (JV (uc (eR.2 W) hr<|aa (uv 0)<|aa (uv 1) ad)<|jn<|uc (fO.2 W) hr<|aa (uv 0)<|aa (uv 1) ad) ad)⟩
theorem eS:ai ["tables","ask","rows","elder"] ["tables","ask"] (ae<|aD 62):=bT
def og:XX λW b=>W.cal "first_blocker" 6 2 b:=⟨bH 4 _,λW=>cB W.d_first_blocker eS (b2 λ_ _=>rfl) λhr c=>by
  apply(af (ua 2 eS.nd<|uc (eR.2 W) hr<|aa (uv 0)<|aa (uv 1) ad)
   (af (a9 (gg<|dR<|uv 2) (ag<|aB<|bf (uv 2) ah<|by trivial) aV)
   (af (ua 3 eS.nd<|uc (fO.2 W) hr<|aa (uv 0)<|aa (uv 1) ad)
   (ag<|aB<|fm (gg<|dR<|uv 3) (bd c (bJ W.G<|uv 0) (bf (uv 3) ah<|by trivial)<|by trivial) kJ))))⟩
theorem u9:ai ["tables","file","holder","shared","alone"] ["tables","file","holder","shared","alone"] (ae<|aD 63):=bT
def nH:XX λW b=>W.cal "keep_lots" 2 5 b:=⟨bH 5 _,λW=>cB W.d_keep_lots u9 (b5 λ_ _ _ _ _=>rfl) λhr c=>by
  apply(ag<|a9 (PW.pt<|pI (gg<|dR<|uv 3)<|mC<|gg<|dR<|uv 4) (ag<|au<|um (bW.2 W) W.G.c0 hr (uv 0)<|aa (bd c (jG W.G<|uv 0) (uv 1)<|by trivial)<|aa (uv 2)<|aa (aC<|aa (uv 3)<|aa (uv 4) ad) ad)<|ag<|au<|um (rF.2 W) W.G.c0 hr (uv 0)<|aa (bd c (jG W.G<|uv 0) (uv 1)<|by trivial)<|aa (uv 2) ad)⟩
theorem g8:ai ["tables","file","holder","stretch","shared","alone"] ["tables","file","holder","stretch"] (ae<|aD 64):=bT
def vb:XX λW b=>W.cal "free_cells" 5 4 b:=⟨bH 6 _,λW=>cB W.d_free_cells g8 (b4 λ_ _ _ _=>rfl) λhr c=>by
  apply(af (c6<|cH (zJ c (bd c (jG W.G<|uv 0) (uv 1)<|by trivial) (uv 2) (aC<|aa (aC ad)<|aa (aC ad) ad)<|by trivial)<|bD (n:=2) (by rfl)<|am (ug 4 g8.nd)<|am (ug 5 g8.nd) a7)
   (ag<|au<|uc (nH.2 W) hr<|aa (uv 0)<|aa (uv 1)<|aa (uv 2)<|aa (uc (wO<|tz.2 W) hr<|aa (uv 4)<|aa (aC<|aa (uv 3) ad) ad)<|aa (uc (wO<|tz.2 W) hr<|aa (uv 5)<|aa (aC<|aa (uv 3) ad) ad) ad))⟩
theorem dB:ai ["tables","ask","number","task","file","kind","stretch","by","holder","shared","alone"] ["tables","ask"] (ae<|aD 65):=bT
def Kv:XX λW b=>W.cal "take" 6 2 b:=⟨bH 11 _,λW=>cB W.d_take dB (b2 λ_ _=>rfl) λhr c=>by
  apply(af (c6<|cH (uv 1)<|bD (n:=7) (by rfl)<|am (ug 2 dB.nd)<|am (ug 3 dB.nd)<|am (ug 4 dB.nd)<|am (ug 5 dB.nd)<|am (ug 6 dB.nd)<|am (ug 7 dB.nd)<|am (ug 8 dB.nd) a7)
   (af (a9 (eG<|cP<|cG<|uv 6) (af aP
   (ag aP)) aV)
   (af (au<|uc (vb.2 W) hr<|aa (uv 0)<|aa (uv 4)<|aa (aC<|aa (uv 7)<|aa (uv 8) ad)<|aa (uv 6) ad)
   (af (c6<|cH (zJ c (bd c (jG W.G<|uv 0) (uv 4)<|by trivial) (aC<|aa (uv 7)<|aa (uv 8) ad) (aC<|aa (aC ad)<|aa (aC ad) ad)<|by trivial)<|bD (n:=2) (by rfl)<|am (ug 9 dB.nd)<|am (ug 10 dB.nd) a7)
   (af (a9 (bV iP fG (uv 5) (ao 63)<|by trivial) (ag<|ua 9 dB.nd<|uc (wV.2 W) hr<|aa (uv 9)<|aa (aC<|aa (uv 6) ad) ad)<|ag<|ua 10 dB.nd<|uc (wV.2 W) hr<|aa (uv 10)<|aa (aC<|aa (uv 6) ad) ad)
   (ag<|au<|uc (nH.2 W) hr<|aa (uv 0)<|aa (uv 4)<|aa (aC<|aa (uv 7)<|aa (uv 8) ad)<|aa (uv 9)<|aa (uv 10) ad))))))⟩
theorem cn:ai ["tables","row","first","end","kind","by","number"] ["tables","row"] (ae<|aD 69):=bT
def qE:XX λW b=>W.cal "tasks_behind" 1 2 b:=⟨bH 7 _,λW=>cB W.d_tasks_behind cn (b2 λ_ _=>rfl) λhr c=>by
  apply(af (a9 (bV iP fG (bA eD iy (by rfl) W.M.len Ro<|aa (uv 1) ad) ah<|by trivial) (ag<|aB<|bf (bd c (dM W.G<|uv 0) (bf (uv 1) ah<|by trivial)<|by trivial) ah<|by trivial) aV)
   (af (c6<|cH (uv 1)<|bD (n:=5) (by rfl)<|am (ug 2 cn.nd)<|am (ug 3 cn.nd)<|am (ug 4 cn.nd)<|am (ug 5 cn.nd)<|am (ug 6 cn.nd) a7)
   (ag<|aB<|fm (bV iP fG (uv 5) (ao 66)<|by trivial) (aC<|aa (uv 6) ad)<|bf (bd c (dM W.G<|uv 0) (uv 6)<|by trivial) ah<|by trivial)))⟩
theorem nJ:ai ["tables","ask","needs"] ["tables","ask"] (ae<|aD 70):=bT
abbrev l5:PQ:=xt [("row",.local),("tasks_behind",.globalImplicit),("tables",.free)]
theorem j8:aX (ae<|aD 70) ["tables","ask","needs"] l5 ["row","tables"] [none,some 0]:=xu
abbrev l6:PQ:=xt [("number",.local),("tables",.free)]
theorem j9:aX (ae<|aD 70) ["tables","ask","needs"] l6 ["number","tables"] [none,some 0]:=xu
def yN:XX λW b=>W.cal "needs_of" 6 2 b:=⟨bH 3 _,λW=>cB W.d_needs_of nJ (b2 λ_ _=>rfl) λhr c=>by
  apply(af (D5 40 2 (ix:=[none,some 0]) (by decide)<|pk (by rfl) nJ.nd (by rfl) (by rfl) (by with_unfolding_all exact j8) (gU<|eV<|uc (eR.2 W) hr<|aa (uv 0)<|aa (uv 1) ad) (λ_ _ _ _ _=>(ug 0 j8.nd)) (λ_ _ _ _ _=>c7)<|λ_ _ _ _ _=>(uc (qE.2 W) hr<|aa (uv 1)<|aa (uv 0) ad))
   (af (au<|iT iA<|fg Pl Rb RI (by with_unfolding_all exact jB) (uv 2)<|aa (lM 40 (ix:=[none,some 0]) (by decide)<|lB (by rfl) (by with_unfolding_all exact j9) (gU<|eV<|uc (fO.2 W) hr<|aa (uv 0)<|aa (uv 1) ad) (λ_ _ _ _ _=>(ug 0 j9.nd)) (λ_ _ _ _ _=>c7)<|λ_ _ _ _ _=>(aC<|aa (bf (bd c (bJ W.G<|uv 1) (uv 0)<|by trivial) ah<|by trivial) ad)) ad)
   (ag<|aB<|uv 2)))⟩
theorem Cn:ai ["needs","free"] ["needs","free"] (ae<|aD 71):=bT
abbrev iV:PQ:=xt [("tasks",.local),("any",.globalImplicit),("free",.free)]
theorem nL:aX (ae<|aD 71) ["needs","free"] iV ["tasks","free"] [none,some 1]:=xu
abbrev oh:PQ:=xt [("task",.local),("free",.free)]
theorem nM:aX iV ["tasks","free"] oh ["task","free"] [none,some 1]:=xu
def Fl:XX λW b=>W.cal "can_go" 1 2 b:=⟨bH 2 _,λW=>cB W.d_can_go Cn (b2 λ_ _=>rfl) λhr c=>by
  apply(ag<|aB<|bA (Br<|by rfl) GF (by rfl) W.M.all Bp<|aa (lM 40 (ix:=[none,some 1]) (by decide)<|lB (by rfl) (by with_unfolding_all exact nL) (gU<|eV<|uv 0) (λ_ _ _ _ _=>(ug 0 nL.nd)) (λ_ _ _ _ _=>c7)<|λ_ _ _ _ _=>(bA (Bq<|by rfl) GE (by rfl) W.M.any Bo<|aa (lM 40 (ix:=[none,some 1]) (by decide)<|lB (by rfl) (by with_unfolding_all exact aX.re nM) (gh<|f9<|uv 0) (λ_ _ _ _ _=>(ug 0 nM.nd)) (λ_ _ _ _ _=>c7)<|λ_ _ _ _ _=>(DU c (uv 0) (uv 1)<|by rfl)) ad)) ad)⟩
theorem cz:ai ["tables","free","left","found","number"] ["tables"] (ae<|aD 72):=bT
abbrev jT:PQ:=xt [("task",.local),("tables",.free)]
theorem iW:aX (ae<|aD 72) ["tables","free","left","found","number"] jT ["task","tables"] [none,some 0]:=xu
abbrev jU:PQ:=xt [("number",.local),("needs_of",.globalImplicit),("tables",.free)]
theorem iX:aX (ae<|aD 72) ["tables","free","left","found","number"] jU ["number","tables"] [none,some 0]:=xu
def iM:XX λW b=>W.cal "stuck_asks" 7 1 b:=⟨bH 5 _,λW=>cB W.d_stuck_asks cz (b1 λ_=>rfl) λhr c=>by
  apply(af (BC 40 1 (ix:=[none,some 0]) (by decide)<|wl (by rfl) cz.nd (by rfl) (by rfl) (by with_unfolding_all exact iW) (zR<|d4 W.G<|uv 0) (λ_ _ _ _ _=>(ug 0 iW.nd)) (λ_ _ _ _ _=>(jt<|sF c (uv 0) (jH W.G<|uv 1)<|by rfl)) (λ_ _ _ _ _=>(uv 0))<|λ_ _ _ _ _=>hZ)
   (af (El 40 2 (ix:=[none,some 0]) (by decide)<|wl (by rfl) cz.nd (by rfl) (by rfl) (by with_unfolding_all exact iX) (gU<|eV<|bA (dI<|by rfl) eO (by rfl) W.M.sorted bU<|aa (bJ W.G<|uv 0) ad) (λ_ _ _ _ _=>(ug 0 iX.nd)) (λ_ _ _ _ _=>c7) (λ_ _ _ _ _=>(uv 0))<|λ_ _ _ _ _=>(uc (yN.2 W) hr<|aa (uv 1)<|aa (bd c (bJ W.G<|uv 1) (uv 0)<|by trivial) ad))
   (af (ua 3 cz.nd hZ)
   (af (jq 40 PP (gg<|dR<|uv 3) (af (ua 3 cz.nd hZ)
   (ag (jr 40 PP (by rfl) (gU<|eV<|b9 (pY<|by rfl) sP (by rfl) W.M.list pB<|aa (uv 2) ad) (ug 4 cz.nd) (ag (a9 (c3<|uc (Fl.2 W) hr<|aa (bd c (uv 2) (uv 4)<|by trivial)<|aa (uv 1) ad) (af (ut c (uv 1) (bf (bd c (bJ W.G<|uv 0) (uv 4)<|by trivial) ah<|by trivial) hZ<|by rfl)
   (af (Ak c (uv 2)<|uv 4)
   (ag<|ua 3 cz.nd hZ))) aV))))))
   (ag<|aB<|b9 (pY<|by rfl) sP (by rfl) W.M.list pB<|aa (uv 2) ad)))))⟩
theorem jy:ai ["tables","ask","number"] ["tables","ask"] (ae<|aD 67):=bT
def rQ:XX λW b=>W.cal "fall_asleep" 8 2 b:=⟨bH 3 _,λW=>cB W.d_fall_asleep jy (b2 λ_ _=>rfl) λhr c=>by
  apply(af (ua 2 jy.nd<|um (gj.2 W) W.G.c0 hr (uv 0)<|aa (ao 3) ad)
   (af (au<|um (bW.2 W) W.G.c0 hr (uv 0)<|aa (bJ W.G<|uv 0)<|aa (uv 2)<|aa (uv 1) ad)
   (af (au<|um (bW.2 W) W.G.c0 hr (uv 0)<|aa (jH W.G<|uv 0)<|aa (bf (uv 1) ah<|by trivial)<|aa (uv 2) ad)
   (af (au<|um (bW.2 W) W.G.c0 hr (uv 0)<|aa (nB W.G<|uv 0)<|aa (uv 2)<|aa (ao 74) ad)
   (af (a9 (bV ub pL (uv 2) (uc (iM.2 W) hr<|aa (uv 0) ad)<|by rfl) (ag aP) aV)
   (ag<|aB<|uv 2))))))⟩
theorem eT:ai ["tables","stuck"] ["tables"] (ae<|aD 73):=bT
def oi:XX λW b=>W.cal "give_up_stuck" 8 1 b:=⟨bH 2 _,λW=>cB W.d_give_up_stuck eT (b1 λ_=>rfl) λhr c=>by
  apply(af (ua 1 eT.nd<|uc (iM.2 W) hr<|aa (uv 0) ad)
   (ag (jq 40 PP (gg<|dR<|uv 1) (af aP
   (ag<|ua 1 eT.nd<|uc (iM.2 W) hr<|aa (uv 0) ad)))))⟩
theorem gm:ai ["tables","number"] ["tables"] (ae<|aD 74):=bT
def gI:XX λW b=>W.cal "first_unblocked" 7 1 b:=⟨bH 2 _,λW=>cB W.d_first_unblocked gm (b1 λ_=>rfl) λhr c=>by
  apply(af (jr 40 PP (by rfl) (gU<|eV<|bA (dI<|by rfl) eO (by rfl) W.M.sorted bU<|aa (bJ W.G<|uv 0) ad) (ug 1 gm.nd)<|ag<|a9 (gf<|c3<|uc (u8.2 W) hr<|aa (uv 0)<|aa (bd c (bJ W.G<|uv 0) (uv 1)<|by trivial) ad) (ag<|aB<|uv 1) aV)
   (ag<|aB kJ))⟩
theorem qF:ai ["tables","number"] ["tables"] (ae<|aD 75):=bT
def Hr:XX λW b=>W.cal "grant" 8 1 b:=⟨bH 2 _,λW=>cB W.d_grant qF (b1 λ_=>rfl) λhr c=>by
  apply(af (ua 1 qF.nd<|uc (gI.2 W) hr<|aa (uv 0) ad)
   (ag (jq 40 PP (Go<|cP<|FI<|uv 1) (af aP
   (af aP
   (ag<|ua 1 qF.nd<|uc (gI.2 W) hr<|aa (uv 0) ad))))))⟩
theorem Co:ai ["tables"] ["tables"] (ae<|aD 76):=bT
def Fm:XX λW b=>W.cal "settle" 9 1 b:=⟨bH 1 _,λW=>cB W.d_settle Co (b1 λ_=>rfl) λhr c=>by
  apply(ag (a9 (gg<|dR<|bJ W.G<|uv 0) (af (au<|uc (oi.2 W) hr<|aa (uv 0) ad)
   (ag<|au<|uc (Hr.2 W) hr<|aa (uv 0) ad)) aV))⟩
theorem dw:ai ["tables","task","number","handle","mark"] ["tables","task"] (ae<|aD 79):=bT
def vc:XX λW b=>W.cal "new_handle" 1 2 b:=⟨bH 5 _,λW=>cB W.d_new_handle dw (b2 λ_ _=>rfl) λhr c=>by
  apply(af (ua 2 dw.nd ah)
   (af (jr 40 PP (by rfl) (gh<|f9<|bd c (d4 W.G<|uv 0) (uv 1)<|by trivial) (bD (n:=2) (by rfl)<|am (ug 3 dw.nd)<|am (ug 4 dw.nd) a7)<|ag<|a9 (bV iP fG (uv 3) (uv 2)<|by trivial) (ag<|yd mG<|xy (i:=2) dw.nd (by rfl) (by trivial) ah xz) aV)
   (ag<|aB<|uv 2)))⟩
theorem gJ:ai ["tables","mark","task","file","mode","users"] ["tables","mark","task"] (ae<|aD 80):=bT
def yO:XX λW b=>W.cal "add_user" 2 3 b:=⟨bH 6 _,λW=>cB W.d_add_user gJ (b3 λ_ _ _=>rfl) λhr c=>by
  apply(af (c6<|cH (bd c (dM W.G<|uv 0) (uv 1)<|by trivial)<|bD (n:=3) (by rfl)<|am (ug 3 gJ.nd)<|am (ug 4 gJ.nd)<|am (ug 5 gJ.nd) a7)
   (ag<|au<|um (bW.2 W) W.G.c0 hr (uv 0)<|aa (dM W.G<|uv 0)<|aa (uv 1)<|aa (aC<|aa (uv 3)<|aa (uv 4)<|aa (b9 bY cM (by rfl) W.M.tuple bM<|aa (yw<|hJ (yv<|by rfl) (by rfl) W.M.sorted bU<|bK (su (BO<|by rfl) (by rfl) W.M.set AY<|bK (fi dQ dW (uv 5)<|aC<|aa (uv 2) ad) cW) cW) ad) ad) ad))⟩
theorem Ay:ai ["tables","task","handle","mark","pairs"] ["tables","task","handle","mark"] (ae<|aD 81):=bT
def Kw:XX λW b=>W.cal "lead" 3 4 b:=⟨bH 5 _,λW=>cB W.d_lead Ay (b4 λ_ _ _ _=>rfl) λhr c=>by
  apply(af (ua 4 Ay.nd<|fi dQ dW (bd c (d4 W.G<|uv 0) (uv 1)<|by trivial)<|aC<|aa (aC<|aa (uv 2)<|aa (uv 3) ad) ad)
   (af (au<|um (bW.2 W) W.G.c0 hr (uv 0)<|aa (d4 W.G<|uv 0)<|aa (uv 1)<|aa (b9 bY cM (by rfl) W.M.tuple bM<|aa (bA (dI<|by rfl) eO (by rfl) W.M.sorted bU<|aa (uv 4) ad) ad) ad)
   (ag<|au<|uc (yO.2 W) hr<|aa (uv 0)<|aa (uv 3)<|aa (uv 1) ad)))⟩
theorem iY:ai ["tables","ask","wait","blocker"] ["tables","ask","wait"] (ae<|aD 85):=bT
def qG:XX λ{P w K mg base gy} W b=>cF P w K mg base gy (bL P w) "take_or_wait" 9 3 b:=⟨bH 4 _,λW=>c9 W.d_take_or_wait iY (b3 λ_ _ _=>rfl) λhr d=>by
  apply(af (PS.nox<|ua 3 iY.nd<|uc (og.2 W) hr<|aa (uv 0)<|aa (uv 1) ad)
   (af (PS.nox (a9 (eG<|cP<|cG<|uv 3) (af (au<|uc (Kv.2 W) hr<|aa (uv 0)<|aa (uv 1) ad)
   (ag<|aB kJ)) aV))
   (af (a9 (gf<|gg<|dR<|uv 2) (ag<|Cg (c:=13) (by rfl) (by rfl) lW W.e_Held (i_Held W) hr<|uv 3) aV)
   (af (PS.nox<|a9 (eG<|cP<|cG<|bf (uv 1) ah<|by trivial) (ag aP) aV)
   (ag<|PS.nox<|aB<|uc (rQ.2 W) hr<|aa (uv 0)<|aa (uv 1) ad)))))⟩
theorem nN:ai ["tables","values","task"] ["tables","values"] (ae<|aD 86):=bT
def qH:XX λW b=>W.cal "do_begin" 3 2 b:=⟨bH 3 _,λW=>cB W.d_do_begin nN (b2 λ_ _=>rfl) λhr c=>by
  apply(af (ua 2 nN.nd<|um (gj.2 W) W.G.c0 hr (uv 0)<|aa (ao 66) ad)
   (af (au<|um (bW.2 W) W.G.c0 hr (uv 0)<|aa (d4 W.G<|uv 0)<|aa (uv 2)<|aa (aC ad) ad)
   (ag<|aB<|uv 2)))⟩
theorem dh:ai ["tables","values","task","file","mode","mark","handle"] ["tables","values"] (ae<|aD 87):=bT
def nQ:XX λ{P w K mg base gy} W b=>cF P w K mg base gy (bL P w) "do_attach" 5 2 b:=⟨bH 7 _,λW=>c9 W.d_do_attach dh (b2 λ_ _=>rfl) λhr c=>by
  apply(af (PS.nox<|c6<|cH (uv 1)<|bD (n:=3) (by rfl)<|am (ug 2 dh.nd)<|am (ug 3 dh.nd)<|am (ug 4 dh.nd) a7)
   (af (au<|bg (g7.2 W) (hr.mono<|by decide) aJ<|aa (uv 0)<|aa (uv 2) ad)
   (af (au<|bg (u4.2 W) (hr.mono<|by decide) aJ<|aa (uv 4) ad)
   (af (au<|bg (iI.2 W) (hr.mono<|by decide) aJ<|aa (uv 0)<|aa (uv 3) ad)
   (af (PS.nox<|ua 5 dh.nd<|um (gj.2 W) W.G.c0 hr (uv 0)<|aa (ao 45) ad)
   (af (PS.nox<|ua 6 dh.nd<|uc (vc.2 W) hr<|aa (uv 0)<|aa (uv 2) ad)
   (af (PS.nox<|au<|um (bW.2 W) W.G.c0 hr (uv 0)<|aa (dM W.G<|uv 0)<|aa (uv 5)<|aa (aC<|aa (uv 3)<|aa (uv 4)<|aa (aC ad) ad) ad)
   (af (PS.nox<|au<|uc (Kw.2 W) hr<|aa (uv 0)<|aa (uv 2)<|aa (uv 6)<|aa (uv 5) ad)
   (ag<|PS.nox<|aB<|uv 6)))))))))⟩
theorem im:ai ["tables","values","task","handle","at","mark"] ["tables","values"] (ae<|aD 88):=bT
def wZ:XX λ{P w K mg base gy} W b=>cF P w K mg base gy (bL P w) "do_dup" 6 2 b:=⟨bH 6 _,λW=>c9 W.d_do_dup im (b2 λ_ _=>rfl) λhr c=>by
  apply(af (PS.nox<|c6<|cH (uv 1)<|bD (n:=3) (by rfl)<|am (ug 2 im.nd)<|am (ug 3 im.nd)<|am (ug 4 im.nd) a7)
   (af (ua 5 im.nd<|bg (df.2 W) (hr.mono<|by decide) aJ<|aa (uv 0)<|aa (uv 2)<|aa (uv 3) ad)
   (af aP
   (af aP
   (af aP
   (ag aP))))))⟩
theorem jz:ai ["tables","values","task","handle"] ["tables","values"] (ae<|aD 89):=bT
def qI:XX λ{P w K mg base gy} W b=>cF P w K mg base gy (bL P w) "do_close" 6 2 b:=⟨bH 4 _,λW=>c9 W.d_do_close jz (b2 λ_ _=>rfl) λhr c=>by
  apply(af (PS.nox<|c6<|cH (uv 1)<|bD (n:=2) (by rfl)<|am (ug 2 jz.nd)<|am (ug 3 jz.nd) a7)
   (af (au<|bg (df.2 W) (hr.mono<|by decide) aJ<|aa (uv 0)<|aa (uv 2)<|aa (uv 3) ad)
   (ag aP)))⟩
theorem qJ:ai ["tables","values","task","child","pairs","handle","mark"] ["tables","values"] (ae<|aD 90):=bT
def tG:XX λ{P w K mg base gy} W b=>cF P w K mg base gy (bL P w) "do_fork" 5 2 b:=⟨bH 7 _,λW=>c9 W.d_do_fork qJ (b2 λ_ _=>rfl) λhr c=>by
  apply(af (PS.nox<|ua 2 qJ.nd<|bf (uv 1) ah<|by trivial)
   (af (au<|bg (g7.2 W) (hr.mono<|by decide) aJ<|aa (uv 0)<|aa (uv 2) ad)
   (af aP
   (af aP
   (af aP
   (af aP
   (ag aP)))))))⟩
theorem tH:ai ["tables","values","task"] ["tables","values"] (ae<|aD 91):=bT
def w4:XX λ{P w K mg base gy} W b=>cF P w K mg base gy (bL P w) "do_end" 4 2 b:=⟨bH 3 _,λW=>c9 W.d_do_end tH (b2 λ_ _=>rfl) λhr c=>by
  apply(af (PS.nox<|ua 2 tH.nd<|bf (uv 1) ah<|by trivial)
   (af (au<|bg (d6.2 W) (hr.mono<|by decide) aJ<|aa (uv 0)<|aa (uv 2) ad)
   (ag aP)))⟩
theorem cI:ai ["tables","values","task","handle","kind","stretch","by","wait","mark","mode"] ["tables","values"] (ae<|aD 92):=bT
def tI:XX λ{P w K mg base gy} W b=>cF P w K mg base gy (bL P w) "do_lock" 10 2 b:=⟨bH 10 _,λW=>c9 W.d_do_lock cI (b2 λ_ _=>rfl) λhr d=>by
  apply(af (PS.nox<|c6<|cH (uv 1)<|bD (n:=6) (by rfl)<|am (ug 2 cI.nd)<|am (ug 3 cI.nd)<|am (ug 4 cI.nd)<|am (ug 5 cI.nd)<|am (ug 6 cI.nd)<|am (ug 7 cI.nd) a7)
   (af (ua 8 cI.nd<|bg (df.2 W) (hr.mono<|by decide) aJ<|aa (uv 0)<|aa (uv 2)<|aa (uv 3) ad)
   (af (au<|bg (iJ.2 W) (hr.mono<|by decide) aJ<|aa (uv 4) ad)
   (af (au<|bg (k7.2 W) (hr.mono<|by decide) aJ<|aa (uv 6) ad)
   (af (au<|bg (fN.2 W) (hr.mono<|by decide) aJ<|aa (uv 5) ad)
   (af (PS.nox<|ua 9 cI.nd<|bf (bd d (dM W.G<|uv 0) (uv 8)<|by trivial) ah<|by trivial)
   (af (a9 (bV iP fG (uv 9) (Am (by rfl) W.T.g_WRONG_MODES (uv 4)<|by trivial)<|by trivial) (ag<|cC (c:=7) (by rfl) (by rfl) lW W.e_BadMode<|W.e_new 7<|by decide) aV)
   (ag<|aB<|bg (qG.2 W) (hr.mono<|by decide) aJ<|aa (uv 0)<|aa (uc (Fj.2 W) hr<|aa (uv 0)<|aa (uv 2)<|aa (uv 8)<|aa (uv 4)<|aa (uv 5)<|aa (uv 6) ad)<|aa (uv 7) ad))))))))⟩
theorem di:ai ["tables","values","task","handle","stretch","by","mark","holder"] ["tables","values"] (ae<|aD 93):=bT
def nR:XX λ{P w K mg base gy} W b=>cF P w K mg base gy (bL P w) "do_unlock" 6 2 b:=⟨bH 8 _,λW=>c9 W.d_do_unlock di (b2 λ_ _=>rfl) λhr c=>by
  apply(af (PS.nox<|c6<|cH (uv 1)<|bD (n:=4) (by rfl)<|am (ug 2 di.nd)<|am (ug 3 di.nd)<|am (ug 4 di.nd)<|am (ug 5 di.nd) a7)
   (af (ua 6 di.nd<|bg (df.2 W) (hr.mono<|by decide) aJ<|aa (uv 0)<|aa (uv 2)<|aa (uv 3) ad)
   (af (au<|bg (k7.2 W) (hr.mono<|by decide) aJ<|aa (uv 5) ad)
   (af (au<|bg (fN.2 W) (hr.mono<|by decide) aJ<|aa (uv 4) ad)
   (af aP
   (ag aP))))))⟩
theorem l7:ai ["tables","values","task"] ["tables","values"] (ae<|aD 94):=bT
def nS:XX λ{P w K mg base gy} W b=>cF P w K mg base gy (bL P w) "do_cancel" 4 2 b:=⟨bH 3 _,λW=>c9 W.d_do_cancel l7 (b2 λ_ _=>rfl) λhr d=>by
  apply(af (PS.nox<|ua 2 l7.nd<|bf (uv 1) ah<|by trivial)
   (af (au<|bg (d6.2 W) (hr.mono<|by decide) aJ<|aa (uv 0)<|aa (uv 2) ad)
   (af (a9 (sF d (uv 2) (jH W.G<|uv 0)<|by rfl) (ag<|cC (c:=3) (by rfl) (by rfl) lW W.e_Awake<|W.e_new 3<|by decide) aV)
   (ag aP))))⟩
theorem cf:ai ["tables","values","task","handle","kind","wait","mark"] ["tables","values"] (ae<|aD 95):=bT
def iZ:XX λ{P w K mg base gy} W b=>cF P w K mg base gy (bL P w) "do_lock_whole" 6 2 b:=⟨bH 7 _,λW=>c9 W.d_do_lock_whole cf (b2 λ_ _=>rfl) λhr c=>by
  apply(af (PS.nox<|c6<|cH (uv 1)<|bD (n:=4) (by rfl)<|am (ug 2 cf.nd)<|am (ug 3 cf.nd)<|am (ug 4 cf.nd)<|am (ug 5 cf.nd) a7)
   (af (ua 6 cf.nd<|bg (df.2 W) (hr.mono<|by decide) aJ<|aa (uv 0)<|aa (uv 2)<|aa (uv 3) ad)
   (af (au<|bg (iJ.2 W) (hr.mono<|by decide) aJ<|aa (uv 4) ad)
   (ag aP))))⟩
theorem cJ:ai ["tables","values","task","handle","mark"] ["tables","values"] (ae<|aD 96):=bT
def gK:XX λ{P w K mg base gy} W b=>cF P w K mg base gy (bL P w) "do_unlock_whole" 6 2 b:=⟨bH 5 _,λW=>c9 W.d_do_unlock_whole cJ (b2 λ_ _=>rfl) λhr c=>by
  apply(af (PS.nox<|c6<|cH (uv 1)<|bD (n:=2) (by rfl)<|am (ug 2 cJ.nd)<|am (ug 3 cJ.nd) a7)
   (af (ua 4 cJ.nd<|bg (df.2 W) (hr.mono<|by decide) aJ<|aa (uv 0)<|aa (uv 2)<|aa (uv 3) ad)
   (ag aP)))⟩
def Kx:List (Option BF):=[some qH.1,some nQ.1,some wZ.1,some qI.1,some tG.1,some w4.1,some tI.1,some nR.1,some nS.1,some iZ.1,some gK.1]
theorem Fp(W:Wr P w K mg base gy):E6 P w K mg base gy 10 2 Kx:=by
 intro j f e
 match j,e with
 | 0,e=>cases e;exact⟨by decide,d5 (G9<|qH.2 W) W.g_do_begin<|by decide⟩
 | 1,e=>cases e;exact⟨by decide,d5 (nQ.2 W) W.g_do_attach<|by decide⟩
 | 2,e=>cases e;exact⟨by decide,d5 (wZ.2 W) W.g_do_dup<|by decide⟩
 | 3,e=>cases e;exact⟨by decide,d5 (qI.2 W) W.g_do_close<|by decide⟩
 | 4,e=>cases e;exact⟨by decide,d5 (tG.2 W) W.g_do_fork<|by decide⟩
 | 5,e=>cases e;exact⟨by decide,d5 (w4.2 W) W.g_do_end<|by decide⟩
 | 6,e=>cases e;exact⟨by decide,d5 (tI.2 W) W.g_do_lock<|by decide⟩
 | 7,e=>cases e;exact⟨by decide,d5 (nR.2 W) W.g_do_unlock<|by decide⟩
 | 8,e=>cases e;exact⟨by decide,d5 (nS.2 W) W.g_do_cancel<|by decide⟩
 | 9,e=>cases e;exact⟨by decide,d5 (iZ.2 W) W.g_do_lock_whole<|by decide⟩
 | 10,e=>cases e;exact⟨by decide,d5 (gK.2 W) W.g_do_unlock_whole<|by decide⟩
 | (n+11),e=>cases e
theorem mR:ai ["self","files","fair"] ["self","files","fair"] (ae<|aj (aD 102) 0):=bT
def i0:XX λ{P w K mg base gy} W b=>NS P w K mg base gy eY 1 "Desk" 3 3 2 ["fair"] [.arg 0] b:=⟨bH 3 _,λW=>Me W.i_Desk W.g_Desk mR (b2 λ_ _=>(b1 λ_=>rfl)) trivial λhr c=>by
  apply(af (c4 31 (by decide +kernel) (by decide) W.G.cls W.G.na_files (uv 0) (uv 1)<|by rfl)
   (af (c4 29 (by decide +kernel) (by decide) W.G.cls W.G.na_fair (uv 0) (uv 2)<|by rfl)
   (af (c4 65 (by decide +kernel) (by decide) W.G.cls W.G.na_tables (uv 0) (GD (by decide) (lZ.2 W) (hr.mono<|by decide) dX<|aa (uv 1)<|aa (uv 2) ad)<|by rfl)
   (af (c4 57 (by decide +kernel) (by decide) W.G.cls W.G.na_past (uv 0) (fF ad)<|by rfl)
   (ag<|c4 34 (by decide +kernel) (by decide) W.G.cls W.G.na_future (uv 0) (fF ad)<|by rfl)))))⟩
theorem l8:ai ["self","many","table","key","value"] ["self","many"] (ae<|aj (aD 100) 3):=bT
@[reducible] def l9:BS:=(kN 40 (bB<|mB Of (KN Gq<|aG (kM 19<|aU 0) bE)<|aU 1)
 (fU x5
 x5))
def mS:BF:=bH 5 l9
theorem mU(W:Wr P w K mg base gy):Kh P w K mg base gy 0 "undo_to" 1 2 mS:=by
 refine Mq W.t_Tables_undo_to l8 (b2 λ_ _=>rfl) λ{c} hb {f d A outer s H E} hr i=>?_;have W:=W.more hb;have h:=OA hr;apply(ag (jq 40 PP (bV Lk JD (bA eD iy (by rfl) W.M.len Ro<|aa (iE W.G<|uv 0) ad) (uv 1)<|by trivial) (af aP
   (ag aP))))
theorem li:ai ["tables","word","values","deed","told"] ["tables","word","values"] (ae<|aD 98):=bT
def Cp:XX λ{P w K mg base gy} W b=>cF P w K mg base gy (bL P w) "do_deed" 11 3 b:=⟨bH 5 _,λW=>c9 W.d_do_deed li (b3 λ_ _ _=>rfl) λhr c=>by
  apply(af (PS.nox<|ua 3 li.nd<|Am (by rfl) W.T.g_DEEDS (uv 1)<|by trivial)
   (af (ua 4 li.nd<|B8 (uv 3) (Fp W) (hr.mono<|by decide) aJ<|aa (uv 0)<|aa (uv 2) ad)
   (af (PS.nox<|au<|uc (Fm.2 W) hr<|aa (uv 0) ad)
   (ag<|PS.nox<|aB<|uv 4))))⟩
theorem fP:ai ["self","word","values","start","told"] ["self","word","values"] (ae<|aj (aD 102) 1):=bT
def qK:XX λ{P w K mg base gy} W b=>eM P w K mg base gy (bL P w) 1 "perform" 12 3 [] b:=⟨bH 5 _,λW=>ii W.t_Desk_perform fP (b3 λ_ _ _=>rfl) λhr d=>by
  apply(af (PS.nox<|ua 3 fP.nd<|bA eD iy (by rfl) W.M.len Ro<|aa (iE W.G<|bP W.G<|uv 0) ad)
   (af (G7 (i:=4) fP.nd (by rfl) (by trivial) (Cp.2 W) (hr.mono<|by decide) (aa (bP W.G<|uv 0)<|aa (uv 1)<|aa (uv 2) ad) (λe c ho=>Oy (mU W) W.G.c0 ⟨e,c,(by rfl),OW,ho⟩ (hr.mark _) (bP W.G<|uv 0) (aa (uv 3) ad)) W.e_Lock.choose_spec.1 W.e_Lock.choose_spec.2)
   (af (PS.nox<|au<|iT c5<|fg Pl PU P4 (by with_unfolding_all exact cY) (Ao W.G<|uv 0)<|aa (aC<|aa (uv 1)<|aa (uv 2)<|aa (uv 3) ad) ad)
   (ag<|PS.nox<|aB<|uv 4))))⟩
theorem qL:ai ["self","word","values","told"] ["self","word","values"] (ae<|aj (aD 102) 2):=bT
def cD:XX λ{P w K mg base gy} W b=>eM P w K mg base gy (bL P w) 1 "do" 13 3 [] b:=⟨bH 4 _,λW=>ii W.t_Desk_do qL (b3 λ_ _ _=>rfl) λhr c=>by
  apply(af (ua 3 qL.nd<|ij (qK.2 W) W.G.c1 hr aJ (uv 0)<|aa (uv 1)<|aa (uv 2) ad)
   (af (PS.nox<|c4 34 (by decide +kernel) (by decide) W.G.cls W.G.na_future (uv 0) (fF ad)<|by rfl)
   (ag<|PS.nox<|aB<|uv 3)))⟩
theorem rR:ai ["self"] ["self"] (ae<|aj (aD 102) 3):=bT
def fY:XX λW b=>W.met 1 "begin" 14 1 [] b:=⟨bH 1 _,λW=>wG W.t_Desk_begin rR (b1 λ_=>rfl) λhr c=>by
  apply(ag<|aB<|um (f7<|cD.2 W) W.G.c1 hr (uv 0)<|aa (ao 13)<|aa (aC ad) ad)⟩
theorem qM:ai ["self","task","file","mode"] ["self","task","file","mode"] (ae<|aj (aD 102) 4):=bT
def cO:XX λ{P w K mg base gy} W b=>∀{c fd} (F:Fun K "attach" "Desk.attach" (aj (aD 102) 4) c fd),bG P w K mg base (bL P w) 14 c fd ["self","task","file","mode"] (jP gy 4 b):=⟨bH 4 _,λ{_ _ _ _ _ _} W {_ _} F=>tj F qM λhr d=>by
  apply(ag<|aB<|ij (cD.2 W) W.G.c1 hr aJ (uv 0)<|aa (ao 6)<|aa (aC<|aa (uv 1)<|aa (uv 2)<|aa (uv 3) ad) ad)⟩
theorem qN(W:Wr P w K mg base gy):eM P w K mg base gy (bL P w) 1 "attach" 14 4 [.str 15] cO.1:=by
 obtain⟨h0,l,f,p,doc,m,r,j,ct,kc,o,ep,ks,F,h,lk⟩:=W.t_Desk_attach;refine⟨f,_,_,[.str "both" 1284],[.str "both"],rfl,cO.2 W F,h,λs us X i=>?_,.cons ⟨_,rfl⟩ .nil,λ_ _ _ _=>.cons ⟨_,rfl,rfl⟩ .nil⟩;have d:us.length=3:=by simpa using i
 match us,d with
 | [a,b,c],_=>exact Rj X λS=>(dJ lk).trans rfl
theorem d8(W:Wr P w K mg base gy):v9 P w K mg base gy (bL P w) 1 "attach" 14 4 3 ["mode"] [.arg 0] cO.1:=by
 obtain⟨h0,h,f,l,doc,i,m,d,ct,kc,j,ep,ks,F,c,lk⟩:=W.t_Desk_attach;exact⟨f,_,_,rfl,cO.2 W F,c,F.kwbinds<|b3 λ_ _ _=>b1 λ_=>rfl,trivial⟩
theorem w6:ai ["self","task","handle","at"] ["self","task","handle","at"] (ae<|aj (aD 102) 5):=bT
def qO:XX λ{P w K mg base gy} W b=>∀{c fd} (F:Fun K "dup" "Desk.dup" (aj (aD 102) 5) c fd),bG P w K mg base (bL P w) 14 c fd ["self","task","handle","at"] (jP gy 4 b):=⟨bH 4 _,λ{_ _ _ _ _ _} W {_ _} F=>tj F w6 λhr d=>by
  apply(ag<|aB<|ij (cD.2 W) W.G.c1 hr aJ (uv 0)<|aa (ao 25)<|aa (aC<|aa (uv 1)<|aa (uv 2)<|aa (uv 3) ad) ad)⟩
theorem Cq(W:Wr P w K mg base gy):v9 P w K mg base gy (bL P w) 1 "dup" 14 4 3 ["at"] [.arg 0] qO.1:=by
 obtain⟨h0,h,f,l,doc,i,m,d,ct,kc,j,ep,ks,F,c,lk⟩:=W.t_Desk_dup;exact⟨f,_,_,rfl,qO.2 W F,c,F.kwbinds<|b3 λ_ _ _=>b1 λ_=>rfl,trivial⟩
theorem rS:ai ["self","task","handle"] ["self","task","handle"] (ae<|aj (aD 102) 6):=bT
def vf:XX λ{P w K mg base gy} W b=>eM P w K mg base gy (bL P w) 1 "close" 14 3 [] b:=⟨bH 3 _,λW=>ii W.t_Desk_close rS (b3 λ_ _ _=>rfl) λhr c=>by
  apply(ag<|au<|ij (cD.2 W) W.G.c1 hr aJ (uv 0)<|aa (ao 20)<|aa (aC<|aa (uv 1)<|aa (uv 2) ad) ad)⟩
theorem vg:ai ["self","task"] ["self","task"] (ae<|aj (aD 102) 7):=bT
def w8:XX λ{P w K mg base gy} W b=>eM P w K mg base gy (bL P w) 1 "fork" 14 2 [] b:=⟨bH 2 _,λW=>ii W.t_Desk_fork vg (b2 λ_ _=>rfl) λhr c=>by
  apply(ag<|aB<|ij (cD.2 W) W.G.c1 hr aJ (uv 0)<|aa (ao 32)<|aa (aC<|aa (uv 1) ad) ad)⟩
theorem xa:ai ["self","task"] ["self","task"] (ae<|aj (aD 102) 8):=bT
def yP:XX λ{P w K mg base gy} W b=>eM P w K mg base gy (bL P w) 1 "end" 14 2 [] b:=⟨bH 2 _,λW=>ii W.t_Desk_end xa (b2 λ_ _=>rfl) λhr c=>by
  apply(ag<|au<|ij (cD.2 W) W.G.c1 hr aJ (uv 0)<|aa (ao 26)<|aa (aC<|aa (uv 1) ad) ad)⟩
theorem vh:ai ["self","task","handle","kind","stretch","by","wait"] ["self","task","handle","kind","stretch","by","wait"] (ae<|aj (aD 102) 9):=bT
def cu:XX λ{P w K mg base gy} W b=>∀{c fd} (F:Fun K "lock" "Desk.lock" (aj (aD 102) 9) c fd),bG P w K mg base (bL P w) 14 c fd ["self","task","handle","kind","stretch","by","wait"] (jP gy 7 b):=⟨bH 7 _,λ{_ _ _ _ _ _} W {_ _} F=>tj F vh λhr d=>by
  apply(ag<|aB<|ij (cD.2 W) W.G.c1 hr aJ (uv 0)<|aa (ao 42)<|aa (aC<|aa (uv 1)<|aa (uv 2)<|aa (uv 3)<|aa (uv 4)<|aa (uv 5)<|aa (uv 6) ad) ad)⟩
theorem fw(W:Wr P w K mg base gy):eM P w K mg base gy (bL P w) 1 "lock" 14 7 [.str 66,.bl false] cu.1:=by
 obtain⟨h0,o,x,m,f,u,doc,p,z,l,ct,kc,r,ep,ks,F,i,lk⟩:=W.t_Desk_lock;refine⟨f,_,_,[.str "task" 1332,.bool false],[.str "task",.bl false],rfl,cu.2 W F,i,λs us X j=>?_,.cons ⟨_,rfl⟩<|.cons rfl .nil,λ_ _ _ _=>.cons ⟨_,rfl,rfl⟩ (.cons rfl .nil)⟩;have h:us.length=5:=by simpa using j
 match us,h with
 | [a,b,c,d,e],_=>exact Rj X λS=>(dJ lk).trans ((dJ lk).trans rfl)
theorem qP(W:Wr P w K mg base gy):v9 P w K mg base gy (bL P w) 1 "lock" 14 7 5 ["by"] [.arg 0,.dfl (.bl false) (.bl false) (.bool false)] cu.1:=by
 obtain⟨h0,r,C,p,f,z,doc,u,H,m,ct,kc,x,ep,ks,F,i,lk⟩:=W.t_Desk_lock;refine⟨f,_,_,rfl,cu.2 W F,i,λs us h X l j=>?_,λ_ _ _ _=>rfl,rfl,trivial⟩
 match us,h,l,j with
 | [a,b,c,d,e],[o],_,_=>exact Rj X λS=>(dJ lk).trans rfl
theorem vi(W:Wr P w K mg base gy):v9 P w K mg base gy (bL P w) 1 "lock" 14 7 5 ["wait"] [.dfl (.str 66) (.str "task") (.str "task" 1332),.arg 0] cu.1:=by
 obtain⟨h0,r,C,p,f,z,doc,u,H,m,ct,kc,x,ep,ks,F,i,lk⟩:=W.t_Desk_lock;refine⟨f,_,_,rfl,cu.2 W F,i,λs us h X l j=>?_,λ_ _ _ _=>⟨_,rfl,rfl⟩,⟨_,rfl⟩,trivial⟩
 match us,h,l,j with
 | [a,b,c,d,e],[o],_,_=>exact Rj X λS=>(dJ lk).trans rfl
theorem qQ:ai ["self","task","handle","stretch","by"] ["self","task","handle","stretch","by"] (ae<|aj (aD 102) 10):=bT
def fb:XX λ{P w K mg base gy} W b=>∀{c fd} (F:Fun K "unlock" "Desk.unlock" (aj (aD 102) 10) c fd),bG P w K mg base (bL P w) 14 c fd ["self","task","handle","stretch","by"] (jP gy 5 b):=⟨bH 5 _,λ{_ _ _ _ _ _} W {_ _} F=>tj F qQ λhr d=>by
  apply(ag<|au<|ij (cD.2 W) W.G.c1 hr aJ (uv 0)<|aa (ao 71)<|aa (aC<|aa (uv 1)<|aa (uv 2)<|aa (uv 3)<|aa (uv 4) ad) ad)⟩
theorem qR(W:Wr P w K mg base gy):eM P w K mg base gy (bL P w) 1 "unlock" 14 5 [.str 66] fb.1:=by
 obtain⟨h0,m,f,r,doc,o,u,l,ct,kc,p,ep,ks,F,i,lk⟩:=W.t_Desk_unlock;refine⟨f,_,_,[.str "task" 1348],[.str "task"],rfl,fb.2 W F,i,λs us X j=>?_,.cons ⟨_,rfl⟩ .nil,λ_ _ _ _=>.cons ⟨_,rfl,rfl⟩ .nil⟩;have h:us.length=4:=by simpa using j
 match us,h with
 | [a,b,c,d],_=>exact Rj X λS=>(dJ lk).trans rfl
theorem iN(W:Wr P w K mg base gy):v9 P w K mg base gy (bL P w) 1 "unlock" 14 5 4 ["by"] [.arg 0] fb.1:=by
 obtain⟨h0,h,f,l,doc,i,m,d,ct,kc,j,ep,ks,F,c,lk⟩:=W.t_Desk_unlock;exact⟨f,_,_,rfl,fb.2 W F,c,F.kwbinds<|b4 λ_ _ _ _=>b1 λ_=>rfl,trivial⟩
theorem qS:ai ["self","task"] ["self","task"] (ae<|aj (aD 102) 11):=bT
def kh:XX λ{P w K mg base gy} W b=>eM P w K mg base gy (bL P w) 1 "cancel" 14 2 [] b:=⟨bH 2 _,λW=>ii W.t_Desk_cancel qS (b2 λ_ _=>rfl) λhr c=>by
  apply(ag<|au<|ij (cD.2 W) W.G.c1 hr aJ (uv 0)<|aa (ao 17)<|aa (aC<|aa (uv 1) ad) ad)⟩
theorem lj:ai ["self","task","handle","kind","wait"] ["self","task","handle","kind","wait"] (ae<|aj (aD 102) 12):=bT
def gM:XX λ{P w K mg base gy} W b=>∀{c fd} (F:Fun K "lock_whole" "Desk.lock_whole" (aj (aD 102) 12) c fd),bG P w K mg base (bL P w) 14 c fd ["self","task","handle","kind","wait"] (jP gy 5 b):=⟨bH 5 _,λ{_ _ _ _ _ _} W {_ _} F=>tj F lj λhr d=>by
  apply(ag<|aB<|ij (cD.2 W) W.G.c1 hr aJ (uv 0)<|aa (ao 43)<|aa (aC<|aa (uv 1)<|aa (uv 2)<|aa (uv 3)<|aa (uv 4) ad) ad)⟩
theorem d9(W:Wr P w K mg base gy):eM P w K mg base gy (bL P w) 1 "lock_whole" 14 5 [.bl false] gM.1:=by
 obtain⟨h0,m,f,r,doc,o,u,l,ct,kc,p,ep,ks,F,i,lk⟩:=W.t_Desk_lock_whole;refine⟨f,_,_,[.bool false],[.bl false],rfl,gM.2 W F,i,λs us X j=>?_,.cons rfl .nil,λ_ _ _ _=>.cons rfl .nil⟩;have h:us.length=4:=by simpa using j
 match us,h with
 | [a,b,c,d],_=>exact Rj X λS=>(dJ lk).trans rfl
theorem jA:ai ["self","task","handle"] ["self","task","handle"] (ae<|aj (aD 102) 13):=bT
def fT:XX λ{P w K mg base gy} W b=>eM P w K mg base gy (bL P w) 1 "unlock_whole" 14 3 [] b:=⟨bH 3 _,λW=>ii W.t_Desk_unlock_whole jA (b3 λ_ _ _=>rfl) λhr c=>by
  apply(ag<|au<|ij (cD.2 W) W.G.c1 hr aJ (uv 0)<|aa (ao 72)<|aa (aC<|aa (uv 1)<|aa (uv 2) ad) ad)⟩
theorem vj:ai ["self","number"] ["self","number"] (ae<|aj (aD 102) 16):=bT
def xb:XX λ{P w K mg base gy} W b=>eM P w K mg base gy (bL P w) 1 "mark" 4 2 [] b:=⟨bH 2 _,λW=>ii W.t_Desk_mark vj (b2 λ_ _=>rfl) λhr c=>by
  apply(ag<|aB<|bg (rM.2 W) (hr.mono<|by decide) aJ<|aa (bP W.G<|uv 0)<|aa (uv 1) ad)⟩
theorem ki:ai ["self","task","handle","kind","stretch","by","mark"] ["self","task","handle","kind","stretch","by"] (ae<|aj (aD 102) 18):=bT
def ma:XX λ{P w K mg base gy} W b=>∀{c fd} (F:Fun K "probe" "Desk.probe" (aj (aD 102) 18) c fd),bG P w K mg base (bL P w) 5 c fd ["self","task","handle","kind","stretch","by"] (jP gy 6 b):=⟨bH 7 _,λ{_ _ _ _ _ _} W {_ _} F=>tj F ki λhr d=>by
  apply(af (ua 6 ki.nd<|bg (tE.2 W) (hr.mono<|by decide) aJ<|aa (bP W.G<|uv 0)<|aa (uv 1)<|aa (uv 2) ad)
   (af (au<|bg (iJ.2 W) (hr.mono<|by decide) aJ<|aa (uv 3) ad)
   (af (au<|bg (k7.2 W) (hr.mono<|by decide) aJ<|aa (uv 5) ad)
   (af (au<|bg (fN.2 W) (hr.mono<|by decide) aJ<|aa (uv 4) ad)
   (ag aP)))))⟩
theorem jL(W:Wr P w K mg base gy):eM P w K mg base gy (bL P w) 1 "probe" 5 6 [.str 66] ma.1:=by
 obtain⟨h0,m,f,r,doc,o,u,l,ct,kc,p,ep,ks,F,i,lk⟩:=W.t_Desk_probe;refine⟨f,_,_,[.str "task" 1421],[.str "task"],rfl,ma.2 W F,i,λs us X j=>?_,.cons ⟨_,rfl⟩ .nil,λ_ _ _ _=>.cons ⟨_,rfl,rfl⟩ .nil⟩;have h:us.length=5:=by simpa using j
 match us,h with
 | [a,b,c,d,e],_=>exact Rj X λS=>(dJ lk).trans rfl
theorem rT:ai ["self","file"] ["self","file"] (ae<|aj (aD 102) 19):=bT
def ee:XX λ{P w K mg base gy} W b=>eM P w K mg base gy (bL P w) 1 "locks" 5 2 [] b:=⟨bH 2 _,λW=>ii W.t_Desk_locks rT (b2 λ_ _=>rfl) λhr c=>by
  apply(af (au<|bg (iI.2 W) (hr.mono<|by decide) aJ<|aa (bP W.G<|uv 0)<|aa (uv 1) ad)
   (ag<|PS.nox<|aB<|uc (u6.2 W) hr<|aa (bP W.G<|uv 0)<|aa (uv 1) ad))⟩
theorem jV:ai ["self","file"] ["self","file"] (ae<|aj (aD 102) 20):=bT
def ll:XX λ{P w K mg base gy} W b=>eM P w K mg base gy (bL P w) 1 "whole_locks" 2 2 [] b:=⟨bH 2 _,λW=>ii W.t_Desk_whole_locks jV (b2 λ_ _=>rfl) λhr c=>by
  apply(af (au<|bg (iI.2 W) (hr.mono<|by decide) aJ<|aa (bP W.G<|uv 0)<|aa (uv 1) ad)
   (ag aP))⟩
theorem oj:ai ["self","number"] ["self","number"] (ae<|aj (aD 102) 23):=bT
def gn:XX λ{P w K mg base gy} W b=>eM P w K mg base gy (bL P w) 1 "outcome" 4 2 [] b:=⟨bH 2 _,λW=>ii W.t_Desk_outcome oj (b2 λ_ _=>rfl) λhr c=>by
  apply(ag<|aB<|bg (nG.2 W) (hr.mono<|by decide) aJ<|aa (nB W.G<|bP W.G<|uv 0)<|aa (uv 1) ad)⟩
theorem nU:ai ["self","number","ask"] ["self","number"] (ae<|aj (aD 102) 24):=bT
def yQ:XX λ{P w K mg base gy} W b=>eM P w K mg base gy (bL P w) 1 "why" 4 2 [] b:=⟨bH 3 _,λW=>ii W.t_Desk_why nU (b2 λ_ _=>rfl) λhr c=>by
  apply(af (ua 2 nU.nd<|bg (nG.2 W) (hr.mono<|by decide) aJ<|aa (bJ W.G<|bP W.G<|uv 0)<|aa (uv 1) ad)
   (ag aP))⟩
theorem rV:ai ["self","word","values"] ["self"] (ae<|aj (aD 102) 29):=bT
def vk:XX λ{P w K mg base gy} W b=>eM P w K mg base gy (bL P w) 1 "again" 1 1 [] b:=⟨bH 3 _,λW=>ii W.t_Desk_again rV (b1 λ_=>rfl) λhr d=>by
  apply(af (a9 (gf<|gg<|dR<|BZ W.G<|uv 0) (ag<|cC (c:=11) (by rfl) (by rfl) lW W.e_NoBack<|W.e_new 11<|by decide) aV)
   (af aP
   (af aP
   (ag aP))))⟩
theorem vm:ai ["self"] ["self"] (ae<|aj (aD 102) 22):=bT
def gN:XX λW b=>W.met 1 "asks" 2 1 [] b:=⟨bH 1 _,λW=>wG W.t_Desk_asks vm (b1 λ_=>rfl) λhr c=>by
  apply(ag<|aB<|uc (wY.2 W) hr<|aa (bP W.G<|uv 0) ad)⟩
theorem rW:ai ["self"] ["self"] (ae<|aj (aD 102) 26):=bT
abbrev jW:PQ:=xt [("word",.local),("values",.local),("start",.local)]
theorem dC:aX (ae<|aj (aD 102) 26) ["self"] jW ["word","values","start"] [none,none,none]:=xu
def fZ:XX λW b=>W.met 1 "deeds" 1 1 [] b:=⟨bH 1 _,λW=>wG W.t_Desk_deeds rW (b1 λ_=>rfl) λhr c=>by
  apply(ag<|aB<|b9 bY cM (by rfl) W.M.tuple bM<|aa (lM 40 (ix:=[none,none,none]) (by decide)<|lB (by rfl) (by with_unfolding_all exact dC) (gU<|eV<|Ao W.G<|uv 0) (λ_ _ _ _ _=>(bD (n:=3) (by rfl)<|am (ug 0 dC.nd)<|am (ug 1 dC.nd)<|am (ug 2 dC.nd) a7)) (λ_ _ _ _ _=>c7)<|λ_ _ _ _ _=>(aC<|aa (uv 0)<|aa (uv 1) ad)) ad)⟩
theorem om:ai ["self","task"] ["self","task"] (ae<|aj (aD 102) 15):=bT
def ef:XX λW b=>W.met 1 "handles" 4 2 [] b:=⟨bH 2 _,λW=>wG W.t_Desk_handles om (b2 λ_ _=>rfl) λhr c=>by
  apply(af (au<|uc (B0<|d6.2 W) hr<|aa (bP W.G<|uv 0)<|aa (uv 1) ad)
   (ag<|aB<|bd c (d4 W.G<|bP W.G<|uv 0) (uv 1)<|by trivial))⟩
theorem rX:ai ["self"] ["self"] (ae<|aj (aD 102) 14):=bT
def f6:XX λW b=>W.met 1 "tasks" 1 1 [] b:=⟨bH 1 _,λW=>wG W.t_Desk_tasks rX (b1 λ_=>rfl) λhr c=>by
  apply(ag<|aB<|b9 bY cM (by rfl) W.M.tuple bM<|aa (bA (dI<|by rfl) eO (by rfl) W.M.sorted bU<|aa (d4 W.G<|bP W.G<|uv 0) ad) ad)⟩
theorem eU:ai ["_law_kept","_law_some","_law_found"] ["_law_kept"] (ae<|aD 106):=bT
abbrev iO:PQ:=xt [("_law_word",.local),("_law_some",.free)]
theorem gp:aX (ae<|aD 106) ["_law_kept","_law_some","_law_found"] iO ["_law_word","_law_some"] [none,some 1]:=xu
@[reducible] def mV(c:Nat):BS:=(fU (jQ (qd<|dZ (bC<|.str 51) (gW (OS c 1)<|aU 0)<|dZ (bC<|.str 5) (gW (OS c 2)<|aU 0)<|dZ (bC<|.str 38) (gW (OS c 13)<|aU 0) pQ)<|cy 1)
 (fU (gB<|Cc (aU 1)<|qd<|dZ (bC<|.str 7) (gW (OS c 3)<|aU 0)<|dZ (bC<|.str 49) (gW (OS c 4)<|aU 0) pQ)
 (fU (gB<|Cc (aU 1)<|qd<|dZ (bC<|.str 48) (gW (OS c 6)<|aU 0)<|dZ (bC<|.str 11) (gW (OS c 7)<|aU 0) pQ)
 (fU (gB<|Cc (aU 1)<|qd<|dZ (bC<|.str 10) (gW (OS c 8)<|aU 0)<|dZ (bC<|.str 12) (gW (OS c 9)<|aU 0) pQ)
 (fU (gB<|Cc (aU 1)<|qd<|dZ (bC<|.str 64) (gW (OS c 0)<|aU 0)<|dZ (bC<|.str 50) (gW (OS c 5)<|aU 0) pQ)
 (fU (gB<|Cc (aU 1)<|qd<|dZ (bC<|.str 46) (gW (OS c 10)<|aU 0)<|dZ (bC<|.str 47) (gW (OS c 11)<|aU 0) pQ)
 (fU (Ih (aU 1) (bC<|.str 52)<|gW (OS c 12)<|aU 0)
 (fU (jQ (Ej 40 true [none,some 1] (aU 1) (cy 0) (bB<|Ig (aU 1)<|aU 0)<|aU 0)<|cy 2)
 (x4<|LF (Gg (bB<|mB MU (KN Gq<|aG (aU 2) bE)<|bI 1)<|bB<|gW true<|aU 0) (mB FD (aU 2)<|bI 0)<|bC<|.str 39)))))))))
def i5(c:Nat):BF:=bH 3 (mV c)
theorem mW(W:Wr P w K mg base gy)(c:Nat):cF P w K mg base (Hm gy c) eY "_law_class_all" 1 1 (i5 c):=by
 have W:=W.reE c;refine cB W.d__law_class_all eU (b1 λ_=>rfl) λ{f l A outer s H E} hr j=>?_;have d:yJ ⟨Hm gy c,E⟩ c:=λF h=>h;apply(af (ua 1 eU.nd<|iC (bS (ao 51) (cR (i:=1) d (by rfl) W.M.isinstance (uv 0) (by rfl) W.e_NoTask W.e_is W.n_is W.e_no)<|bS (ao 5) (cR (i:=2) d (by rfl) W.M.isinstance (uv 0) (by rfl) W.e_Asleep W.e_is W.n_is W.e_no)<|bS (ao 38) (cR (i:=13) d (by rfl) W.M.isinstance (uv 0) (by rfl) W.e_Held W.e_is W.n_is W.e_no) iB) (by rfl) (by rfl) (by simp)<|by decide)
   (af (au<|qt<|fg P0 Qy Q3 ik (uv 1)<|bK (iC (bS (ao 7) (cR (i:=3) d (by rfl) W.M.isinstance (uv 0) (by rfl) W.e_Awake W.e_is W.n_is W.e_no)<|bS (ao 49) (cR (i:=4) d (by rfl) W.M.isinstance (uv 0) (by rfl) W.e_NoHandle W.e_is W.n_is W.e_no) iB) (by rfl) (by rfl) (by simp)<|by decide) cW)
   (af (au<|qt<|fg P0 Qy Q3 ik (uv 1)<|bK (iC (bS (ao 48) (cR (i:=6) d (by rfl) W.M.isinstance (uv 0) (by rfl) W.e_NoFile W.e_is W.n_is W.e_no)<|bS (ao 11) (cR (i:=7) d (by rfl) W.M.isinstance (uv 0) (by rfl) W.e_BadMode W.e_is W.n_is W.e_no) iB) (by rfl) (by rfl) (by simp)<|by decide) cW)
   (af (au<|qt<|fg P0 Qy Q3 ik (uv 1)<|bK (iC (bS (ao 10) (cR (i:=8) d (by rfl) W.M.isinstance (uv 0) (by rfl) W.e_BadKind W.e_is W.n_is W.e_no)<|bS (ao 12) (cR (i:=9) d (by rfl) W.M.isinstance (uv 0) (by rfl) W.e_BadStretch W.e_is W.n_is W.e_no) iB) (by rfl) (by rfl) (by simp)<|by decide) cW)
   (af (au<|qt<|fg P0 Qy Q3 ik (uv 1)<|bK (iC (bS (ao 64) (cR (i:=0) d (by rfl) W.M.isinstance (uv 0) (by rfl) W.e_Stuck W.e_is W.n_is W.e_no)<|bS (ao 50) (cR (i:=5) d (by rfl) W.M.isinstance (uv 0) (by rfl) W.e_NoMark W.e_is W.n_is W.e_no) iB) (by rfl) (by rfl) (by simp)<|by decide) cW)
   (af (au<|qt<|fg P0 Qy Q3 ik (uv 1)<|bK (iC (bS (ao 46) (cR (i:=10) d (by rfl) W.M.isinstance (uv 0) (by rfl) W.e_NoAsk W.e_is W.n_is W.e_no)<|bS (ao 47) (cR (i:=11) d (by rfl) W.M.isinstance (uv 0) (by rfl) W.e_NoBack W.e_is W.n_is W.e_no) iB) (by rfl) (by rfl) (by simp)<|by decide) cW)
   (af (ut j (uv 1) (ao 52) (cR (i:=12) d (by rfl) W.M.isinstance (uv 0) (by rfl) W.e_NoText W.e_is W.n_is W.e_no)<|by rfl)
   (af (Ce 40 2 (by decide)<|pk (by rfl) eU.nd (by rfl) (by rfl) (by with_unfolding_all exact gp) (zR<|uv 1) (λ_ _ _ _ _=>(ug 0 gp.nd)) (λ_ _ _ _ _=>(jt<|c3<|bd j (uv 1) (uv 0)<|by trivial))<|λ_ _ _ _ _=>(uv 0))
   (ag<|aB<|fm (PW.pt<|xZ (bV iP fG (bA eD iy (by rfl) W.M.len Ro<|aa (uv 2) ad) ah<|by trivial)<|uk<|c3<|Kr d (by rfl) W.M.isinstance (uv 0) (by rfl) W.x_VE W.x_sub) (bf (uv 2) ah<|by trivial)<|ao 39)))))))))
theorem cE:ai ["_law_deed","_law_kept","_law_found","e","_law_kind"] ["_law_deed"] (ae<|aD 107):=bT
@[reducible] def kj(c:Nat):BS:=(fU (jQ (LF (bB<|gW false<|aU 1) (bC<|.str 68)<|nq (nZ 1<|i5 c)<|aG (aU 1) bE)<|cy 4)
 (x4<|LF (bB<|mB (MW false) (aU 4)<|jm<|aG (bC<|.str 68)<|aG (bC<|.str 38) bE) (jm<|aG (aU 4)<|aG (LF (bB<|gW false<|aU 1) (aU 2)<|My c<|aU 1) bE)<|jm<|aG (aU 4) bE))
def eg(c:Nat):BS:=kj c
abbrev md(i:Nat):Rs:=(aS<|aD 107).getD i (.Pass ⟨0,0,0,0⟩)
theorem rY(W:Wr P w K mg base gy)(c:Nat){f:OD}{d:OC}{outer:List Env}{E:XK}(hr:a5 1 (A.deeper<|Q4 "_law_heard_all" (ae<|aD 107) s.heap.objs.size f d)):gu (bQ eY P w K mg base ["_law_deed","_law_kept","_law_found","e","_law_kind"] "_law_heard_all" (ae<|aD 107) f d A outer s H E).nox [md 2,md 3] (de ⟨Hm gy c,E0⟩<|eg c):=by
 have ok:=mW W c;have W:=W.reE c;have i:yJ ⟨Hm gy c,E0⟩ c:=λF h=>h;have j:=dl hr;show gu _ [md 2,md 3] (de _<|kj c)
 (conv=>arg 2;simp only[md];whnf)
 with_reducible exact(af (ua 4 cE.nd<|fm (Av i<|cP<|cG<|uv 1) (ao 68)<|uc ok hr<|aa (uv 1) ad)
   (ag<|aB<|fm (bV ub pL (uv 4) (aC<|aa (ao 68)<|aa (ao 38) ad)<|by rfl) (aC<|aa (uv 4)<|aa (fm (Av i<|cP<|cG<|uv 1) (uv 2)<|Kt i W.n_is W.x_Held<|uv 1) ad)<|aC<|aa (uv 4) ad))
abbrev N1(n:Nat)(P:Ph)(w:Py)(K:OK)(mg:Str->Option OC)(base:Pk)(gy:Gy)(xs:List Str)(qual:Str)(scope:PQ)(f c':OD)(cl:List (Str×OD))(body:O4)(bl:BE):Prop:=∀A outer s H E,a5 n (A.deeper<|Rf qual scope s.heap.objs.size f (.ref c') cl)->PE (IE (bL P w) P w K mg base xs qual scope f (.ref c') cl A outer s H E) body (up ⟨gy,E⟩ bl)
theorem Fq(W:Wr P w K mg base gy)(o:Cd gy){U:OD}(F:Fun K "_law_heard_all" "_law_heard_all" (aD 107) U fd){f c':OD}{qual:Str}{params:RO}{body:O4}{scope:PQ}{cl:List (Str×OD)}{xs:List Str}{m:L2.St}{bl:BE}(L:wP base f qual params body scope cl c' xs m)
  (hk:scope.kind=.function) (u:scope.isCoroutine=false) (r:scope.isGenerator=false) (l:∀x∈scope.names,x.2≠.cell) (hb:∀Z O,RN (RS "<lambda>" qual params body scope cl Z (.ref c') O) ⟨[],[]⟩=pure [])
  (hbody:N1 14 P w K mg base gy xs qual scope f c' cl body bl):bG P w K mg base eY 16 U fd ["_law_deed"] (oO gy qual eg bl f c' m):=by
 refine F.ok cE (λvs H Q E h=>by obtain⟨rfl,_⟩:=h;rfl) (λcdv A outer s H vs Q E hr h=>?_);obtain⟨D,I,z⟩:=W.e_Lock;obtain⟨e1,_⟩:=id h;subst e1;have rest:=Ho λc=>rY W c (E:=E) (H:=H) (outer:=outer) (hr.mono (by decide:1≤15));refine' ⟨Cv (jc (Lm<|jX (tC .non)<|jX (tC .non) mq)<|Lc K 2<|CC (fQ 1)<|CC (fQ 2) Lb)<|Cv (λB σ H=>σ[0]?=some (some<|.ref f)/\H c'=some (fR c' qual)/\up ⟨gy,λC d Y=>QT K C (.ref D)=some true/\∀e,Y e=none->B.nx ((σ.set 1<|some<|.ref e).set 3 none) (upd Y e<|mO e (C,d))⟩ bl m H λ_ _=>False) (λB σ H=>∃c,de ⟨Hm gy c,E0⟩ (eg c) B σ H),?p,?q⟩
 case p=>
  (conv=>arg 2;whnf)
  exact cV (cH (CQ<|bK xx<|bK xx cW)<|CD rfl<|oV (tS cE.nd (by nofun)<|by with_unfolding_all exact(SL rfl))<|oV (tS cE.nd (by nofun)<|by with_unfolding_all exact(SL rfl)) yX)
   (cV (Hh (iv:=1) (j:=3) rfl rfl rfl rfl cE.nd (by nofun) (by nofun) (by nofun) (by nofun) (by decide) (Kl (i:=0) (k:=14) (t:=λE=>up ⟨gy,E⟩ bl) (by nofun) (by with_unfolding_all exact(SL rfl)) L hk u r l hb (λs H E hr=>hbody _ _ s H E hr)<|hr.mono<|by decide) (by nofun) I (by nofun)<|by nofun) rest)
 case q=>
  refine Su (by decide) λp hp=>Sa p (Sa [.non,.non]<|Su rfl<|Su (g9.of aq)<|Su rfl<|Sa V.non<|Sa [V.non]<|Su rfl<|Sa V.non<|Sa []<|Su rfl<|Su rfl<|Su rfl ?_);exact Fg (B:={nx:=λ_ H'=>Q .non H',rt:=Q}) (σ:=[some (.ref f),some .non,some .non,none,none]) o z rfl (λe=>⟨_,_,rfl⟩) h hp rfl

structure M7(P:Ph)(w:Py)(K:OK)(mg:Str->Option OC)(gy:Gy)(X:Cx)(i:Nat):Prop where
 eP:X.prog=P
 ew:X.w=w
 eK:X.K=K
 em:X.mg=mg
 W:Wr P w K mg X.base gy
 own:Cd gy
 lk:∃c,Bc K mg c (gy.tl i)/\X.env.code=.ref c
 hr:a5 16 X.A
 fn:∀x,X.fn x=true
 q:gy.tq i=X.env.qual++"<lambda>"
 i3:i<3
theorem aY{E:XK}{i:Nat}{l:RO}{m:O4}{d:PQ}{C p pos:Pos}{bl:BE}(h:M7 P w K mg gy X i)(xs:List Str)(ix:List Nat)
  (hbody:∀{o},Wr P w K mg o gy->∀{q cl f c' A outer s H E},a5 14 (A.deeper<|Rf q d s.heap.objs.size f (.ref c') cl)->PE (IE (bL P w) P w K mg o xs q d f (.ref c') cl A outer s H E) m (up ⟨gy,E⟩ bl))
  (hx:(xs.map λx=>X.env.scope.names.lookup x)=xs.map λ_=>some SD:=by rfl) (Y:∀x∈xs,d.names.lookup x=some .free:=by decide +kernel) (U:∀q∈d.names,q.2=.free->q.1∈xs:=by decide +kernel) (Q:ix.map (λj=>X.N[j]?)=xs.map some:=by rfl)
  (hk:d.kind=.function:=by rfl) (hco:d.isCoroutine=false:=by rfl) (u:d.isGenerator=false:=by rfl) (r:∀x∈d.names,x.2≠.cell:=by decide +kernel) (hba:∀q cl pm cv ctv,RN (RS "<lambda>" q l m d cl pm cv ctv) ⟨[],[]⟩=pure []:=by with_unfolding_all exact λ_ _ _ _ _=>rfl)
  (hg:Gl X "_law_heard_all":=by nofun) (z:WX l X.env=([],[]):=by nofun) (hcl:UE d X.env=pure (uV X.env xs):=by nofun)
  (he:O1 [.Lambda l m d C] X.env=(false,Pq (.Lambda l m d C) X.env)::O1 [] X.env:=by nofun) (I:(QE pos<|O1 [] X.env).any (·.1)=false:=by nofun) :
  PE X (.Call (.Name "_law_heard_all" p) [.Lambda l m d C] [] pos) (up ⟨gy,E⟩<|qr eg ix bl):=by
 obtain⟨rfl,rfl,rfl,rfl,W,own,⟨c,LK,hc⟩,hr,Z,hq,i3⟩:=h;obtain⟨fH,fdH,F,O⟩:=W.d__law_heard_all;have hbH:cA X.K fdH ["_law_deed"] []:=F.binds λ_ _ _ _ _ _ us h=>match us,h with | [_],_=>rfl
 exact Fb (g:=⟨gy,E⟩) i3 hq (yH (xs:=xs) (ix:=ix) LK (W.hBl i i3) hc Z hx Y U Q (λo f c' cap hb L=>Fq (W.more hb) own F L hk hco u r (λ_ _=>hba _ _ _ _ _) (λ_ _ _ _ _ hr=>hbody (W.more hb) hr)) hr O F.kp hbH hg z hcl (by decide) he I)
theorem aZ{n:Nat}{e:O4}{y x:Str}{d i sp c f kp ep:Pos}{k1 k2}{m:BE}(hr:a5 n X.A)(j z:Nat)(h:PE X e (up g m))(p:X.N[j]?=some y:=by nofun)(o:Hz X.env.scope y:=by with_unfolding_all exact SL rfl)(hz:a8[z]?=some x:=by decide +kernel)
  (h0:(y==("__debug__":Str))=false:=by decide) (O:(y==("__classdict__":Str))=false:=by decide) (L:Pi (.Name y d) "append" X.env (Pq (.Name y d) X.env)=Pq (.Name y d) X.env:=by nofun)
  (I:((QE kp<|O1 [.Compare e [.Eq] [.Tuple [.Constant (.str x) k1 sp] k2 c] f] X.env).all (λx=>!x.1)&&(QI kp<|PZ [] X.env).all (λx=>x.1.isSome)&&decide (1<30))=true:=by nofun)
  (H:(i.endLine==kp.line)=true:=by nofun) (l:O1 [.Compare e [.Eq] [.Tuple [.Constant (.str x) k1 sp] k2 c] f] X.env=(false,Pq (.Compare e [.Eq] [.Tuple [.Constant (.str x) k1 sp] k2 c] f) X.env)::O1 [] X.env:=by nofun) (C:(QE kp<|O1 [] X.env).any (·.1)=false:=by nofun)
  (u:O1 [.Constant (.str x) k1 sp] X.env=(false,Pq (.Constant (.str x) k1 sp) X.env)::O1 [] X.env:=by nofun) (r:Qq (.Call (.Attribute (.Name y d) "append" i) [.Compare e [.Eq] [.Tuple [.Constant (.str x) k1 sp] k2 c] f] [] kp) none ep.line X.env=pure false:=by nofun) :
  PS X (.Expr (.Call (.Attribute (.Name y d) "append" i) [.Compare e [.Eq] [.Tuple [.Constant (.str x) k1 sp] k2 c] f] [] kp) ep) (de g<|gB<|MX oH (aU j)<|aG (mB (D1 false) m<|jm<|aG (bC<|.str z) bE) bE) :=
 au (iT c5<|fg Pl PU P4 cY (DK j<|pv j p o h0 O) (aa (gT (t9<|AZ hr) jE h (aC<|aa (ao z hz) ad u)<|tV _) ad l) L I H l C) r

end
section
local macro_rules | `(tactic| rfl) => `(tactic| with_unfolding_all exact rfl)
local macro_rules | `(tactic| trivial) => `(tactic| with_unfolding_all (first | exact Or.inl rfl | exact Or.inr rfl | exact tV _ | exact (fun _ _ => rfl) | exact (fun _ => rfl) | exact ⟨rfl, rfl, rfl, rfl⟩))
theorem gq:ai ["_law_desk","_law_n","_law_cell","_law_some"] ["_law_desk","_law_n"] (ae<|aD 108):=bT
def kl:XX λ{P w K mg base gy} W b=>Cd gy->W.cal "_law_locking" 17 2 b:=⟨bH 4 _,λ{P w K mg base gy} W i=>by
 obtain⟨c,d,l⟩:=W.d__law_locking;have m:=oM (mg:=mg) l (W.nTl 1);exact uQ (n:=2) d gq (hb:=λ_ _ _ _ _ _ us j=>match us,j with | [_,_],_=>rfl) (hbody:=λf A outer s H E hr=>by
  have o:=dl hr;have h:M7 P w K mg gy (bQ eY P w K mg base ["_law_desk","_law_n","_law_cell","_law_some"] "_law_locking" (ae<|aD 108) f (.ref c) A outer s H E).nox 1:=⟨rfl,rfl,rfl,rfl,W,i,⟨c,m,rfl⟩,hr.mono<|by decide,λ_=>rfl,W.q1,by decide⟩
  (conv=>arg 2;whnf)
  with_reducible exact(af (c6<|cH (aC<|aa (aC<|aa (uv 1)<|aa (fi gQ gE (uv 1) ah) ad)<|aa (fF ad) ad)<|bD (n:=2) (by rfl)<|am (ug 2 gq.nd)<|am (ug 3 gq.nd) a7)
    (af (aZ hr 3 51<|aY h ["_law_desk"] [0] λW=>λhr=>(ij (fw W) W.G.c1 hr aM (uv 0)<|aa ah<|aa ah<|aa (ao 53)<|aa ah ad))
    (af (aZ hr 3 5<|aY h ["_law_desk"] [0] λW=>λhr=>(ij (fw W) W.G.c1 hr aM (uv 0)<|aa ah<|aa ah<|aa (ao 53)<|aa ah ad))
    (af (aZ hr 3 49<|aY h ["_law_desk"] [0] λW=>λhr=>(ij (fw W) W.G.c1 hr aM (uv 0)<|aa ah<|aa ah<|aa (ao 53)<|aa ah ad))
    (af (aZ hr 3 10<|aY h ["_law_desk"] [0] λW=>λhr=>(ij (fw W) W.G.c1 hr aM (uv 0)<|aa ah<|aa ah<|aa (ao 53)<|aa ah ad))
    (af (aZ hr 3 10<|aY h ["_law_desk"] [0] λW=>λhr=>(c8 (qP W) W.G.c1 (by decide +kernel) (hr.mono<|by decide) aM (uv 0) (aa ah<|aa ah<|aa (ao 63)<|aa ah ad)<|dz (ao 30) fM))
    (af (aZ hr 3 12<|aY h ["_law_n","_law_desk"] [1,0] λW=>λhr=>(ij (fw W) W.G.c1 hr aM (uv 1)<|aa ah<|aa ah<|aa (ao 63)<|aa (aC<|aa (uv 0)<|aa (uv 0) ad) ad))
    (af (aZ hr 3 11<|aY h ["_law_desk","_law_cell"] [0,2] λW=>λhr=>(ij (fw W) W.G.c1 hr aM (uv 0)<|aa ah<|aa ah<|aa (ao 63)<|aa (uv 1) ad))
    (af (aZ hr 3 11<|aY h ["_law_desk","_law_cell"] [0,2] λW=>λhr=>(ij (fw W) W.G.c1 hr aM (uv 0)<|aa ah<|aa ah<|aa (ao 2)<|aa (uv 1) ad))
    (af (aZ hr 3 51<|aY h ["_law_desk","_law_cell"] [0,2] λW=>λhr=>(ij (qR W) W.G.c1 hr aM (uv 0)<|aa ah<|aa ah<|aa (uv 1) ad))
    (af (aZ hr 3 5<|aY h ["_law_desk"] [0] λW=>λhr=>(c8 (iN W) W.G.c1 (by decide +kernel) (hr.mono<|by decide) aM (uv 0) (aa ah<|aa ah<|aa ah ad)<|dz (ao 53) fM))
    (af (aZ hr 3 49<|aY h ["_law_desk"] [0] λW=>λhr=>(c8 (iN W) W.G.c1 (by decide +kernel) (hr.mono<|by decide) aM (uv 0) (aa ah<|aa ah<|aa ah ad)<|dz (ao 53) fM))
    (af (aZ hr 3 10<|aY h ["_law_desk"] [0] λW=>λhr=>(c8 (iN W) W.G.c1 (by decide +kernel) (hr.mono<|by decide) aM (uv 0) (aa ah<|aa ah<|aa ah ad)<|dz (ao 53) fM))
    (af (aZ hr 3 12<|aY h ["_law_desk"] [0] λW=>λhr=>(ij (qR W) W.G.c1 hr aM (uv 0)<|aa ah<|aa ah<|aa (aC<|aa hZ<|aa ah ad) ad))
    (af (aZ hr 3 51<|aY h ["_law_desk"] [0] λW=>λhr=>(ij (jL W) W.G.c1 hr aM (uv 0)<|aa ah<|aa ah<|aa (ao 53)<|aa ah ad))
    (af (aZ hr 3 49<|aY h ["_law_desk"] [0] λW=>λhr=>(ij (jL W) W.G.c1 hr aM (uv 0)<|aa ah<|aa ah<|aa (ao 53)<|aa ah ad))
    (af (aZ hr 3 10<|aY h ["_law_desk"] [0] λW=>λhr=>(ij (jL W) W.G.c1 hr aM (uv 0)<|aa ah<|aa ah<|aa (ao 53)<|aa ah ad))
    (af (aZ hr 3 12<|aY h ["_law_desk"] [0] λW=>λhr=>(ij (jL W) W.G.c1 hr aM (uv 0)<|aa ah<|aa ah<|aa (ao 2)<|aa (aC<|aa ah<|aa ah ad) ad))
    (ag<|aB<|uv 3))))))))))))))))))))⟩
theorem km:ai ["_law_desk","_law_some"] ["_law_desk"] (ae<|aD 109):=bT
def mh:XX λ{P w K mg base gy} W b=>Cd gy->W.cal "_law_others" 17 1 b:=⟨bH 2 _,λ{P w K mg base gy} W i=>by
 obtain⟨c,d,l⟩:=W.d__law_others;have m:=oM (mg:=mg) l (W.nTl 2);exact uQ (n:=1) d km (hb:=λ_ _ _ _ _ _ us j=>match us,j with | [_],_=>rfl) (hbody:=λf A outer s H E hr=>by
  have o:=dl hr;have h:M7 P w K mg gy (bQ eY P w K mg base ["_law_desk","_law_some"] "_law_others" (ae<|aD 109) f (.ref c) A outer s H E).nox 2:=⟨rfl,rfl,rfl,rfl,W,i,⟨c,m,rfl⟩,hr.mono<|by decide,λ_=>rfl,W.q2,by decide⟩
  (conv=>arg 2;whnf)
  with_reducible exact(af (ua 1 km.nd<|fF<|aa (gT (t9<|AZ hr) jE (aY h ["_law_desk"] [0] λW=>λhr=>(ij (d9 W) W.G.c1 hr aM (uv 0)<|aa ah<|aa ah<|aa (ao 53) ad)) (aC<|aa (ao 51) ad)<|by trivial) ad)
    (af (aZ hr 1 5<|aY h ["_law_desk"] [0] λW=>λhr=>(ij (d9 W) W.G.c1 hr aM (uv 0)<|aa ah<|aa ah<|aa (ao 53) ad))
    (af (aZ hr 1 49<|aY h ["_law_desk"] [0] λW=>λhr=>(ij (d9 W) W.G.c1 hr aM (uv 0)<|aa ah<|aa ah<|aa (ao 53) ad))
    (af (aZ hr 1 10<|aY h ["_law_desk"] [0] λW=>λhr=>(ij (d9 W) W.G.c1 hr aM (uv 0)<|aa ah<|aa ah<|aa (ao 53) ad))
    (af (aZ hr 1 5<|aY h ["_law_desk"] [0] λW=>λhr=>(ij (fT.2 W) W.G.c1 hr aM (uv 0)<|aa ah<|aa ah ad))
    (af (aZ hr 1 49<|aY h ["_law_desk"] [0] λW=>λhr=>(ij (fT.2 W) W.G.c1 hr aM (uv 0)<|aa ah<|aa ah ad))
    (af (aZ hr 1 51<|aY h ["_law_desk"] [0] λW=>λhr=>(c8 (d8 W) W.G.c1 (by decide +kernel) (hr.mono<|by decide) aM (uv 0) (aa ah<|aa (ao 79) ad)<|dz (ao 53) fM))
    (af (aZ hr 1 5<|aY h ["_law_desk"] [0] λW=>λhr=>(c8 (d8 W) W.G.c1 (by decide +kernel) (hr.mono<|by decide) aM (uv 0) (aa ah<|aa (ao 79) ad)<|dz (ao 53) fM))
    (af (aZ hr 1 11<|aY h ["_law_desk"] [0] λW=>λhr=>(c8 (d8 W) W.G.c1 (by decide +kernel) (hr.mono<|by decide) aM (uv 0) (aa ah<|aa (ao 79) ad)<|dz (ao 53) fM))
    (af (aZ hr 1 48<|aY h ["_law_desk"] [0] λW=>λhr=>(ij (qN W) W.G.c1 hr aM (uv 0)<|aa ah<|aa (ao 79) ad))
    (af (aZ hr 1 5<|aY h ["_law_desk"] [0] λW=>λhr=>(ij (vf.2 W) W.G.c1 hr aM (uv 0)<|aa ah<|aa ah ad))
    (af (aZ hr 1 49<|aY h ["_law_desk"] [0] λW=>λhr=>(c8 (Cq W) W.G.c1 (by decide +kernel) (hr.mono<|by decide) aM (uv 0) (aa ah<|aa ah ad)<|dz ah fM))
    (af (aZ hr 1 5<|aY h ["_law_desk"] [0] λW=>λhr=>(ij (w8.2 W) W.G.c1 hr aM (uv 0)<|aa ah ad))
    (af (aZ hr 1 7<|aY h ["_law_desk"] [0] λW=>λhr=>(ij (kh.2 W) W.G.c1 hr aM (uv 0)<|aa ah ad))
    (af (aZ hr 1 51<|aY h ["_law_desk"] [0] λW=>λhr=>(ij (kh.2 W) W.G.c1 hr aM (uv 0)<|aa ah ad))
    (af (aZ hr 1 51<|aY h ["_law_desk"] [0] λW=>λhr=>(ij (yP.2 W) W.G.c1 hr aM (uv 0)<|aa ah ad))
    (af (aZ hr 1 46<|aY h ["_law_desk"] [0] λW=>λhr=>(ij (gn.2 W) W.G.c1 hr aM (uv 0)<|aa ah ad))
    (af (aZ hr 1 46<|aY h ["_law_desk"] [0] λW=>λhr=>(ij (yQ.2 W) W.G.c1 hr aM (uv 0)<|aa ah ad))
    (af (aZ hr 1 50<|aY h ["_law_desk"] [0] λW=>λhr=>(ij (xb.2 W) W.G.c1 hr aM (uv 0)<|aa ah ad))
    (af (aZ hr 1 48<|aY h ["_law_desk"] [0] λW=>λhr=>(ij (ee.2 W) W.G.c1 hr aM (uv 0)<|aa (ao 16) ad))
    (af (aZ hr 1 48<|aY h ["_law_desk"] [0] λW=>λhr=>(ij (ll.2 W) W.G.c1 hr aM (uv 0)<|aa (ao 16) ad))
    (af (aZ hr 1 47<|aY h ["_law_desk"] [0] λW=>λhr=>(dY (vk.2 W) W.G.c1 (by decide +kernel) (hr.mono<|by decide) aM<|uv 0))
    (ag<|aB<|uv 1))))))))))))))))))))))))⟩
theorem ln:ai ["_law_script","_law_town","_law_desk","_law_n","_law_mode_so","_law_before","_law_told"] ["_law_script"] (ae<|aD 110):=bT
@[reducible] def xf:BS:=(jQ (jm<|aG (EI 1 3 2 (["fair"]:List Str).length [.arg 0] i0.1 (aG (jm<|aG (bC<|.str 0)<|aG (bC<|.str 8) bE) bE) (aG (mB MU (E4<|aG (aU 0)<|aG (aU 1)<|aG (bI 2) bE)<|bI 0) bE))<|aG (yD<|aG (aU 0)<|aG (aU 1)<|aG (bI 50) bE) bE)<|v4 2<|pM (cy 2)<|pM (cy 3) D2)
@[reducible] def xg:BS:=(gB<|dv 1 1 [] fY.1 (aU 2) bE)
@[reducible] def xh:BS:=(gB<|dv 1 1 [] fY.1 (aU 2) bE)
@[reducible] def xi:BS:=(GB 40 (Ip<|jm<|aG (bC<|.str 61)<|aG (bC<|.str 78)<|aG (bC<|.str 15) bE) (cy 4)
 (gB<|uz 1 4 3 (["mode"]:List Str).length [.arg 0] (never cO.1) (aU 2) (aG (bI 0)<|aG (bC<|.str 0) bE) (aG (aU 4) bE)))
@[reducible] def xj:BS:=(gB<|dv 1 4 [.str 15] (never cO.1) (aU 2)<|aG (bI 1)<|aG (bC<|.str 0) bE)
@[reducible] def xk:BS:=(gB<|dv 1 7 [.str 66,.bl false] (never cu.1) (aU 2)<|aG (bI 0)<|aG (bI 2)<|aG (bC<|.str 2)<|aG (jm<|aG (aU 3)<|aG (mB x6 (aU 3)<|bI 4) bE) bE)
@[reducible] def xl:BS:=(gB<|uz 1 7 5 (["wait"]:List Str).length [.dfl (.str 66) (.str "task") (.str "task" 1332),.arg 0] (never cu.1) (aU 2) (aG (bI 1)<|aG (bI 0)<|aG (bC<|.str 63)<|aG (jm<|aG (mB x6 (aU 3)<|bI 3)<|aG (bC .non) bE) bE) (aG (bC<|.bl true) bE))
@[reducible] def xm:BS:=(jQ (jm<|aG (dv 1 1 [] fZ.1 (aU 2) bE)<|aG (dv 1 2 [] (never ee.1) (aU 2)<|aG (bC<|.str 0) bE)<|aG (dv 1 1 [] gN.1 (aU 2) bE)<|aG (dv 1 2 [] ef.1 (aU 2)<|aG (bI 0) bE)<|aG (dv 1 1 [] f6.1 (aU 2) bE) bE)<|cy 5)
@[reducible] def xn:BS:=(Gj (bB<|mB (MW false) (bC<|.bl false)<|mB DY (nq (nZ 2 kl.1)<|aG (aU 2)<|aG (aU 3) bE)<|nq (nZ 1 mh.1)<|aG (aU 2) bE)
 (x4<|bC<|.bl false)
 DN)
@[reducible] def tJ:BS:=(Gj (bB<|mB (D1 true) (jm<|aG (dv 1 1 [] fZ.1 (aU 2) bE)<|aG (dv 1 2 [] (never ee.1) (aU 2)<|aG (bC<|.str 0) bE)<|aG (dv 1 1 [] gN.1 (aU 2) bE)<|aG (dv 1 2 [] ef.1 (aU 2)<|aG (bI 0) bE)<|aG (dv 1 1 [] f6.1 (aU 2) bE) bE)<|aU 5)
 (x4<|bC<|.bl false)
 DN)
@[reducible] def tL:BS:=(jQ (qr eg [3,2]<|uz 1 7 5 (["by"]:List Str).length [.arg 0,.dfl (.bl false) (.bl false) (.bool false)] cu.1 (aU 1) (aG (bI 0)<|aG (bI 1)<|aG (bC<|.str 2)<|aG (jm<|aG (mB x6 (aU 0)<|bI 1)<|aG (mB x6 (aU 0)<|bI 2) bE) bE) (aG (bC<|.str 45) bE))<|cy 6)
@[reducible] def tM:BS:=(x4<|HX (mB (D1 false) (aU 6)<|jm<|aG (bC<|.str 38)<|aG (jm<|aG (aU 3)<|aG (mB x6 (aU 3)<|bI 4)<|aG (bC<|.str 2)<|aG (bC<|.str 66)<|aG (bI 0) bE) bE)<|mB MU (dv 1 2 [] (never gn.1) (aU 2)<|aG (bI 0) bE)<|bC<|.str 74)
@[reducible] def yR:BS:=(fU xf<|fU xg<|fU xh<|fU xi<|fU xj<|fU xk<|fU xl<|fU xm<|fU xn<|fU tJ<|fU tL tM)
def Mz:Ds:=⟨λ_ _=>false,λv _=>match v with
 | .bl true=>true
 | _=>false,λ_ _=>false,λ_ _=>false⟩
def MA:er:=⟨some (.ext 11)::some (.ext 12)::zP 5,λ_ _ _=>false⟩
def Fr:Bool:=yR Mz MA ⟨0,false,.lf⟩
abbrev mi(P:Ph)(w:Py)(K:OK)(mg:Str->Option OC)(base:Pk)(f:OD)(c:OC)(A:Qz)(outer:List Env)(s:OI)(H:Hp)(E:XK):Cx:=(bQ eY P w K mg base ["_law_script","_law_town","_law_desk","_law_n","_law_mode_so","_law_before","_law_told"] "law" (ae<|aD 110) f c A outer s H E).nox
def cS(i:Nat):Rs:=(aS<|aD 110).getD i (.Pass ⟨0,0,0,0⟩)
theorem Fs(W:Wr P w K mg base gy):HN P w K mg base "_law_draw" 1 ["_law_script","_law_town","_law_many"] (mL K):=Hb W.d__law_draw W.M.toMods
variable{c:OD}{f:OD}{outer:List Env}{E:XK}(W:Wr P w K mg base gy)(hr:a5 17 (A.deeper (Q4 "law" (ae (aD 110)) s.heap.objs.size f (.ref c))))(hd:∀F,gy.dr F->sZ K F)(w_own:Cd gy)(LK:Bc K mg c (gy.tl 0))
include W hr hd w_own LK
theorem MB:PS (mi P w K mg base f (.ref c) A outer s H E) (cS 1) (de ⟨gy,E⟩ xf):=by
 have d:=dl hr;apply(c6<|cH (aC<|aa (EJ (by decide) (i0.2 W) (hr.mono<|by decide) dX (aa (aC<|aa (ao 0)<|aa (ao 8) ad) ad)<|dz (gT iP fG (Hd (Fs W) hd (hr.mono<|by decide)<|aa (uv 0)<|aa (uv 1)<|aa ah ad) ah<|by trivial) fM)<|aa (E7 (Fs W) hd (hr.mono<|by decide)<|aa (uv 0)<|aa (uv 1)<|aa ah ad) ad)<|bD (n:=2) (by rfl)<|am (ug 2 ln.nd)<|am (ug 3 ln.nd) a7)
theorem MC:PS (mi P w K mg base f (.ref c) A outer s H E) (cS 2) (de ⟨gy,E⟩ xg):=by
 have d:=dl hr;apply(au<|dY (fY.2 W) W.G.c1 (by decide +kernel) (hr.mono<|by decide) dX<|uv 2)
theorem MD:PS (mi P w K mg base f (.ref c) A outer s H E) (cS 3) (de ⟨gy,E⟩ xh):=by
 have d:=dl hr;apply(au<|dY (fY.2 W) W.G.c1 (by decide +kernel) (hr.mono<|by decide) dX<|uv 2)
theorem ME:PS (mi P w K mg base f (.ref c) A outer s H E) (cS 4) (de ⟨gy,E⟩ xi):=by
 have d:=dl hr;apply(jr 40 PP (by rfl) (gh<|f9<|aC<|aa (ao 61)<|aa (ao 78)<|aa (ao 15) ad) (ug 4 ln.nd)<|ag<|au<|c8 (qw<|d8 W) W.G.c1 (by decide +kernel) (hr.mono<|by decide) dX (uv 2) (aa ah<|aa (ao 0) ad)<|dz (uv 4) fM)
theorem MF:PS (mi P w K mg base f (.ref c) A outer s H E) (cS 5) (de ⟨gy,E⟩ xj):=by
 have d:=dl hr;apply(au<|um (f7<|qN W) W.G.c1 hr (uv 2)<|aa ah<|aa (ao 0) ad)
theorem MG:PS (mi P w K mg base f (.ref c) A outer s H E) (cS 6) (de ⟨gy,E⟩ xk):=by
 have d:=dl hr;apply(au<|um (f7<|fw W) W.G.c1 hr (uv 2)<|aa ah<|aa ah<|aa (ao 2)<|aa (aC<|aa (uv 3)<|aa (fi gQ gE (uv 3) ah) ad) ad)
theorem MH:PS (mi P w K mg base f (.ref c) A outer s H E) (cS 7) (de ⟨gy,E⟩ xl):=by
 have d:=dl hr;apply(au<|c8 (qw<|vi W) W.G.c1 (by decide +kernel) (hr.mono<|by decide) dX (uv 2) (aa ah<|aa ah<|aa (ao 63)<|aa (aC<|aa (fi gQ gE (uv 3) ah)<|aa kJ ad) ad)<|dz hZ fM)
theorem MI:PS (mi P w K mg base f (.ref c) A outer s H E) (cS 8) (de ⟨gy,E⟩ xm):=by
 have d:=dl hr;apply(ua 5 ln.nd<|aC<|aa (dY (fZ.2 W) W.G.c1 (by decide +kernel) (hr.mono<|by decide) dX<|uv 2)<|aa (um (f7<|ee.2 W) W.G.c1 hr (uv 2)<|aa (ao 0) ad)<|aa (dY (gN.2 W) W.G.c1 (by decide +kernel) (hr.mono<|by decide) dX<|uv 2)<|aa (um (ef.2 W) W.G.c1 hr (uv 2)<|aa ah ad)<|aa (dY (f6.2 W) W.G.c1 (by decide +kernel) (hr.mono<|by decide) dX<|uv 2) ad)
theorem MJ:PS (mi P w K mg base f (.ref c) A outer s H E) (cS 9) (de ⟨gy,E⟩ xn):=by
 have d:=dl hr;apply(a9 (bV ub pL hZ (fi F9 DZ (uc (kl.2 W w_own) hr<|aa (uv 2)<|aa (uv 3) ad)<|uc (mh.2 W w_own) hr<|aa (uv 2) ad)<|by rfl) (ag<|aB hZ) aV)
theorem Ky:PS (mi P w K mg base f (.ref c) A outer s H E) (cS 10) (de ⟨gy,E⟩ tJ):=by
 have d:=dl hr;apply(a9 (bV (Do<|AZ hr) jE (aC<|aa (dY (fZ.2 W) W.G.c1 (by decide +kernel) (hr.mono<|by decide) dX<|uv 2)<|aa (um (f7<|ee.2 W) W.G.c1 hr (uv 2)<|aa (ao 0) ad)<|aa (dY (gN.2 W) W.G.c1 (by decide +kernel) (hr.mono<|by decide) dX<|uv 2)<|aa (um (ef.2 W) W.G.c1 hr (uv 2)<|aa ah ad)<|aa (dY (f6.2 W) W.G.c1 (by decide +kernel) (hr.mono<|by decide) dX<|uv 2) ad) (uv 5)<|by trivial) (ag<|aB hZ) aV)
theorem Kz:PS (mi P w K mg base f (.ref c) A outer s H E) (cS 11) (de ⟨gy,E⟩ tL):=by
 have h:=dl hr;have d:M7 P w K mg gy (mi P w K mg base f (.ref c) A outer s H E) 0:=⟨rfl,rfl,rfl,rfl,W,w_own,⟨c,LK,rfl⟩,hr.mono<|by decide,λ_=>rfl,W.q0,by decide⟩
 apply(ua 6 ln.nd<|aY d ["_law_n","_law_desk"] [3,2] λW=>λhr=>(c8 (qP W) W.G.c1 (by decide +kernel) (hr.mono<|by decide) aM (uv 1) (aa ah<|aa ah<|aa (ao 2)<|aa (aC<|aa (fi gQ gE (uv 0) ah)<|aa (fi gQ gE (uv 0) ah) ad) ad)<|dz (ao 45) fM))
theorem KA:PS (mi P w K mg base f (.ref c) A outer s H E) (cS 12) (de ⟨gy,E⟩ tM):=by
 have d:=dl hr;apply(aB<|ul (gT (t9<|AZ hr) jE (uv 6) (aC<|aa (ao 38)<|aa (aC<|aa (uv 3)<|aa (fi gQ gE (uv 3) ah)<|aa (ao 2)<|aa (ao 66)<|aa ah ad) ad)<|by trivial)<|jn<|gT iP fG (um (f7<|gn.2 W) W.G.c1 hr (uv 2)<|aa ah ad) (ao 74)<|by trivial)
theorem Hs:gu (mi P w K mg base f (.ref c) A outer s H E) [cS 1,cS 2,cS 3,cS 4,cS 5,cS 6,cS 7,cS 8,cS 9,cS 10,cS 11,cS 12] (de ⟨gy,E⟩ yR) :=
 (af (MB W hr hd w_own LK)<|af (MC W hr hd w_own LK)<|af (MD W hr hd w_own LK)<|af (ME W hr hd w_own LK)<|af (MF W hr hd w_own LK)<|af (MG W hr hd w_own LK)<|af (MH W hr hd w_own LK)<|af (MI W hr hd w_own LK)<|af (MJ W hr hd w_own LK)<|af (Ky W hr hd w_own LK)<|af (Kz W hr hd w_own LK)<|ag<|KA W hr hd w_own LK)
end
def KB(gy:Gy)(a t r:OD)(xs:List V)(H1:Hp):Fx where
 ext:=λi=>if i<11 then .ref (gy.fe i) else if i=11 then .ref a else if i=12 then .ref t else .bl true
 own:=λb=>b=t∨b=r∨b=gy.tT∨(b=a/\Rd H1 a (.lst xs))∨∃i,i<3/\b=gy.tl i
 J:=λH=>(Rd H1 a (.lst xs)->H a=H1 a)/\kW H t r/\lG H gy.tT gy.tP gy.tQ/\∀i,i<3->iR H (gy.tl i) (gy.tq i)
 st:=λH O ⟨u,p,m,l⟩ k=>by
  refine⟨λz=>?_,?_,?_,λi j=>?_⟩
  ·have e:=u z;rw[<-e];rcases z with z | ⟨o,z⟩
   ·rw[z] at e;rw[e];exact k a _ (.inl<|.inr<|.inr<|.inr<|.inl ⟨rfl,.inl z⟩) e
   ·rw[z] at e;rw[e];exact k a _ (.inl<|.inr<|.inr<|.inr<|.inl ⟨rfl,.inr ⟨o,z⟩⟩) e
  ·obtain⟨ne,⟨c,h⟩,kvs,f,d⟩:=p;exact⟨ne,⟨c,k _ _ (.inl<|.inl rfl) h⟩,kvs,k _ _ (.inl<|.inr<|.inl rfl) f,d⟩
  ·obtain⟨ps,h,f,d⟩:=m;exact⟨ps,k _ _ (.inl<|.inr<|.inr<|.inl rfl) h,f,d.imp id λ⟨c',d,x⟩=>⟨c',d,k _ _ (.inr ⟨_,rfl⟩) x⟩⟩
  ·obtain⟨ps,h,f,d⟩:=l i j;exact⟨ps,k _ _ (.inl<|.inr<|.inr<|.inr<|.inr ⟨i,j,rfl⟩) h,f,λpos L e=>let ⟨c',I,C⟩:=d pos L e;⟨c',I,k _ _ (.inr ⟨_,rfl⟩) C⟩⟩
theorem Ft{H i:Hp}{P T:OD}{f:Pos}{q:Str}(h:lG H T f q)(n:T≠P)(hP:∃ps,H P=some (.tbl ps))(s:∀b o,b≠P->H b=some o->i b=some o):lG i T f q:=by
 obtain⟨ps,m,l,d⟩:=h;obtain⟨qs,j⟩:=hP;exact⟨ps,s _ _ n m,l,d.imp id λ⟨c',d,c⟩=>⟨c',d,s _ _ (λz=>by rw[z,j] at c;cases c) c⟩⟩
theorem tN{H d:Hp}{P T:OD}{q:Str}(h:iR H T q)(n:T≠P)(hP:∃ps,H P=some (.tbl ps))(s:∀b o,b≠P->H b=some o->d b=some o):iR d T q:=by
 obtain⟨ps,l,j,i⟩:=h;obtain⟨qs,f⟩:=hP;exact⟨ps,s _ _ n l,j,λpos p e=>let ⟨c',m,c⟩:=i pos p e;⟨c',m,s _ _ (λz=>by rw[z,f] at c;cases c) c⟩⟩
theorem Fu{H1:Hp}{a:OD}{o:HO}(z:Rd H1 a (.lst xs))(e:H1 a=some o):(∀kvs,o≠.dK kvs)/\∀ps,o≠.tbl ps:=by
 rcases z with z | ⟨c,z⟩
 ·rw[z] at e;cases e;exact⟨λ_ w=>(nomatch w),λ_ w=>(nomatch w)⟩
 ·rw[z] at e;cases e;exact⟨λ_ w=>(nomatch w),λ_ w=>(nomatch w)⟩
theorem vn{H1:Hp}{a:OD}(z:Rd H1 a (.lst xs)):∃o,H1 a=some o:=by
 rcases z with z | ⟨c,z⟩
 ·exact⟨_,z⟩
 ·exact⟨_,z⟩
theorem MK{H H1:Hp}{a:OD}(h:ip K H1 a xs)(j:Rd H1 a (.lst xs)->H a=H1 a):ip K H a xs:=by
 rcases h with h | h
 ·have e:=j h;refine .inl ?_;rcases h with h | ⟨o,h⟩
  ·exact .inl (e.trans h)
  ·exact .inr ⟨o,e.trans h⟩
 ·exact .inr h
section
variable{E:XK}{a t r:OD}{ns:List Int}{H1:Hp}
theorem IH{P:OD}{H i:Hp}(hP:∃ps,H P=some (.tbl ps))(m:Rd H1 a (.lst xs)->H a=H1 a)(l:kW H t r)(k:∀b o,b≠P->H b=some o->i b=some o):(Rd H1 a (.lst xs)->i a=H1 a)/\kW i t r:=by
 obtain⟨ps,h0⟩:=hP;refine⟨λz=>?_,?_⟩
 ·have e:=m z;obtain⟨o,ho⟩:=vn z;have j:=Fu z ho;have h:H a=some o:=e.trans ho;rw[ho];exact k a o (λw=>by rw[w,h0] at h;cases h;exact j.2 _ rfl) h
 ·obtain⟨ne,⟨c,f⟩,kvs,d,p⟩:=l;exact⟨ne,⟨c,k _ _ (λw=>by rw[w,h0] at f;cases f) f⟩,kvs,k _ _ (λw=>by rw[w,h0] at d;cases d) d,p⟩
theorem Fv(hS:ip K H1 a (SH V.int ns))(hn:ns.length≤63):wM K (KB gy a t r (SH V.int ns) H1):=by
 refine⟨⟨a,ns,t,r,rfl,rfl,.inl rfl,.inr<|.inl rfl,λH ⟨j1,d,p⟩=>⟨MK hS j1,hn,d⟩,λH H' ⟨j1,d,p,x⟩ T' l=>⟨λz=>?_,T',?_,λi C=>?_⟩⟩,λH H' ⟨j1,d,p,x⟩ ⟨i1,i2,i3,i4⟩ b o u w h=>?_⟩
 ·have e:=j1 z;obtain⟨o,ho⟩:=vn z;have O:=Fu z ho;have L:H a=some o:=e.trans ho;rw[ho];exact l a o L (d.notL L O.1).1 (d.notL L O.1).2
 ·obtain⟨ps,j,I,m⟩:=p;exact⟨ps,l _ _ j (d.notL j λ_ z=>nomatch z).1 (d.notL j λ_ z=>nomatch z).2,I,m.imp id λ⟨c',m,f⟩=>⟨c',m,l _ _ f (d.notL f λ_ z=>nomatch z).1 (d.notL f λ_ z=>nomatch z).2⟩⟩
 ·obtain⟨ps,j,I,m⟩:=x i C;exact⟨ps,l _ _ j (d.notL j λ_ z=>nomatch z).1 (d.notL j λ_ z=>nomatch z).2,I,λpos cv e=>let ⟨c',e1,f⟩:=m pos cv e;⟨c',e1,l _ _ f (d.notL f λ_ z=>nomatch z).1 (d.notL f λ_ z=>nomatch z).2⟩⟩
 ·obtain⟨_,⟨c,Z⟩,kvs,Y,_⟩:=d;obtain⟨ps,U,_⟩:=p;rcases w with rfl | rfl | rfl | ⟨rfl,z⟩ | ⟨i,C,rfl⟩
  ·rw[Z] at h;cases h
  ·rw[Y] at h;cases h
  ·rw[U] at h;cases h
  ·rw[i1 z,<-j1 z];exact h
  ·obtain⟨qs,Q,_⟩:=x i C;rw[Q] at h;cases h
structure Az(gy:Gy):Prop where
 a:∀i,i<3->gy.tl i≠gy.tT
 b:∀i j,i<3->j<3->i≠j->gy.tl i≠gy.tl j
theorem Ht(x:Az gy)(I:ip K H1 a (SH V.int ns))(hn:ns.length≤63)(hd:∀F,wM K F->gy.dr F):Ge ⟨gy,E⟩ (KB gy a t r (SH V.int ns) H1):=by
 refine⟨hd _<|Fv I hn,.inr<|.inr<|.inl rfl,λH ⟨m,l,f,d⟩=>f,λH L ⟨m,l,f,d⟩ u k=>?_,λi c=>.inr (.inr<|.inr<|.inr ⟨i,c,rfl⟩),λi c H ⟨m,l,f,d⟩=>d i c,λi c H L ⟨m,l,f,d⟩ u k=>?_⟩
 ·have hP:∃ps,H gy.tT=some (.tbl ps):=let ⟨ps,h,_⟩:=f;⟨ps,h⟩;obtain⟨p,o⟩:=IH hP m l k;exact⟨p,o,u,λi c=>tN (d i c) (x.a i c) hP k⟩
 ·have hP:∃ps,H (gy.tl i)=some (.tbl ps):=let ⟨ps,h,_⟩:=d i c;⟨ps,h⟩;obtain⟨p,o⟩:=IH hP m l k;refine⟨p,o,Ft f (λz=>x.a i c z.symm) hP k,λj C=>?_⟩;by_cases z:j=i
  ·subst z;exact u
  ·exact tN (d j C) (x.b j i C c z) hP k
end
def AA(K:OK)(gy:Gy):Sp:=λvs H Q _=>∃a ns,vs=[.ref a]/\ip K H a (SH V.int ns)/\ns.length≤63/\lG H gy.tT uP oK/\(∀i,i<3->iR H (gy.tl i) (gy.tq i))/\∀c,Q (.bl true) c
section
theorem KC{f c:OD}{oc kV doc Y ct:OC}{od an:Option OD}(W:Wr P w K mg base gy)(hd:gy.dr=wM K)(hA:Az gy)(lk:K.lookup f=some ⟨oc,od,.func<|Pt "law" "law" (bq<|aD 110) (aS<|aD 110) (ae<|aD 110) .none kV doc Y an (.ref c) ct,osl⟩)(I:Qk K (.ref c) "law" = true)(hc:Q1 K c (gy.tl 0)=true)(hb:Fr=true) :
  bG P w K mg base eY 18 f (Pt "law" "law" (bq<|aD 110) (aS<|aD 110) (ae<|aD 110) .none kV doc Y an (.ref c) ct) ["_law_script"] (AA K gy):=by
 have LK:=oM (mg:=mg) hc (W.nTl 0);refine zd lk I ln (λvs H Q E h=>?_) (λA outer s H vs Q E hr h=>?_)
 ·obtain⟨a,ns,rfl,_⟩:=h;rfl
 ·obtain⟨a,ns,rfl,hS,x,lam,m,k⟩:=h;refine⟨Cv (jc (jY Aq [] E0 mq)<|fQ 1)<|de ⟨gy,E⟩ yR,?_,?_⟩
  ·have rest:=Hs (E:=E) (H:=H) (outer:=outer) W hr (λF h=>by rw[hd] at h;exact h.1) (λF h=>by rw[hd] at h;exact h.2) LK;have l:=gu.nox rest
   (conv=>arg 2;whnf)
   exact cV (PS.nox<|kn ln.nd (by nofun) (by with_unfolding_all exact(SL rfl))<|F6 (E2 W.d__law_begun W.M.toMods)<|hr.mono<|by decide) l
  ·simp only[zz,zA,DC,zB,Yj];refine⟨rfl,λt r H1 T1 s1 e1 Z=>?_⟩;simp only[vP];have L:ip K H1 a (SH V.int ns):=by
    rcases hS with (h | ⟨o,h⟩) | h
    ·exact .inl (.inl<|s1 _ _ h)
    ·exact .inl (.inr ⟨o,s1 _ _ h⟩)
    ·exact .inr h
   have j:lG H1 gy.tT gy.tP gy.tQ:=by
    rw[W.hP,W.hQ];obtain⟨ps,U,O,u⟩:=lam;exact⟨ps,s1 _ _ U,O,u.imp id λ⟨c',u,h4⟩=>⟨c',u,s1 _ _ h4⟩⟩
   have d:∀i,i<3->iR H1 (gy.tl i) (gy.tq i):=λi p=>by
    obtain⟨ps,U,O,u⟩:=m i p;exact⟨ps,s1 _ _ U,O,λpos cv e=>let ⟨c',e1,Z⟩:=u pos cv e;⟨c',e1,s1 _ _ Z⟩⟩
   refine⟨KB gy a t r (SH V.int ns) H1,none,[],⟨0,false,.lf⟩,MA,Mz,?_,⟨?_,?_⟩,hb,?_,?_,?_,?_⟩
   ·refine⟨rfl,rfl,λ_ h=>(nomatch h),RP,λi c e=>by simp at e,λ_ h=>(nomatch h),λi p=>if_pos p,λb w=>?_,⟨λ_=>rfl,T1,j,d⟩,Ht hA L x<|λF h=>by rw[hd];exact h⟩;obtain⟨_,⟨c,t1⟩,kvs,t2,_⟩:=T1;obtain⟨ps,t3,_⟩:=j;rcases w with rfl | rfl | rfl | ⟨rfl,z⟩ | ⟨i,p,rfl⟩
    ·rw[t1];simp
    ·rw[t2];simp
    ·rw[t3];simp
    ·obtain⟨o,ho⟩:=vn z;rw[ho];simp
    ·obtain⟨qs,t4,_⟩:=d i p;rw[t4];simp
   ·exact .cons rfl (.cons rfl<|mI 5)
   ·intro _ _ _ _ _ _ _ _ _ _ h;cases h
   ·intro _ _ _ _ _ _ _ _ _ h;cases h
   ·intro y' ρ' S' H' av v st C rv h;cases av with
    | bl b=>
     cases b with
     | true=>
      cases(show v=.bl true from rv);exact k H'
     | false=>cases h
    | _=>cases h
   ·intro _ _ _ _ _ _ _ _ _ h;cases h
   ·intro _ _ _ _ _ _ _ _ _ h;cases h
end
@[reducible] def KD(K:OK)(T T0 I H C0 C1 z x u r p o m l h f d:OD)(C:List OD):Gy where
 cl:=λc=>match c with
  | 0=>C0
  | _=>C1
 xc:=λc=>C.getD c 171
 fe:=λj=>match j with
  | 0=>z
  | 1=>x
  | 2=>u
  | 3=>r
  | 4=>p
  | 5=>o
  | 6=>m
  | 7=>l
  | 8=>h
  | 9=>f
  | 10=>d
  | _=>0
 tT:=T
 tP:=uP
 tQ:=oK
 tl:=λi=>match i with
  | 0=>T0
  | 1=>I
  | _=>H
 tq:=λi=>match i with
  | 0=>(("law":Str)++".<locals>.")++"<lambda>"
  | 1=>(("_law_locking":Str)++".<locals>.")++"<lambda>"
  | _=>(("_law_others":Str)++".<locals>.")++"<lambda>"
 dr:=wM K
theorem ML{F:Nat->Prop}(a:F 0)(b:F 1):∀c,c<2->F c
 | 0,_=>a
 | 1,_=>b
theorem KG(a0:gy.tl 0≠gy.tT)(h:gy.tl 1≠gy.tT)(f:gy.tl 2≠gy.tT)(b0:gy.tl 0≠gy.tl 1)(b1:gy.tl 0≠gy.tl 2)(b2:gy.tl 1≠gy.tl 2):Az gy:=⟨λi c=>by
  match i,c with
  | 0,_=>exact a0
  | 1,_=>exact h
  | 2,_=>exact f,λi j c d n=>by
  match i,j,c,d with
  | 0,0,_,_=>exact absurd rfl n
  | 1,1,_,_=>exact absurd rfl n
  | 2,2,_,_=>exact absurd rfl n
  | 0,1,_,_=>exact b0
  | 0,2,_,_=>exact b1
  | 1,2,_,_=>exact b2
  | 1,0,_,_=>exact b0.symm
  | 2,0,_,_=>exact b1.symm
  | 2,1,_,_=>exact b2.symm⟩
theorem MM{F:Nat->Prop}(a:F 0)(b:F 1)(c:F 2):∀i,i<3->F i
 | 0,_=>a
 | 1,_=>b
 | 2,_=>c
theorem rg{p:Nat->Bool}{n:Nat}(h:(RV n).all p=true){c:Nat}(d:c<n):p c=true:=Ri.mp h c (Us.mpr d)
theorem gd{p:OD->Bool}{l:List OD}{d:OD}(h:(d::l).all p=true)(c:Nat):p (l.getD c d)=true:=by
 rw[QM,OZ] at h;rw[P8];cases q:l[c]? with
 | none=>exact h.1
 | some x=>exact Ri.mp h.2 x (O9 q)
def Fw(K:OK)(D:OD):Bool:=Pc K (.ref D) "__getattribute__"==some (some<|.builtin "BaseException.__getattribute__")&&Pc K (.ref D) "__getattr__"==some none&&Ts K D (.type "BaseException")==some true&&(Sx K D).isSome&&Pc K (.ref D) "__class__"==some (some<|.builtin "object.__class__")&&UP K (.builtin "object.__class__") "__get__"==some (some<|.builtin "getset_descriptor.__get__")&&Vy K (.builtin "object.__class__")==some true&&Ts K D (.type "object")==some true
theorem Hu{D:OD}(h:Fw K D=true):uW K D:=by
 simp only[Fw,OZ,beq_iff_eq] at h;obtain⟨⟨⟨⟨⟨⟨⟨a,b⟩,c⟩,d⟩,e⟩,f⟩,g⟩,i⟩:=h;exact⟨a,b,c,d,e,f,g,i⟩
def MN(K:OK)(C:OD)(f:Str):Bool:=(match Sx K C with
 | some cd=>(match cd.mro with
  | .ref _::.ref _::r=>r==M3
  | _=>false)&&cd.hasDict
 | none=>false)&&Pc K (.ref C) "__setattr__"==some (some<|.builtin "object.__setattr__")&&Pc K (.ref C) f==some none
theorem KH{C:OD}{f:Str}(h:MN K C f=true):KS K C f:=by
 simp only[MN,OZ,beq_iff_eq] at h;obtain⟨⟨a,b⟩,c⟩:=h;refine⟨?_,b,c⟩;split at a
 ·rename_i cd j;rw[OZ] at a;obtain⟨d,m⟩:=a;split at d
  ·rename_i c1 l r i;exact⟨cd,c1,l,j,by rw[i,beq_iff_eq.mp d],m⟩
  ·cases d
 ·cases a
theorem Hv{C f:OD}{qual:Str}{i:OC}{o p:Option OD}{kV doc m d ct:OC}(l:K.lookup f=some ⟨i,o,.func<|Pt "__init__" qual (bq st) (aS st) (ae st) .none kV doc m p d ct,osl⟩)(c:Qk K d qual=true)(k:Pn K (.ref f)=true)(x:qh K C (some<|.ref f)=true)(h:i=.type "function"):∃f fd,Fun K "__init__" qual st f fd/\qh K C (some<|.ref f)=true/\∃j,K.lookup f=some j/\j.cls=.type "function" :=
 ⟨f,_,pi l c k,x,_,l,h⟩
theorem Cr{C:OD}{h0:Int}{c:Tok}(D:iD K C "attach" "Desk.attach" (aj (aD 102) 4) #[⟨h0,.str "mode" c,.str "both" 1284⟩]):∃h0 c,iD K C "attach" "Desk.attach" (aj (aD 102) 4) #[⟨h0,.str "mode" c,.str "both" 1284⟩]:=⟨h0,c,D⟩
theorem KI{C:OD}{h0:Int}{c:Tok}(D:iD K C "dup" "Desk.dup" (aj (aD 102) 5) #[⟨h0,.str "at" c,.none⟩]):∃h0 c,iD K C "dup" "Desk.dup" (aj (aD 102) 5) #[⟨h0,.str "at" c,.none⟩]:=⟨h0,c,D⟩
theorem Hw{C:OD}{h0 f:Int}{d c:Tok}(D:iD K C "lock" "Desk.lock" (aj (aD 102) 9) #[⟨h0,.str "by" d,.str "task" 1332⟩,⟨f,.str "wait" c,.bool false⟩]):∃h0 d f c,iD K C "lock" "Desk.lock" (aj (aD 102) 9) #[⟨h0,.str "by" d,.str "task" 1332⟩,⟨f,.str "wait" c,.bool false⟩]:=⟨h0,d,f,c,D⟩
theorem Cs{C:OD}{h0:Int}{c:Tok}(D:iD K C "unlock" "Desk.unlock" (aj (aD 102) 10) #[⟨h0,.str "by" c,.str "task" 1348⟩]):∃h0 c,iD K C "unlock" "Desk.unlock" (aj (aD 102) 10) #[⟨h0,.str "by" c,.str "task" 1348⟩]:=⟨h0,c,D⟩
theorem rZ{C:OD}{h0:Int}{c:Tok}(D:iD K C "lock_whole" "Desk.lock_whole" (aj (aD 102) 12) #[⟨h0,.str "wait" c,.bool false⟩]):∃h0 c,iD K C "lock_whole" "Desk.lock_whole" (aj (aD 102) 12) #[⟨h0,.str "wait" c,.bool false⟩]:=⟨h0,c,D⟩
theorem Fy{C:OD}{h0:Int}{c:Tok}(D:iD K C "probe" "Desk.probe" (aj (aD 102) 18) #[⟨h0,.str "by" c,.str "task" 1421⟩]):∃h0 c,iD K C "probe" "Desk.probe" (aj (aD 102) 18) #[⟨h0,.str "by" c,.str "task" 1421⟩]:=⟨h0,c,D⟩
theorem AB{f:Str}{C0 C1:OD}(a:Pc K (.ref C0) f=some none)(b:Pc K (.ref C1) f=some none)(h:gy.cl 0=C0)(d:gy.cl 1=C1):∀c,c<2->cg K (gy.cl c) f:=by
 subst h d;exact ML a b
theorem Hx{l:UJ}{h:Pk}{o p c:OD}{x kV doc i ct:OC}{u r:Option OD}(X:K.In h)(G:h.Ns Pe mg)(d:mg "law" = some (.ref o))(W:Wr0 l.prog w K mg gy)(hd:gy.dr=wM K)(L:Az gy)(I:K.lookup gy.tT=none)(h0:K.lookup (gy.tl 0)=none)(Q:K.lookup (gy.tl 1)=none)(O:K.lookup (gy.tl 2)=none)
  (aL:R9 K Pe "law" = some (some<|.ref p)) (z:K.lookup p=some ⟨x,u,.func<|Pt "law" "law" (bq<|aD 110) (aS<|aD 110) (ae<|aD 110) .none kV doc i r (.ref c) ct,osl⟩) (cL:Qk K (.ref c) "law" = true) (j:Q1 K c (gy.tl 0)=true) (hb:Fr=true) :
  (∀T∈[gy.tT,gy.tl 0,gy.tl 1,gy.tl 2],K.lookup T=none/\∃c,Q1 K c T=true)/\∃fd:TV,(∀(s:OI) (v:OC),Wd s fd ⟨[v],[]⟩ [("_law_script",v)])/\∀base:Pk,K.In base->base.Ns Pe mg->(∀T∈[gy.tT,gy.tl 0,gy.tl 1,gy.tl 2],base.BuiltinsAt mg T)->bG l.prog w K mg base eY 18 o fd ["_law_script"] (AA K gy):=by
 have e:=d.symm.trans (O3 X G aL);cases e;obtain⟨Z,_,H⟩:=W.d_lot_of;obtain⟨Y,_,f⟩:=W.d__law_locking;obtain⟨U,_,C⟩:=W.d__law_others;refine⟨λT m=>?_,Pt "law" "law" (bq<|aD 110) (aS<|aD 110) (ae<|aD 110) .none kV doc i r (.ref c) ct,λs v=>.of_eq rfl,λbase _ _ hB=>KC ⟨W,hB _<|by simp,MM (hB _<|by simp) (hB _<|by simp)<|hB _<|by simp⟩ hd L z cL j hb⟩;simp only[OY,List.not_mem_nil,or_false] at m;rcases m with rfl | rfl | rfl | rfl
 ·exact⟨I,Z,H⟩
 ·exact⟨h0,c,j⟩
 ·exact⟨Q,Y,f⟩
 ·exact⟨O,U,C⟩
theorem Fz{a:OD}{ns:List Int}(hP:gy.tP=uP)(hQ:gy.tQ=oK)(c:ns.length≤63)(d:ip K H a (SH V.int ns))(hT:∀T∈[gy.tT,gy.tl 0,gy.tl 1,gy.tl 2],H T=some (.tbl #[])){E:XK}:AA K gy [.ref a] H (λv _=>v=.bl true) E :=
 have e:∀{T:OD} {q:Str},H T=some (.tbl #[])->iR H T q:=λh=>⟨#[],h,trivial,λpos f e=>(nomatch e)⟩
 ⟨a,ns,rfl,d,c,⟨#[],hT _<|by simp,trivial,.inl rfl⟩,MM (e<|hT _<|by simp) (e<|hT _<|by simp)<|e<|hT _<|by simp,λ_=>rfl⟩
end RB
set_option maxHeartbeats 0
set_option maxRecDepth 1000000
namespace RB
theorem yS:Fr=true:=by decide +kernel
end RB
open PySem PySem.W PyProof.Rows
set_option maxHeartbeats 0 in
theorem PySem.Challenge.cw_lockstretch_k16_refusals_holds : PySem.Challenge.rw_lockstretch_k16_refusals.Holds := by
 w_on
 refine holds_law OH.said fun said => ?_;refine holds_open (r := PH.row) (q := OH.qv) (loose := OH.ls) (Xt := OH.Xt) (XP := XL OH.qv []) (Yf := OH.Hk.obs) (Ya := OH.Hk.val) (YP := OH.Hk.says) (d := OH.dL) (kwd := []) (N := 20000) OH.left OH.Hk.of OH.Hk.keeps (fun s e => xl_of s (TZ.mp e).1) XL.keeps OH.hd1 OH.hd2 OH.hd3 (fun s e => recFacts_of (TZ.mp e).2) OH.hd4 said OH.hd5 OH.hd6 ?hw ?hc
 case hw => w_witness2
 refine LT.walk_ofT (n := 63) (k := 18) (x := "_law_script") (ts := [225, 1043, 1029, 1036]) (K := OH.KK) (l := PH) (sp := fun w => RB.AA (OH.KK w.params) (RB.KD (OH.KK w.params) 225 1043 1029 1036 735 997 614 621 628 635 642 649 656 663 670 677 684 [171, 44, 56, 68, 80, 92, 104, 116, 128, 140, 183, 195, 207, 159])) rfl (by decide) rfl ⟨rfl, by decide, by decide⟩ (fun w h Y => ⟨PySem.W.km_in_of Y, fun T m => PySem.W.km_tabs_of Y T m⟩) ?F (fun w _ a ns hl hS hT => RB.Fz (gy := RB.KD (OH.KK w.params) 225 1043 1029 1036 735 997 614 621 628 635 642 649 656 663 670 677 684 [171, 44, 56, 68, 80, 92, 104, 116, 128, 140, 183, 195, 207, 159]) rfl rfl hl hS hT)
 case F=>
  intro w mg fa h KX G hmg
  k_fill
  refine' RB.Hx (l := PH) (gy := RB.KD (OH.KK w.params) 225 1043 1029 1036 735 997 614 621 628 635 642 649 656 663 670 677 684 [171, 44, 56, 68, 80, 92, 104, 116, 128, 140, 183, 195, 207, 159]) KX G hmg (RB.Wr0.mk (RB.aF KX G ?_ ?_ ?_ ?_)
   (RB.aF KX G ?_ ?_ ?_ ?_)
   (RB.aF KX G ?_ ?_ ?_ ?_)
   (RB.aF KX G ?_ ?_ ?_ ?_)
   (RB.aF KX G ?_ ?_ ?_ ?_)
   (RB.aF KX G ?_ ?_ ?_ ?_)
   (RB.aF KX G ?_ ?_ ?_ ?_)
   (RB.aF KX G ?_ ?_ ?_ ?_)
   (RB.aF KX G ?_ ?_ ?_ ?_)
   (RB.aF KX G ?_ ?_ ?_ ?_)
   (RB.aF KX G ?_ ?_ ?_ ?_)
   (RB.aF KX G ?_ ?_ ?_ ?_)
   (RB.aF KX G ?_ ?_ ?_ ?_)
   (RB.aF KX G ?_ ?_ ?_ ?_)
   (RB.aF KX G ?_ ?_ ?_ ?_)
   (RB.aF KX G ?_ ?_ ?_ ?_)
   (RB.aF KX G ?_ ?_ ?_ ?_)
   (RB.aF KX G ?_ ?_ ?_ ?_)
   (RB.aF KX G ?_ ?_ ?_ ?_)
   (RB.aF KX G ?_ ?_ ?_ ?_)
   (RB.aF KX G ?_ ?_ ?_ ?_)
   (RB.aF KX G ?_ ?_ ?_ ?_)
   (RB.aF KX G ?_ ?_ ?_ ?_)
   (RB.aF KX G ?_ ?_ ?_ ?_)
   (RB.aF KX G ?_ ?_ ?_ ?_)
   (RB.aF KX G ?_ ?_ ?_ ?_)
   (RB.aF KX G ?_ ?_ ?_ ?_)
   (RB.aF KX G ?_ ?_ ?_ ?_)
   (RB.aF KX G ?_ ?_ ?_ ?_)
   (RB.aF KX G ?_ ?_ ?_ ?_)
   (RB.aF KX G ?_ ?_ ?_ ?_)
   (RB.aF KX G ?_ ?_ ?_ ?_)
   (RB.aF KX G ?_ ?_ ?_ ?_)
   (RB.aF KX G ?_ ?_ ?_ ?_)
   (RB.aF KX G ?_ ?_ ?_ ?_)
   (RB.aF KX G ?_ ?_ ?_ ?_)
   (RB.aF KX G ?_ ?_ ?_ ?_)
   (RB.aF KX G ?_ ?_ ?_ ?_)
   (RB.aF KX G ?_ ?_ ?_ ?_)
   (RB.aF KX G ?_ ?_ ?_ ?_)
   (RB.aF KX G ?_ ?_ ?_ ?_)
   (RB.aF KX G ?_ ?_ ?_ ?_)
   (RB.aF KX G ?_ ?_ ?_ ?_)
   (RB.aF KX G ?_ ?_ ?_ ?_)
   (RB.aF KX G ?_ ?_ ?_ ?_)
   (RB.aF KX G ?_ ?_ ?_ ?_)
   (RB.aF KX G ?_ ?_ ?_ ?_)
   (RB.aF KX G ?_ ?_ ?_ ?_)
   (RB.aF KX G ?_ ?_ ?_ ?_)
   (RB.aF KX G ?_ ?_ ?_ ?_)
   (RB.aF KX G ?_ ?_ ?_ ?_)
   (RB.aF KX G ?_ ?_ ?_ ?_)
   (RB.aF KX G ?_ ?_ ?_ ?_)
   (RB.aF KX G ?_ ?_ ?_ ?_)
   (RB.aF KX G ?_ ?_ ?_ ?_)
   (RB.aF KX G ?_ ?_ ?_ ?_)
   (RB.aF KX G ?_ ?_ ?_ ?_)
   (RB.aF KX G ?_ ?_ ?_ ?_)
   (RB.aF KX G ?_ ?_ ?_ ?_)
   (RB.aF KX G ?_ ?_ ?_ ?_)
   (RB.aF KX G ?_ ?_ ?_ ?_)
   (RB.aF KX G ?_ ?_ ?_ ?_)
   (RB.aF KX G ?_ ?_ ?_ ?_)
   (RB.aF KX G ?_ ?_ ?_ ?_)
   (RB.aF KX G ?_ ?_ ?_ ?_)
   (RB.aF KX G ?_ ?_ ?_ ?_)
   (RB.aF KX G ?_ ?_ ?_ ?_)
   ⟨_, RB.uR KX G ?_ ?_ ?_ ?_, ?hd_lot_of⟩
   ⟨_, RB.uR KX G ?_ ?_ ?_ ?_, ?hd__law_locking⟩
   ⟨_, RB.uR KX G ?_ ?_ ?_ ?_, ?hd__law_others⟩
   (RB.cj (C := 735) ?_ ?_ ?_ ?_ ?_)
   (RB.cj (C := 735) ?_ ?_ ?_ ?_ ?_)
   (RB.cj (C := 735) ?_ ?_ ?_ ?_ ?_)
   (RB.cj (C := 735) ?_ ?_ ?_ ?_ ?_)
   (RB.cj (C := 997) ?_ ?_ ?_ ?_ ?_)
   (RB.cj (C := 997) ?_ ?_ ?_ ?_ ?_)
   (RB.cj (C := 997) ?_ ?_ ?_ ?_ ?_)
   (RB.cj (C := 997) ?_ ?_ ?_ ?_ ?_)
   (RB.cj (C := 997) ?_ ?_ ?_ ?_ ?_)
   (RB.cj (C := 997) ?_ ?_ ?_ ?_ ?_)
   (RB.cj (C := 997) ?_ ?_ ?_ ?_ ?_)
   (RB.cj (C := 997) ?_ ?_ ?_ ?_ ?_)
   (RB.cj (C := 997) ?_ ?_ ?_ ?_ ?_)
   (RB.cj (C := 997) ?_ ?_ ?_ ?_ ?_)
   (RB.cj (C := 997) ?_ ?_ ?_ ?_ ?_)
   (RB.cj (C := 997) ?_ ?_ ?_ ?_ ?_)
   (RB.cj (C := 997) ?_ ?_ ?_ ?_ ?_)
   (RB.cj (C := 997) ?_ ?_ ?_ ?_ ?_)
   (RB.cj (C := 997) ?_ ?_ ?_ ?_ ?_)
   (RB.cj (C := 997) ?_ ?_ ?_ ?_ ?_)
   (RB.cj (C := 997) ?_ ?_ ?_ ?_ ?_)
   (RB.cj (C := 997) ?_ ?_ ?_ ?_ ?_)
   (RB.Cr<|RB.jF (C := 997) ?_ ?_ ?_ ?_ ?_ ?_)
   (RB.KI<|RB.jF (C := 997) ?_ ?_ ?_ ?_ ?_ ?_)
   (RB.Hw<|RB.jF (C := 997) ?_ ?_ ?_ ?_ ?_ ?_)
   (RB.Cs<|RB.jF (C := 997) ?_ ?_ ?_ ?_ ?_ ?_)
   (RB.rZ<|RB.jF (C := 997) ?_ ?_ ?_ ?_ ?_ ?_)
   (RB.Fy<|RB.jF (C := 997) ?_ ?_ ?_ ?_ ?_ ?_)
   (RB.EK (C := 735) ?_ ?_ ?_ ?_ ?_ ?_ ?_)
   (RB.EK (C := 997) ?_ ?_ ?_ ?_ ?_ ?_ ?_)
   (O3 KX G ?g_Tables)
   (O3 KX G ?g_Desk)
   (O3 KX G ?_)
   (O3 KX G ?_)
   (O3 KX G ?_)
   (O3 KX G ?_)
   (O3 KX G ?_)
   (O3 KX G ?_)
   (O3 KX G ?_)
   (O3 KX G ?_)
   (O3 KX G ?_)
   (O3 KX G ?_)
   (O3 KX G ?_)
   ⟨⟨?m_len, ?m_isinstance, ?m_int, ?m_bool, ?m_tuple, ?m_list, ?m_range, ?m_zip, ?m_min, ?m_max, ?m_sorted, ?m_set⟩, ?m_any, ?m_all⟩
   ⟨RB.ML (show L2.ow _ 735 from⟨?_, ?_, ?_, ?_⟩)<|show L2.ow _ 997 from⟨?_, ?_, ?_, ?_⟩, RB.AB (C0 := 735) (C1 := 997) ?_ ?_ rfl rfl, RB.AB (C0 := 735) (C1 := 997) ?_ ?_ rfl rfl, RB.AB (C0 := 735) (C1 := 997) ?_ ?_ rfl rfl, RB.AB (C0 := 735) (C1 := 997) ?_ ?_ rfl rfl, RB.AB (C0 := 735) (C1 := 997) ?_ ?_ rfl rfl, RB.AB (C0 := 735) (C1 := 997) ?_ ?_ rfl rfl, RB.AB (C0 := 735) (C1 := 997) ?_ ?_ rfl rfl, RB.AB (C0 := 735) (C1 := 997) ?_ ?_ rfl rfl, RB.AB (C0 := 735) (C1 := 997) ?_ ?_ rfl rfl, RB.AB (C0 := 735) (C1 := 997) ?_ ?_ rfl rfl, RB.AB (C0 := 735) (C1 := 997) ?_ ?_ rfl rfl, RB.AB (C0 := 735) (C1 := 997) ?_ ?_ rfl rfl, RB.AB (C0 := 735) (C1 := 997) ?_ ?_ rfl rfl, RB.AB (C0 := 735) (C1 := 997) ?_ ?_ rfl rfl⟩
   ⟨RB.uS KX G ?_ ?_ ?tc_KINDS ?ts_KINDS ?tp_KINDS,
   RB.uS KX G ?_ ?_ ?tc_HOLDERS ?ts_HOLDERS ?tp_HOLDERS,
   RB.uS KX G ?_ ?_ ?tc_MODES ?ts_MODES ?tp_MODES,
   RB.An (es := [("shared", _, .str "write" _), ("alone", _, .str "read" _)]) KX G ?_ ?_ ?te_WM ?tn_WM ?tp_WM,
   RB.An (es := [("begin", _, .ref _), ("attach", _, .ref _), ("dup", _, .ref _), ("close", _, .ref _), ("fork", _, .ref _), ("end", _, .ref _), ("lock", _, .ref _), ("unlock", _, .ref _), ("cancel", _, .ref _), ("lock_whole", _, .ref _), ("unlock_whole", _, .ref _)]) KX G ?_ ?_ ?te_DE ?tn_DE ?tp_DE⟩ rfl rfl
   (show Pe≠225 by decide)
   (fun i => match i with | 0 => (show Pe≠1043 by decide) | 1 => (show Pe≠1029 by decide) | _+2 => (show Pe≠1036 by decide)) rfl rfl rfl
   ⟨31, O3 KX G ?eX, fun c => beq_iff_eq.mp (RB.gd (p := fun x => QT (OH.KK w.params) (.ref x) (.ref 31)==some true) (l := [171, 44, 56, 68, 80, 92, 104, 116, 128, 140, 183, 195, 207, 159]) (d := 171) ?eL c)⟩
   (O3 (v := .ref 171) KX G ?e_Stuck)
   (O3 (v := .ref 44) KX G ?e_NoTask)
   (O3 (v := .ref 56) KX G ?e_Asleep)
   (O3 (v := .ref 68) KX G ?e_Awake)
   (O3 (v := .ref 80) KX G ?e_NoHandle)
   (O3 (v := .ref 92) KX G ?e_NoMark)
   (O3 (v := .ref 104) KX G ?e_NoFile)
   (O3 (v := .ref 116) KX G ?e_BadMode)
   (O3 (v := .ref 128) KX G ?e_BadKind)
   (O3 (v := .ref 140) KX G ?e_BadStretch)
   (O3 (v := .ref 183) KX G ?e_NoAsk)
   (O3 (v := .ref 195) KX G ?e_NoBack)
   (O3 (v := .ref 207) KX G ?e_NoText)
   (O3 (v := .ref 159) KX G ?e_Held)
   (fun c h => RB.rg (n := 13) (p := fun c => L2.qh (OH.KK w.params) (([171, 44, 56, 68, 80, 92, 104, 116, 128, 140, 183, 195, 207, 159] : List OD).getD c 171) none) ?eN h)
   (RB.Hv (C := 159) (f := 156) ?_ ?_ ?_ ?iH rfl)
   (RB.KH ?xH)
   (fun {c} h => RB.gd (p := fun x => Vv (OH.KK w.params) (.ref x) x) (l := [171, 44, 56, 68, 80, 92, 104, 116, 128, 140, 183, 195, 207, 159]) (d := 171) ?eI c)
   (fun {c} h {i} h' n => (Bool.or_eq_true_iff.mp<|RB.rg (n := 14) (p := fun i => OS c i||RA (OH.KK w.params) (([171, 44, 56, 68, 80, 92, 104, 116, 128, 140, 183, 195, 207, 159] : List OD).getD c 171) (([171, 44, 56, 68, 80, 92, 104, 116, 128, 140, 183, 195, 207, 159] : List OD).getD i 171)) (RB.rg (n := 14) (p := fun c => (RV 14).all fun i => OS c i||RA (OH.KK w.params) (([171, 44, 56, 68, 80, 92, 104, 116, 128, 140, 183, 195, 207, 159] : List OD).getD c 171) (([171, 44, 56, 68, 80, 92, 104, 116, 128, 140, 183, 195, 207, 159] : List OD).getD i 171)) ?nO h) h').resolve_left fun z => n (ON z))
   (fun {c} h => RB.Hu (RB.gd (p := RB.Fw (OH.KK w.params)) (l := [171, 44, 56, 68, 80, 92, 104, 116, 128, 140, 183, 195, 207, 159]) (d := 171) ?nI c))
   ?xV
   (fun {c} h => beq_iff_eq.mp (RB.gd (p := fun x => U0 (OH.KK w.params) (.ref x) (.type "ValueError")==some true) (l := [171, 44, 56, 68, 80, 92, 104, 116, 128, 140, 183, 195, 207, 159]) (d := 171) ?xS c)))
   rfl (RB.KG (show(1043 : Nat)≠225 by decide) (show(1029 : Nat)≠225 by decide) (show(1036 : Nat)≠225 by decide) (show(1043 : Nat)≠1029 by decide) (show(1043 : Nat)≠1036 by decide)<|show(1029 : Nat)≠1036 by decide) ?hT ?h0 ?h1 ?h2 ?_ ?_ ?_ ?hcL RB.yS
  (case g_Tables => k_is);(case g_Desk => k_is);(case eX => k_is)
  (case e_Stuck => k_is)
  (case e_NoTask => k_is)
  (case e_Asleep => k_is)
  (case e_Awake => k_is)
  (case e_NoHandle => k_is)
  (case e_NoMark => k_is)
  (case e_NoFile => k_is)
  (case e_BadMode => k_is)
  (case e_BadKind => k_is)
  (case e_BadStretch => k_is)
  (case e_NoAsk => k_is)
  (case e_NoBack => k_is)
  (case e_NoText => k_is)
  (case e_Held => k_is)
  (case eL => first | kernel_rfl | exact rfl)
  (case eN => first | kernel_rfl | exact rfl)
  (case eI => first | kernel_rfl | exact rfl)
  (case nI => first | kernel_rfl | exact rfl)
  (case nO => first | kernel_rfl | exact rfl)
  (case xH => first | kernel_rfl | exact rfl)
  (case xS => first | kernel_rfl | exact rfl)
  (case iH => first | kernel_rfl | exact rfl)
  (case xV => refine W1 KX G ?_;k_is)
  all_goals try k_is
  all_goals try k_is
  all_goals try (refine W1 KX G ?_;k_is)
  (case tc_KINDS => exact rfl);(case ts_KINDS => decide);(case tp_KINDS => exact(.cons ⟨_, _, rfl, rfl⟩<|.cons ⟨_, _, rfl, rfl⟩ .nil))
  (case tc_HOLDERS => exact rfl);(case ts_HOLDERS => decide);(case tp_HOLDERS => exact(.cons ⟨_, _, rfl, rfl⟩<|.cons ⟨_, _, rfl, rfl⟩ .nil))
  (case tc_MODES => exact rfl);(case ts_MODES => decide);(case tp_MODES => exact(.cons ⟨_, _, rfl, rfl⟩<|.cons ⟨_, _, rfl, rfl⟩<|.cons ⟨_, _, rfl, rfl⟩ .nil))
  (case te_WM => exact rfl);(case tn_WM => decide +kernel);(case tp_WM => exact(.cons ⟨⟨_, rfl, rfl⟩, ⟨_, _, rfl, rfl⟩⟩<|.cons ⟨⟨_, rfl, rfl⟩, ⟨_, _, rfl, rfl⟩⟩ .nil))
  (case te_DE => exact rfl);(case tn_DE => decide +kernel);(case tp_DE => exact(.cons ⟨⟨_, rfl, rfl⟩, ⟨by decide, rfl⟩⟩<|.cons ⟨⟨_, rfl, rfl⟩, ⟨by decide, rfl⟩⟩<|.cons ⟨⟨_, rfl, rfl⟩, ⟨by decide, rfl⟩⟩<|.cons ⟨⟨_, rfl, rfl⟩, ⟨by decide, rfl⟩⟩<|.cons ⟨⟨_, rfl, rfl⟩, ⟨by decide, rfl⟩⟩<|.cons ⟨⟨_, rfl, rfl⟩, ⟨by decide, rfl⟩⟩<|.cons ⟨⟨_, rfl, rfl⟩, ⟨by decide, rfl⟩⟩<|.cons ⟨⟨_, rfl, rfl⟩, ⟨by decide, rfl⟩⟩<|.cons ⟨⟨_, rfl, rfl⟩, ⟨by decide, rfl⟩⟩<|.cons ⟨⟨_, rfl, rfl⟩, ⟨by decide, rfl⟩⟩<|.cons ⟨⟨_, rfl, rfl⟩, ⟨by decide, rfl⟩⟩ .nil))
  (case hd_lot_of => first | kernel_rfl | exact rfl);(case hd__law_locking => first | kernel_rfl | exact rfl);(case hd__law_others => first | kernel_rfl | exact rfl);(case hcL => first | kernel_rfl | exact rfl)
  (case hT => first | kernel_rfl | exact rfl);(case h0 => first | kernel_rfl | exact rfl);(case h1 => first | kernel_rfl | exact rfl);(case h2 => first | kernel_rfl | exact rfl)


